import Derived.Test.YtcpceafmlgaodaaGreatRows
import Derived.Test.YtcpceafmlgaodaaGreatEbg
import Derived.ProofKit
import Derived.OpenShut
import Derived.ShutString
import Derived.ChangeOld
import Derived.Below
import Derived.SizedLaws
namespace Go.Proofs.YtcpceafmlgaodaaGreat
open Go.ChangeShapes Go.WideShapes Go.ChangeAt Go.RowKit
open Go.ChangeMaps (open_string shut_string)
set_option maxRecDepth 99999
set_option maxHeartbeats 0
set_option linter.all false
theorem Tryz.own:ownKnob Tryz.prog.godebug=none:=by kernel_rfl
theorem Tryz.laidOut:laidOutB Tryz.prog=true:=by kernel_rfl
theorem byInt:Tryz.prog.bytesOf 3=8:=by kernel_rfl
theorem y2c(os:Os)(started:os.Started)(H:Type)(enc:TypeId × Value->H) :
  ReturnsInHanded {} Tryz.checked os 3 .any (Rows.parsedSpec.pre6 enc Tryz.prog Tryz.f3 Rows.parsedRow.domain false) (Rows.parsedSpec.post enc Tryz.prog Tryz.f3 false true false false):=by
 refine returnsInHanded_of_change_sized (C:=Tryz.checked) Tryz.own started (by kernel_rfl) Tryz.func3
  (ChangeSpec.witness6 (enc:=enc) (C:=Tryz.checked) false ⟨#[],#[.string ByteArray.empty,.slice none 0 0],[]⟩ 8 (by kernel_rfl) (by kernel_rfl) (by kernel_rfl) (by kernel_rfl)) ?_
 intro W base args ds gs before hval0 hW hcnd hz _;have j0:∀(j:Nat) t v,Tryz.f3.params[j]? = some t->args[j]? = some v->Value.okWide Tryz.prog W .any base t v:=hval0;have j2:=hW;obtain⟨p,q,hA0,hV,rfl,hfz,hnd⟩:=hW;have hA:DataW.TrodAll enc Tryz.prog W 0 (fun _=>true) true Tryz.f3.params.toList args.toList ds p:=hA0;have hZ:(DataW.weightsEach Tryz.prog (Tryz.f3.params.toList++Rows.parsedSpec.plain.varTypes Tryz.prog) (ds++gs)).all (·<=reachBytes)=true:=hz;rw[Tryz.params3]at hA j0 hZ;obtain⟨v0,v1,d0,d1,p0,p1,rfl,rfl,rfl,h0,h1⟩:=trodAll_two hA;obtain⟨rfl,rfl⟩:=trodVars_none hV;obtain⟨s,rfl,rfl,rfl,ws⟩:=open_string Tryz.underlying9 (j0 0 9 v0 rfl rfl) h0;obtain⟨a1,len1,cap1,rfl⟩:=okWide_slice Tryz.underlying22 (j0 1 22 v1 rfl rfl);have k1:=h1;have j7:∀x∈p1,x.block<W.heap.size:=by obtain⟨m,hm⟩:=k1;exact DataW.trod_lt m _ _ _ hm
 obtain⟨kinds,hk,hm⟩:∃kinds,Q0z W (.slice a1 len1 cap1) kinds/\kinds.length<=35000000000000:=by
  obtain⟨fuel,hf⟩:=h1;rcases open_ints Tryz.underlying22 Tryz.underlying3 (by kernel_rfl) hf with⟨hcs,_⟩|⟨x,l,c,zs,hcs,_,hl,hm,hz2,hx,hcell,hwz⟩
  ·simp[Value.cells]at hcs;obtain⟨rfl,rfl,rfl⟩:=hcs;exact⟨[],⟨none,0,rfl,qR _,fun j hj=>absurd hj (by simp)⟩,by simp⟩
  simp[Value.cells]at hcs;obtain⟨rfl,rfl,rfl⟩:=hcs;have j9:zs.length=cap1:=by simpa using hz2
  have j1:(zs.take len1).length=len1:=by rw[qBo];omega
  have j6:d1=.slice (lits .i64 (zs.take len1)) (lits .i64 (zs.drop len1)):=(Prod.mk.inj hx).1;have j5:=sized_slice hZ (j:=1) (t:=22) (by rfl) (by rw[j6];rfl) Tryz.underlying22;rw[byInt]at j5;have j4:∀l:List Int,(lits (H:=H) .i64 l).length=l.length:=fun l=>by simp[lits]
  rw[j4,j4,j1]at j5;have j8:reachBytes=140737488351232:=by decide
  refine⟨zs.take len1,⟨some x,cap1,by rw[j1],by rw[j1];exact hl,fun j hj=>?_⟩,by rw[j1];omega⟩;obtain⟨b,off,rfl,hc⟩:=ints_at hcell (by omega);have j3:j<zs.length:=by omega
  refine⟨b,off,rfl,?_⟩;have:=hc j j3;rw[List.getElem_take];simpa [List.getD,j3]using this
 clear hA0 hval0 hz hZ;simp only[qAt]at j2;refine(x0c s kinds _ W ws hk hm).mono fun e W' ⟨he,hF⟩=>?_;subst he;have hB:=hF.below;refine⟨_,rfl,_,_,_,[],p1,[],j2,?_,?_,?_,hB.frame _,fun h=>by cases h⟩
 ·exact trodAll_mk1 (shut_bool Tryz.underlying4 true)
 ·exact trodAll_mk2 (shut_string Tryz.underlying9 ws) (Below.trod Tryz.laidOut (by kernel_rfl) (of_decide_eq_true (by kernel_rfl)) k1 hB j7)
 trivial
theorem parsed_holds:Rows.ParsedSaid :=
 OpenClaim.holds_of_wide 3 Tryz.f3 rfl rfl rfl rfl rfl rfl rfl ⟨rfl,rfl,rfl,rfl,rfl⟩ rfl rfl rfl rfl rfl (by kernel_rfl) Tryz.func3 (by kernel_rfl)
  (of_decide_eq_true (by kernel_rfl)) (by unfold Func.isWrapper;first|(rw[qAb (by decide +kernel)];kernel_rfl)|(rw[qAa (by decide +kernel)];exact⟨rfl,rfl⟩))
  (fun os started H enc _=>y2c os started H enc)
#print axioms parsed_holds
end Go.Proofs.YtcpceafmlgaodaaGreat
