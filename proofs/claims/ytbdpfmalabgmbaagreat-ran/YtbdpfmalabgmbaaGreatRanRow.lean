import Derived.Test.YtbdpfmalabgmbaaGreatRows
import Derived.Test.YtbdpfmalabgmbaaGreatEbg
import Derived.ProofKit
namespace Go.Proofs.YtbdpfmalabgmbaaGreat
open Go.ChangeShapes Go.WideShapes Go.ChangeAt Go.RowKit
open Go.ChangeMaps (open_string shut_string)
set_option maxRecDepth 99999
set_option maxHeartbeats 0
set_option linter.all false
theorem Tryz.own:ownKnob Tryz.prog.godebug=none:=by kernel_rfl
theorem x0y(os:Os)(started:os.Started)(H:Type)(enc:TypeId × Value->H) :
  ReturnsInHanded {} Tryz.checked os 3 .any (Rows.ranSpec.pre6 enc Tryz.prog Tryz.f3 Rows.ranRow.domain false) (Rows.ranSpec.post enc Tryz.prog Tryz.f3 false true false false):=by
 refine returnsInHanded_of_change (C:=Tryz.checked) Tryz.own started (by kernel_rfl) Tryz.func3
  (ChangeSpec.witness6 (enc:=enc) (C:=Tryz.checked) false ⟨#[],#[.string ⟨#[]⟩,.string ⟨#[]⟩],[]⟩ 8 (by kernel_rfl) (by kernel_rfl) (by kernel_rfl) (by kernel_rfl)) ?_
 intro W base j2 ds gs j3 j0 hW j6 _;have j1:∀(j:Nat) t v,Tryz.f3.params[j]? = some t->j2[j]? = some v->Value.okWide Tryz.prog W .any base t v:=j0;have j5:=hW;obtain⟨p,q,j4,hV,rfl,j7,j8⟩:=hW;have hA:DataW.TrodAll enc Tryz.prog W 0 (fun _=>true) true Tryz.f3.params.toList j2.toList ds p:=j4;rw[Tryz.params3]at hA j1;obtain⟨v0,v1,d0,d1,p0,p1,rfl,rfl,rfl,h0,h1⟩:=trodAll_two hA;obtain⟨rfl,rfl⟩:=trodVars_none hV;obtain⟨s,rfl,rfl,rfl,ws⟩:=open_string Tryz.underlying9 (j1 0 9 v0 rfl rfl) h0;obtain⟨t,rfl,rfl,rfl,wt⟩:=open_string Tryz.underlying9 (j1 1 9 v1 rfl rfl) h1;clear j4 j0;simp only[qBd]at j5;refine(v1a s t W ws wt).mono fun e W' ⟨he,hF⟩=>?_;subst he;have hB:=hF.below;refine⟨_,rfl,_,_,_,[],[],[],j5,?_,?_,?_,hB.frame _,fun h=>by cases h⟩
 ·exact trodAll_mk1 (shut_bool Tryz.underlying4 true)
 ·exact trodAll_mk2 (shut_string Tryz.underlying9 ws) (shut_string Tryz.underlying9 wt)
 trivial
theorem ran_holds:Rows.RanSaid :=
 OpenClaim.holds_of_wide 3 Tryz.f3 rfl rfl rfl rfl rfl rfl rfl ⟨rfl,rfl,rfl,rfl,rfl⟩ rfl rfl rfl rfl rfl (by kernel_rfl) Tryz.func3 (by kernel_rfl)
  (of_decide_eq_true (by kernel_rfl)) (by unfold Func.isWrapper;first|(rw[qAb (by decide +kernel)];kernel_rfl)|(rw[qAa (by decide +kernel)];exact⟨rfl,rfl⟩))
  (fun os started H enc _=>x0y os started H enc)
#print axioms ran_holds
end Go.Proofs.YtbdpfmalabgmbaaGreat
