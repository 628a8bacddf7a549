import Derived.Test.YtcpceafmlgaodaaGreatEbi
import Derived.Laws.IdiomCopy
import Derived.Test.YtcpceafmlgaodaaGreatRows
import Derived.ProofKit
import Derived.OpenShut
import Derived.ShutString
import Derived.ChangeOld
import Derived.Below
import Derived.SizedLaws
namespace Go.Proofs.YtcpceafmlgaodaaGreat
open Go.RowKit
set_option maxRecDepth 100000
set_option maxHeartbeats 16000000
set_option linter.unusedVariables false
set_option linter.unusedSimpArgs false
attribute [local go_sem ↓] y2m
theorem y6k(w:World)(va vb:Value)(l:List Nd)(ha:NdsAt w va l)(hb:NdsAt w vb l)(hl:l.length<=10000000000000) :
  Calls Tryz.prog 6#[va,vb]w fun e w'=>e=.returned(.bool true)/\∃m,w'=w.drewN m:=by
 obtain⟨aa,ca,hva⟩:=z0d ha.own;subst hva;obtain⟨ab,cb,hvb⟩:=z0d hb.own;subst hvb;have HA:=hid ha;have HB:=hid hb;clear ha hb;go_enter Tryz.func6,Tryz.ntmps6
 go_wp2;go_loopw [5](fun x5 wr=>∃(i:Nat),x5=.int .i64 i/\i<=l.length/\∃m,wr=w.drewN m)
  (fun x _=>10000000000001-(intOf x).toNat)
 case atStart=>exact⟨0,rfl,by omega,0,rfl⟩
 obtain⟨i,rfl,hi,m,hfr⟩:=hrel;subst hfr;have j0:=hid(Q2a(B:=10000000000001)i(by omega));by_cases hlt:i<l.length
 ·have j1:(i:Int)<(l.length:Int):=by omega
  obtain⟨g,c',hg⟩:=Q1d.ownsRow_form HA.out.own(by omega);rw[qI]at hg;obtain⟨rfl,_,rfl⟩:=hg;obtain⟨g2,c2',hg2⟩:=Q1d.ownsRow_form HB.out.own(by omega);rw[qI]at hg2;obtain⟨rfl,_,rfl⟩:=hg2;have r1:=HA.out.range i hlt;have r2:=HB.out.range i hlt;generalize l[i]=li at r1 r2;obtain⟨p,k,a,s⟩:=li;have l1:∀m,(ldN(.pointer(some⟨g,i*4,none⟩))).run Tryz.prog(w.drewN m)=.ok(.agg(ndA p k a s))(w.drewN m):=fun m=>x1x(w:=w.drewN m)(z0t r1 rfl);have l2:∀m,(ldN(.pointer(some⟨g2,i*4,none⟩))).run Tryz.prog(w.drewN m)=.ok(.agg(ndA p k a s))(w.drewN m):=fun m=>x1x(w:=w.drewN m)(z0t r2 rfl);have q1:∀w,(Op.equalIn 10000 59(.agg(ndA p k a s))(.agg(ndA p k a s))).run Tryz.prog w=.ok true w:=fun w=>eqNd 9996 p k a s w;have g1:=guardNd;clear r1 r2;go_wp2_with fail
  go_quiet(fail);go_wp2;go_roundw
  case rel=>exact⟨i+1,by go_num,by omega,_,rfl⟩
  exact j0.out
 have j2:¬(i:Int)<(l.length:Int):=by omega
 go_wp2;go_ret;exact⟨rfl,m,rfl⟩
theorem x1t{ps:List Pr}{hs:List Hd}{R H:Nat}:∀(l:List Int)(a:Nat)(k:List Sy)(st:List St),(Q6q ps hs R H l a k st).wanted.length<=9
 | [],a,k,st=>by
  unfold Q6q;split
  ·simp
  exact z3x _
 |t::l,a,k,st=>by
  unfold Q6q;split
  ·exact x1t l _ _ _
  exact z3x _
theorem x2j(s:ByteArray)(kinds:List Int):(Q2m s kinds).wanted.length<=9/\(Q2m s kinds).st.length<=61*2000000000:=by
 unfold Q2m;split
 ·simp[Q7h]
 split
 ·simp[Q7h]
 split
 ·simp[Q7h]
 split
 ·simp[Q7h]
 rename_i h1 h2 h3 h4;exact⟨x1t _ _ _ _,(x86(by simpa using h2)(by simpa using h4)kinds(by simpa using h3)(by omega)).1⟩
theorem x0m(w:World)(vk:Value)(kinds:List Int)(hk:Q02 w vk kinds):∃W2,(∀ty,(Builtin.copy_#[22,22]ty#[.slice(some⟨w.heap.size,0,none⟩)(kinds.length+1)(kinds.length+1),vk]).run Tryz.prog(w.alloc(.cells(madeCells#[Value.int .i64 0](kinds.length+1))3))=.ok(.int .i64 kinds.length)W2)/\Q0a w W2/\W2.heap[w.heap.size]? = some(.cells(Q56 kinds++[Value.int .i64 0]).toArray 3(0,0)):=by
 have hm:madeCells#[Value.int .i64 0](kinds.length+1)=(List.replicate(kinds.length+1)(Value.int .i64 0)).toArray:=by
  unfold madeCells;apply Array.ext_getElem?;intro i;by_cases h:i<kinds.length+1<;>simp[h,Nat.mod_one]
 have hF:Q0a w(w.alloc(.cells(madeCells#[Value.int .i64 0](kinds.length+1))3)):=(mRf _ w).alloc _;have hB:(w.alloc(.cells(madeCells#[Value.int .i64 0](kinds.length+1))3)).heap[w.heap.size]? = some(.cells(List.replicate(kinds.length+1)(Value.int .i64 0)).toArray 3(0,0)):=by rw[z0a,hm]
 cases hkn:kinds with
 |nil =>
  subst hkn;obtain⟨ao,cap,rfl,_,_⟩:=hk;exact⟨_,fun ty=>run_copy_none(P:=Tryz.prog)_ _ _ ty _ _ _ _ _ _ _ Tryz.underlying22(by kernel_rfl)(by simp),hF,by simpa using hB⟩
 |cons c ks =>
  rw[← hkn];obtain⟨ao,cap,rfl,hcap,hcell⟩:=hk;obtain⟨g,o,rfl,_⟩:=hcell 0(by rw[hkn];simp);have j0:(Q56 kinds).length=kinds.length:=by simp[Q56]
  have h:=fun ty=>run_copy_row(P:=Tryz.prog)(w.alloc(.cells(madeCells#[Value.int .i64 0](kinds.length+1))3))22 22 ty 3 w.heap.size 0(kinds.length+1)(kinds.length+1)⟨g,o,none⟩kinds.length cap _ _(Q56 kinds)Tryz.underlying22(by kernel_rfl)hB(by rw[j0];exact(Nat.min_eq_left(by omega)).symm)(fun j v hj=>by
   have j1:j<kinds.length:=by have:=(qS hj).1;omega
   obtain⟨g',o',e,hc⟩:=hcell j j1;cases e;have hv:v=.int .i64 kinds[j]:=by
    simp[Q56,j1]at hj;exact hj.symm
   rw[hv,Addr.add_mid];exact Q0j hF hc)(by rw[j0];simp)(by intro v hv;simp[Q56]at hv;obtain⟨_,_,rfl⟩:=hv;rfl)
  refine⟨_,fun ty=>by rw[h ty,j0];rfl,hF.setRow(fun h=>absurd h(Nat.lt_irrefl _))_,?_⟩;rw[setRow_heap _ _ _ _ _ _ hB];congr 3;simp only[List.take_zero,List.nil_append,Nat.zero_add];congr 1;rw[List.drop_replicate];simp
theorem x06(s:ByteArray)(kinds:List Int)(vk:Value)(w:World)(hs:s.size<=maxLen)(hk:Q02 w vk kinds)(hm:kinds.length<=35000000000000) :
  Calls Tryz.prog 3#[.string s,vk]w fun e w'=>e=.returned(.bool true)/\Q0a w w':=by
 have HK:=hid hk;obtain⟨W2,hcp,hF2,hB2⟩:=x0m w vk kinds hk;obtain⟨ka,kc,rfl,_,_⟩:=hk;have mk:=run_make_row'(P:=Tryz.prog)22 3(.int .i64 0)8 Tryz.underlying22(by kernel_rfl)rfl .i64 .i64(kinds.length+1)(by omega)(by omega)w;have jb:(Q56 kinds).length=kinds.length:=by simp[Q56]
 have x1:W2.cell?⟨w.heap.size,kinds.length,none⟩=some(.int .i64 0):=by rw[Q0b hB2];simp[jb]
 have x2:=Q0h hB2 kinds.length;have jk:(W2.setCell⟨w.heap.size,kinds.length,none⟩(.int .i64(-77))).heap[w.heap.size]? = some(.cells(Q56 kinds++[Value.int .i64(-77)]).toArray 3(0,0)):=by
  rw[zhs hB2,List.setIfInBounds_toArray,List.set_append_right _ _(by omega),jb,Nat.sub_self];rfl
 have k3:Q0a w(W2.setCell⟨w.heap.size,kinds.length,none⟩(.int .i64(-77))):=hF2.setCell(fun h=>absurd h(Nat.lt_irrefl _))_;have k4:∀W:World,W.heap[w.heap.size]? = some(.cells(Q56 kinds++[Value.int .i64(-77)]).toArray 3(0,0))->Q02 W(.slice(some⟨w.heap.size,0,none⟩)kinds.length(kinds.length+1))kinds/\W.cell?⟨w.heap.size,kinds.length,none⟩=some(.int .i64(-77)):=fun W hB=>by
  refine⟨⟨_,_,rfl,by omega,fun j hj=>⟨_,_,rfl,?_⟩⟩,?_⟩
  ·rw[Q0b hB,Nat.zero_add,List.getElem?_toArray,List.getElem?_append_left(by omega)];simp[hj,Q56]
  rw[Q0b hB,List.getElem?_toArray,List.getElem?_append_right(by omega),jb,Nat.sub_self];rfl
 have jg:=hid k4;have je:=hid jk;have jh:=hid k3;have PA:=hid(fun(W:World)(vk:Value)(h:Q02 W vk kinds)=>x3d s kinds vk W hs h(by unfold maxLen;omega));have PB:=hid(fun(W:World)(vk:Value)(h:Q02 W vk kinds)=>x04 s kinds vk W hs h(by unfold maxLen;omega));unfold Q2j at PA PB;obtain⟨bd1,bd2⟩:=x2j s kinds;have jd:=z62(tabF s)(Q2m s kinds).st;generalize Q2m s kinds=G at PA PB bd1 bd2 jd;obtain⟨ge,gw,gp,gst⟩:=G;dsimp only at PA PB bd1 bd2 jd;generalize Q2d(tabF s)gst=NF at PA PB jd;have jm:NF.length<=10000000000000:=by omega
 clear jd bd2;have NU:=hid(fun e w=>v0e e w);have kj:w.heap.size<W2.heap.size:=z0j hB2;have k9:w.heap.size<(W2.setCell⟨w.heap.size,kinds.length,none⟩(.int .i64(-77))).heap.size:=z0j jk;generalize hW3:W2.setCell⟨w.heap.size,kinds.length,none⟩(.int .i64(-77))=W3 at je jh k9;have kh:=hid hW3;generalize hn1:kinds.length+1=n1 at mk hcp jg;have ki:IntKind.i64.wrap((kinds.length:Int)+1)=(n1:Int):=by rw[IntKind.wrap_i64];omega
 have s1:(kinds.length:Int)<(n1:Int):=by omega
 have s2:(kinds.length:Int)<=(n1:Int):=by omega
 have P1:=hid(PA.out W3 _(jg.out W3 je.out).1);clear jb hB2 hF2 jk k3 k4 hn1 hW3 PA;go_enter Tryz.func3,Tryz.ntmps3
 go_upto_region 4 with fail
 rw[kh.out];go_upto_region 5 with(first
  |(go_at_call 4;refine(P1.out).mono ?_;rintro e w4⟨vn,vw,rfl,hf4,hn4,hw4⟩;obtain⟨na,nc,hvn⟩:=z0d hn4;subst hvn;obtain⟨wa,wc,hvw⟩:=z0d hw4;subst hvw;have k8:=hid hn4;have jt:=hid hw4;have k5:=hid hf4;clear hn4 hw4 hf4)
  |(refine z0e rfl 25 _ _ rfl w4 _(Q3y(.slice na NF.length nc)(.slice wa gw.length wc)gp)_ rfl rfl rfl Q2o rfl(z1r _ _ _ rfl rfl)?_))
 have jl:Q0a w4(w4.alloc(.cells(Q3y(.slice na NF.length nc)(.slice wa gw.length wc)gp)25)):=(mRf _ w4).alloc _;have jy:=z0a w4(.cells(Q3y(.slice na NF.length nc)(.slice wa gw.length wc)gp)25);have P2:=hid(PB.out _ _(HK.out.fresh((jh.out.trans k5.out).trans jl)));have k1:=hid jl;have k7:=hid jy;generalize(w4.alloc(.cells(Q3y(.slice na NF.length nc)(.slice wa gw.length wc)gp)25))=W5 at k1 k7 P2 ⊢;clear jl jy P1 PB;go_upto_region 6 with(first
  |(go_at_call 5;refine(P2.out).mono ?_;rintro e w6⟨vn,vw,rfl,hf6,hn6,hw6⟩;obtain⟨ma,mc,hvn⟩:=z0d hn6;subst hvn;obtain⟨ua,uc,hvw⟩:=z0d hw6;subst hvw;have jz:=hid hn6;have ke:=hid hw6;have k0:=hid hf6;clear hn6 hw6 hf6)
  |(refine z0e rfl 25 _ _ rfl w6 _(Q3y(.slice ma NF.length mc)(.slice ua gw.length uc)gp)_ rfl rfl rfl Q2o rfl(z1r _ _ _ rfl rfl)?_))
 have jc:Q0a w6(w6.alloc(.cells(Q3y(.slice ma NF.length mc)(.slice ua gw.length uc)gp)25)):=(mRf _ w6).alloc _;have k2:=z0a w6(.cells(Q3y(.slice ma NF.length mc)(.slice ua gw.length uc)gp)25);have j1:=hid(k1.out.trans(k0.out.trans jc));have jf:=hid((k0.out.trans jc).at k7.out(fun x=>x));have jj:=hid k2;have jr:=hid jc;generalize(w6.alloc(.cells(Q3y(.slice ma NF.length mc)(.slice ua gw.length uc)gp)25))=W7 at j1 jf jj jr ⊢;have a0:W7.cell?⟨w4.heap.size,0,none⟩=some(.slice na NF.length nc):=Q0b jf.out 0;have b0:W7.cell?⟨w6.heap.size,0,none⟩=some(.slice ma NF.length mc):=Q0b jj.out 0;have SN:=hid(y6k W7 _ _ NF(Q2k.fresh⟨z0f k8.out(Nat.zero_le _),fun x _=>rfl⟩j1.out)(Q2k.fresh⟨z0f jz.out(Nat.zero_le _),fun x _=>rfl⟩jr.out)jm);clear jc k2 P2 k8 jz;go_upto_region 7 with(first
  |(go_at_call 6;refine(SN.out).mono ?_;rintro e W8⟨rfl,m8,hw8⟩;have j6:Hid(Q0a W7 W8):=hid(by rw[hw8];exact Q0s _ _);clear hw8))
 have js:=hid(j6.out.at jf.out(fun x=>x));have jp:=hid(j6.out.at jj.out(fun x=>x));have a1:W8.cell?⟨w4.heap.size,1,none⟩=some(.slice wa gw.length wc):=Q0b js.out 1;have b1:W8.cell?⟨w6.heap.size,1,none⟩=some(.slice ua gw.length uc):=Q0b jp.out 1;have SW:=hid(y1i W8 _ _ gw(Q02.fresh(Q2c.at' jt.out)(j1.out.trans j6.out))(Q02.fresh(Q2c.at' ke.out)(jr.out.trans j6.out))(by omega));clear a0 b0 SN jf jj;go_upto_region 8 with(first
  |(go_at_call 7;refine(SW.out).mono ?_;rintro e W9⟨rfl,m9,hw9⟩;have ji:Hid(Q0a W8 W9):=hid(by rw[hw9];exact Q0s _ _);clear hw9))
 have ju:=hid(ji.out.at js.out(fun x=>x));have k6:=hid(ji.out.at jp.out(fun x=>x));have kd:W9.cell?⟨w4.heap.size,1,none⟩=some(.slice wa gw.length wc):=Q0b ju.out 1;have kg:W9.cell?⟨w4.heap.size,2,none⟩=some(.int .i64 gp):=Q0b ju.out 2;have kf:W9.cell?⟨w6.heap.size,2,none⟩=some(.int .i64 gp):=Q0b k6.out 2;have jq:W9.ownsRow W3.heap.size 3 1(.slice wa gw.length wc)gw.length(Q56 gw):=z0c jt.out(fun g hg=>((j1.out.trans j6.out).trans ji.out).block g(jt.out.lt g hg).2(fun x=>x));have kb:=hid jq;have OW:=hid(v0h W9 _ gw(-78)(z0f jq(Nat.zero_le _))(by omega));unfold OwnRet at OW;have jn:=hid(k5.out.trans((j1.out.trans j6.out).trans ji.out));clear a1 b1 SW jq js jp;go_upto_region 11 with(first
  |(go_at_call 8;refine(NU.out _ _).mono ?_;rintro e w'⟨rfl,hw⟩;rw[hw];clear hw)
  |(go_at_call 9;refine(OW.out).mono ?_;rintro e W10⟨e1,q1,e2,q2,e3,q3,rfl,hO10,hm10,p1,p2,p3⟩;have jv:=hid hO10;have jx:=hid hm10;clear hO10 hm10 p1 p2 p3)
  |(refine z0e rfl 35 _ _ rfl W10 _(Q95(.slice wa gw.length wc)(.slice e1(gw.length+1)q1)(.slice e2(gw.length+2)q2)(.slice e3(gw.length+6)q3)(-78))_ rfl rfl rfl szOwn rfl(x1s _ _ _ _ _ _ _ _ _ _ _ _ _)?_))
 have j4:Q0a W3 W10:=jn.out.trans' jx.out(fun k hk e=>by have:=(kb.out.lt k e).1;omega);have j2:Q0a W10(W10.alloc(.cells(Q95(.slice wa gw.length wc)(.slice e1(gw.length+1)q1)(.slice e2(gw.length+2)q2)(.slice e3(gw.length+6)q3)(-78))35)):=(mRf _ W10).alloc _;have j5:=z0a W10(.cells(Q95(.slice wa gw.length wc)(.slice e1(gw.length+1)q1)(.slice e2(gw.length+2)q2)(.slice e3(gw.length+6)q3)(-78))35);generalize(W10.alloc(.cells(Q95(.slice wa gw.length wc)(.slice e1(gw.length+1)q1)(.slice e2(gw.length+2)q2)(.slice e3(gw.length+6)q3)(-78))35))=W11 at j2 j5 ⊢;have j0:=hid(j4.trans j2);have j8:=hid j5;have jw:=hid(jv.out.kept(w':=W11)(fun x _ k _ hlt=>j2.block k hlt(fun z=>z)));have ja:=j0.out.at je.out(fun x=>x);have SL:=hid(y1i W11 _ _ kinds(jg.out W11 ja).1(HK.out.fresh(jh.out.trans j0.out))(by omega));clear kd kg kf OW ju k6 j4 j2 j5 ja;go_upto_region 12 with(first
  |(go_at_call 7;refine(SL.out).mono ?_;rintro e W12⟨rfl,m12,hw12⟩;have j3:Hid(Q0a W11 W12):=hid(by rw[hw12];exact Q0s _ _);clear hw12))
 have jo:=hid(j3.out.at j8.out(fun x=>x));have LH:=hid(y9k W12 wa e1 e2 e3 gw.length wc q1 q2 q3(-78)(jw.out.kept(w':=W12)(fun x _ k _ hlt=>j3.out.block k hlt(fun z=>z)))(by omega));clear SL j8;go_upto_region 13 with(first
  |(refine wpList_load_row rfl 35 _ rfl W10.heap.size rfl _ _ _ _ jo.out Tryz.underlying35 rfl szOwn ?_)
  |(go_at_call 10;refine(LH.out).mono ?_;rintro e W13⟨rfl,hf13⟩;have j9:=hid hf13;clear hf13))
 have j7:=(j0.out.trans(j3.out.trans j9.out)).at je.out(fun x=>x);have y1:=(jg.out W13 j7).2;clear j7 LH;go_wp2;go_ret;exact⟨rfl,jh.out.trans(j0.out.trans(j3.out.trans j9.out))⟩
end Go.Proofs.YtcpceafmlgaodaaGreat
namespace Go.Proofs.YtcpceafmlgaodaaGreat
open Go.ChangeShapes Go.WideShapes Go.ChangeAt Go.RowKit
open Go.ChangeMaps (open_string shut_string)
set_option maxRecDepth 100000
set_option maxHeartbeats 16000000
set_option linter.unusedVariables false
set_option linter.unusedSimpArgs false
theorem Tryz.own:ownKnob Tryz.prog.godebug=none:=by kernel_rfl
theorem Tryz.laidOut:laidOutB Tryz.prog=true:=by kernel_rfl
theorem byInt:Tryz.prog.bytesOf 3=8:=by kernel_rfl
theorem y1s(os:Os)(started:os.Started)(H:Type)(enc:TypeId × Value->H) :
  ReturnsInHanded{}Tryz.checked os 3 .any(Rows.parsedSpec.pre6 enc Tryz.prog Tryz.f3 Rows.parsedRow.domain false)(Rows.parsedSpec.post enc Tryz.prog Tryz.f3 false true false false):=by
 refine returnsInHanded_of_change_sized(C:=Tryz.checked)Tryz.own started(by kernel_rfl)Tryz.func3
  (ChangeSpec.witness6(enc:=enc)(C:=Tryz.checked)false⟨#[],#[.string ByteArray.empty,.slice none 0 0],[]⟩8(by kernel_rfl)(by kernel_rfl)(by kernel_rfl)(by kernel_rfl))?_
 intro W base args ds gs before hval0 hW hcnd hz _;have j0:∀(j:Nat)t v,Tryz.f3.params[j]? = some t->args[j]? = some v->Value.okWide Tryz.prog W .any base t v:=hval0;have j3:=hW;obtain⟨p,q,hA0,hV,rfl,hfz,hnd⟩:=hW;have hA:DataW.TrodAll enc Tryz.prog W 0(fun _=>true)true Tryz.f3.params.toList args.toList ds p:=hA0;have hZ:(DataW.weightsEach Tryz.prog(Tryz.f3.params.toList++Rows.parsedSpec.plain.varTypes Tryz.prog)(ds++gs)).all(·<=reachBytes)=true:=hz;rw[Tryz.params3]at hA j0 hZ;obtain⟨v0,v1,d0,d1,p0,p1,rfl,rfl,rfl,h0,h1⟩:=trodAll_two hA;obtain⟨rfl,rfl⟩:=trodVars_none hV;obtain⟨s,rfl,rfl,rfl,ws⟩:=open_string Tryz.underlying9(j0 0 9 v0 rfl rfl)h0;obtain⟨a1,len1,cap1,rfl⟩:=okWide_slice Tryz.underlying22(j0 1 22 v1 rfl rfl);have k1:=h1;have j7:∀x∈p1,x.block<W.heap.size:=by obtain⟨m,hm⟩:=k1;exact DataW.trod_lt m _ _ _ hm
 obtain⟨kinds,hk,hm⟩:∃kinds,Q02 W(.slice a1 len1 cap1)kinds/\kinds.length<=35000000000000:=by
  obtain⟨fuel,hf⟩:=h1;rcases open_ints Tryz.underlying22 Tryz.underlying3(by kernel_rfl)hf with⟨hcs,_⟩|⟨x,l,c,zs,hcs,_,hl,hm,hz2,hx,hcell,hwz⟩
  ·simp[Value.cells]at hcs;obtain⟨rfl,rfl,rfl⟩:=hcs;exact⟨[],⟨none,0,rfl,qR _,fun j hj=>absurd hj(by simp)⟩,by simp⟩
  simp[Value.cells]at hcs;obtain⟨rfl,rfl,rfl⟩:=hcs;have j9:zs.length=cap1:=by simpa using hz2
  have j1:(zs.take len1).length=len1:=by rw[List.length_take];omega
  have j6:d1=.slice(lits .i64(zs.take len1))(lits .i64(zs.drop len1)):=(Prod.mk.inj hx).1;have j4:=sized_slice hZ(j:=1)(t:=22)(by rfl)(by rw[j6];rfl)Tryz.underlying22;rw[byInt]at j4;have j5:∀l:List Int,(lits(H:=H) .i64 l).length=l.length:=fun l=>by simp[lits]
  rw[j5,j5,j1]at j4;have j8:reachBytes=140737488351232:=by decide
  refine⟨zs.take len1,⟨some x,cap1,by rw[j1],by rw[j1];exact hl,fun j hj=>?_⟩,by rw[j1];omega⟩;obtain⟨b,off,rfl,hc⟩:=ints_at hcell(by omega);have j2:j<zs.length:=by omega
  refine⟨b,off,rfl,?_⟩;have:=hc j j2;rw[List.getElem_take];simpa [List.getD,j2]using this
 clear hA0 hval0 hz hZ;simp only[List.append_nil]at j3;refine(x06 s kinds _ W ws hk hm).mono fun e W'⟨he,hF⟩=>?_;subst he;have hB:=hF.below;refine⟨_,rfl,_,_,_,[],p1,[],j3,?_,?_,?_,hB.frame _,fun h=>by cases h⟩
 ·exact trodAll_mk1(shut_bool Tryz.underlying4 true)
 ·exact trodAll_mk2(shut_string Tryz.underlying9 ws)(Below.trod Tryz.laidOut(by kernel_rfl)(of_decide_eq_true(by kernel_rfl))k1 hB j7)
 trivial
theorem parsed_holds:Rows.ParsedSaid :=
 OpenClaim.holds_of_wide 3 Tryz.f3 rfl rfl rfl rfl rfl rfl rfl⟨rfl,rfl,rfl,rfl,rfl⟩rfl rfl rfl rfl rfl(by kernel_rfl)Tryz.func3(by kernel_rfl)
  (of_decide_eq_true(by kernel_rfl))(by unfold Func.isWrapper;first|(rw[if_pos(by decide +kernel)];kernel_rfl)|(rw[if_neg(by decide +kernel)];exact⟨rfl,rfl⟩))
  (fun os started H enc _=>y1s os started H enc)
#print axioms parsed_holds
end Go.Proofs.YtcpceafmlgaodaaGreat
