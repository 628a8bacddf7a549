import Derived.Test.YtbdpfmalabgmbaaGreatRb5
import Derived.Test.YtbdpfmalabgmbaaGreatEb3
namespace Go.Proofs.YtbdpfmalabgmbaaGreat
open Go.RowKit
set_option maxRecDepth 99999
set_option maxHeartbeats 0
set_option linter.all false
def Q4w(q:List Q1)(m:Itm):Int:=((q[m.p]?).bind fun x=>x.2[m.d]?).getD (-1)
theorem z5q(w:World)(cb b R H:Nat)(q:List Q1)(m:Itm)(kx:w.cell? ⟨cb,0,none⟩=some (.pointer (some ⟨b,0,none⟩)))(hS:Q3q w b R H q)(hQ:QOk R H q)(hm:m.p<q.length)(hd:m.d<=1000) :
  Calls Tryz.prog 84 #[.pointer (some ⟨cb,0,none⟩),.agg (itA m.p m.d m.f)] w fun e w'=>e=.returned (.int .i64 (Q4w q m))/\Q0a w w':=by
 obtain⟨p,d,f⟩:=m;dsimp only at hm hd ⊢;obtain⟨a0,c0,a1,c1,a2,c2,v3,v4,sv,hN⟩:=hS;obtain⟨g3,o3,c3,g4,o4,n4,c4,al,cl,hP⟩:=hN.pr hm;have j3:=hQ.p20;have j6:=(hQ.sy q[p] (qG hm)).1;have j2:Q4w q ⟨p,d,f⟩=(q[p].2[d]?).getD (-1):=by unfold Q4w;simp[qE hm]
 rw[j2];have j1:Q0a w (w.alloc (.cells (itA p d f) 180 (0,0))):=(mRf _ w).alloc _;have i0:=Q0b (z0a w (.cells (itA p d f) 180 (0,0))) 0;have i1:=Q0b (z0a w (.cells (itA p d f) 180 (0,0))) 1;simp at i0 i1;have x0:=Q0h j1 kx;have q4:=Q0h j1 hP.q4;have y4:=Q0h j1 hP.y4;have s4:(p:Int)<(n4:Int):=by have:=hP.n4;omega
 have hl:=hP.l.fresh j1;have HF:Hid (∀k,Q0a w ((w.alloc (.cells (itA p d f) 180 (0,0))).drewN k)):=fun k=>j1.trans (Q0v _ k);have j7:p<20:=by omega
 clear j1 j2 kx hN hQ hP;generalize q[p]=x at j6 y4 hl ⊢;clear hm j3;obtain⟨ao,cap,e,hc,j0⟩:=hl;rw[qI]at e;obtain⟨rfl,_,rfl⟩:=e;have HC:=hid j0;clear j0;by_cases j5:d<x.2.length
 ·obtain⟨g,o,rfl,j4⟩:=HC.out d j5;have h1:¬((x.2.length:Int)<=(d:Int)):=by omega
  have h2:(d:Int)<(x.2.length:Int):=by omega
  rw[qE j5,qDy];have c1:=j4;generalize x.2[d]=c at c1 ⊢;clear j4 HC;go_enter Tryz.func84,Tryz.ntmps84
  go_wp2_with fail
  go_quiet (fail);go_wp2_with fail
  go_quiet (fail);go_wp2;go_ret;exact⟨rfl,(HF.out _).trans (Q0v _ _)⟩
 have h1:((x.2.length:Int)<=(d:Int)):=by omega
 rw[qN (by omega),Option.getD_none];clear HC;go_enter Tryz.func84,Tryz.ntmps84
 go_wp2_with fail
 go_quiet (fail);go_wp2;go_ret;exact⟨rfl,HF.out _⟩
def Q8s(q:List Q1)(Y:List Itm):Prop:=Y.length<=8540/\∀m∈Y,m.p<q.length/\m.d<=6
def ItQ(q:List Q1)(Q:Itm->Prop):Prop:=∀m,Q m->m.p<q.length/\m.d<=6/\m.f<=60
section
variable {q:List Q1}{Q:Itm->Prop}{P:List (List Itm)}{X X':List Itm}{s:Nat}
theorem Q4y.len(hb:ItQ q Q)(hq:q.length<=20)(hg:Q4y Q X X'):X'.length<=8540:=v0i hg.nd (fun m hm=>by
 have:=hb m (hg.q m hm);exact⟨by omega,this.2⟩)
theorem v2r(hPb:∀Y∈P,Q8s q Y)(hb:ItQ q Q)(hq:q.length<=20)(hs:s<=P.length)(hg:Q4y Q X X'):Q8s q (atS P X' s):=by
 rcases qCk s P.length with h|h
 ·rw[y19 h,qD,qE h];exact hPb _ (qG h)
 obtain rfl:s=P.length:=by omega
 rw[z2o];exact⟨hg.len hb hq,fun m hm=>⟨(hb m (hg.q m hm)).1,(hb m (hg.q m hm)).2.1⟩⟩
theorem x8f{c:Int}{k:Nat}(hs:s<=P.length)(hk:k<(atS P X' s).length)(hg:Q4y Q X X')(hm:Q (mvI (atS P X' s)[k]))(ha:∀m∈(atS P X' s).take k,Q4w q m=c->mvI m∈X') :
  k+1<=(atS P (Q81 X' (mvI (atS P X' s)[k])) s).length/\Q4y Q X (Q81 X' (mvI (atS P X' s)[k]))/\∀m∈(atS P (Q81 X' (mvI (atS P X' s)[k])) s).take (k+1),Q4w q m=c->mvI m∈Q81 X' (mvI (atS P X' s)[k]):=by
 have h2:=hg.refl.put hm;obtain⟨Z,e⟩:=x9v (P:=P) hs h2.pre;refine⟨by rw[e,qP];omega,hg.put hm,fun m j0 hc=>?_⟩;rw[e,List.take_append_of_le_length (by omega),Q6e hk,qU,qM]at j0;rcases j0 with j0|rfl
 ·exact h2.mem (ha m j0 hc)
 exact y2r _ _
end
theorem y8v(a b c:Int):(itA a b c).all Value.oneCell'=true:=qCq (cs:=[.int .i64 a,.int .i64 b,.int .i64 c]) (by intro v hv;simp at hv;rcases hv with rfl|rfl|rfl<;>rfl)
attribute [local go_sem ↓] z5n
theorem x8e(w0 w:World)(cb gs cap b R H:Nat)(q:List Q1)(P:List (List Itm))(X:List Itm)(Q:Itm->Prop)(s:Nat)(hd:Int)(hS:Q3q w0 b R H q)(hQ:QOk R H q)(h:ChG w0 w cb gs cap b (P++[X]))(hg:Q4y Q X X)(hP:P.length<=60)(hs:s<=P.length)
  (hPb:∀Y∈P,Q8s q Y) (hb:ItQ q Q) (hd0:0<=hd/\hd<H) (hc:∀m,(m∈P.getD s []∨(s=P.length/\Q m))->Q4w q m=bs R+hd->Q (mvI m)) :
  Calls Tryz.prog 114 #[.pointer (some ⟨cb,0,none⟩),.int .i64 s,.int .i64 hd] w fun e w'=>∃X',e=.returned (.bool (decide (X.length<X'.length)))/\ChG w0 w' cb gs cap b (P++[X'])/\Q4y Q X X'/\∀m∈atS P X' s,Q4w q m=bs R+hd->mvI m∈X':=by
 have j6:=hQ.p20;have k6:=hQ.r8;have k4:=hQ.h8;obtain⟨d1,d2⟩:=hd0;have HS:=hid hS;have HQ:=hid hQ;have HC:=hid h;have HG:=hid hg;have jx:=hid hPb;have HB:=hid hb;have jj:=hid hc;obtain⟨a0,c0,a1,c1,a2,c2,v3,v4,sv,hN⟩:=hS;have HK:=hid hN.k0;have jt:IntKind.i64.wrap (bs R+hd)=bs R+hd:=by rw[qBv];unfold bs;omega
 generalize hcd:bs R+hd=cd at jt jj ⊢;have ja:=hid hcd;clear hQ h hg hPb hb hc hN hcd;go_enter Tryz.func114,Tryz.ntmps114
 go_wp2;go_loopw [7,8,9,10,11] (fun x7 x8 _ _ _ wr=>∃(k:Nat) (X':List Itm),x7=.bool (decide (X.length<X'.length))/\x8=.int .i64 k/\k<=(atS P X' s).length/\ChG w0 wr cb gs cap b (P++[X'])/\Q4y Q X X'/\∀m∈(atS P X' s).take k,Q4w q m=cd->mvI m∈X')
   (fun _ x _ _ _ _=>10001-(intOf x).toNat)
 case atStart=>exact⟨0,X,by simp,rfl,by omega,HC.out,HG.out,fun m hm=>by simp at hm⟩
 obtain⟨k,X',rfl,rfl,hk,hC,hg,ha⟩:=hrel;have j9:=v2r (s:=s) jx.out HB.out j6 hs hg;have k7:=hg.len HB.out j6;have jm:=hid (Q19 (B:=10001) k (by have:=j9.1;omega));obtain⟨vs,a,c,hA,hl,hv,hI⟩:=hC.set hs;have k1:=hA.s;have k2:=hA.at hv;have k3:(vs.length:Int)=(P.length:Int)+1:=by omega
 have k8:(atS P X' s).length<=8540:=j9.1;rw[hl]at k1;have s1:(s:Int)<((P.length+1:Nat):Int):=by omega
 have jh:=hid hC;have j1:=hid hg;have HA:=hid ha;have jy:=hA.fr;have HF:=hid jy;have kx:=hA.x;clear hC hg ha HC HG hl k3;by_cases j5:k<(atS P X' s).length
 ·have s2:(k:Int)<((atS P X' s).length:Int):=by omega
  have js:=j9.2 _ (qG j5);have jq:=fun(hm:Q (mvI (atS P X' s)[k]))=>x8f (c:=cd) hs j5 j1.out hm HA.out;have jp:Q4w q (atS P X' s)[k]=cd->Q (mvI (atS P X' s)[k]):=fun e=>jj.out _ ((v0q hs (qG j5)).imp id (fun z=>⟨z.1,j1.q _ z.2⟩)) e;have jo:Q4w q (atS P X' s)[k]≠cd->∀m∈(atS P X' s).take (k+1),Q4w q m=cd->mvI m∈X':=fun hne m hm e=>by
   rw[Q6e j5,qU,qM]at hm;rcases hm with hm|rfl
   ·exact HA.out m hm e
   exact absurd e hne
  obtain⟨g,c',jr⟩:=Joins.ownsRow_form hI.own (by omega);rw[qI]at jr;obtain⟨rfl,_,rfl⟩:=jr;have r1:=hI.range k j5;have j7:=hid jq;have j3:=hid jp;have j2:=hid jo;generalize(atS P X' s)[k]=m at r1 js j7 j3 j2;have l1:(ldI (.pointer (some ⟨g,k*3,none⟩))).run Tryz.prog wr=.ok (.agg (itA m.p m.d m.f)) wr:=z3g r1;clear r1 jq jp jo hI j9 hA hv HA;obtain⟨jz,k5⟩:=js;go_upto_region 6 with(first
   |(refine z0e rfl 180 _ _ rfl wr _ (itA m.p m.d m.f) _ rfl rfl rfl szIt rfl (y8v _ _ _) ?_))
  have HN:=W0c wr m 180;have j4:Q0a wr (wr.alloc (.cells (itA m.p m.d m.f) 180 (0,0))):=(mRf _ wr).alloc _;have jd:=z0a wr (.cells (itA m.p m.d m.f) 180 (0,0));generalize(wr.alloc (.cells (itA m.p m.d m.f) 180 (0,0)))=W2 at HN j4 jd ⊢;have l2:(ldI (.pointer (some ⟨wr.heap.size,0,none⟩))).run Tryz.prog W2=.ok (.agg (itA m.p m.d m.f)) W2:=z3g HN;have jk:=hid j4;have jg:=hid jd;have SY:=hid (z5q W2 cb b R H q m (Q0h j4 kx) (HS.fresh (HF.trans j4)) HQ.out jz (by omega));clear l1 k1 k2 kx HN j4 jd;go_upto_region 7 with(first
   |(go_at_call 84;refine(SY.out).mono ?_;rintro e W3⟨rfl,jf⟩;have jl:=hid (jk.trans jf);have j0:=hid (jf.at jg.out id);clear jf))
  have jc:=jh.fresh jl.out;have BA:=hid (z1j W3 b R a0 c0 (Q0h (HF.trans jl.out) HK.out) (by omega));have kx:W3.cell? ⟨cb,0,none⟩=some (.pointer (some ⟨b,0,none⟩)):=by
   obtain⟨vs,z⟩:=jc;exact z.x
  have b0:W3.cell? ⟨wr.heap.size,0,none⟩=some (.int .i64 m.p):=Q0b j0.out 0;have b1:W3.cell? ⟨wr.heap.size,1,none⟩=some (.int .i64 m.d):=Q0b j0.out 1;have b2:W3.cell? ⟨wr.heap.size,2,none⟩=some (.int .i64 m.f):=Q0b j0.out 2;have ji:=hid jc;rw[← ja.out]at j2 j3 j7 jt;clear jc l2 SY jk jg j0;generalize hsc:Q4w q m=sc at j2 j3;by_cases je:sc=bs R+hd
  ·have PU:Hid (Calls Tryz.prog 82 #[.pointer (some ⟨cb,0,none⟩),.agg (itA m.p ((m.d:Int)+1) m.f)] W3 fun e w'=>e=.returned (.bool (!inI X' (mvI m)))/\ChG w0 w' cb gs cap b (P++[Q81 X' (mvI m)])):=hid (y2d w0 W3 cb gs cap b P X' (mvI m) ji.out (by omega) (by omega));have HW:=hid (j7.out (j3.out je));have j8:=y84 j1.le (mvI m);generalize decide (X.length<X'.length)=mo at j8 ⊢;generalize inI X' (mvI m)=pr at PU j8;have jw:=hid j8;clear j8 j7 j3 j2 hsc;subst je;cases mo<;>cases pr;all_goals
    go_wp2_with (first
     |(go_at_call 47;refine csm BA.out ?_)
     |(go_at_call 82;refine(PU.out).mono ?_;rintro e W4⟨rfl,jn⟩;have jv:=hid jn;clear jn))
    go_roundw
    case rel=>exact⟨k+1,_,by rw[jw.out];rfl,by go_num,HW.1,jv.out,HW.2.1,by have:=HW.2.2;rw[ja.out]at this;exact this⟩
    exact jm.out
  have jb:=hid (j2.out je);go_wp2_with (first
   |(go_at_call 47;refine csm BA.out ?_))
  go_roundw
  case rel=>exact⟨k+1,X',rfl,by go_num,by omega,ji.out,j1.out,by have:=jb.out;rw[ja.out]at this;exact this⟩
  exact jm.out
 have s2:¬(k:Int)<((atS P X' s).length:Int):=by omega
 have ju:Hid (∀m∈atS P X' s,Q4w q m=cd->mvI m∈X'):=hid (by
  have:=HA.out;rw[qDg (by omega)]at this;exact this)
 go_wp2;go_ret;exact⟨X',rfl,jh.out,j1.out,ju.out⟩
end Go.Proofs.YtbdpfmalabgmbaaGreat
