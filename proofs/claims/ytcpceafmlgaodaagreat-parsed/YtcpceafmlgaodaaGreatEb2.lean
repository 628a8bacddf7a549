import Derived.Test.YtcpceafmlgaodaaGreatRb5
import Derived.Test.YtcpceafmlgaodaaGreatEb3
namespace Go.Proofs.YtcpceafmlgaodaaGreat
open Go.RowKit
set_option maxRecDepth 99999
set_option maxHeartbeats 0
set_option linter.all false
def Q4q(q:List Q1)(m:Itm):Int:=((q[m.p]?).bind fun x=>x.2[m.d]?).getD (-1)
theorem z5k(w:World)(cb b R H:Nat)(q:List Q1)(m:Itm)(kx:w.cell? ⟨cb,0,none⟩=some (.pointer (some ⟨b,0,none⟩)))(hS:Q3x w b R H q)(hQ:QOk R H q)(hm:m.p<q.length)(hd:m.d<=1000) :
  Calls Tryz.prog 73 #[.pointer (some ⟨cb,0,none⟩),.agg (itA m.p m.d m.f)] w fun e w'=>e=.returned (.int .i64 (Q4q q m))/\Q0a w w':=by
 obtain⟨p,d,f⟩:=m;dsimp only at hm hd ⊢;obtain⟨a0,c0,a1,c1,a2,c2,v3,v4,sv,hN⟩:=hS;obtain⟨g3,o3,c3,g4,o4,n4,c4,al,cl,hP⟩:=hN.pr hm;have j2:=hQ.p20;have j3:=(hQ.sy q[p] (qG hm)).1;have j1:Q4q q ⟨p,d,f⟩=(q[p].2[d]?).getD (-1):=by unfold Q4q;simp[qE hm]
 rw[j1];have j0:Q0a w (w.alloc (.cells (itA p d f) 163 (0,0))):=(mRf _ w).alloc _;have i0:=Q0b (z0a w (.cells (itA p d f) 163 (0,0))) 0;have i1:=Q0b (z0a w (.cells (itA p d f) 163 (0,0))) 1;simp at i0 i1;have x0:=Q0i j0 kx;have q4:=Q0i j0 hP.q4;have y4:=Q0i j0 hP.y4;have s4:(p:Int)<(n4:Int):=by have:=hP.n4;omega
 have hl:=hP.l.fresh j0;have HF:Hid (∀k,Q0a w ((w.alloc (.cells (itA p d f) 163 (0,0))).drewN k)):=fun k=>j0.trans (Q0r _ k);have j4:p<20:=by omega
 clear j0 j1 kx hN hQ hP;generalize q[p]=x at j3 y4 hl ⊢;clear hm j2;obtain⟨ao,cap,e,hc,hcell⟩:=hl;rw[qI]at e;obtain⟨rfl,_,rfl⟩:=e;have HC:=hid hcell;clear hcell;by_cases hlt:d<x.2.length
 ·obtain⟨g,o,rfl,hcl⟩:=HC.out d hlt;have h1:¬((x.2.length:Int)<=(d:Int)):=by omega
  have h2:(d:Int)<(x.2.length:Int):=by omega
  rw[qE hlt,qDa];have c1:=hcl;generalize x.2[d]=c at c1 ⊢;clear hcl HC;go_enter Tryz.func73,Tryz.ntmps73
  go_wp2_with fail
  go_quiet (fail);go_wp2_with fail
  go_quiet (fail);go_wp2;go_ret;exact⟨rfl,(HF.out _).trans (Q0r _ _)⟩
 have h1:((x.2.length:Int)<=(d:Int)):=by omega
 rw[qN (by omega),Option.getD_none];clear HC;go_enter Tryz.func73,Tryz.ntmps73
 go_wp2_with fail
 go_quiet (fail);go_wp2;go_ret;exact⟨rfl,HF.out _⟩
def Q8g(q:List Q1)(Y:List Itm):Prop:=Y.length<=8540/\∀m∈Y,m.p<q.length/\m.d<=6
def ItQ(q:List Q1)(Q:Itm->Prop):Prop:=∀m,Q m->m.p<q.length/\m.d<=6/\m.f<=60
section
variable {q:List Q1}{Q:Itm->Prop}{P:List (List Itm)}{X X':List Itm}{s:Nat}
theorem Q4s.len(hb:ItQ q Q)(hq:q.length<=20)(hg:Q4s Q X X'):X'.length<=8540:=x9r hg.nd (fun m hm=>by
 have:=hb m (hg.q m hm);exact⟨by omega,this.2⟩)
theorem v1w(hPb:∀Y∈P,Q8g q Y)(hb:ItQ q Q)(hq:q.length<=20)(hs:s<=P.length)(hg:Q4s Q X X'):Q8g q (atS P X' s):=by
 rcases qBn s P.length with h|h
 ·rw[y1r h,qD,qE h];exact hPb _ (qG h)
 obtain rfl:s=P.length:=by omega
 rw[z2h];exact⟨hg.len hb hq,fun m hm=>⟨(hb m (hg.q m hm)).1,(hb m (hg.q m hm)).2.1⟩⟩
theorem x7u{c:Int}{k:Nat}(hs:s<=P.length)(hk:k<(atS P X' s).length)(hg:Q4s Q X X')(hm:Q (mvI (atS P X' s)[k]))(ha:∀m∈(atS P X' s).take k,Q4q q m=c->mvI m∈X') :
  k+1<=(atS P (Q8m X' (mvI (atS P X' s)[k])) s).length/\Q4s Q X (Q8m X' (mvI (atS P X' s)[k]))/\∀m∈(atS P (Q8m X' (mvI (atS P X' s)[k])) s).take (k+1),Q4q q m=c->mvI m∈Q8m X' (mvI (atS P X' s)[k]):=by
 have h2:=hg.refl.put hm;obtain⟨Z,e⟩:=x87 (P:=P) hs h2.pre;refine⟨by rw[e,qP];omega,hg.put hm,fun m hm2 hc=>?_⟩;rw[e,List.take_append_of_le_length (by omega),Q6g hk,qU,qM]at hm2;rcases hm2 with hm2|rfl
 ·exact h2.mem (ha m hm2 hc)
 exact y17 _ _
end
theorem y79(a b c:Int):(itA a b c).all Value.oneCell'=true:=all_oneCell_toArray (cs:=[.int .i64 a,.int .i64 b,.int .i64 c]) (by intro v hv;simp at hv;rcases hv with rfl|rfl|rfl<;>rfl)
attribute [local go_sem ↓] z5h
theorem x7t(w0 w:World)(cb gs cap b R H:Nat)(q:List Q1)(P:List (List Itm))(X:List Itm)(Q:Itm->Prop)(s:Nat)(hd:Int)(hS:Q3x w0 b R H q)(hQ:QOk R H q)(h:ChG w0 w cb gs cap b (P++[X]))(hg:Q4s Q X X)(hP:P.length<=60)(hs:s<=P.length)
  (hPb:∀Y∈P,Q8g q Y) (hb:ItQ q Q) (hd0:0<=hd/\hd<H) (hc:∀m,(m∈P.getD s []∨(s=P.length/\Q m))->Q4q q m=bs R+hd->Q (mvI m)) :
  Calls Tryz.prog 96 #[.pointer (some ⟨cb,0,none⟩),.int .i64 s,.int .i64 hd] w fun e w'=>∃X',e=.returned (.bool (decide (X.length<X'.length)))/\ChG w0 w' cb gs cap b (P++[X'])/\Q4s Q X X'/\∀m∈atS P X' s,Q4q q m=bs R+hd->mvI m∈X':=by
 have j5:=hQ.p20;have jw:=hQ.r8;have jv:=hQ.h8;obtain⟨d1,d2⟩:=hd0;have HS:=hid hS;have HQ:=hid hQ;have HC:=hid h;have HG:=hid hg;have js:=hid hPb;have HB:=hid hb;have jg:=hid hc;obtain⟨a0,c0,a1,c1,a2,c2,v3,v4,sv,hN⟩:=hS;have HK:=hid hN.k0;have jo:IntKind.i64.wrap (bs R+hd)=bs R+hd:=by rw[IntKind.wrap_i64];unfold bs;omega
 generalize hcd:bs R+hd=cd at jo jg ⊢;have j9:=hid hcd;clear hQ h hg hPb hb hc hN hcd;go_enter Tryz.func96,Tryz.ntmps96
 go_wp2;go_loopw [7,8,9,10,11] (fun x7 x8 _ _ _ wr=>∃(k:Nat) (X':List Itm),x7=.bool (decide (X.length<X'.length))/\x8=.int .i64 k/\k<=(atS P X' s).length/\ChG w0 wr cb gs cap b (P++[X'])/\Q4s Q X X'/\∀m∈(atS P X' s).take k,Q4q q m=cd->mvI m∈X')
   (fun _ x _ _ _ _=>10001-(intOf x).toNat)
 case atStart=>exact⟨0,X,by simp,rfl,by omega,HC.out,HG.out,fun m hm=>by simp at hm⟩
 obtain⟨k,X',rfl,rfl,hk,hC,hg,ha⟩:=hrel;have j8:=v1w (s:=s) js.out HB.out j5 hs hg;have jx:=hg.len HB.out j5;have jj:=hid (Q15 (B:=10001) k (by have:=j8.1;omega));obtain⟨vs,a,c,hA,hl,hv,hI⟩:=hC.set hs;have k1:=hA.s;have k2:=hA.at hv;have ju:(vs.length:Int)=(P.length:Int)+1:=by omega
 have jy:(atS P X' s).length<=8540:=j8.1;rw[hl]at k1;have s1:(s:Int)<((P.length+1:Nat):Int):=by omega
 have je:=hid hC;have j1:=hid hg;have HA:=hid ha;have jt:=hA.fr;have HF:=hid jt;have kx:=hA.x;clear hC hg ha HC HG hl ju;by_cases hlt:k<(atS P X' s).length
 ·have s2:(k:Int)<((atS P X' s).length:Int):=by omega
  have jn:=j8.2 _ (qG hlt);have jm:=fun(hm:Q (mvI (atS P X' s)[k]))=>x7u (c:=cd) hs hlt j1.out hm HA.out;have jl:Q4q q (atS P X' s)[k]=cd->Q (mvI (atS P X' s)[k]):=fun e=>jg.out _ ((x9z hs (qG hlt)).imp id (fun z=>⟨z.1,j1.q _ z.2⟩)) e;have jk:Q4q q (atS P X' s)[k]≠cd->∀m∈(atS P X' s).take (k+1),Q4q q m=cd->mvI m∈X':=fun hne m hm e=>by
   rw[Q6g hlt,qU,qM]at hm;rcases hm with hm|rfl
   ·exact HA.out m hm e
   exact absurd e hne
  obtain⟨g,c',hgf⟩:=Joins.ownsRow_form hI.own (by omega);rw[qI]at hgf;obtain⟨rfl,_,rfl⟩:=hgf;have r1:=hI.range k hlt;have j6:=hid jm;have j3:=hid jl;have j2:=hid jk;generalize(atS P X' s)[k]=m at r1 jn j6 j3 j2;have l1:(ldI (.pointer (some ⟨g,k*3,none⟩))).run Tryz.prog wr=.ok (.agg (itA m.p m.d m.f)) wr:=z3a r1;clear r1 jm jl jk hI j8 hA hv HA;obtain⟨hm1,hm2⟩:=jn;go_upto_region 6 with(first
   |(refine z0e rfl 163 _ _ rfl wr _ (itA m.p m.d m.f) _ rfl rfl rfl szIt rfl (y79 _ _ _) ?_))
  have HN:=Q9x wr m 163;have j4:Q0a wr (wr.alloc (.cells (itA m.p m.d m.f) 163 (0,0))):=(mRf _ wr).alloc _;have jc:=z0a wr (.cells (itA m.p m.d m.f) 163 (0,0));generalize(wr.alloc (.cells (itA m.p m.d m.f) 163 (0,0)))=W2 at HN j4 jc ⊢;have l2:(ldI (.pointer (some ⟨wr.heap.size,0,none⟩))).run Tryz.prog W2=.ok (.agg (itA m.p m.d m.f)) W2:=z3a HN;have jh:=hid j4;have jd:=hid jc;have SY:=hid (z5k W2 cb b R H q m (Q0i j4 kx) (HS.fresh (HF.trans j4)) HQ.out hm1 (by omega));clear l1 k1 k2 kx HN j4 jc;go_upto_region 7 with(first
   |(go_at_call 73;refine(SY.out).mono ?_;rintro e W3⟨rfl,hf3⟩;have ji:=hid (jh.trans hf3);have j0:=hid (hf3.at jd.out (fun x=>x));clear hf3))
  have jb:=je.fresh ji.out;have BA:=hid (z1i W3 b R a0 c0 (Q0i (HF.trans ji.out) HK.out) (by omega));have kx:W3.cell? ⟨cb,0,none⟩=some (.pointer (some ⟨b,0,none⟩)):=by
   obtain⟨vs,z⟩:=jb;exact z.x
  have b0:W3.cell? ⟨wr.heap.size,0,none⟩=some (.int .i64 m.p):=Q0b j0.out 0;have b1:W3.cell? ⟨wr.heap.size,1,none⟩=some (.int .i64 m.d):=Q0b j0.out 1;have b2:W3.cell? ⟨wr.heap.size,2,none⟩=some (.int .i64 m.f):=Q0b j0.out 2;have jf:=hid jb;rw[← j9.out]at j2 j3 j6 jo;clear jb l2 SY jh jd j0;generalize hsc:Q4q q m=sc at j2 j3;by_cases heq:sc=bs R+hd
  ·have PU:Hid (Calls Tryz.prog 71 #[.pointer (some ⟨cb,0,none⟩),.agg (itA m.p ((m.d:Int)+1) m.f)] W3 fun e w'=>e=.returned (.bool (!inI X' (mvI m)))/\ChG w0 w' cb gs cap b (P++[Q8m X' (mvI m)])):=hid (y1v w0 W3 cb gs cap b P X' (mvI m) jf.out (by omega) (by omega));have HW:=hid (j6.out (j3.out heq));have j7:=y8h j1.le (mvI m);generalize decide (X.length<X'.length)=mo at j7 ⊢;generalize inI X' (mvI m)=pr at PU j7;have jr:=hid j7;clear j7 j6 j3 j2 hsc;subst heq;cases mo<;>cases pr;all_goals
    go_wp2_with (first
     |(go_at_call 34;refine csm BA.out ?_)
     |(go_at_call 71;refine(PU.out).mono ?_;rintro e W4⟨rfl,hC4⟩;have jq:=hid hC4;clear hC4))
    go_roundw
    case rel=>exact⟨k+1,_,by rw[jr.out];rfl,by go_num,HW.1,jq.out,HW.2.1,by have:=HW.2.2;rw[j9.out]at this;exact this⟩
    exact jj.out
  have ja:=hid (j2.out heq);go_wp2_with (first
   |(go_at_call 34;refine csm BA.out ?_))
  go_roundw
  case rel=>exact⟨k+1,X',rfl,by go_num,by omega,jf.out,j1.out,by have:=ja.out;rw[j9.out]at this;exact this⟩
  exact jj.out
 have s2:¬(k:Int)<((atS P X' s).length:Int):=by omega
 have jp:Hid (∀m∈atS P X' s,Q4q q m=cd->mvI m∈X'):=hid (by
  have:=HA.out;rw[qCh (by omega)]at this;exact this)
 go_wp2;go_ret;exact⟨X',rfl,je.out,j1.out,jp.out⟩
end Go.Proofs.YtcpceafmlgaodaaGreat
