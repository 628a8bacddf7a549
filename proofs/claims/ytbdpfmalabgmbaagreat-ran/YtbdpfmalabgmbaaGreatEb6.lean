import Derived.Test.YtbdpfmalabgmbaaGreatRb3
namespace Go.Proofs.YtbdpfmalabgmbaaGreat
open Go.RowKit
set_option maxRecDepth 99999
set_option maxHeartbeats 0
set_option linter.all false
def Q8s(q:List Q1)(Y:List Itm):Prop:=Y.length<=8540/\∀m∈Y,m.p<q.length/\m.d<=6
def ItQ(q:List Q1)(Q:Itm->Prop):Prop:=∀m,Q m->m.p<q.length/\m.d<=6/\m.f<=60
section
variable {q:List Q1}{Q:Itm->Prop}{P:List (List Itm)}{X X':List Itm}{s:Nat}
theorem Q4y.len(hb:ItQ q Q)(hq:q.length<=20)(hg:Q4y Q X X'):X'.length<=8540:=v0i hg.nd (fun m hm=>by
 have:=hb m (hg.q m hm);exact⟨by omega,this.2⟩)
theorem v2r(hPb:∀Y∈P,Q8s q Y)(hb:ItQ q Q)(hq:q.length<=20)(hs:s<=P.length)(hg:Q4y Q X X'):Q8s q (atS P X' s):=by
 rcases qCk s P.length with h|h
 ·rw[y19 h,qD,qE h];exact hPb _ (qG h)
 obtain rfl:s=P.length:=by omega
 rw[z2o];exact⟨hg.len hb hq,fun m hm=>⟨(hb m (hg.q m hm)).1,(hb m (hg.q m hm)).2.1⟩⟩
theorem x8f{c:Int}{k:Nat}(hs:s<=P.length)(hk:k<(atS P X' s).length)(hg:Q4y Q X X')(hm:Q (mvI (atS P X' s)[k]))(ha:∀m∈(atS P X' s).take k,Q4w q m=c->mvI m∈X') :
  k+1<=(atS P (Q81 X' (mvI (atS P X' s)[k])) s).length/\Q4y Q X (Q81 X' (mvI (atS P X' s)[k]))/\∀m∈(atS P (Q81 X' (mvI (atS P X' s)[k])) s).take (k+1),Q4w q m=c->mvI m∈Q81 X' (mvI (atS P X' s)[k]):=by
 have h2:=hg.refl.put hm;obtain⟨Z,e⟩:=x9v (P:=P) hs h2.pre;refine⟨by rw[e,qP];omega,hg.put hm,fun m j0 hc=>?_⟩;rw[e,List.take_append_of_le_length (by omega),Q6e hk,qU,qM]at j0;rcases j0 with j0|rfl
 ·exact h2.mem (ha m j0 hc)
 exact y2r _ _
end
theorem y8v(a b c:Int):(itA a b c).all Value.oneCell'=true:=qCq (cs:=[.int .i64 a,.int .i64 b,.int .i64 c]) (by intro v hv;simp at hv;rcases hv with rfl|rfl|rfl<;>rfl)
attribute [local go_sem ↓] z5n
theorem x8e(w0 w:World)(cb gs cap b R H:Nat)(q:List Q1)(P:List (List Itm))(X:List Itm)(Q:Itm->Prop)(s:Nat)(hd:Int)(hS:Q3q w0 b R H q)(hQ:QOk R H q)(h:ChG w0 w cb gs cap b (P++[X]))(hg:Q4y Q X X)(hP:P.length<=60)(hs:s<=P.length)
  (hPb:∀Y∈P,Q8s q Y) (hb:ItQ q Q) (hd0:0<=hd/\hd<H) (hc:∀m,(m∈P.getD s []∨(s=P.length/\Q m))->Q4w q m=bs R+hd->Q (mvI m)) :
  Calls Tryz.prog 114 #[.pointer (some ⟨cb,0,none⟩),.int .i64 s,.int .i64 hd] w fun e w'=>∃X',e=.returned (.bool (decide (X.length<X'.length)))/\ChG w0 w' cb gs cap b (P++[X'])/\Q4y Q X X'/\∀m∈atS P X' s,Q4w q m=bs R+hd->mvI m∈X':=by
 have j6:=hQ.p20;have k6:=hQ.r8;have k4:=hQ.h8;obtain⟨d1,d2⟩:=hd0;have HS:=hid hS;have HQ:=hid hQ;have HC:=hid h;have HG:=hid hg;have jx:=hid hPb;have HB:=hid hb;have jj:=hid hc;obtain⟨a0,c0,a1,c1,a2,c2,v3,v4,sv,hN⟩:=hS;have HK:=hid hN.k0;have jt:IntKind.i64.wrap (bs R+hd)=bs R+hd:=by rw[qBv];unfold bs;omega
 generalize hcd:bs R+hd=cd at jt jj ⊢;have ja:=hid hcd;clear hQ h hg hPb hb hc hN hcd;go_enter Tryz.func114,Tryz.ntmps114
 go_wp2;go_loopw [7,8,9,10,11] (fun x7 x8 _ _ _ wr=>∃(k:Nat) (X':List Itm),x7=.bool (decide (X.length<X'.length))/\x8=.int .i64 k/\k<=(atS P X' s).length/\ChG w0 wr cb gs cap b (P++[X'])/\Q4y Q X X'/\∀m∈(atS P X' s).take k,Q4w q m=cd->mvI m∈X')
   (fun _ x _ _ _ _=>10001-(intOf x).toNat)
 case atStart=>exact⟨0,X,by simp,rfl,by omega,HC.out,HG.out,fun m hm=>by simp at hm⟩
 obtain⟨k,X',rfl,rfl,hk,hC,hg,ha⟩:=hrel;have j9:=v2r (s:=s) jx.out HB.out j6 hs hg;have k7:=hg.len HB.out j6;have jm:=hid (Q19 (B:=10001) k (by have:=j9.1;omega));obtain⟨vs,a,c,hA,hl,hv,hI⟩:=hC.set hs;have k1:=hA.s;have k2:=hA.at hv;have k3:(vs.length:Int)=(P.length:Int)+1:=by omega
 have k8:(atS P X' s).length<=8540:=j9.1;rw[hl]at k1;have s1:(s:Int)<((P.length+1:Nat):Int):=by omega
 have jh:=hid hC;have j1:=hid hg;have HA:=hid ha;have jy:=hA.fr;have HF:=hid jy;have kx:=hA.x;clear hC hg ha HC HG hl k3;by_cases j5:k<(atS P X' s).length
 ·have s2:(k:Int)<((atS P X' s).length:Int):=by omega
  have js:=j9.2 _ (qG j5);have jq:=fun(hm:Q (mvI (atS P X' s)[k]))=>x8f (c:=cd) hs j5 j1.out hm HA.out;have jp:Q4w q (atS P X' s)[k]=cd->Q (mvI (atS P X' s)[k]):=fun e=>jj.out _ ((v0q hs (qG j5)).imp id (fun z=>⟨z.1,j1.q _ z.2⟩)) e;have jo:Q4w q (atS P X' s)[k]≠cd->∀m∈(atS P X' s).take (k+1),Q4w q m=cd->mvI m∈X':=fun hne m hm e=>by
   rw[Q6e j5,qU,qM]at hm;rcases hm with hm|rfl
   ·exact HA.out m hm e
   exact absurd e hne
  obtain⟨g,c',jr⟩:=Joins.ownsRow_form hI.own (by omega);rw[qI]at jr;obtain⟨rfl,_,rfl⟩:=jr;have r1:=hI.range k j5;have j7:=hid jq;have j3:=hid jp;have j2:=hid jo;generalize(atS P X' s)[k]=m at r1 js j7 j3 j2;have l1:(ldI (.pointer (some ⟨g,k*3,none⟩))).run Tryz.prog wr=.ok (.agg (itA m.p m.d m.f)) wr:=z3g r1;clear r1 jq jp jo hI j9 hA hv HA;obtain⟨jz,k5⟩:=js;go_upto_region 6 with(first
   |(refine z0e rfl 180 _ _ rfl wr _ (itA m.p m.d m.f) _ rfl rfl rfl szIt rfl (y8v _ _ _) ?_))
  have HN:=W0c wr m 180;have j4:Q0a wr (wr.alloc (.cells (itA m.p m.d m.f) 180 (0,0))):=(mRf _ wr).alloc _;have jd:=z0a wr (.cells (itA m.p m.d m.f) 180 (0,0));generalize(wr.alloc (.cells (itA m.p m.d m.f) 180 (0,0)))=W2 at HN j4 jd ⊢;have l2:(ldI (.pointer (some ⟨wr.heap.size,0,none⟩))).run Tryz.prog W2=.ok (.agg (itA m.p m.d m.f)) W2:=z3g HN;have jk:=hid j4;have jg:=hid jd;have SY:=hid (z5q W2 cb b R H q m (Q0h j4 kx) (HS.fresh (HF.trans j4)) HQ.out jz (by omega));clear l1 k1 k2 kx HN j4 jd;go_upto_region 7 with(first
   |(go_at_call 84;refine(SY.out).mono ?_;rintro e W3⟨rfl,jf⟩;have jl:=hid (jk.trans jf);have j0:=hid (jf.at jg.out id);clear jf))
  have jc:=jh.fresh jl.out;have BA:=hid (z1j W3 b R a0 c0 (Q0h (HF.trans jl.out) HK.out) (by omega));have kx:W3.cell? ⟨cb,0,none⟩=some (.pointer (some ⟨b,0,none⟩)):=by
   obtain⟨vs,z⟩:=jc;exact z.x
  have b0:W3.cell? ⟨wr.heap.size,0,none⟩=some (.int .i64 m.p):=Q0b j0.out 0;have b1:W3.cell? ⟨wr.heap.size,1,none⟩=some (.int .i64 m.d):=Q0b j0.out 1;have b2:W3.cell? ⟨wr.heap.size,2,none⟩=some (.int .i64 m.f):=Q0b j0.out 2;have ji:=hid jc;rw[← ja.out]at j2 j3 j7 jt;clear jc l2 SY jk jg j0;generalize hsc:Q4w q m=sc at j2 j3;by_cases je:sc=bs R+hd
  ·have PU:Hid (Calls Tryz.prog 82 #[.pointer (some ⟨cb,0,none⟩),.agg (itA m.p ((m.d:Int)+1) m.f)] W3 fun e w'=>e=.returned (.bool (!inI X' (mvI m)))/\ChG w0 w' cb gs cap b (P++[Q81 X' (mvI m)])):=hid (y2d w0 W3 cb gs cap b P X' (mvI m) ji.out (by omega) (by omega));have HW:=hid (j7.out (j3.out je));have j8:=y84 j1.le (mvI m);generalize decide (X.length<X'.length)=mo at j8 ⊢;generalize inI X' (mvI m)=pr at PU j8;have jw:=hid j8;clear j8 j7 j3 j2 hsc;subst je;cases mo<;>cases pr;all_goals
    go_wp2_with (first
     |(go_at_call 47;refine csm BA.out ?_)
     |(go_at_call 82;refine(PU.out).mono ?_;rintro e W4⟨rfl,jn⟩;have jv:=hid jn;clear jn))
    go_roundw
    case rel=>exact⟨k+1,_,by rw[jw.out];rfl,by go_num,HW.1,jv.out,HW.2.1,by have:=HW.2.2;rw[ja.out]at this;exact this⟩
    exact jm.out
  have jb:=hid (j2.out je);go_wp2_with (first
   |(go_at_call 47;refine csm BA.out ?_))
  go_roundw
  case rel=>exact⟨k+1,X',rfl,by go_num,by omega,ji.out,j1.out,by have:=jb.out;rw[ja.out]at this;exact this⟩
  exact jm.out
 have s2:¬(k:Int)<((atS P X' s).length:Int):=by omega
 have ju:Hid (∀m∈atS P X' s,Q4w q m=cd->mvI m∈X'):=hid (by
  have:=HA.out;rw[qDg (by omega)]at this;exact this)
 go_wp2;go_ret;exact⟨X',rfl,jh.out,j1.out,ju.out⟩
def slN:Option Value->Nat
 |some (.slice _ n _)=>n
 |_=>0
theorem ChG.lenN{w0 w:World}{cb gs cap b:Nat}{P:List (List Itm)}{X:List Itm}(h:ChG w0 w cb gs cap b (P++[X])):slN (w.cell? ⟨gs,P.length,none⟩)=X.length:=by
 obtain⟨vs,a,c,hA,_,hv,_⟩:=h.set (qR _);rw[hA.at hv,z2o];rfl
structure Q6i(R:Nat)(q:List Q1)(P:List (List Itm))(X:List Itm)(m:Itm):Prop where
 pred:∀(p:Nat) (x:Q1),q[p]? = some x->Q4w q m=bs R+x.1->(⟨p,0,P.length⟩:Itm)∈X
 comp:Q4w q m<0->∀x:Q1,q[m.p]? = some x->∀m'∈atS P X m.f,Q4w q m'=bs R+x.1->mvI m'∈X
structure FillQ(R:Nat)(q:List Q1)(P:List (List Itm))(Q:Itm->Prop):Prop where
 b:ItQ q Q
 f:∀m,Q m->m.f<=P.length
 pred:∀(m:Itm) (p:Nat) (x:Q1),Q m->q[p]? = some x->Q4w q m=bs R+x.1->Q ⟨p,0,P.length⟩
 comp:∀(m:Itm) (x:Q1) (m':Itm),Q m->Q4w q m<0->q[m.p]? = some x->(m'∈P.getD m.f []∨(m.f=P.length/\Q m'))->Q4w q m'=bs R+x.1->Q (mvI m')
section
variable {R:Nat}{q:List Q1}{P:List (List Itm)}{Q:Itm->Prop}
theorem x1d{X0 X2 X4:List Itm}{k:Nat}(h2:Q4y Q X0 X2)(h4:Q4y Q X2 X4)(hk:k<X2.length)(hd:X2.length=X0.length->∀m∈X0.take k,Q6i R q P X0 m)
  (hA:X4.length=X0.length->Q4w q X2[k]<0->∀x:Q1,q[X2[k].p]? = some x->∀m'∈atS P X0 X2[k].f,Q4w q m'=bs R+x.1->mvI m'∈X0)
  (hB:∀(p:Nat) (x:Q1),q[p]? = some x->Q4w q X2[k]=bs R+x.1->(⟨p,0,P.length⟩:Itm)∈X4) :
  X4.length=X0.length->∀m∈X0.take (k+1),Q6i R q P X0 m:=by
 intro hl m hm;have l2:=h2.le;have l4:=h4.le;have e2:=h2.same (by omega);have e4:=h4.same (by omega);subst e4;subst e2;rw[Q6e hk,qU,qM]at hm;rcases hm with hm|rfl
 ·exact hd rfl m hm
 exact⟨hB,hA rfl⟩
end
attribute [local go_sem ↓] z5n
theorem y8j(w0 w:World)(cb gs cap b R H:Nat)(q:List Q1)(P:List (List Itm))(X:List Itm)(Q:Itm->Prop)(hS:Q3q w0 b R H q)(hQ:QOk R H q)(h:ChG w0 w cb gs cap b (P++[X]))(hg:Q4y Q X X)(hP:P.length<=60)
  (hPb:∀Y∈P,Q8s q Y) (hF:FillQ R q P Q) :
  Calls Tryz.prog 83 #[.pointer (some ⟨cb,0,none⟩)] w fun e w'=>e=.returned (.tuple #[])/\∃X',ChG w0 w' cb gs cap b (P++[X'])/\Q4y Q X X'/\∀m∈X',Q6i R q P X' m:=by
 have jk:=hQ.p20;have xm:=hQ.r8;have xj:=hQ.h8;have HS:=hid hS;have HQ:=hid hQ;have HG:=hid hg;have x7:=hid hPb;have j5:=hid hF;have HC:=hid h;obtain⟨a0,c0,a1,c1,a2,c2,v3,v4,sv,hN⟩:=hS;have HN:=hid hN;obtain⟨vs,hA⟩:=h;have k1:=hA.s;have hl:vs.length=P.length+1:=by rw[hA.len];simp
 rw[hl]at k1;generalize hp:P.length=n at hP hl k1;have j1:=hid hp;have xp:IntKind.i64.wrap (((n+1:Nat):Int)-1)=(n:Int):=by rw[qBv];omega
 clear hQ hg hPb hF hN hA hp hl;go_enter Tryz.func83,Tryz.ntmps83
 go_wp2;go_loopw [3,4,5,6,7,8,9] (fun x3 _ _ _ _ _ _ wr=>∃(mo:Bool) (X0:List Itm),x3=.bool mo/\ChG w0 wr cb gs cap b (P++[X0])/\Q4y Q X X0/\(mo=false->∀m∈X0,Q6i R q P X0 m))
   (fun x3 _ _ _ _ _ _ wr=>2*(10000-slN (wr.cell? ⟨gs,n,none⟩))+Q8d x3)
 case atStart=>exact⟨true,X,rfl,HC.out,HG.out,fun e=>by cases e⟩
 obtain⟨mo,X0,rfl,jx,kr,kp⟩:=hrel;have jr:=hid jx;have jv:=hid kr;have kb:=hid kp;have x5:Hid (slN (wr.cell? ⟨gs,n,none⟩)=X0.length):=hid (by rw[← j1.out];exact jx.lenN);clear jx kr kp HC HG k1;cases mo
 ·go_wp2;exact qFf (qDe rfl _ _ _) rfl ⟨rfl,X0,jr.out,jv.out,kb.out (by first|rfl|trivial)⟩
 clear kb;go_wp2;go_loopw [3,4,5,6,7,8,9] (fun x3 x4 _ _ _ _ _ wr=>∃(k:Nat) (X2:List Itm),x3=.bool (decide (X0.length<X2.length))/\x4=.int .i64 k/\k<=X2.length/\ChG w0 wr cb gs cap b (P++[X2])/\Q4y Q X0 X2/\(X2.length=X0.length->∀m∈X0.take k,Q6i R q P X0 m))
   (fun _ x _ _ _ _ _ _=>10001-(intOf x).toNat)
 case atStart=>exact⟨0,X0,by simp,rfl,by omega,jr.out,jv.refl,fun _ m hm=>by simp at hm⟩
 obtain⟨k,X2,rfl,rfl,hk,jy,k6,kq⟩:=hrel;have xo:=k6.len j5.b jk;have ke:=hid (Q19 (B:=10001) k (by omega));have jn:=hid jy;have j0:=hid k6;have js:=hid kq;obtain⟨vs,a,c,hA,hl,hv,hI⟩:=jy.set (qR _);rw[z2o]at hv hI;have k1:=hA.s;have k2:=hA.at hv;have kx:=hA.x;have HF:=hid hA.fr;rw[hl,j1.out]at k1;rw[j1.out]at k2;have s1:(n:Int)<((n+1:Nat):Int):=by omega
 clear jy k6 kq jr;by_cases k8:k<X2.length
 ·have s2:(k:Int)<(X2.length:Int):=by omega
  obtain⟨g,c',ku⟩:=Joins.ownsRow_form hI.own (by omega);rw[qI]at ku;obtain⟨rfl,_,rfl⟩:=ku;have r1:=hI.range k k8;have jh:=j0.q _ (qG k8);have km:=fun(X4:List Itm) (h4:Q4y Q X2 X4)=>x1d (R:=R) (q:=q) (P:=P) j0.out h4 k8 js.out;have kh:=hid km;generalize X2[k]=m at r1 jh kh;have l1:(ldI (.pointer (some ⟨g,k*3,none⟩))).run Tryz.prog wr=.ok (.agg (itA m.p m.d m.f)) wr:=z3g r1;have xg:=j5.b m jh;have kw:=j5.f m jh;rw[j1.out]at kw;have kg:=hid jh;clear r1 km hI hA hv js hl jh;obtain⟨jp,xk,xl⟩:=xg;go_upto_region 8 with(first
   |(refine z0e rfl 180 _ _ rfl wr _ (itA m.p m.d m.f) _ rfl rfl rfl szIt rfl (y8v _ _ _) ?_))
  have k3:=W0c wr m 180;have ji:Q0a wr (wr.alloc (.cells (itA m.p m.d m.f) 180 (0,0))):=(mRf _ wr).alloc _;have k4:=z0a wr (.cells (itA m.p m.d m.f) 180 (0,0));generalize(wr.alloc (.cells (itA m.p m.d m.f) 180 (0,0)))=W2 at k3 ji k4 ⊢;have l2:(ldI (.pointer (some ⟨wr.heap.size,0,none⟩))).run Tryz.prog W2=.ok (.agg (itA m.p m.d m.f)) W2:=z3g k3;have kc:=hid ji;have ka:=hid k4;have SY:=hid (z5q W2 cb b R H q m (Q0h ji kx) (HS.fresh (HF.trans ji)) HQ.out jp (by omega));clear l1 k1 k2 kx k3 ji k4;go_upto_if 43 with(first
   |(go_at_call 84;refine(SY.out).mono ?_;rintro e W3⟨rfl,k5⟩;have jt:=hid (kc.trans k5);have j2:=hid (k5.at ka.out id);clear k5))
  have jo:=hid (jn.fresh jt.out);have kd:=hid (HF.trans jt.out);have xb:∃x,q[m.p]? = some x:=⟨_,qE jp⟩;obtain⟨x,hx⟩:=xb;have HX:=hid hx;have xe:=HQ.hd x (qAi hx);clear hx l2 SY kc ka jn;generalize jc:decide (X0.length<X2.length)=mo;have je:=hid jc;generalize jl:Q4w q m=sc;have jf:=hid jl;clear jc jl;go_cut [3,7] (fun s3 _ wx=>∃X3,s3=.bool (decide (X0.length<X3.length))/\ChG w0 wx cb gs cap b (P++[X3])/\Q4y Q X2 X3/\(sc<0->∀m'∈atS P X3 m.f,Q4w q m'=bs R+x.1->mvI m'∈X3))
  case first =>
   by_cases jj:sc<0
   ·obtain⟨vs,hA⟩:=jo.out;have kx:=hA.x;have x9:=(HN.fresh kd.out).pr jp;obtain⟨g3,o3,c3,g4,o4,n4,c4,al,cl,j9⟩:=x9;have q3:=j9.q3;have y3:=j9.y3;have ex:q[m.p]=x:=by have:=HX.out;rw[qE jp]at this;injection this
    rw[ex]at y3;have b0:W3.cell? ⟨wr.heap.size,0,none⟩=some (.int .i64 m.p):=Q0b j2.out 0;have b2:W3.cell? ⟨wr.heap.size,2,none⟩=some (.int .i64 m.f):=Q0b j2.out 2;have s4:(m.p:Int)<(q.length:Int):=by omega
    have WT:=hid (fun W (hW:Q0a W3 W)=>x8e w0 W cb gs cap b R H q P X2 Q m.f x.1 HS.out HQ.out (jo.fresh hW) j0.refl (by rw[j1.out];exact hP) (by rw[j1.out];exact kw) x7.out j5.b xe (fun m' h1 h2=>j5.comp m x m' kg.out (by rw[jf.out];exact jj) HX.out h1 h2));clear hA j9 j2 ex;cases mo;all_goals
     go_wp2_with fail
     go_region_with (first
      |(go_at_call 114;refine(WT.out _ (mRf _ W3).drew).mono ?_;rintro e W4⟨X3,rfl,jg,j4,ko⟩;have ja:=hid jg;have j3:=hid j4;have kz:=hid ko;clear jg j4 ko))
     all_goals
      go_wp2_with fail
      go_meet;exact⟨X3,by rw[x0o j0.out j3.out,je.out];rfl,ja.out,j3.out,fun _=>kz.out⟩
   have x6:=hid jj;go_wp2_with fail
   go_meet;exact⟨X2,by rw[je.out],jo.out,j0.refl,fun e=>absurd e (by have:=x6.out;omega)⟩
  obtain⟨X3,rfl,kj,ks,kn⟩:=hcut;have jd:=hid kj;have j7:=hid ks;have ky:=hid kn;clear jo kj ks kn j2 je mo kd jt HF;go_wp2;go_loopw [3,8,9] (fun x3 x8 _ wr=>∃(p:Nat) (X4:List Itm),x3=.bool (decide (X0.length<X4.length))/\x8=.int .i64 p/\p<=q.length/\ChG w0 wr cb gs cap b (P++[X4])/\Q4y Q X3 X4/\∀(p':Nat) (z:Q1),p'<p->q[p']? = some z->sc=bs R+z.1->(⟨p',0,P.length⟩:Itm)∈X4)
    (fun _ x _ _=>1001-(intOf x).toNat)
  case atStart=>exact⟨0,X3,rfl,rfl,by omega,jd.out,j7.refl,fun p' z h=>absurd h (by omega)⟩
  obtain⟨p,X4,rfl,rfl,hp,jg,j4,ki⟩:=hrel;have xn:=j4.len j5.b jk;have kf:=hid (Q19 (B:=1001) p (by omega));have ja:=hid jg;have j3:=hid j4;have k9:=hid ki;obtain⟨vs,hA⟩:=jg;have kx:=hA.x;have jb:=HN.fresh hA.fr;have z0:=jb.k0;have z1:=jb.k1;have BA:=hid (z1j wr b R a0 c0 z0 (by omega));have BQ:=hid (fun n=>z1j (wr.drewN n) b R a0 c0 (Q0h (Q0v wr n) z0) (by omega));have jz:=(j0.trans j7.out).trans j4;have j6:=hid jz;have jq:Hid ((∀(p':Nat) (z:Q1),q[p']? = some z->sc=bs R+z.1->(⟨p',0,P.length⟩:Itm)∈X4)->X4.length=X0.length->∀m∈X0.take (k+1),Q6i R q P X0 m):=hid (fun hB=>kh.out X4 (j7.trans j4) (fun hl hn y hy=>by
   have l3:=(j0.trans j7.out).le;have l4:=j4.le;have e3:=(j0.trans j7.out).same (by omega);rw[HX.out]at hy;injection hy with hy;subst hy;have:=ky.out (by rw[← jf.out];exact hn);rw[e3]at this;exact this) (fun p' z hz e=>hB p' z hz (by rw[← jf.out];exact e)))
  clear jd hA j4 ki;by_cases k7:p<q.length
  ·have s5:(p:Int)<(q.length:Int):=by omega
   by_cases kt:bs R<=sc
   ·have xa:=jb.pr k7;obtain⟨g3,o3,c3,g4,o4,n4,c4,al,cl,j9⟩:=xa;have q3:=j9.q3;have y3:=j9.y3;have hz:q[p]? = some q[p]:=qE k7;have jm:Hid (∀X5,Q4y Q X4 X5->(sc=bs R+q[p].1->(⟨p,0,P.length⟩:Itm)∈X5)->∀(p':Nat) (z:Q1),p'<p+1->q[p']? = some z->sc=bs R+z.1->(⟨p',0,P.length⟩:Itm)∈X5):=hid (fun X5 h5 hin p' z hp' hz' e=>by
     rcases qCk p' p with r|r
     ·exact h5.mem (k9.out p' z r hz' e)
     obtain rfl:p'=p:=by omega
     rw[hz]at hz';injection hz' with hz';subst hz';exact hin e)
    have xf:=HQ.hd q[p] (qG k7);have kl:sc=bs R+q[p].1->Q ⟨p,0,P.length⟩:=fun e=>j5.pred m p q[p] kg.out hz (by rw[jf.out];exact e);have jw:=hid kl;have xh:sc<=1000:=by
     rw[← jf.out];unfold Q4w;rw[HX.out];show(x.2[m.d]?).getD (-1)<=1000;cases hxd:x.2[m.d]? with
     |none=>simp
     |some y=>have:=(HQ.sy x (qAi HX.out)).2 y (qAi hxd);simp;omega
    generalize q[p]=y at y3 jm xf jw;have xq:IntKind.i64.wrap (sc-bs R)=sc-bs R:=by rw[qBv];unfold bs at kt ⊢;omega
    clear j9 jb hz kl;by_cases xc:y.1=sc-bs R
    ·have jl:sc=bs R+y.1:=by omega
     have PU:Hid (∀W,Q0a wr W->Calls Tryz.prog 82 #[.pointer (some ⟨cb,0,none⟩),.agg (itA p 0 n)] W fun e w'=>e=.returned (.bool (!inI X4 ⟨p,0,n⟩))/\ChG w0 w' cb gs cap b (P++[Q81 X4 ⟨p,0,n⟩])):=hid (fun W hW=>y2d w0 W cb gs cap b P X4 ⟨p,0,n⟩ (ja.fresh hW) (by rw[j1.out];omega) (by omega));have j8:=hid (jw.out jl);have jc:=y84 j6.le ⟨p,0,n⟩;generalize decide (X0.length<X4.length)=mo at jc ⊢;have je:=hid jc;rw[j1.out]at j8 jm;clear jc jw jq jl;cases mo;all_goals
      go_wp2_with (first
       |(go_at_call 47;refine csm BA.out ?_))
      go_quiet (first|(go_at_call 47;refine Calls.quiet_of_same (BQ.out _)));go_wp2_with (first
       |(go_at_call 82;refine(PU.out _ (Q0v _ _)).mono ?_;rintro e W5⟨rfl,kk⟩;have x1:=hid kk;clear kk))
      go_roundw
      case rel=>exact⟨p+1,_,by rw[je.out];rfl,by go_num,by omega,x1.out,j3.put j8.out,by rw[j1.out];exact jm.out _ (j3.refl.put j8.out) (fun _=>y2r _ _)⟩
      exact kf.out
    have x0:=hid (jm.out X4 j3.refl (fun e=>absurd (by omega:y.1=sc-bs R) xc));go_wp2_with (first
     |(go_at_call 47;refine csm BA.out ?_))
    go_quiet (first|(go_at_call 47;refine Calls.quiet_of_same (BQ.out _)));go_wp2;go_roundw
    case rel=>exact⟨p+1,X4,rfl,by go_num,by omega,ja.fresh (Q0v _ _),j3.out,x0.out⟩
    exact kf.out
   have ju:=hid (jq.out (fun p' z hz e=>by
    have:=(HQ.hd z (qAi hz)).1;omega))
   have xd:¬bs R<=sc:=kt;clear jb;go_wp2_with (first
    |(go_at_call 47;refine csm BA.out ?_))
   go_roundw
   case rel=>exact⟨k+1,X4,rfl,by go_num,by have:=(j7.trans j3.out).le;omega,ja.out,j6.out,ju.out⟩
   exact ke.out
  have s5:¬(p:Int)<(q.length:Int):=by omega
  have ju:=hid (jq.out (fun p' z hz e=>k9.out p' z (by have:=(qS hz).1;omega) hz e));clear jb;go_wp2;go_roundw
  case rel=>exact⟨k+1,X4,rfl,by go_num,by have:=(j7.trans j3.out).le;omega,ja.out,j6.out,ju.out⟩
  exact ke.out
 have s2:¬(k:Int)<(X2.length:Int):=by omega
 have x2:Hid (decide (X0.length<X2.length)=false->∀m∈X2,Q6i R q P X2 m):=hid (fun e m hm=>by
  have e1:¬X0.length<X2.length:=of_decide_eq_false e;have l:=j0.le;have e2:=j0.same (by omega);have:=js.out (by omega);rw[qDg (by omega)]at this;rw[e2]at hm ⊢;exact this m hm)
 have xi:=j0.le;clear hI hA hv;go_wp2;go_roundw
 case rel=>exact⟨_,X2,rfl,jn.out,jv.trans j0.out,x2.out⟩
 have z1:=x5.out;have z2:=jn.lenN;rw[j1.out]at z2;rw[z1,z2];by_cases kv:X0.length<X2.length
 ·rw[qCj kv];show 2*(10000-X2.length)+1<2*(10000-X0.length)+1;omega
 rw[qCa kv];show 2*(10000-X2.length)+0<2*(10000-X0.length)+1;omega
def Q4n(q:List Q1)(c:Int)(l:List Itm):List Itm:=(l.filter (fun m=>Q4w q m==c)).map mvI
theorem x0r(q:List Q1)(c:Int)(l:List Itm)(m:Itm):Q4n q c (l++[m])=Q4n q c l++(if Q4w q m=c then [mvI m] else []):=by
 unfold Q4n;rw[qBx,qBp];by_cases h:Q4w q m=c
 ·rw[qAb h];simp[h]
 rw[qAa h];simp[h]
theorem x31(q:List Q1)(c:Int)(l:List Itm):(Q4n q c l).length<=l.length:=by
 unfold Q4n;rw[qAv];exact qCc _ _
theorem z6m{q:List Q1}{c:Int}{l:List Itm}{y:Itm}:y∈Q4n q c l↔∃m∈l,Q4w q m=c/\mvI m=y:=by
 unfold Q4n;rw[qBj];constructor
 ·rintro⟨m,h1,h2⟩;rw[qDi,qBi]at h1;exact⟨m,h1.1,h1.2,h2⟩
 rintro⟨m,h1,h2,h3⟩;exact⟨m,by rw[qDi,qBi];exact⟨h1,h2⟩,h3⟩
theorem x64{q:List Q1}{c:Int}{l:List Itm}(h:l.Nodup):(Q4n q c l).Nodup:=by
 unfold Q4n List.Nodup at *;rw[List.pairwise_map];refine(List.Pairwise.filter _ h).imp ?_;intro a b j0 e;apply j0;obtain⟨a1,a2,a3⟩:=a;obtain⟨b1,b2,b3⟩:=b;simp only[mvI,Itm.mk.injEq]at e ⊢;omega
theorem infoIts:(Tryz.prog.info? 181).map (fun i=>(i.zero,i.size,i.bytes))=some (some (.slice none 0 0),1,24):=by kernel_rfl
theorem Q96:∃i,Tryz.prog.info? 181=some i/\i.zero=some (.slice none 0 0)/\i.size=1/\i.bytes=24:=nfoE infoIts
theorem Q63{α:Type}{l:List α}{a u:α}{k:Nat}(h:(l++[a])[k]? = some u):(k<l.length/\l[k]? = some u)∨(k=l.length/\u=a):=by
 rcases qCk k l.length with q|q
 ·rw[qAl q]at h;exact .inl ⟨q,h⟩
 rw[qAr q]at h;have:=(qS h).1;simp at this;have e:k=l.length:=by omega
 subst e;simp at h;exact .inr ⟨rfl,h.symm⟩
theorem Q78.push{w0 w W w2:World}{cb gs cap b:Nat}{vs:List Value}{L:List (List Itm)}{v v':Value}{X:List Itm}(h:Q78 w0 w cb gs cap b vs L)(hf:Q0a w W)(hI:ItsAt W v X)(hvb:∀g,v.ownBlock=some g->w.heap.size<=g)
  (ho:w2.ownsRow 0 181 1 v' (vs.length+1) (vs++[v])) (hg:W.grownBy w2 (some gs)) (hb:∀k,v'.ownBlock=some k->(some gs:Option Nat)=some k∨W.heap.size<=k) :
  ∃gs' cap',Q78 w0 (w2.setCell ⟨cb,1,none⟩ v') cb gs' cap' b (vs++[v]) (L++[X]):=by
 obtain⟨gs',cap',e⟩:=Joins.ownsRow_form ho (by omega);subst e;have j9:gs<w.heap.size:=(h.row.lt gs rfl).2;have j5:cb<w.heap.size:=z0j h.c;have j8:=hf.size;have j6:=h.fr.size;have j7:=hg.size;have j4:=hb gs' rfl;have keep:∀x,x<W.heap.size->x≠gs->w2.heap[x]? = W.heap[x]? := fun x hx hne=>hg.block x hx (fun e=>hne (by injection e));have j0:∀x,x<w.heap.size->x≠gs->w2.heap[x]? = w.heap[x]? := fun x hx hne=>(keep x (by omega) hne).trans (hf.block x hx (fun q=>q));have j2:gs'=gs∨W.heap.size<=gs':=by
  rcases j4 with q|q
  ·injection q with q;exact .inl q.symm
  exact .inr q
 have j1:gs'≠cb:=by
  rcases j2 with q|q
  ·rw[q];exact h.ne
  omega
 have F:Q0a w0 w2:=⟨hg.os.trans (hf.os.trans h.fr.os),hg.tape.trans (hf.tape.trans h.fr.tape),hg.output.trans (hf.output.trans h.fr.output),by omega,fun x hx _=>by
  rw[j0 x (by omega) (fun e=>by have:=h.gB;omega)];exact h.fr.block x hx (fun q=>q)⟩
 have j3:∀(k:Nat) (u:Value) (g:Nat),vs[k]? = some u->u.ownBlock=some g->g<w.heap.size:=fun k u g hu hg'=>by
  have hl:k<L.length:=by rw[← h.len];exact(qS hu).1
  exact((h.each k u _ hu (qE hl)).own.lt g hg').2
 refine⟨gs',cap',F.setCell (p:=⟨cb,1,none⟩) (fun hlt=>absurd hlt (by have:=h.cB;dsimp only;omega)) _,?_,h.cB,?_,j1,?_,by simp[h.len],fun k u Y h1 h2=>?_,fun k u g h1 h2=>?_,fun j k u u' g h1 h2 h3 h4=>?_⟩
 ·rw[zhs (by rw[j0 cb j5 (fun e=>h.ne e.symm)];exact h.c) 1,qP];rfl
 ·rcases j2 with q|q
  ·rw[q];exact h.gB
  omega
 ·rw[qP];exact z0d ho (fun g e=>by cases e;exact heap_setCell_other _ j1)
 ·rcases Q63 h1 with⟨q1,q2⟩|⟨q1,q2⟩
  ·rw[qAl (by rw[← h.len];exact q1)]at h2;have hE:=h.each k u Y q2 h2;refine⟨z0d hE.own (fun g e=>?_),hE.wf⟩;have hl:=h.low k u g q2 e;rw[heap_setCell_other _ hl.2.1];exact j0 g (hE.own.lt g e).2 hl.2.2
  subst q2;rw[q1,h.len,qAr (qR _),qEm]at h2;simp at h2;subst h2;refine⟨z0d hI.own (fun g e=>?_),hI.wf⟩;have:=hvb g e;rw[heap_setCell_other _ (by dsimp only;omega)];exact keep g (hI.own.lt g e).2 (by omega)
 ·rcases Q63 h1 with⟨q1,q2⟩|⟨q1,q2⟩
  ·have hl:=h.low k u g q2 h2;have:=j3 k u g q2 h2;refine⟨hl.1,hl.2.1,fun e=>?_⟩;rcases j2 with q|q
   ·exact hl.2.2 (e.trans q)
   omega
  subst q2;have h5:=hvb g h2;have h6:=(hI.own.lt g h2).2;exact⟨by omega,by omega,fun e=>by rcases j2 with q|q<;>omega⟩
 rcases Q63 h1 with⟨q1,q2⟩|⟨q1,q2⟩<;>rcases Q63 h2 with⟨q3,q4⟩|⟨q3,q4⟩
 ·exact h.sep j k u u' g q2 q4 h3 h4
 ·subst q4;have:=hvb g h4;have:=j3 j u g q2 h3;omega
 ·subst q2;have:=hvb g h3;have:=j3 k u' g q4 h4;omega
 omega
def TkRet(w0:World)(cb gs cap b R:Nat)(q:List Q1)(P:List (List Itm))(X:List Itm)(c:Int)(Q:Itm->Prop)(e:Ending)(w':World):Prop :=
 (Q4n q c X=[]/\e=.returned (.bool false)/\ChG w0 w' cb gs cap b (P++[X]))∨(Q4n q c X≠[]/\e=.returned (.bool true)/\∃gs' cap' X',ChG w0 w' cb gs' cap' b ((P++[X])++[X'])/\Q4y Q (Q4n q c X) X'/\∀m∈X',Q6i R q (P++[X]) X' m)
attribute [local go_sem ↓] z5n
theorem x2i(w0 w:World)(cb gs cap b R H:Nat)(q:List Q1)(P:List (List Itm))(X:List Itm)(c:Int)(Q:Itm->Prop)(hS:Q3q w0 b R H q)(hQ:QOk R H q)(h:ChG w0 w cb gs cap b (P++[X]))(hX:X.Nodup)(hP:P.length<60)
  (hPb:∀Y∈P++[X],Q8s q Y) (hF:FillQ R q (P++[X]) Q) (hsc:∀m∈X,Q4w q m=c->Q (mvI m)) :
  Calls Tryz.prog 50 #[.pointer (some ⟨cb,0,none⟩),.int .i64 c] w fun e w'=>TkRet w0 cb gs cap b R q P X c Q e w':=by
 obtain⟨i0,kj,ku,kv,kw⟩:=infoIt';obtain⟨i1,kl,kr,ks,kt⟩:=Q96;obtain⟨vs,a,cp,hA,hl,hv,hI⟩:=h.set (qR _);rw[z2o]at hv hI;have ji:=hPb X (by simp);have x5:=ji.1;have HA:=hid hA;have HC:=hid h;have HS:=hid hS;have HQ:=hid hQ;have HV:=hid hv;have HI:=hid hI;have x0:cb<w.heap.size:=z0j hA.c;have x1:gs<w.heap.size:=(hA.row.lt gs rfl).2;have k1:=hA.s;rw[hl]at k1;have jw:=hid ji.2;have FI:Hid (∀(W:World) (j6 j2:Nat),ChG w0 W cb j6 j2 b ((P++[X])++[Q4n q c X])->Calls Tryz.prog 83 #[.pointer (some ⟨cb,0,none⟩)] W fun e w'=>e=.returned (.tuple #[])/\∃X',ChG w0 w' cb j6 j2 b ((P++[X])++[X'])/\Q4y Q (Q4n q c X) X'/\∀m∈X',Q6i R q (P++[X]) X' m):=hid (fun W j6 j2 hW=>y8j w0 W cb j6 j2 b R H q (P++[X]) (Q4n q c X) Q hS hQ hW ⟨⟨[],by simp⟩,x64 hX,fun m hm=>by
  obtain⟨y,y1,y2,rfl⟩:=z6m.1 hm;exact hsc y y1 y2⟩ (by simp;omega) hPb hF)
 generalize hp:P.length=n at hP hl k1 HV hv;have ky:=hid hp;have jf:=hid hl;have x8:IntKind.i64.wrap (((n+1:Nat):Int)-1)=(n:Int):=by rw[qBv];omega
 have s1:(n:Int)<((n+1:Nat):Int):=by omega
 generalize hNF:Q4n q c X=NF at FI;have ja:=hid hNF;clear hA hv hI h hS hQ ji hPb hF hsc hp hX hNF hl;go_enter Tryz.func50,Tryz.ntmps50
 go_wp2;go_loopw [6,7,8,9] (fun x6 x7 _ _ wr=>∃(k:Nat) (N:List Itm),x7=.int .i64 k/\k<=X.length/\N=Q4n q c (X.take k)/\wr.ownsRow w.heap.size 180 3 x6 N.length (Q0y Itm.cells N)/\Q0a w wr)
   (fun _ x _ _ _=>10001-(intOf x).toNat)
 case atStart=>exact⟨0,[],rfl,by omega,by simp[Q4n],qAh _ _ _ _,mRf _ _⟩
 obtain⟨k,N,rfl,hk,jh,j9,j7⟩:=hrel;have ko:N.length<=8540:=by rw[jh];have:=x31 q c (X.take k);rw[qCo]at this;omega
 have jr:=hid (Q19 (B:=10001) k (by omega));have HO:=hid j9;have HF:=hid j7;have jt:=hid jh;obtain⟨na,nc,kp⟩:=z0c j9;subst kp;have k1:=(HA.fresh j7).s;rw[jf.out]at k1;have k2:=(HA.fresh j7).at HV.out;have kx:=(HA.fresh j7).x;have hI:=HI.fresh j7;have x4:w.heap.size<=wr.heap.size:=j7.size;clear j9 jh;by_cases jc:k<X.length
 ·have s2:(k:Int)<(X.length:Int):=by omega
  obtain⟨g,c',k4⟩:=Joins.ownsRow_form hI.own (by omega);rw[qI]at k4;obtain⟨rfl,_,rfl⟩:=k4;have r1:=hI.range k jc;have k5:=jw.out _ (qG jc);have jn:X.take (k+1)=X.take k++[X[k]]:=Q6e jc;generalize X[k]=m at r1 k5 jn;have l1:(ldI (.pointer (some ⟨g,k*3,none⟩))).run Tryz.prog wr=.ok (.agg (itA m.p m.d m.f)) wr:=z3g r1;have jv:=hid jn;obtain⟨km,x2⟩:=k5;clear r1 hI jn;go_upto_region 7 with(first
   |(refine z0e rfl 180 _ _ rfl wr _ (itA m.p m.d m.f) _ rfl rfl rfl szIt rfl (y8v _ _ _) ?_))
  have jg:=W0c wr m 180;have jb:Q0a wr (wr.alloc (.cells (itA m.p m.d m.f) 180 (0,0))):=(mRf _ wr).alloc _;have jk:=z0a wr (.cells (itA m.p m.d m.f) 180 (0,0));generalize(wr.alloc (.cells (itA m.p m.d m.f) 180 (0,0)))=W2 at jg jb jk ⊢;have l2:(ldI (.pointer (some ⟨wr.heap.size,0,none⟩))).run Tryz.prog W2=.ok (.agg (itA m.p m.d m.f)) W2:=z3g jg;have jp:=hid jb;have jo:=hid jk;have SY:=hid (z5q W2 cb b R H q m (Q0h jb kx) (HS.fresh ((HA.fr.trans j7).trans jb)) HQ.out km (by omega));clear l1 k1 k2 kx jg jb jk j7;go_upto_region 8 with(first
   |(go_at_call 84;refine(SY.out).mono ?_;rintro e W3⟨rfl,jl⟩;have jd:=hid (jp.trans jl);have j3:=hid (jl.at jo.out id);clear jl))
  have b0:W3.cell? ⟨wr.heap.size,0,none⟩=some (.int .i64 m.p):=Q0b j3.out 0;have b1:W3.cell? ⟨wr.heap.size,1,none⟩=some (.int .i64 m.d):=Q0b j3.out 1;have b2:W3.cell? ⟨wr.heap.size,2,none⟩=some (.int .i64 m.f):=Q0b j3.out 2;have je:=hid (z0d HO.out (fun g hg=>jd.block g (HO.lt g hg).2 id));have x3:w.heap.size<=W3.heap.size:=by have:=jd.size;omega
  have jq:=hid (HF.trans jd.out);have j5:=x0r q c (X.take k) m;rw[← jv.out,← jt.out]at j5;generalize hsy:Q4w q m=sc at j5;clear l2 SY jp jo j3 jv;by_cases k0:sc=c
  ·subst k0;rw[qAb rfl]at j5;have j8:=hid j5;clear j5;go_wp2_with (first
    |(at_builtin;refine z0f _ rfl _ _ 181 rfl w.heap.size 180 i0 _ 3 24 Tryz.underlying181 kj ku kv kw rfl (by decide) (.slice na N.length nc) N.length (Q0y Itm.cells N) rfl (qFq je.out _) ⟨W3.heap.size,0,none⟩ 1 1 (mvI m).cells rfl rfl (z0m rfl) (by intro u hu;simp[Itm.cells]at hu;rcases hu with rfl|rfl|rfl<;>rfl) (by unfold maxLen;omega) (by omega) (by simp;omega) ?_;intro v9 w4 j1 j0 j4;have kd:=hid j1;have kb:=hid (Mod.grown (S:=fun _=>False) (jq.alloc _) j0 (fun k hk jc=>by have:=(je.lt k hk).1;omega));clear j1 j0 j4))
   go_roundw
   case rel=>exact⟨k+1,N++[mvI m],by go_num,by omega,j8.symm,by rw[qP,z0v];exact kd.out,kb.out⟩
   exact jr.out
  rw[qAa k0,qBd]at j5;have j8:=hid j5;clear j5;go_wp2;go_roundw
  case rel=>exact⟨k+1,N,by go_num,by omega,j8.symm,je.out,jq.out⟩
  exact jr.out
 have s2:¬(k:Int)<(X.length:Int):=by omega
 have kh:N=NF:=by rw[jt.out,qDg (by omega),ja.out]
 subst kh;cases N with
 |nil =>
  go_wp2;go_ret;exact .inl ⟨ja.out,rfl,HC.fresh HF.out⟩
 |cons y N =>
  have jm:¬(((y::N).length:Int)=0):=by simp;omega
  have js:Hid (y::N≠[]):=hid (by simp);generalize y::N=NF at jm js HO ja FI ko;have ju:=hid (z0d HA.row (fun g hg=>HF.block g (HA.row.lt g hg).2 id));have kn:n<=60:=by omega
  have PU:Hid (∀(o:Obj) (v':Value) (w2:World),w2.ownsRow 0 181 1 v' (vs.length+1) (vs++[.slice na NF.length nc])->(wr.alloc o).grownBy w2 (some gs)->(∀k,v'.ownBlock=some k->(some gs:Option Nat)=some k∨(wr.alloc o).heap.size<=k)->∃j6 j2,ChG w0 (w2.setCell ⟨cb,1,none⟩ v') cb j6 j2 b ((P++[X])++[NF])):=hid (fun o v' w2 h1 h2 h3=>by
   have ki:Q0a w (wr.alloc o):=HF.alloc _;obtain⟨j6,j2,hz⟩:=HA.push ki (v:=.slice na NF.length nc) (X:=NF) (Q18.fresh ⟨z0g HO.out (qBq _),fun x _=>rfl⟩ ((mRf _ wr).alloc _)) (fun g hg=>(HO.lt g hg).1) h1 h2 h3;exact⟨j6,j2,_,hz⟩)
  have k7:Hid (∀(o:Obj) (w2:World),(wr.alloc o).grownBy w2 (some gs)->w2.heap[cb]? = wr.heap[cb]?):=hid (fun o w2 h2=>by
   rw[h2.block cb (by have:=HF.size;simp;omega) (fun e=>by injection e with e;exact HA.ne e.symm)];exact z0s (by omega))
  have jy:wr.heap[cb]? = some (.cells #[.pointer (some ⟨b,0,none⟩),.slice (some ⟨gs,0,none⟩) (n+1:Nat) cap] 177 (0,0)):=by
   have:=(HA.fresh HF.out).c;rw[jf.out]at this;exact this
  have k9:=hid jy;rw[jf.out]at PU ju;clear jy kx hI HO HI jw;go_wp2_with (first
   |(at_builtin;refine z0f _ rfl _ _ 175 rfl 0 181 i1 _ 1 24 Tryz.underlying175 kl kr ks kt rfl (by decide) (.slice (some ⟨gs,0,none⟩) (n+1:Nat) cap) (n+1) vs rfl (qFq ju.out _) ⟨wr.heap.size,0,none⟩ 1 1 [.slice na NF.length nc] rfl rfl (z0m rfl) (by intro u hu;simp at hu;subst hu;rfl) (by unfold maxLen;omega) (by omega) (by omega) ?_;intro v9 w4 j1 j0 j4;obtain⟨kz,kg,k6⟩:=PU.out _ _ _ j1 j0 j4;have ke:=hid k6;have jj:w4.heap[cb]? = _:=(k7.out _ _ j0).trans k9.out;have kk:=Q0b jj 1;have kf:=Q0f jj 1;simp at kk;obtain⟨a9,c9,kq⟩:=z0c j1;clear j1 j0 j4 k6 jj;subst kq)
   |(go_at_call 83;refine(FI.out _ _ _ ke.out).mono ?_;rintro e w5⟨rfl,X',jx,k3,jz⟩;have k8:=hid jx;have kc:=hid k3;have ka:=hid jz;clear jx k3 jz))
  go_ret;refine .inr ⟨by rw[ja.out];exact js.out,rfl,_,_,X',k8.out,?_,ka.out⟩;rw[ja.out];exact kc.out
theorem Q78.init{w0 W w2:World}{cb b:Nat}{v':Value}(hf:Q0a w0 W)(hcb:w0.heap.size<=cb)(hlt:cb<W.heap.size){a:Value}(hc:W.heap[cb]? = some (.cells #[.pointer (some ⟨b,0,none⟩),a] 177 (0,0)))
  (ho:w2.ownsRow w0.heap.size 181 1 v' 1 [.slice none 0 0]) (hg:W.grownBy w2 none) (hb:∀k,v'.ownBlock=some k->W.heap.size<=k) :
  ∃gs cap,Q78 w0 (w2.setCell ⟨cb,1,none⟩ v') cb gs cap b [.slice none 0 0] ([]++[[]]):=by
 obtain⟨gs,cap,e⟩:=Joins.ownsRow_form ho (by omega);subst e;have j1:=hb gs rfl;have j0:=hg.size;have h0:=hf.size;have keep:∀x,x<W.heap.size->w2.heap[x]? = W.heap[x]? := fun x hx=>hg.block x hx (fun e=>by cases e);have F:Q0a w0 w2:=⟨hg.os.trans hf.os,hg.tape.trans hf.tape,hg.output.trans hf.output,by omega,fun x hx _=>by
  rw[keep x (by omega)];exact hf.block x hx (fun q=>q)⟩
 have one:∀(k:Nat) (u:Value),([.slice none 0 0]:List Value)[k]? = some u->k=0/\u=.slice none 0 0:=fun k u h=>by
  rcases k with _|k
  ·simp at h;exact⟨rfl,h.symm⟩
  simp at h
 refine⟨gs,cap,F.setCell (p:=⟨cb,1,none⟩) (fun hlt=>absurd hlt (by dsimp only;omega)) _,?_,hcb,by omega,by omega,?_,by simp,fun k u Y h1 h2=>?_,fun k u g h1 h2=>?_,fun j k u u' g h1 h2 h3 h4=>?_⟩
 ·rw[zhs (by rw[keep cb hlt];exact hc) 1];rfl
 ·exact z0d (z0g ho (qBq _)) (fun g e=>by cases e;exact heap_setCell_other _ (by dsimp only;omega))
 ·obtain⟨rfl,rfl⟩:=one k u h1;simp at h2;subst h2;exact Q18.nil _ _ _ _
 ·obtain⟨rfl,rfl⟩:=one k u h1;cases h2
 obtain⟨rfl,rfl⟩:=one j u h1;cases h3
def CtRet(w:World)(b R:Nat)(q:List Q1)(Q:Itm->Prop)(e:Ending)(w':World):Prop:=∃cb gs cap X',e=.returned (.pointer (some ⟨cb,0,none⟩))/\ChG w w' cb gs cap b ([]++[X'])/\Q4y Q [] X'/\(∀m∈X',Q6i R q [] X' m)/\∀(p:Nat) (x:Q1),q[p]? = some x->x.1=0->(⟨p,0,0⟩:Itm)∈X'
theorem x2b(w:World)(b R H:Nat)(q:List Q1)(Q:Itm->Prop)(hS:Q3q w b R H q)(hQ:QOk R H q)(hF:FillQ R q [] Q)(hi:∀(p:Nat) (x:Q1),q[p]? = some x->x.1=0->Q ⟨p,0,0⟩) :
  Calls Tryz.prog 49 #[.pointer (some ⟨b,0,none⟩)] w fun e w'=>CtRet w b R q Q e w':=by
 obtain⟨i1,jp,jr,js,jt⟩:=Q96;have jc:=hQ.p20;have HS:=hid hS;have HQ:=hid hQ;have jd:=hid hF;have HI:=hid hi;obtain⟨a0,c0,a1,c1,a2,c2,v3,v4,sv,hN⟩:=hS;have HN:=hid hN;have FI:Hid (∀(W:World) (cb gs cap:Nat) (X:List Itm),ChG w W cb gs cap b ([]++[X])->Q4y Q X X->Calls Tryz.prog 83 #[.pointer (some ⟨cb,0,none⟩)] W fun e w'=>e=.returned (.tuple #[])/\∃X',ChG w w' cb gs cap b ([]++[X'])/\Q4y Q X X'/\∀m∈X',Q6i R q [] X' m):=hid (fun W cb gs cap X hW hX=>y8j w W cb gs cap b R H q [] X Q HS.out HQ.out hW hX (by simp) (fun Y hY=>by cases hY) jd.out);have j3:=z0a w (.cells #[.pointer (some ⟨b,0,none⟩),.slice none 0 0] 177);have jb:=Q0f j3 1;have ji:Hid (∀(o:Obj) (v':Value) (w2:World),w2.ownsRow w.heap.size 181 1 v' (0+1) ([]++[.slice none 0 0])->((w.alloc (.cells #[.pointer (some ⟨b,0,none⟩),.slice none 0 0] 177)).alloc o).grownBy w2 (Value.ownBlock (.slice none 0 0))->(∀k,v'.ownBlock=some k->Value.ownBlock (.slice none 0 0)=some k∨((w.alloc (.cells #[.pointer (some ⟨b,0,none⟩),.slice none 0 0] 177)).alloc o).heap.size<=k) ->
   (∃gs cap,ChG w (w2.setCell ⟨w.heap.size,1,none⟩ v') w.heap.size gs cap b ([]++[[]]))/\w2.heap[w.heap.size]? = some (.cells #[.pointer (some ⟨b,0,none⟩),.slice none 0 0] 177 (0,0))):=hid (fun o v' w2 h1 h2 h3=>by
  have hc:((w.alloc (.cells #[.pointer (some ⟨b,0,none⟩),.slice none 0 0] 177)).alloc o).heap[w.heap.size]? = some (.cells #[.pointer (some ⟨b,0,none⟩),.slice none 0 0] 177 (0,0)):=z0b (z0a _ _);constructor
  ·obtain⟨gs,cap,hz⟩:=Q78.init (w0:=w) (b:=b) (((mRf _ w).alloc _).alloc o) (qR _) (z0j hc) hc h1 h2 (fun k hk=>by
    rcases h3 k hk with z|z
    ·cases z
    exact z)
   exact⟨gs,cap,_,hz⟩
  rw[h2.block _ (z0j hc) (fun e=>by cases e)];exact hc)
 clear hQ hF hi hN;go_enter Tryz.func49,Tryz.ntmps49
 go_upto_region 3 with(first
  |(at_builtin;refine z0f _ rfl _ _ 175 rfl w.heap.size 181 i1 _ 1 24 Tryz.underlying175 jp jr js jt rfl (by decide) (.slice none 0 0) 0 [] rfl (qAh _ _ _ _) ⟨w.heap.size+1,0,none⟩ 1 1 [.slice none 0 0] rfl rfl (z13 rfl) (by intro u hu;simp at hu;subst hu;rfl) (by unfold maxLen;omega) (by omega) (by simp;omega) ?_;intro v9 w4 j0 j1 j4;obtain⟨⟨gs,cap,jm⟩,ja⟩:=ji.out _ _ _ j0 j1 j4;have j8:=hid jm;have kk:=Q0b ja 1;have kf:=Q0f ja 1;simp at kk;obtain⟨a9,c9,jq⟩:=z0c j0;clear j0 j1 j4 jm ja;subst jq))
 generalize w4.setCell _ _=W1 at j8 ⊢;clear ji kk kf j3 jb;go_wp2;go_loopw [4] (fun x4 wr=>∃(p:Nat) (X:List Itm),x4=.int .i64 p/\p<=q.length/\ChG w wr w.heap.size gs cap b ([]++[X])/\Q4y Q [] X/\∀(p':Nat) (z:Q1),p'<p->q[p']? = some z->z.1=0->(⟨p',0,0⟩:Itm)∈X)
   (fun x _=>1001-(intOf x).toNat)
 case atStart=>exact⟨0,[],rfl,by omega,j8.out,⟨⟨[],rfl⟩,by simp,fun m hm=>by cases hm⟩,fun p' z h=>absurd h (by omega)⟩
 obtain⟨p,X,rfl,hp,hC,hg,hB⟩:=hrel;have jf:=hid (Q19 (B:=1001) p (by omega));have HC:=hid hC;have HG:=hid hg;have HB:=hid hB;have ju:=hg.len jd.b jc;obtain⟨vs,hA⟩:=hC;have hN:=HN.fresh hA.fr;have z1:=hN.k1;clear j8 hg hB hA;by_cases jl:p<q.length
 ·have s1:(p:Int)<(q.length:Int):=by omega
  obtain⟨g3,o3,c3,g4,o4,n4,c4,al,cl,j9⟩:=hN.pr jl;have q3:=j9.q3;have y3:=j9.y3;have hz:q[p]? = some q[p]:=qE jl;have j5:Hid (∀X5,Q4y Q X X5->(q[p].1=0->(⟨p,0,0⟩:Itm)∈X5)->∀(p':Nat) (z:Q1),p'<p+1->q[p']? = some z->z.1=0->(⟨p',0,0⟩:Itm)∈X5):=hid (fun X5 h5 hin p' z hp' hz' e=>by
   rcases qCk p' p with r|r
   ·exact h5.mem (HB.out p' z r hz' e)
   obtain rfl:p'=p:=by omega
   rw[hz]at hz';injection hz' with hz';subst hz';exact hin e)
  have jh:=hid (HI.out p q[p] hz);generalize q[p]=y at y3 j5 jh;clear j9 hN hz;by_cases h0:y.1=0
  ·have PU:Hid (Calls Tryz.prog 82 #[.pointer (some ⟨w.heap.size,0,none⟩),.agg (itA p 0 0)] wr fun e w'=>e=.returned (.bool (!inI X ⟨p,0,0⟩))/\ChG w w' w.heap.size gs cap b ([]++[Q81 X ⟨p,0,0⟩])):=hid (y2d w wr w.heap.size gs cap b [] X ⟨p,0,0⟩ HC.out (by simp) (by omega));have jg:=hid (jh.out h0);rw[h0]at y3;go_wp2_with (first
    |(go_at_call 82;refine(PU.out).mono ?_;rintro e W5⟨rfl,j2⟩;have j7:=hid j2;clear j2))
   go_roundw
   case rel=>exact⟨p+1,_,by go_num,by omega,j7.out,HG.put jg.out,j5.out _ (HG.refl.put jg.out) (fun _=>y2r _ _)⟩
   exact jf.out
  have j6:=hid (j5.out X HG.refl (fun e=>absurd e h0));go_wp2;go_roundw
  case rel=>exact⟨p+1,X,by go_num,by omega,HC.out,HG.out,j6.out⟩
  exact jf.out
 have s1:¬(p:Int)<(q.length:Int):=by omega
 have jn:=hid (FI.out wr w.heap.size gs cap X HC.out HG.refl);have j6:=hid (fun(p':Nat) (z:Q1) (h1:q[p']? = some z) (h2:z.1=0)=>HB.out p' z (by have:=(qS h1).1;omega) h1 h2);clear hN;go_wp2_with (first
  |(go_at_call 83;refine(jn.out).mono ?_;rintro e w5⟨rfl,X',j2,jk,jj⟩;have j7:=hid j2;have je:=hid jk;have jo:=hid jj;clear j2 jk jj))
 go_ret;exact⟨_,gs,cap,X',rfl,j7.out,HG.trans je.out,jo.out,fun p' z h1 h2=>je.mem (j6.out p' z h1 h2)⟩
end Go.Proofs.YtbdpfmalabgmbaaGreat
