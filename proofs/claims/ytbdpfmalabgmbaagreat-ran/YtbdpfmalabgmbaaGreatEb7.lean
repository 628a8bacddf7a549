import Derived.Test.YtbdpfmalabgmbaaGreatEb2
namespace Go.Proofs.YtbdpfmalabgmbaaGreat
open Go.RowKit
set_option maxRecDepth 99999
set_option maxHeartbeats 0
set_option linter.all false
def slN:Option Value->Nat
 |some (.slice _ n _)=>n
 |_=>0
theorem ChG.lenN{w0 w:World}{cb gs cap b:Nat}{P:List (List Itm)}{X:List Itm}(h:ChG w0 w cb gs cap b (P++[X])):slN (w.cell? ⟨gs,P.length,none⟩)=X.length:=by
 obtain⟨vs,a,c,hA,_,hv,_⟩:=h.set (qR _);rw[hA.at hv,z2o];rfl
structure Q6i(R:Nat)(q:List Q1)(P:List (List Itm))(X:List Itm)(m:Itm):Prop where
 pred:∀(p:Nat) (x:Q1),q[p]? = some x->Q4w q m=bs R+x.1->(⟨p,0,P.length⟩:Itm)∈X
 comp:Q4w q m<0->∀x:Q1,q[m.p]? = some x->∀m'∈atS P X m.f,Q4w q m'=bs R+x.1->mvI m'∈X
structure FillQ(R:Nat)(q:List Q1)(P:List (List Itm))(Q:Itm->Prop):Prop where
 b:ItQ q Q
 f:∀m,Q m->m.f<=P.length
 pred:∀(m:Itm) (p:Nat) (x:Q1),Q m->q[p]? = some x->Q4w q m=bs R+x.1->Q ⟨p,0,P.length⟩
 comp:∀(m:Itm) (x:Q1) (m':Itm),Q m->Q4w q m<0->q[m.p]? = some x->(m'∈P.getD m.f []∨(m.f=P.length/\Q m'))->Q4w q m'=bs R+x.1->Q (mvI m')
section
variable {R:Nat}{q:List Q1}{P:List (List Itm)}{Q:Itm->Prop}
theorem x1d{X0 X2 X4:List Itm}{k:Nat}(h2:Q4y Q X0 X2)(h4:Q4y Q X2 X4)(hk:k<X2.length)(hd:X2.length=X0.length->∀m∈X0.take k,Q6i R q P X0 m)
  (hA:X4.length=X0.length->Q4w q X2[k]<0->∀x:Q1,q[X2[k].p]? = some x->∀m'∈atS P X0 X2[k].f,Q4w q m'=bs R+x.1->mvI m'∈X0)
  (hB:∀(p:Nat) (x:Q1),q[p]? = some x->Q4w q X2[k]=bs R+x.1->(⟨p,0,P.length⟩:Itm)∈X4) :
  X4.length=X0.length->∀m∈X0.take (k+1),Q6i R q P X0 m:=by
 intro hl m hm;have l2:=h2.le;have l4:=h4.le;have e2:=h2.same (by omega);have e4:=h4.same (by omega);subst e4;subst e2;rw[Q6e hk,qU,qM]at hm;rcases hm with hm|rfl
 ·exact hd rfl m hm
 exact⟨hB,hA rfl⟩
end
attribute [local go_sem ↓] z5n
theorem y8j(w0 w:World)(cb gs cap b R H:Nat)(q:List Q1)(P:List (List Itm))(X:List Itm)(Q:Itm->Prop)(hS:Q3q w0 b R H q)(hQ:QOk R H q)(h:ChG w0 w cb gs cap b (P++[X]))(hg:Q4y Q X X)(hP:P.length<=60)
  (hPb:∀Y∈P,Q8s q Y) (hF:FillQ R q P Q) :
  Calls Tryz.prog 83 #[.pointer (some ⟨cb,0,none⟩)] w fun e w'=>e=.returned (.tuple #[])/\∃X',ChG w0 w' cb gs cap b (P++[X'])/\Q4y Q X X'/\∀m∈X',Q6i R q P X' m:=by
 have jk:=hQ.p20;have xm:=hQ.r8;have xj:=hQ.h8;have HS:=hid hS;have HQ:=hid hQ;have HG:=hid hg;have x7:=hid hPb;have j5:=hid hF;have HC:=hid h;obtain⟨a0,c0,a1,c1,a2,c2,v3,v4,sv,hN⟩:=hS;have HN:=hid hN;obtain⟨vs,hA⟩:=h;have k1:=hA.s;have hl:vs.length=P.length+1:=by rw[hA.len];simp
 rw[hl]at k1;generalize hp:P.length=n at hP hl k1;have j1:=hid hp;have xp:IntKind.i64.wrap (((n+1:Nat):Int)-1)=(n:Int):=by rw[qBv];omega
 clear hQ hg hPb hF hN hA hp hl;go_enter Tryz.func83,Tryz.ntmps83
 go_wp2;go_loopw [3,4,5,6,7,8,9] (fun x3 _ _ _ _ _ _ wr=>∃(mo:Bool) (X0:List Itm),x3=.bool mo/\ChG w0 wr cb gs cap b (P++[X0])/\Q4y Q X X0/\(mo=false->∀m∈X0,Q6i R q P X0 m))
   (fun x3 _ _ _ _ _ _ wr=>2*(10000-slN (wr.cell? ⟨gs,n,none⟩))+Q8d x3)
 case atStart=>exact⟨true,X,rfl,HC.out,HG.out,fun e=>by cases e⟩
 obtain⟨mo,X0,rfl,jx,kr,kp⟩:=hrel;have jr:=hid jx;have jv:=hid kr;have kb:=hid kp;have x5:Hid (slN (wr.cell? ⟨gs,n,none⟩)=X0.length):=hid (by rw[← j1.out];exact jx.lenN);clear jx kr kp HC HG k1;cases mo
 ·go_wp2;exact qFf (qDe rfl _ _ _) rfl ⟨rfl,X0,jr.out,jv.out,kb.out (by first|rfl|trivial)⟩
 clear kb;go_wp2;go_loopw [3,4,5,6,7,8,9] (fun x3 x4 _ _ _ _ _ wr=>∃(k:Nat) (X2:List Itm),x3=.bool (decide (X0.length<X2.length))/\x4=.int .i64 k/\k<=X2.length/\ChG w0 wr cb gs cap b (P++[X2])/\Q4y Q X0 X2/\(X2.length=X0.length->∀m∈X0.take k,Q6i R q P X0 m))
   (fun _ x _ _ _ _ _ _=>10001-(intOf x).toNat)
 case atStart=>exact⟨0,X0,by simp,rfl,by omega,jr.out,jv.refl,fun _ m hm=>by simp at hm⟩
 obtain⟨k,X2,rfl,rfl,hk,jy,k6,kq⟩:=hrel;have xo:=k6.len j5.b jk;have ke:=hid (Q19 (B:=10001) k (by omega));have jn:=hid jy;have j0:=hid k6;have js:=hid kq;obtain⟨vs,a,c,hA,hl,hv,hI⟩:=jy.set (qR _);rw[z2o]at hv hI;have k1:=hA.s;have k2:=hA.at hv;have kx:=hA.x;have HF:=hid hA.fr;rw[hl,j1.out]at k1;rw[j1.out]at k2;have s1:(n:Int)<((n+1:Nat):Int):=by omega
 clear jy k6 kq jr;by_cases k8:k<X2.length
 ·have s2:(k:Int)<(X2.length:Int):=by omega
  obtain⟨g,c',ku⟩:=Joins.ownsRow_form hI.own (by omega);rw[qI]at ku;obtain⟨rfl,_,rfl⟩:=ku;have r1:=hI.range k k8;have jh:=j0.q _ (qG k8);have km:=fun(X4:List Itm) (h4:Q4y Q X2 X4)=>x1d (R:=R) (q:=q) (P:=P) j0.out h4 k8 js.out;have kh:=hid km;generalize X2[k]=m at r1 jh kh;have l1:(ldI (.pointer (some ⟨g,k*3,none⟩))).run Tryz.prog wr=.ok (.agg (itA m.p m.d m.f)) wr:=z3g r1;have xg:=j5.b m jh;have kw:=j5.f m jh;rw[j1.out]at kw;have kg:=hid jh;clear r1 km hI hA hv js hl jh;obtain⟨jp,xk,xl⟩:=xg;go_upto_region 8 with(first
   |(refine z0e rfl 180 _ _ rfl wr _ (itA m.p m.d m.f) _ rfl rfl rfl szIt rfl (y8v _ _ _) ?_))
  have k3:=W0c wr m 180;have ji:Q0a wr (wr.alloc (.cells (itA m.p m.d m.f) 180 (0,0))):=(mRf _ wr).alloc _;have k4:=z0a wr (.cells (itA m.p m.d m.f) 180 (0,0));generalize(wr.alloc (.cells (itA m.p m.d m.f) 180 (0,0)))=W2 at k3 ji k4 ⊢;have l2:(ldI (.pointer (some ⟨wr.heap.size,0,none⟩))).run Tryz.prog W2=.ok (.agg (itA m.p m.d m.f)) W2:=z3g k3;have kc:=hid ji;have ka:=hid k4;have SY:=hid (z5q W2 cb b R H q m (Q0h ji kx) (HS.fresh (HF.trans ji)) HQ.out jp (by omega));clear l1 k1 k2 kx k3 ji k4;go_upto_if 43 with(first
   |(go_at_call 84;refine(SY.out).mono ?_;rintro e W3⟨rfl,k5⟩;have jt:=hid (kc.trans k5);have j2:=hid (k5.at ka.out id);clear k5))
  have jo:=hid (jn.fresh jt.out);have kd:=hid (HF.trans jt.out);have xb:∃x,q[m.p]? = some x:=⟨_,qE jp⟩;obtain⟨x,hx⟩:=xb;have HX:=hid hx;have xe:=HQ.hd x (qAi hx);clear hx l2 SY kc ka jn;generalize jc:decide (X0.length<X2.length)=mo;have je:=hid jc;generalize jl:Q4w q m=sc;have jf:=hid jl;clear jc jl;go_cut [3,7] (fun s3 _ wx=>∃X3,s3=.bool (decide (X0.length<X3.length))/\ChG w0 wx cb gs cap b (P++[X3])/\Q4y Q X2 X3/\(sc<0->∀m'∈atS P X3 m.f,Q4w q m'=bs R+x.1->mvI m'∈X3))
  case first =>
   by_cases jj:sc<0
   ·obtain⟨vs,hA⟩:=jo.out;have kx:=hA.x;have x9:=(HN.fresh kd.out).pr jp;obtain⟨g3,o3,c3,g4,o4,n4,c4,al,cl,j9⟩:=x9;have q3:=j9.q3;have y3:=j9.y3;have ex:q[m.p]=x:=by have:=HX.out;rw[qE jp]at this;injection this
    rw[ex]at y3;have b0:W3.cell? ⟨wr.heap.size,0,none⟩=some (.int .i64 m.p):=Q0b j2.out 0;have b2:W3.cell? ⟨wr.heap.size,2,none⟩=some (.int .i64 m.f):=Q0b j2.out 2;have s4:(m.p:Int)<(q.length:Int):=by omega
    have WT:=hid (fun W (hW:Q0a W3 W)=>x8e w0 W cb gs cap b R H q P X2 Q m.f x.1 HS.out HQ.out (jo.fresh hW) j0.refl (by rw[j1.out];exact hP) (by rw[j1.out];exact kw) x7.out j5.b xe (fun m' h1 h2=>j5.comp m x m' kg.out (by rw[jf.out];exact jj) HX.out h1 h2));clear hA j9 j2 ex;cases mo;all_goals
     go_wp2_with fail
     go_region_with (first
      |(go_at_call 114;refine(WT.out _ (mRf _ W3).drew).mono ?_;rintro e W4⟨X3,rfl,jg,j4,ko⟩;have ja:=hid jg;have j3:=hid j4;have kz:=hid ko;clear jg j4 ko))
     all_goals
      go_wp2_with fail
      go_meet;exact⟨X3,by rw[x0o j0.out j3.out,je.out];rfl,ja.out,j3.out,fun _=>kz.out⟩
   have x6:=hid jj;go_wp2_with fail
   go_meet;exact⟨X2,by rw[je.out],jo.out,j0.refl,fun e=>absurd e (by have:=x6.out;omega)⟩
  obtain⟨X3,rfl,kj,ks,kn⟩:=hcut;have jd:=hid kj;have j7:=hid ks;have ky:=hid kn;clear jo kj ks kn j2 je mo kd jt HF;go_wp2;go_loopw [3,8,9] (fun x3 x8 _ wr=>∃(p:Nat) (X4:List Itm),x3=.bool (decide (X0.length<X4.length))/\x8=.int .i64 p/\p<=q.length/\ChG w0 wr cb gs cap b (P++[X4])/\Q4y Q X3 X4/\∀(p':Nat) (z:Q1),p'<p->q[p']? = some z->sc=bs R+z.1->(⟨p',0,P.length⟩:Itm)∈X4)
    (fun _ x _ _=>1001-(intOf x).toNat)
  case atStart=>exact⟨0,X3,rfl,rfl,by omega,jd.out,j7.refl,fun p' z h=>absurd h (by omega)⟩
  obtain⟨p,X4,rfl,rfl,hp,jg,j4,ki⟩:=hrel;have xn:=j4.len j5.b jk;have kf:=hid (Q19 (B:=1001) p (by omega));have ja:=hid jg;have j3:=hid j4;have k9:=hid ki;obtain⟨vs,hA⟩:=jg;have kx:=hA.x;have jb:=HN.fresh hA.fr;have z0:=jb.k0;have z1:=jb.k1;have BA:=hid (z1j wr b R a0 c0 z0 (by omega));have BQ:=hid (fun n=>z1j (wr.drewN n) b R a0 c0 (Q0h (Q0v wr n) z0) (by omega));have jz:=(j0.trans j7.out).trans j4;have j6:=hid jz;have jq:Hid ((∀(p':Nat) (z:Q1),q[p']? = some z->sc=bs R+z.1->(⟨p',0,P.length⟩:Itm)∈X4)->X4.length=X0.length->∀m∈X0.take (k+1),Q6i R q P X0 m):=hid (fun hB=>kh.out X4 (j7.trans j4) (fun hl hn y hy=>by
   have l3:=(j0.trans j7.out).le;have l4:=j4.le;have e3:=(j0.trans j7.out).same (by omega);rw[HX.out]at hy;injection hy with hy;subst hy;have:=ky.out (by rw[← jf.out];exact hn);rw[e3]at this;exact this) (fun p' z hz e=>hB p' z hz (by rw[← jf.out];exact e)))
  clear jd hA j4 ki;by_cases k7:p<q.length
  ·have s5:(p:Int)<(q.length:Int):=by omega
   by_cases kt:bs R<=sc
   ·have xa:=jb.pr k7;obtain⟨g3,o3,c3,g4,o4,n4,c4,al,cl,j9⟩:=xa;have q3:=j9.q3;have y3:=j9.y3;have hz:q[p]? = some q[p]:=qE k7;have jm:Hid (∀X5,Q4y Q X4 X5->(sc=bs R+q[p].1->(⟨p,0,P.length⟩:Itm)∈X5)->∀(p':Nat) (z:Q1),p'<p+1->q[p']? = some z->sc=bs R+z.1->(⟨p',0,P.length⟩:Itm)∈X5):=hid (fun X5 h5 hin p' z hp' hz' e=>by
     rcases qCk p' p with r|r
     ·exact h5.mem (k9.out p' z r hz' e)
     obtain rfl:p'=p:=by omega
     rw[hz]at hz';injection hz' with hz';subst hz';exact hin e)
    have xf:=HQ.hd q[p] (qG k7);have kl:sc=bs R+q[p].1->Q ⟨p,0,P.length⟩:=fun e=>j5.pred m p q[p] kg.out hz (by rw[jf.out];exact e);have jw:=hid kl;have xh:sc<=1000:=by
     rw[← jf.out];unfold Q4w;rw[HX.out];show(x.2[m.d]?).getD (-1)<=1000;cases hxd:x.2[m.d]? with
     |none=>simp
     |some y=>have:=(HQ.sy x (qAi HX.out)).2 y (qAi hxd);simp;omega
    generalize q[p]=y at y3 jm xf jw;have xq:IntKind.i64.wrap (sc-bs R)=sc-bs R:=by rw[qBv];unfold bs at kt ⊢;omega
    clear j9 jb hz kl;by_cases xc:y.1=sc-bs R
    ·have jl:sc=bs R+y.1:=by omega
     have PU:Hid (∀W,Q0a wr W->Calls Tryz.prog 82 #[.pointer (some ⟨cb,0,none⟩),.agg (itA p 0 n)] W fun e w'=>e=.returned (.bool (!inI X4 ⟨p,0,n⟩))/\ChG w0 w' cb gs cap b (P++[Q81 X4 ⟨p,0,n⟩])):=hid (fun W hW=>y2d w0 W cb gs cap b P X4 ⟨p,0,n⟩ (ja.fresh hW) (by rw[j1.out];omega) (by omega));have j8:=hid (jw.out jl);have jc:=y84 j6.le ⟨p,0,n⟩;generalize decide (X0.length<X4.length)=mo at jc ⊢;have je:=hid jc;rw[j1.out]at j8 jm;clear jc jw jq jl;cases mo;all_goals
      go_wp2_with (first
       |(go_at_call 47;refine csm BA.out ?_))
      go_quiet (first|(go_at_call 47;refine Calls.quiet_of_same (BQ.out _)));go_wp2_with (first
       |(go_at_call 82;refine(PU.out _ (Q0v _ _)).mono ?_;rintro e W5⟨rfl,kk⟩;have x1:=hid kk;clear kk))
      go_roundw
      case rel=>exact⟨p+1,_,by rw[je.out];rfl,by go_num,by omega,x1.out,j3.put j8.out,by rw[j1.out];exact jm.out _ (j3.refl.put j8.out) (fun _=>y2r _ _)⟩
      exact kf.out
    have x0:=hid (jm.out X4 j3.refl (fun e=>absurd (by omega:y.1=sc-bs R) xc));go_wp2_with (first
     |(go_at_call 47;refine csm BA.out ?_))
    go_quiet (first|(go_at_call 47;refine Calls.quiet_of_same (BQ.out _)));go_wp2;go_roundw
    case rel=>exact⟨p+1,X4,rfl,by go_num,by omega,ja.fresh (Q0v _ _),j3.out,x0.out⟩
    exact kf.out
   have ju:=hid (jq.out (fun p' z hz e=>by
    have:=(HQ.hd z (qAi hz)).1;omega))
   have xd:¬bs R<=sc:=kt;clear jb;go_wp2_with (first
    |(go_at_call 47;refine csm BA.out ?_))
   go_roundw
   case rel=>exact⟨k+1,X4,rfl,by go_num,by have:=(j7.trans j3.out).le;omega,ja.out,j6.out,ju.out⟩
   exact ke.out
  have s5:¬(p:Int)<(q.length:Int):=by omega
  have ju:=hid (jq.out (fun p' z hz e=>k9.out p' z (by have:=(qS hz).1;omega) hz e));clear jb;go_wp2;go_roundw
  case rel=>exact⟨k+1,X4,rfl,by go_num,by have:=(j7.trans j3.out).le;omega,ja.out,j6.out,ju.out⟩
  exact ke.out
 have s2:¬(k:Int)<(X2.length:Int):=by omega
 have x2:Hid (decide (X0.length<X2.length)=false->∀m∈X2,Q6i R q P X2 m):=hid (fun e m hm=>by
  have e1:¬X0.length<X2.length:=of_decide_eq_false e;have l:=j0.le;have e2:=j0.same (by omega);have:=js.out (by omega);rw[qDg (by omega)]at this;rw[e2]at hm ⊢;exact this m hm)
 have xi:=j0.le;clear hI hA hv;go_wp2;go_roundw
 case rel=>exact⟨_,X2,rfl,jn.out,jv.trans j0.out,x2.out⟩
 have z1:=x5.out;have z2:=jn.lenN;rw[j1.out]at z2;rw[z1,z2];by_cases kv:X0.length<X2.length
 ·rw[qCj kv];show 2*(10000-X2.length)+1<2*(10000-X0.length)+1;omega
 rw[qCa kv];show 2*(10000-X2.length)+0<2*(10000-X0.length)+1;omega
end Go.Proofs.YtbdpfmalabgmbaaGreat
