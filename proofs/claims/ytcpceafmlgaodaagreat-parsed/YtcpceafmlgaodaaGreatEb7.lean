import Derived.Test.YtcpceafmlgaodaaGreatEb2
namespace Go.Proofs.YtcpceafmlgaodaaGreat
open Go.RowKit
set_option maxRecDepth 99999
set_option maxHeartbeats 0
set_option linter.all false
def slN:Option Value->Nat
 |some (.slice _ n _)=>n
 |_=>0
theorem ChG.lenN{w0 w:World}{cb gs cap b:Nat}{P:List (List Itm)}{X:List Itm}(h:ChG w0 w cb gs cap b (P++[X])):slN (w.cell? ⟨gs,P.length,none⟩)=X.length:=by
 obtain⟨vs,a,c,hA,_,hv,_⟩:=h.set (qR _);rw[hA.at hv,z2h];rfl
structure Q57(R:Nat)(q:List Q1)(P:List (List Itm))(X:List Itm)(m:Itm):Prop where
 pred:∀(p:Nat) (x:Q1),q[p]? = some x->Q4q q m=bs R+x.1->(⟨p,0,P.length⟩:Itm)∈X
 comp:Q4q q m<0->∀x:Q1,q[m.p]? = some x->∀m'∈atS P X m.f,Q4q q m'=bs R+x.1->mvI m'∈X
structure FillQ(R:Nat)(q:List Q1)(P:List (List Itm))(Q:Itm->Prop):Prop where
 b:ItQ q Q
 f:∀m,Q m->m.f<=P.length
 pred:∀(m:Itm) (p:Nat) (x:Q1),Q m->q[p]? = some x->Q4q q m=bs R+x.1->Q ⟨p,0,P.length⟩
 comp:∀(m:Itm) (x:Q1) (m':Itm),Q m->Q4q q m<0->q[m.p]? = some x->(m'∈P.getD m.f []∨(m.f=P.length/\Q m'))->Q4q q m'=bs R+x.1->Q (mvI m')
section
variable {R:Nat}{q:List Q1}{P:List (List Itm)}{Q:Itm->Prop}
theorem x0t{X0 X2 X4:List Itm}{k:Nat}(h2:Q4s Q X0 X2)(h4:Q4s Q X2 X4)(hk:k<X2.length)(hd:X2.length=X0.length->∀m∈X0.take k,Q57 R q P X0 m)
  (hA:X4.length=X0.length->Q4q q X2[k]<0->∀x:Q1,q[X2[k].p]? = some x->∀m'∈atS P X0 X2[k].f,Q4q q m'=bs R+x.1->mvI m'∈X0)
  (hB:∀(p:Nat) (x:Q1),q[p]? = some x->Q4q q X2[k]=bs R+x.1->(⟨p,0,P.length⟩:Itm)∈X4) :
  X4.length=X0.length->∀m∈X0.take (k+1),Q57 R q P X0 m:=by
 intro hl m hm;have l2:=h2.le;have l4:=h4.le;have e2:=h2.same (by omega);have e4:=h4.same (by omega);subst e4;subst e2;rw[Q6g hk,qU,qM]at hm;rcases hm with hm|rfl
 ·exact hd rfl m hm
 exact⟨hB,hA rfl⟩
end
attribute [local go_sem ↓] z5h
theorem y7y(w0 w:World)(cb gs cap b R H:Nat)(q:List Q1)(P:List (List Itm))(X:List Itm)(Q:Itm->Prop)(hS:Q3x w0 b R H q)(hQ:QOk R H q)(h:ChG w0 w cb gs cap b (P++[X]))(hg:Q4s Q X X)(hP:P.length<=60)
  (hPb:∀Y∈P,Q8g q Y) (hF:FillQ R q P Q) :
  Calls Tryz.prog 72 #[.pointer (some ⟨cb,0,none⟩)] w fun e w'=>e=.returned (.tuple #[])/\∃X',ChG w0 w' cb gs cap b (P++[X'])/\Q4s Q X X'/\∀m∈X',Q57 R q P X' m:=by
 have jg:=hQ.p20;have ks:=hQ.r8;have kr:=hQ.h8;have HS:=hid hS;have HQ:=hid hQ;have HG:=hid hg;have kh:=hid hPb;have j4:=hid hF;have HC:=hid h;obtain⟨a0,c0,a1,c1,a2,c2,v3,v4,sv,hN⟩:=hS;have HN:=hid hN;obtain⟨vs,hA⟩:=h;have k1:=hA.s;have hl:vs.length=P.length+1:=by rw[hA.len];simp
 rw[hl]at k1;generalize hp:P.length=n at hP hl k1;have j1:=hid hp;have kv:IntKind.i64.wrap (((n+1:Nat):Int)-1)=(n:Int):=by rw[IntKind.wrap_i64];omega
 clear hQ hg hPb hF hN hA hp hl;go_enter Tryz.func72,Tryz.ntmps72
 go_wp2;go_loopw [3,4,5,6,7,8,9] (fun x3 _ _ _ _ _ _ wr=>∃(mo:Bool) (X0:List Itm),x3=.bool mo/\ChG w0 wr cb gs cap b (P++[X0])/\Q4s Q X X0/\(mo=false->∀m∈X0,Q57 R q P X0 m))
   (fun x3 _ _ _ _ _ _ wr=>2*(10000-slN (wr.cell? ⟨gs,n,none⟩))+Q7z x3)
 case atStart=>exact⟨true,X,rfl,HC.out,HG.out,fun e=>by cases e⟩
 obtain⟨mo,X0,rfl,hC0,hg0,hd0⟩:=hrel;have jm:=hid hC0;have jq:=hid hg0;have jx:=hid hd0;have kf:Hid (slN (wr.cell? ⟨gs,n,none⟩)=X0.length):=hid (by rw[← j1.out];exact hC0.lenN);clear hC0 hg0 hd0 HC HG k1;cases mo
 ·go_wp2;exact bodyPost_end (results_none rfl _ _ _) rfl ⟨rfl,X0,jm.out,jq.out,jx.out (by first|rfl|trivial)⟩
 clear jx;go_wp2;go_loopw [3,4,5,6,7,8,9] (fun x3 x4 _ _ _ _ _ wr=>∃(k:Nat) (X2:List Itm),x3=.bool (decide (X0.length<X2.length))/\x4=.int .i64 k/\k<=X2.length/\ChG w0 wr cb gs cap b (P++[X2])/\Q4s Q X0 X2/\(X2.length=X0.length->∀m∈X0.take k,Q57 R q P X0 m))
   (fun _ x _ _ _ _ _ _=>10001-(intOf x).toNat)
 case atStart=>exact⟨0,X0,by simp,rfl,by omega,jm.out,jq.refl,fun _ m hm=>by simp at hm⟩
 obtain⟨k,X2,rfl,rfl,hk,hC2,hg2,hd2⟩:=hrel;have ku:=hg2.len j4.b jg;have k3:=hid (Q15 (B:=10001) k (by omega));have jj:=hid hC2;have j0:=hid hg2;have jn:=hid hd2;obtain⟨vs,a,c,hA,hl,hv,hI⟩:=hC2.set (qR _);rw[z2h]at hv hI;have k1:=hA.s;have k2:=hA.at hv;have kx:=hA.x;have HF:=hid hA.fr;rw[hl,j1.out]at k1;rw[j1.out]at k2;have s1:(n:Int)<((n+1:Nat):Int):=by omega
 clear hC2 hg2 hd2 jm;by_cases hlt:k<X2.length
 ·have s2:(k:Int)<(X2.length:Int):=by omega
  obtain⟨g,c',hgf⟩:=Joins.ownsRow_form hI.own (by omega);rw[qI]at hgf;obtain⟨rfl,_,rfl⟩:=hgf;have r1:=hI.range k hlt;have je:=j0.q _ (qG hlt);have k8:=fun(X4:List Itm) (h4:Q4s Q X2 X4)=>x0t (R:=R) (q:=q) (P:=P) j0.out h4 hlt jn.out;have k6:=hid k8;generalize X2[k]=m at r1 je k6;have l1:(ldI (.pointer (some ⟨g,k*3,none⟩))).run Tryz.prog wr=.ok (.agg (itA m.p m.d m.f)) wr:=z3a r1;have ko:=j4.b m je;have k9:=j4.f m je;rw[j1.out]at k9;have k5:=hid je;clear r1 k8 hI hA hv jn hl je;obtain⟨hm1,hm2,hm3⟩:=ko;go_upto_region 8 with(first
   |(refine z0e rfl 163 _ _ rfl wr _ (itA m.p m.d m.f) _ rfl rfl rfl szIt rfl (y79 _ _ _) ?_))
  have jt:=Q9x wr m 163;have jf:Q0a wr (wr.alloc (.cells (itA m.p m.d m.f) 163 (0,0))):=(mRf _ wr).alloc _;have ju:=z0a wr (.cells (itA m.p m.d m.f) 163 (0,0));generalize(wr.alloc (.cells (itA m.p m.d m.f) 163 (0,0)))=W2 at jt jf ju ⊢;have l2:(ldI (.pointer (some ⟨wr.heap.size,0,none⟩))).run Tryz.prog W2=.ok (.agg (itA m.p m.d m.f)) W2:=z3a jt;have jy:=hid jf;have jw:=hid ju;have SY:=hid (z5k W2 cb b R H q m (Q0i jf kx) (HS.fresh (HF.trans jf)) HQ.out hm1 (by omega));clear l1 k1 k2 kx jt jf ju;go_upto_if 43 with(first
   |(go_at_call 73;refine(SY.out).mono ?_;rintro e W3⟨rfl,hf3⟩;have jo:=hid (jy.trans hf3);have j2:=hid (hf3.at jw.out (fun x=>x));clear hf3))
  have jk:=hid (jj.fresh jo.out);have jz:=hid (HF.trans jo.out);have kk:∃x,q[m.p]? = some x:=⟨_,qE hm1⟩;obtain⟨x,hx⟩:=kk;have HX:=hid hx;have km:=HQ.hd x (qAd hx);clear hx l2 SY jy jw jj;generalize ja:decide (X0.length<X2.length)=mo;have jc:=hid ja;generalize jh:Q4q q m=sc;have jd:=hid jh;clear ja jh;go_cut [3,7] (fun s3 _ wx=>∃X3,s3=.bool (decide (X0.length<X3.length))/\ChG w0 wx cb gs cap b (P++[X3])/\Q4s Q X2 X3/\(sc<0->∀m'∈atS P X3 m.f,Q4q q m'=bs R+x.1->mvI m'∈X3))
  case first =>
   by_cases hneg:sc<0
   ·obtain⟨vs,hA⟩:=jk.out;have kx:=hA.x;have ki:=(HN.fresh jz.out).pr hm1;obtain⟨g3,o3,c3,g4,o4,n4,c4,al,cl,hPr⟩:=ki;have q3:=hPr.q3;have y3:=hPr.y3;have ex:q[m.p]=x:=by have:=HX.out;rw[qE hm1]at this;injection this
    rw[ex]at y3;have b0:W3.cell? ⟨wr.heap.size,0,none⟩=some (.int .i64 m.p):=Q0b j2.out 0;have b2:W3.cell? ⟨wr.heap.size,2,none⟩=some (.int .i64 m.f):=Q0b j2.out 2;have s4:(m.p:Int)<(q.length:Int):=by omega
    have WT:=hid (fun W (hW:Q0a W3 W)=>x7t w0 W cb gs cap b R H q P X2 Q m.f x.1 HS.out HQ.out (jk.fresh hW) j0.refl (by rw[j1.out];exact hP) (by rw[j1.out];exact k9) kh.out j4.b km (fun m' h1 h2=>j4.comp m x m' k5.out (by rw[jd.out];exact hneg) HX.out h1 h2));clear hA hPr j2 ex;cases mo;all_goals
     go_wp2_with fail
     go_region_with (first
      |(go_at_call 96;refine(WT.out _ (mRf _ W3).drew).mono ?_;rintro e W4⟨X3,rfl,hC4,hg4,ha4⟩;have j8:=hid hC4;have j3:=hid hg4;have kb:=hid ha4;clear hC4 hg4 ha4))
     all_goals
      go_wp2_with fail
      go_meet;exact⟨X3,by rw[y92 j0.out j3.out,jc.out];rfl,j8.out,j3.out,fun _=>kb.out⟩
   have kg:=hid hneg;go_wp2_with fail
   go_meet;exact⟨X2,by rw[jc.out],jk.out,j0.refl,fun e=>absurd e (by have:=kg.out;omega)⟩
  obtain⟨X3,rfl,hC3,hg3,ha3⟩:=hcut;have jb:=hid hC3;have j6:=hid hg3;have ka:=hid ha3;clear jk hC3 hg3 ha3 j2 jc mo jz jo HF;go_wp2;go_loopw [3,8,9] (fun x3 x8 _ wr=>∃(p:Nat) (X4:List Itm),x3=.bool (decide (X0.length<X4.length))/\x8=.int .i64 p/\p<=q.length/\ChG w0 wr cb gs cap b (P++[X4])/\Q4s Q X3 X4/\∀(p':Nat) (z:Q1),p'<p->q[p']? = some z->sc=bs R+z.1->(⟨p',0,P.length⟩:Itm)∈X4)
    (fun _ x _ _=>1001-(intOf x).toNat)
  case atStart=>exact⟨0,X3,rfl,rfl,by omega,jb.out,j6.refl,fun p' z h=>absurd h (by omega)⟩
  obtain⟨p,X4,rfl,rfl,hp,hC4,hg4,hB4⟩:=hrel;have kt:=hg4.len j4.b jg;have k4:=hid (Q15 (B:=1001) p (by omega));have j8:=hid hC4;have j3:=hid hg4;have jv:=hid hB4;obtain⟨vs,hA⟩:=hC4;have kx:=hA.x;have j9:=HN.fresh hA.fr;have z0:=j9.k0;have z1:=j9.k1;have BA:=hid (z1i wr b R a0 c0 z0 (by omega));have BQ:=hid (fun n=>z1i (wr.drewN n) b R a0 c0 (Q0i (Q0r wr n) z0) (by omega));have js:=(j0.trans j6.out).trans hg4;have j5:=hid js;have jl:Hid ((∀(p':Nat) (z:Q1),q[p']? = some z->sc=bs R+z.1->(⟨p',0,P.length⟩:Itm)∈X4)->X4.length=X0.length->∀m∈X0.take (k+1),Q57 R q P X0 m):=hid (fun hB=>k6.out X4 (j6.trans hg4) (fun hl hn y hy=>by
   have l3:=(j0.trans j6.out).le;have l4:=hg4.le;have e3:=(j0.trans j6.out).same (by omega);rw[HX.out]at hy;injection hy with hy;subst hy;have:=ka.out (by rw[← jd.out];exact hn);rw[e3]at this;exact this) (fun p' z hz e=>hB p' z hz (by rw[← jd.out];exact e)))
  clear jb hA hg4 hB4;by_cases hlp:p<q.length
  ·have s5:(p:Int)<(q.length:Int):=by omega
   by_cases hge:bs R<=sc
   ·have kj:=j9.pr hlp;obtain⟨g3,o3,c3,g4,o4,n4,c4,al,cl,hPr⟩:=kj;have q3:=hPr.q3;have y3:=hPr.y3;have hz:q[p]? = some q[p]:=qE hlp;have ji:Hid (∀X5,Q4s Q X4 X5->(sc=bs R+q[p].1->(⟨p,0,P.length⟩:Itm)∈X5)->∀(p':Nat) (z:Q1),p'<p+1->q[p']? = some z->sc=bs R+z.1->(⟨p',0,P.length⟩:Itm)∈X5):=hid (fun X5 h5 hin p' z hp' hz' e=>by
     rcases qBn p' p with r|r
     ·exact h5.mem (jv.out p' z r hz' e)
     obtain rfl:p'=p:=by omega
     rw[hz]at hz';injection hz' with hz';subst hz';exact hin e)
    have kn:=HQ.hd q[p] (qG hlp);have k7:sc=bs R+q[p].1->Q ⟨p,0,P.length⟩:=fun e=>j4.pred m p q[p] k5.out hz (by rw[jd.out];exact e);have jr:=hid k7;have kp:sc<=1000:=by
     rw[← jd.out];unfold Q4q;rw[HX.out];show(x.2[m.d]?).getD (-1)<=1000;cases hxd:x.2[m.d]? with
     |none=>simp
     |some y=>have:=(HQ.sy x (qAd HX.out)).2 y (qAd hxd);simp;omega
    generalize q[p]=y at y3 ji kn jr;have kw:IntKind.i64.wrap (sc-bs R)=sc-bs R:=by rw[IntKind.wrap_i64];unfold bs at hge ⊢;omega
    clear hPr j9 hz k7;by_cases heq:y.1=sc-bs R
    ·have jh:sc=bs R+y.1:=by omega
     have PU:Hid (∀W,Q0a wr W->Calls Tryz.prog 71 #[.pointer (some ⟨cb,0,none⟩),.agg (itA p 0 n)] W fun e w'=>e=.returned (.bool (!inI X4 ⟨p,0,n⟩))/\ChG w0 w' cb gs cap b (P++[Q8m X4 ⟨p,0,n⟩])):=hid (fun W hW=>y1v w0 W cb gs cap b P X4 ⟨p,0,n⟩ (j8.fresh hW) (by rw[j1.out];omega) (by omega));have j7:=hid (jr.out jh);have ja:=y8h j5.le ⟨p,0,n⟩;generalize decide (X0.length<X4.length)=mo at ja ⊢;have jc:=hid ja;rw[j1.out]at j7 ji;clear ja jr jl jh;cases mo;all_goals
      go_wp2_with (first
       |(go_at_call 34;refine csm BA.out ?_))
      go_quiet (first|(go_at_call 34;refine Calls.quiet_of_same (BQ.out _)));go_wp2_with (first
       |(go_at_call 71;refine(PU.out _ (Q0r _ _)).mono ?_;rintro e W5⟨rfl,hC5⟩;have kd:=hid hC5;clear hC5))
      go_roundw
      case rel=>exact⟨p+1,_,by rw[jc.out];rfl,by go_num,by omega,kd.out,j3.put j7.out,by rw[j1.out];exact ji.out _ (j3.refl.put j7.out) (fun _=>y17 _ _)⟩
      exact k4.out
    have kc:=hid (ji.out X4 j3.refl (fun e=>absurd (by omega:y.1=sc-bs R) heq));go_wp2_with (first
     |(go_at_call 34;refine csm BA.out ?_))
    go_quiet (first|(go_at_call 34;refine Calls.quiet_of_same (BQ.out _)));go_wp2;go_roundw
    case rel=>exact⟨p+1,X4,rfl,by go_num,by omega,j8.fresh (Q0r _ _),j3.out,kc.out⟩
    exact k4.out
   have jp:=hid (jl.out (fun p' z hz e=>by
    have:=(HQ.hd z (qAd hz)).1;omega))
   have kl:¬bs R<=sc:=hge;clear j9;go_wp2_with (first
    |(go_at_call 34;refine csm BA.out ?_))
   go_roundw
   case rel=>exact⟨k+1,X4,rfl,by go_num,by have:=(j6.trans j3.out).le;omega,j8.out,j5.out,jp.out⟩
   exact k3.out
  have s5:¬(p:Int)<(q.length:Int):=by omega
  have jp:=hid (jl.out (fun p' z hz e=>jv.out p' z (by have:=(qS hz).1;omega) hz e));clear j9;go_wp2;go_roundw
  case rel=>exact⟨k+1,X4,rfl,by go_num,by have:=(j6.trans j3.out).le;omega,j8.out,j5.out,jp.out⟩
  exact k3.out
 have s2:¬(k:Int)<(X2.length:Int):=by omega
 have ke:Hid (decide (X0.length<X2.length)=false->∀m∈X2,Q57 R q P X2 m):=hid (fun e m hm=>by
  have e1:¬X0.length<X2.length:=of_decide_eq_false e;have l:=j0.le;have e2:=j0.same (by omega);have:=jn.out (by omega);rw[qCh (by omega)]at this;rw[e2]at hm ⊢;exact this m hm)
 have kq:=j0.le;clear hI hA hv;go_wp2;go_roundw
 case rel=>exact⟨_,X2,rfl,jj.out,jq.trans j0.out,ke.out⟩
 have z1:=kf.out;have z2:=jj.lenN;rw[j1.out]at z2;rw[z1,z2];by_cases hgr:X0.length<X2.length
 ·rw[qBl hgr];show 2*(10000-X2.length)+1<2*(10000-X0.length)+1;omega
 rw[qBh hgr];show 2*(10000-X2.length)+0<2*(10000-X0.length)+1;omega
end Go.Proofs.YtcpceafmlgaodaaGreat
