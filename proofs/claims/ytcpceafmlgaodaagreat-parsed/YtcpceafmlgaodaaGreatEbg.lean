import Derived.Test.YtcpceafmlgaodaaGreatEb8
import Derived.Test.YtcpceafmlgaodaaGreatEb9
import Derived.Test.YtcpceafmlgaodaaGreatEbd
import Derived.Test.YtcpceafmlgaodaaGreatRd1
import Derived.Laws.IdiomCopy
namespace Go.Proofs.YtcpceafmlgaodaaGreat
open Go.RowKit
set_option maxRecDepth 99999
set_option maxHeartbeats 0
set_option linter.all false
section
variable {ps:List Pr}{R H:Nat}{l:List Int}
theorem z2i(R:Nat)(ps:List Pr)(p:Nat):(Q0e R ps)[p]? = (ps[p]?).map fun q=>(q.head,q.syms.map (Q0u R)):=by unfold Q0e;rw[qBe]
theorem z91(R:Nat)(ps:List Pr)(m:Itm):Q4q (Q0e R ps) m=((Q8n ps m).map (Q0u R)).getD (-1):=by
 unfold Q4q Q8n;rw[z2i];cases ps[m.p]? with
 |none=>rfl
 |some q=>simp
theorem y68(hT:Q1b ps R H){m:Itm}{s:Sy}(h:Q8n ps m=some s):0<=s.num/\s.num<(if s.isH then(H:Int) else R):=by
 unfold Q8n at h;cases hq:ps[m.p]? with
 |none=>rw[hq]at h;cases h
 |some q =>
  rw[hq]at h;exact hT.sy q (qAd hq) s (qAd h)
theorem z8b(hT:Q1b ps R H){m:Itm}:Q4q (Q0e R ps) m<0↔Q8n ps m=none:=by
 rw[z91];cases h:Q8n ps m with
 |none=>simp
 |some s =>
  have:=y68 hT h;simp only[qCz,qDa,reduceCtorEq,iff_false];unfold Q0u;split<;>omega
theorem z6k(hT:Q1b ps R H){m:Itm}{X:Int}(h0:0<=X):Q4q (Q0e R ps) m=bs R+X↔Q8n ps m=some ⟨true,X⟩:=by
 rw[z91];cases h:Q8n ps m with
 |none=>simp[bs]<;>omega
 |some s =>
  obtain⟨a,b⟩:=s;have:=y68 hT h;simp only[qCz,qDa,qO,Sy.mk.injEq];unfold Q0u bs;cases a
  ·simp only[qF,qAp]at this ⊢;simp<;>omega
  simp only[qBb]at this ⊢;simp<;>omega
theorem z4b(hT:Q1b ps R H){m:Itm}{t:Int}(h0:0<=t)(ht:t<R):Q4q (Q0e R ps) m=t↔Q8n ps m=some ⟨false,t⟩:=by
 rw[z91];cases h:Q8n ps m with
 |none=>simp<;>omega
 |some s =>
  obtain⟨a,b⟩:=s;have:=y68 hT h;simp only[qCz,qDa,qO,Sy.mk.injEq];unfold Q0u;cases a
  ·simp
  simp only[qBb]at this ⊢;simp<;>omega
theorem y7x(hT:Q1b ps R H)(hm:∀p∈ps,p.syms.length<=6){P:List (List Itm)}{N:Nat}(hN:P.length=N)(hNl:N<=l.length)(hl:l.length<=60)(hx:∀(k:Nat) (Y:List Itm),P[k]? = some Y->∀m:Itm,m∈Y↔Q9u ps l k m):FillQ R (Q0e R ps) P (Q9u ps l N):=by
 have j1:(Q0e R ps).length=ps.length:=by unfold Q0e;simp
 refine⟨fun m hm'=>?_,fun m hm'=>?_,fun m p x h1 h2 h3=>?_,fun m x m' h1 h2 h3 h4 h5=>?_⟩
 ·obtain⟨h1,q,h2,h3⟩:=y13 hm';have:=hm q (qAd h2);have:=(qS h2).1;exact⟨by omega,by omega,by omega⟩
 ·have:=(y13 hm').1;omega
 ·rw[z2i]at h2;cases hq:ps[p]? with
  |none=>rw[hq]at h2;cases h2
  |some q' =>
   rw[hq]at h2;simp at h2;subst h2;have hs:=(z6k hT (hT.hd q' (qAd hq)).1).1 h3;obtain⟨_,q,hq1,_⟩:=y13 h1;rw[z3o hq1]at hs;rw[hN];exact x2y h1 hNl hq1 hs hq rfl
 rw[z2i]at h3;cases hq:ps[m.p]? with
 |none=>rw[hq]at h3;cases h3
 |some q =>
  rw[hq]at h3;simp at h3;subst h3;have hd:=(x8f h1 hq).1 ((z8b hT).1 h2);have hs:=(z6k hT (hT.hd q (qAd hq)).1).1 h5;have j0:It ps l N m.p q.syms.length m.f:=by rw[← hd];exact h1
  have hI:Q9u ps l m.f m':=by
   rcases h4 with h4|⟨e,h4⟩
   ·have hk:m.f<P.length:=by
     rcases qBn m.f P.length with z|z
     ·exact z
     rw[qD,qN z]at h4;cases h4
    rw[qD,qE hk]at h4;exact(hx m.f _ (qE hk) m').1 h4
   rw[e,hN];exact h4
  obtain⟨_,q',hq',_⟩:=y13 hI;rw[z3o hq']at hs;exact x2w j0 hNl hq hI hq' hs
theorem y3t(hT:Q1b ps R H){P:List (List Itm)}{X:List Itm}(h:∀m∈X,Q57 R (Q0e R ps) P X m):Q9i ps (P++[X]) P.length X:=by
 refine⟨fun m X' p' q' hm hs hq hh=>?_,fun m q m' Y hm hq hs hY hm' hs'=>?_⟩
 ·exact(h m hm).pred p' (q'.head,q'.syms.map (Q0u R)) (by rw[z2i,hq];rfl) ((z6k hT (hT.hd q' (qAd hq)).1).2 (by rw[hh];exact hs))
 refine(h m hm).comp ((z8b hT).2 hs) (q.head,q.syms.map (Q0u R)) (by rw[z2i,hq];rfl) m' ?_ ((z6k hT (hT.hd q (qAd hq)).1).2 hs');unfold atS;rw[qD,hY];exact hm'
theorem y7d(R:Nat)(q:List Q1):∀(X:List Itm) (o:List Bool),o.length=R+1->(Q94 R q X o).length=R+1/\∀t,(Q94 R q X o).getD t false=true↔(o.getD t false=true∨∃m∈X,(t<R/\Q4q q m=t)∨(t=R/\Q4q q m<0/\m.f=0/\hdI q m=0))
 | [],o,ho=>⟨ho,fun t=>by simp[Q94]⟩
 |m::X,o,ho=>by
  obtain⟨r1,r2⟩:=y7d R q X (wanS R q o m) (by rw[x7v];exact ho);refine⟨r1,fun t=>?_⟩;rw[Q94,r2 t];have j0:(wanS R q o m).getD t false=true↔(o.getD t false=true∨(t<R/\Q4q q m=t)∨(t=R/\Q4q q m<0/\m.f=0/\hdI q m=0)):=by
   unfold wanS;by_cases h1:Q4q q m<0
   ·rw[qAb h1];by_cases h2:m.f=0/\hdI q m=0
    ·rw[qAb h2,z16 _ _ _ _ _ (by omega)];by_cases h3:t=R
     ·rw[qAb h3];simp[h3,h1,h2.1,h2.2]
     rw[qAa h3];simp[h3];omega
    rw[qAa h2];constructor
    ·exact .inl
    rintro(h|⟨h3,h4⟩|⟨h3,h4,h5,h6⟩)
    ·exact h
    ·omega
    exact absurd ⟨h5,h6⟩ h2
   rw[qAa h1];by_cases h2:Q4q q m<R
   ·rw[qAb h2,z16 _ _ _ _ _ (by omega)];by_cases h3:t=(Q4q q m).toNat
    ·rw[qAb h3];exact⟨fun _=>.inr (.inl ⟨by omega,by omega⟩),fun _=>rfl⟩
    rw[qAa h3];constructor
    ·exact .inl
    rintro(h|⟨h4,h5⟩|⟨h4,h5,_⟩)
    ·exact h
    ·omega
    omega
   rw[qAa h2];constructor
   ·exact .inl
   rintro(h|⟨h4,h5⟩|⟨h4,h5,_⟩)
   ·exact h
   ·omega
   omega
  rw[j0];constructor
  ·rintro((h|h)|⟨m',h1,h2⟩)
   ·exact .inl h
   ·exact .inr ⟨m,by simp,h⟩
   exact .inr ⟨m',by simp[h1],h2⟩
  rintro(h|⟨m',h1,h2⟩)
  ·exact .inl (.inl h)
  rw[qBc]at h1;rcases h1 with rfl|h1
  ·exact .inl (.inr h2)
  exact .inr ⟨m',h1,h2⟩
theorem y5h(hT:Q1b ps R H){n:Nat}(hn:n<=l.length){P:List (List Itm)}{X:List Itm}(hP:P.length=n)(hI:Q23 ps l n (P++[X])) :
  (∀t:Nat,t<R->((Q94 R (Q0e R ps) X (List.replicate (R+1) false)).getD t false=true↔Vb ps (l.take n) t))/\((Q94 R (Q0e R ps) X (List.replicate (R+1) false)).getD R false=true↔Ve ps (l.take n)):=by
 have hl:(l.take n).length=n:=by rw[qBo];omega
 have h2:=hI.take (qR n);have hS:Q23 ps (l.take n) (l.take n).length (P++[X]):=by rw[hl];exact h2
 have hX:(P++[X])[(l.take n).length]? = some X:=by rw[hl,← hP,qAg (qR _)];simp
 have hz:∀t,(List.replicate (R+1) false).getD t false=false:=fun t=>by
  rw[qD,qDd];split<;>rfl
 obtain⟨_,hw⟩:=y7d R (Q0e R ps) X (List.replicate (R+1) false) (by simp);constructor
 ·intro t ht;rw[hw t,← hS.next hX,hz t];constructor
  ·rintro(h|⟨m,h1,h2|h2⟩)
   ·cases h
   ·exact⟨m,h1,(z4b hT (by omega) (by omega)).1 h2.2⟩
   omega
  rintro⟨m,h1,h2⟩;exact .inr ⟨m,h1,.inl ⟨ht,(z4b hT (by omega) (by omega)).2 h2⟩⟩
 rw[hw R,← hS.fin hX,hz R];have hh:∀(m:Itm) (q:Pr),ps[m.p]? = some q->hdI (Q0e R ps) m=q.head:=fun m q hq=>by
  unfold hdI;rw[z2i,hq];rfl
 constructor
 ·rintro(h|⟨m,h1,h2|⟨_,h2,h3,h4⟩⟩)
  ·cases h
  ·omega
  obtain⟨_,q,hq,_⟩:=y13 ((hS.iff _ X hX m).1 h1);exact⟨m,h1,q,hq,(z8b hT).1 h2,h3,by rw[← hh m q hq];exact h4⟩
 rintro⟨m,h1,q,hq,h2,h3,h4⟩;exact .inr ⟨m,h1,.inr ⟨rfl,(z8b hT).2 h2,h3,by rw[hh m q hq];exact h4⟩⟩
theorem x91(hT:Q1b ps R H){n:Nat}(hn:n<=l.length){P:List (List Itm)}{X:List Itm}(hP:P.length=n)(hI:Q23 ps l n (P++[X])){c:Int}(h0:0<=c)(hc:c<R):Q4g (Q0e R ps) c X≠[]↔Vb ps (l.take n) c.toNat:=by
 have hl:(l.take n).length=n:=by rw[qBo];omega
 have h2:=hI.take (qR n);have hS:Q23 ps (l.take n) (l.take n).length (P++[X]):=by rw[hl];exact h2
 have hX:(P++[X])[(l.take n).length]? = some X:=by rw[hl,← hP,qAg (qR _)];simp
 rw[← hS.next hX,show((c.toNat:Nat):Int)=c by omega];constructor
 ·intro h;obtain⟨y,hy⟩:=List.exists_mem_of_ne_nil _ h;obtain⟨m,h1,h2,_⟩:=z6d.1 hy;exact⟨m,h1,(z4b hT h0 hc).1 h2⟩
 rintro⟨m,h1,h2⟩ e;have:=z6d (q:=Q0e R ps) (c:=c) (l:=X) (y:=mvI m);rw[e]at this;exact absurd (this.2 ⟨m,h1,(z4b hT h0 hc).2 h2,rfl⟩) (by simp)
theorem x4q(hT:Q1b ps R H){n:Nat}(hn:n<l.length){P:List (List Itm)}{X X':List Itm}(hP:P.length=n)(hI:Q23 ps l n (P++[X]))(h0:0<=l[n])(hc:l[n]<R)(hg:Q4s (Q9u ps l (n+1)) (Q4g (Q0e R ps) l[n] X) X')(hd:∀m∈X',Q57 R (Q0e R ps) (P++[X]) X' m):Q23 ps l (n+1) ((P++[X])++[X']):=by
 have hF:=y3t hT hd;rw[qP,hP]at hF;refine y8u (by omega) (by rw[qP,hP];rfl) (fun k Y hk m=>hI.iff k Y hk m) hg.q hF (fun e=>by omega) (fun k Y m t e hk hm hs ht=>?_);have e2:k=n:=by omega
 subst e2;have hY:Y=X:=by
  rw[← hP,qAg (qR _)]at hk;simpa using hk.symm
 subst hY;rw[qE hn]at ht;injection ht with ht;subst ht;exact hg.mem (z6d.2 ⟨m,hm,(z4b hT h0 hc).2 hs,rfl⟩)
theorem x0n(hT:Q1b ps R H){X':List Itm}(hg:Q4s (Q9u ps l 0) [] X')(hd:∀m∈X',Q57 R (Q0e R ps) [] X' m)(h0:∀(p:Nat) (x:Q1),(Q0e R ps)[p]? = some x->x.1=0->(⟨p,0,0⟩:Itm)∈X'):Q23 ps l 0 ([]++[X']):=by
 have hF:=y3t hT hd;exact y8u (qBg _) rfl (fun k Y hk=>by simp at hk) hg.q hF (fun _ p q hp hq=>h0 p (q.head,q.syms.map (Q0u R)) (by rw[z2i,hp];rfl) hq) (fun k Y m t e=>by omega)
theorem x4t(hT:Q1b ps R H){D:List Mat}(hD:Q44 ps l D){p:Nat}{x:Q1}(hx:(Q0e R ps)[p]? = some x){i:Nat}(hi:i<=l.length):Q44 ps l (addR R l D x i):=by
 intro h a j e;unfold addR Q9s atM at e;rw[z2i]at hx;cases hq:ps[p]? with
 |none=>rw[hq]at hx;cases hx
 |some q =>
  rw[hq]at hx;simp at hx;subst hx;have j0:=qAd hq;dsimp only at e;have old:((D.getD h []).getD a []).getD j false=true->Ds ps l [⟨true,(h:Int)⟩] a j:=fun e=>hD h a j e;rcases qBn q.head.toNat D.length with hh|hh
  ·rw[z11 _ _ _ _ _ hh]at e;split at e
   ·rename_i eh;rcases qBn i (D.getD q.head.toNat []).length with hi2|hi2
    ·rw[z11 _ _ _ _ _ hi2]at e;split at e
     ·rename_i ei;subst ei;have hj:j<l.length+1:=by
       rcases qBn j (l.length+1)with z|z
       ·exact z
       rw[qD,qN (by rw[z2l];exact z)]at e;cases e
      rw[z9k hj,qAk]at e;rcases e with e|e
      ·rw[eh];exact hD _ _ _ e
      obtain⟨_,r2⟩:=x4h (bs R) l D hD.wide (q.syms.map (Q0u R)) hi;have hr:=(r2 j hj).1 e;obtain⟨d1,d2,B,b1,b2⟩:=y8x hT hD (hT.sy q j0) hi hr;have j1:=hT.hd q j0;refine⟨d1,d2,⟨false,(p:Int)⟩::B,?_,by simpa [Q0d]using b2⟩;rw[eh,show((q.head.toNat:Nat):Int)=q.head by omega,z3k hq,qAt];exact b1
     rw[eh];exact hD _ _ _ e
    rw[qEj hi2]at e;rw[eh];exact hD _ _ _ e
   exact old e
  rw[qEj hh]at e;exact old e
theorem x0p(n:Nat):Q44 ps l (List.replicate H (sqF n)):=by
 intro h i j e;unfold atM at e;exfalso;have h1:((List.replicate H (sqF n)).getD h []).getD i []=List.replicate n false∨((List.replicate H (sqF n)).getD h []).getD i []=[]:=by
  have e0:(List.replicate H (sqF n)).getD h []=sqF n∨(List.replicate H (sqF n)).getD h []=[]:=by
   rw[qD,qDd];split
   ·exact .inl rfl
   exact .inr rfl
  rcases e0 with e0|e0
  ·rw[e0];unfold sqF;rw[qD,qDd];split
   ·exact .inl rfl
   exact .inr rfl
  rw[e0];exact .inr (by simp)
 rcases h1 with h1|h1
 ·rw[h1,qD,qDd]at e;split at e<;>cases e
 rw[h1]at e;simp at e
theorem x1r(hT:Q1b ps R H){D:List Mat}(hD:Q44 ps l D)(hc:CloD R (Q0e R ps) l D):Q9m R ps l D:=by
 intro q hq i j hi hr;obtain⟨p,hp⟩:=List.getElem?_of_mem hq;have hm:=hc p (q.head,q.syms.map (Q0u R)) i (by rw[z2i,hp];rfl) hi;have hj:=x8k hD.wide _ i j hi hr;obtain⟨_,r2⟩:=x4h (bs R) l D hD.wide (q.syms.map (Q0u R)) hi;have hs:=(r2 j (by omega)).2 hr;unfold atM;cases hx:((D.getD q.head.toNat []).getD i []).getD j false with
 |true=>rfl
 |false =>
  have:=(y6n (n:=l.length+1)).2 ⟨j,by omega,hs,hx⟩;rw[hm]at this;cases this
theorem x4l{rb:List Int->Nat->Nat->Bool}{T:Int->Nat->Nat->List Nd}:∀(ys:List Sy),(∀s∈ys,0<=s.num/\s.num<(if s.isH then(H:Int) else R))->∀i j,Q9e (bs R) rb T (ys.map (Q0u R)) i j=rowN (fun ys i j=>rb (ys.map (Q0u R)) i j) T ys i j
 | [],_,_,_=>rfl
 |y::ys,hv,i,j=>by
  have hy:=hv y (by simp);have ih:=x4l (rb:=rb) (T:=T) ys (fun s hs=>hv s (by simp[hs]));rw[qCl,Q9e,rowN,ih];have e1:toC rb (Q0u R y) (ys.map (Q0u R)) i j=toF (fun ys i j=>rb (ys.map (Q0u R)) i j) y ys i j:=rfl;rw[e1];congr 1;cases hb:y.isH
  ·rw[hb]at hy;simp only[qF,qAp]at hy;rw[z32 hb,qAb (by unfold bs;omega),qAb rfl]
  have:=z1p (R:=R) hb;rw[hb,qAb rfl]at hy;rw[qAa (by unfold bs;omega),qAa (by simp),show Q0u R y-bs R=y.num by unfold bs;omega]
theorem y83(hT:Q1b ps R H){rb:List Int->Nat->Nat->Bool}:∀(f:Nat) (h:Int) (i j:Nat),Q5c (bs R) (Q0e R ps) rb f h i j=Q77 ps (fun ys i j=>rb (ys.map (Q0u R)) i j) f h i j
 |0,_,_,_=>rfl
 |f+1,h,i,j=>by
  have ef:Q8v (Q0e R ps) rb h i j=Q7f ps (fun ys i j=>rb (ys.map (Q0u R)) i j) h i j:=by
   unfold Q8v Q7f Q0e;rw[List.findIdx_map];rfl
  have et:Q5c (bs R) (Q0e R ps) rb f=Q77 ps (fun ys i j=>rb (ys.map (Q0u R)) i j) f:=by
   funext h i j;exact y83 hT f h i j
  rw[Q5c,Q77,ef,z2i,et];cases hq:ps[Q7f ps (fun ys i j=>rb (ys.map (Q0u R)) i j) h i j]? with
  |none=>rfl
  |some q =>
   simp only[qCz];rw[x4l q.syms (hT.sy q (qAd hq))]
end
section
variable {ps:List Pr}{R H:Nat}{l:List Int}{G:Q95}{n i:Nat}{P:List (List Itm)}{X:List Itm}
def Q78(ps:List Pr)(R:Nat)(X:List Itm):List Bool:=Q94 R (Q0e R ps) X (List.replicate (R+1) false)
theorem y21:(Q78 ps R X).length=R+1:=(y7d R (Q0e R ps) X _ (by simp)).1
theorem x8l(hT:Q1b ps R H)(hR:R<=8)(hn:i<=l.length)(hP:P.length=i)(hI:Q23 ps l i (P++[X])){W:List Bool}(w1:∀t,t<R->(W.getD t false=true↔Vb ps (l.take i) t))(w2:W.getD R false=true↔Ve ps (l.take i))(w3:∀t,R<t->W.getD t false=false):risF (Q78 ps R X)=Q28 W:=by
 obtain⟨z1,z2⟩:=y5h hT hn hP hI;refine x0m (fun t=>?_) (by rw[y21];omega);rw[qAs];unfold Q78;rcases Nat.lt_trichotomy t R with h|h|h
 ·rw[z1 t h,w1 t h]
 ·subst h;rw[z2,w2]
 rw[w3 t h,qD,qN (by have:=y21 (ps:=ps) (R:=R) (X:=X);unfold Q78 at this;omega)];rfl
theorem x0b(hT:Q1b ps R H)(hR:R<=8)(hG:GrowIs ps R l G n)(hP:P.length=i)(hI:Q23 ps l i (P++[X]))(hi:i<l.length)(hin:i<=n)(h0:0<=l[i])(hc:l[i]<R) :
  (Q4g (Q0e R ps) l[i] X=[]->G=⟨10,risF (Q78 ps R X),i,[]⟩)/\(Q4g (Q0e R ps) l[i] X≠[]->i+1<=n):=by
 have hx:=x91 hT (by omega:i<=l.length) hP hI h0 hc;constructor
 ·intro e;have j1:¬Vb ps (l.take i) l[i].toNat:=fun q=>hx.2 q e;have j0:n=i:=by
   rcases qBn i n with z|z
   ·exact absurd (hG.each i hi z) j1
   omega
  subst j0;rcases hG.or with⟨e1,_⟩|⟨W,e1,e2,e3,e4,_⟩
  ·omega
  rw[x8l hT hR (by omega) hP hI e2 e3 e4];exact e1
 intro e;have hv:=hx.1 e;rcases qBn i n with z|z
 ·exact z
 exfalso;obtain rfl:n=i:=by omega
 rcases hG.or with⟨e1,_⟩|⟨W,_,_,_,_,e5,_⟩
 ·omega
 exact e5 hi hv
theorem x32(hT:Q1b ps R H)(hR:R<=8)(hG:GrowIs ps R l G n)(hP:P.length=l.length)(hI:Q23 ps l l.length (P++[X]))(hin:l.length<=n) :
  ((Q78 ps R X).getD R false=false->G=⟨10,risF (Q78 ps R X),l.length,[]⟩)/\((Q78 ps R X).getD R false=true->∃A,G=⟨0,[],0,A⟩/\Q1f ps A [⟨true,0⟩]=some []/\Q0d A=l):=by
 have hn:n=l.length:=by have:=hG.le;omega
 subst hn;obtain⟨_,z2⟩:=y5h hT (qR _) hP hI;rw[qAr]at z2;constructor
 ·intro e;rcases hG.or with⟨_,e2,_⟩|⟨W,e1,e2,e3,e4,_⟩
  ·have:=z2.2 e2;unfold Q78 at e;rw[e]at this;cases this
  rw[x8l hT hR (qR _) hP hI e2 e3 e4];exact e1
 intro e;have j0:=z2.1 e;rcases hG.or with⟨_,_,A,e3,e4,e5⟩|⟨W,_,_,_,_,_,e6⟩
 ·exact⟨A,e3,e4,e5⟩
 exact absurd j0 (e6 rfl)
end
def ZpRet(ps:List Pr)(G:Q95)(w:World)(e:Ending)(w':World):Prop:=∃vn vw,e=.returned (.tuple #[.agg (Q3n vn vw G.place),.int .i64 G.err])/\Q0a w w'/\Q3l w' w.heap.size vn (Q17 ps G.st)/\IntOwn w' w.heap.size vw G.wanted
theorem x05(w:World)(b R H:Nat)(ps:List Pr)(hs:List Hd)(hTb:Tab ps R H hs)(hS:Q3x w b R H (Q0e R ps))(hQ:QOk R H (Q0e R ps))(ka:Option Addr)(kc:Nat)(l:List Int)(hk:Q0z w (.slice ka l.length kc) l)(hl:l.length<=60)(hkk:Q0w R l=true) :
  Calls Tryz.prog 17 #[.pointer (some ⟨b,0,none⟩),.slice ka l.length kc] w fun e w'=>ZpRet ps (Q6a ps hs R H l 0 [⟨true,0⟩] []) w e w':=by
 have hT:=hTb.g.tab;have hR:=hTb.hR;have js:∀p∈ps,p.syms.length<=6:=fun p hp=>(hTb.syms p hp).1;obtain⟨n,hG⟩:=x9l hTb hkk;have jr:=(y6j hTb l 0 [⟨true,0⟩] [] hTb.start.1 hTb.start.2 (by simp) hkk (by omega) (by simp) (by simp)).1;have kd:=fun(rc:List Sy->Nat->Nat->Bool) (h:RcIs ps l R H rc) (A:List St) h1 h2=>x7q hTb hl h (A:=A) h1 h2;generalize Q6a ps hs R H l 0 [⟨true,0⟩] []=G at hG jr ⊢;have jb:=hQ.p20;have HK:=hid hk;obtain⟨ak,ck,ek,hck,hcell⟩:=hk;rw[qI]at ek;obtain⟨rfl,_,rfl⟩:=ek;have kh:=hid hcell;have ke:∀(i:Nat) (hi:i<l.length),0<=l[i]/\l[i]<R:=fun i hi=>by
  unfold Q0w at hkk;rw[qAn]at hkk;have:=hkk l[i] (qG hi);simpa using this
 have j6:=hid ke;have HT:=hid hT;have HM:=hid js;have HG:=hid hG;have k2:=hid kd;have ju:=hid jr;have HS:=hid hS;have HQ:=hid hQ;obtain⟨a0,c0,a1,c1,a2,c2,v3,v4,sv,hN⟩:=hS;have ki:=hid hN.k0;have jq:Q0a w (w.alloc (.cells (Q3n (.slice none 0 0) (.slice none 0 0) 0) 25)):=(mRf _ w).alloc _;have k8:=z0a w (.cells (Q3n (.slice none 0 0) (.slice none 0 0) 0) 25);have CT:=hid (x1k _ b R H (Q0e R ps) (Q9u ps l 0) (HS.fresh jq) hQ (y7x hT js rfl (qBg _) hl (fun k Y hY=>by simp at hY)) (fun p x hx h0=>by
  rw[z2i]at hx;cases hq:ps[p]? with
  |none=>rw[hq]at hx;cases hx
  |some q =>
   rw[hq]at hx;simp at hx;subst hx;exact x2x hq h0))
 have j4:=hid jq;have j1:=hid k8;clear hT hG kd jr hcell ke js hQ hN jq k8 hkk hTb hs;go_enter Tryz.func17,Tryz.ntmps17
 go_upto_region 2 with(first
  |(go_at_call 35;refine(CT.out).mono ?_;rintro e w2⟨cb,gs,cap,X0,rfl,hC,hgr,hdn,hin⟩;have HC:=hid hC;have j9:=hid hgr;have jw:=hid hdn;have jy:=hid hin;clear hC hgr hdn hin))
 generalize(w.alloc (.cells (Q3n (.slice none 0 0) (.slice none 0 0) 0) 25))=w1 at j4 j1 HC;have k1:=hid (x0n HT.out j9.out jw.out jy.out);have jf:=hid (fun(N:Nat) (P:List (List Itm)) (h1:P.length=N) (h2:N<=l.length) (h3:∀(k:Nat) (Y:List Itm),P[k]? = some Y->∀m:Itm,m∈Y↔Q9u ps l k m)=>y7x HT.out HM.out h1 h2 hl h3);have k3:Hid (∀Y∈[]++[X0],Q8g (Q0e R ps) Y):=hid (fun Y hY=>by
  simp at hY;subst hY;exact⟨j9.len (jf.out 0 [] rfl (qBg _) (fun k Y hY=>by simp at hY)).b jb,fun m hm=>by
   have:=(jf.out 0 [] rfl (qBg _) (fun k Y hY=>by simp at hY)).b m (j9.q m hm);exact⟨this.1,this.2.1⟩⟩)
 clear CT jw jy;go_wp2;go_loopw [7,8,9] (fun x7 _ _ wr=>∃(i gs cap:Nat) (P:List (List Itm)) (X:List Itm),x7=.int .i64 i/\i<=l.length/\i<=n/\P.length=i/\ChG w1 wr cb gs cap b (P++[X])/\Q23 ps l i (P++[X])/\X.Nodup/\∀Y∈P++[X],Q8g (Q0e R ps) Y)
   (fun x _ _ _=>1001-(intOf x).toNat)
 case atStart=>exact⟨0,gs,cap,[],X0,rfl,by omega,by omega,rfl,HC.out,k1.out,j9.nd,k3.out⟩
 obtain⟨i,gs2,cap2,P,X,rfl,hi,hin,hP,hC,hI,hnd,hXb⟩:=hrel;have kj:=hid (Q15 (B:=1001) i (by omega));have kg:=hid hC;have HI:=hid hI;have kk:=hid hnd;have k4:=hid hXb;have HP:=hid hP;have jj:Q0a w1 wr:=by
  obtain⟨vs,z⟩:=hC;exact z.fr
 have jm:=hid jj;have jg:=hid (j4.trans jj);have kq:=hid (jj.at j1.out (fun x=>x));have WN:=hid (y7n w1 · cb gs2 cap2 b R H (Q0e R ps) P X (HS.fresh j4.out) HQ.out · (by rw[hP];omega) (hXb X (by simp)));have jp:=hid (y21 (ps:=ps) (R:=R) (X:=X));clear hI hnd hXb HC k1 j9 k3 jj;by_cases hlt:i<l.length
 ·have s1:(i:Int)<(l.length:Int):=by omega
  obtain⟨gk,ok,rfl,y1⟩:=kh.out i hlt;have y2:=Q0i jg.out y1;obtain⟨st1,st2⟩:=x0b HT.out hR HG.out HP.out HI.out hlt hin (j6.out i hlt).1 (j6.out i hlt).2;have TK:=hid (x1s w1 wr cb gs2 cap2 b R H (Q0e R ps) P X l[i] (Q9u ps l (i+1)) (HS.fresh j4.out) HQ.out hC kk.out (by rw[hP];omega) k4.out (jf.out (i+1) (P++[X]) (by rw[qP,HP.out];rfl) (by omega) (fun k Y hY m=>HI.iff k Y hY m)) (fun m hm hsc=>by
   have kb:=(HI.iff i X (by rw[← HP.out,qAg (qR _)];simp) m).1 hm;have kf:=(z4b HT.out (j6.out i hlt).1 (j6.out i hlt).2).1 hsc;obtain⟨_,q,hq,_⟩:=y13 kb;rw[z3o hq]at kf;exact x2z kb hq kf (qE hlt)))
  have SN:=hid (fun(X':List Itm) (hg:Q4s (Q9u ps l (i+1)) (Q4g (Q0e R ps) l[i] X) X') (hd:∀m∈X',Q57 R (Q0e R ps) (P++[X]) X' m)=>(⟨x4q HT.out hlt HP.out HI.out (j6.out i hlt).1 (j6.out i hlt).2 hg hd,hg.nd,(fun Y hY=>by
   rw[qU]at hY;rcases hY with hY|hY
   ·exact k4.out Y hY
   rw[qM]at hY;subst hY;have hb:=(jf.out (i+1) (P++[X]) (by rw[qP,HP.out];rfl) (by omega) (fun k Y hY m=>HI.iff k Y hY m)).b;exact⟨hg.len hb jb,fun m hm=>⟨(hb m (hg.q m hm)).1,(hb m (hg.q m hm)).2.1⟩⟩)⟩:Q23 ps l (i+1) ((P++[X])++[X'])/\X'.Nodup/\∀Y∈(P++[X])++[X'],Q8g (Q0e R ps) Y))
  unfold TkRet at TK;have jh:=hid st1;have ji:=hid st2;generalize l[i]=c at y1 y2 TK SN jh ji;clear y1 st1 st2 hC hP;by_cases hnx:Q4g (Q0e R ps) c X=[]
  ·have k9:=jh.out hnx;have jn:=hid hnx;have j0:=hid k9;have RI:=hid (fun(W:World) (g:Nat) (hB:Q1y W g (Q78 ps R X))=>y1h W g (R+1) (Q78 ps R X) hB jp.out (by omega));generalize hris:risF (Q78 ps R X)=RS at j0 RI;clear hnx k9 SN jh ji hris;go_wp2_with (first
    |(go_at_call 36;refine(TK.out).mono ?_;rintro e w3 hz;obtain⟨_,rfl,hC3⟩:=hz.elim id (fun z=>absurd jn.out z.1);have je:=hid hC3;clear hz hC3)
    |(go_at_call 38;refine(WN.out _ je.out).mono ?_;rintro e w4⟨g4,rfl,hB4,hf4⟩;have jk:=hid hB4;have jv:=hid (je.fresh hf4);clear hB4 hf4)
    |(go_at_call 37;refine(RI.out _ g4 jk.out).mono ?_;rintro e w5⟨v5,rfl,ho5,hf5⟩;obtain⟨wa,wc,hv5⟩:=z0d ho5;subst hv5;have ja:=hid ho5;have j2:Hid (Q0a w1 w5):=hid (by obtain⟨vs,z⟩:=jv.out;exact z.fr.trans hf5);have j3:=hid (j2.at j1.out (fun x=>x));have j5:w.heap.size<w4.heap.size:=(by obtain⟨vs,z⟩:=jv.out;exact z0j (z.fr.at j1.out (fun x=>x)));clear ho5 hf5)
    |(refine wpList_store_row rfl 25 _ _ rfl w.heap.size (Q3n (.slice none 0 0) (.slice wa RS.length wc) i) rfl rfl _ _ j3.out Q2i rfl (z1z _ _ _ rfl rfl) ?_))
   refine bodyPost_ret (z0m rfl _ _ w.heap.size 25 (Q3n (.slice none 0 0) (.slice wa RS.length wc) i) (0,0) _ rfl (setRow_heap _ _ _ _ _ _ j3.out) Tryz.underlying25 rfl Q2i) rfl ?_;refine⟨.slice none 0 0,.slice wa RS.length wc,by rw[j0.out];rfl,(j4.trans j2.out).setRow (fun h=>absurd h (qBk _)) _,?_,?_⟩
   ·rw[j0.out];exact World.ownsRow_nil _ _ _ _
   rw[j0.out];refine z0f (z0c ja.out (fun g hg=>?_)) (qEa j5);have:=(ja.lt g hg).1;exact setRow_other _ _ _ _ (by omega)
  have ko:=ji.out hnx;have jn:=hid hnx;clear hnx jh ji WN;go_wp2_with (first
   |(go_at_call 36;refine(TK.out).mono ?_;rintro e w3 hz;obtain⟨_,rfl,gs3,cap3,X',hC3,hg3,hd3⟩:=hz.elim (fun z=>absurd z.1 jn.out) id;have je:=hid hC3;have jo:=hid (SN.out X' hg3 hd3);clear hz hC3 hg3 hd3))
  go_roundw
  case rel=>exact⟨i+1,gs3,cap3,P++[X],X',by go_num,by omega,ko,by rw[qP,HP.out];rfl,je.out,jo.1,jo.2.1,jo.2.2⟩
  exact kj.out
 have s1:¬(i:Int)<(l.length:Int):=by omega
 obtain rfl:i=l.length:=by omega
 obtain⟨en1,en2⟩:=x32 HT.out hR HG.out HP.out HI.out hin;have k6:=hid (WN.out wr kg.out);have RI:=hid (fun(W:World) (g:Nat) (hB:Q1y W g (Q78 ps R X))=>y1h W g (R+1) (Q78 ps R X) hB jp.out (by omega));have jc:=hid en1;have jd:=hid en2;have j7:Hid (Calls Tryz.prog 38 #[.pointer (some ⟨cb,0,none⟩)] wr fun e w'=>WnRet wr R (Q78 ps R X) e w'):=hid k6.out;unfold WnRet at j7;have CR:Hid (∀(W:World) (g:Nat),Q1y W g (Q78 ps R X)->W.cell? ⟨g,R,none⟩=some (.bool ((Q78 ps R X).getD R false))):=hid (fun W g hB=>hB.cell (j:=R) (by rw[jp.out];omega));have HZ:Hid (∀W,Q0a wr W->W.cell? ⟨b,0,none⟩=some (.slice a0 R c0)):=hid (fun W hW=>Q0i (jg.trans hW) ki.out);have SP:=hid (fun(W:World) (hW:Q0a wr W)=>x4u W b R H (Q0e R ps) ka kc l (Q44 ps l) (HS.fresh (jg.trans hW)) HQ.out (HK.fresh (jg.trans hW)) hl (x0p (l.length+1)) (fun D p x i h1 _ h3 h4=>x4t HT.out h1 h3 h4));have TR:Hid (∀(A:List St),(Q17 ps A).length<=1000000000000->Q1f ps A [⟨true,0⟩]=some []->Q0d A=l->∀(W:World) (sb:Nat) (da:Option Addr) (dc:Nat) (D:List Mat),SpR W sb b R H (Q0e R ps) ka kc l da dc D->Q44 ps l D->CloD R (Q0e R ps) l D->Calls Tryz.prog 40 #[.pointer (some ⟨sb,0,none⟩),.int .i64 0,.int .i64 0,.int .i64 l.length,.int .i64 2000] W fun e w'=>NdRet W (Q17 ps A) e w'):=hid (fun A hA h1 h2 W sb da dc D hSp hSo hCl=>by
  have e:Q5c (bs R) (Q0e R ps) (rcB R l D) 2000 0 0 l.length=Q17 ps A:=by
   rw[y83 HT.out];exact k2.out _ (v2d HT.out hSo (x1r HT.out hSo hCl)) A h1 h2
  have:=y84 sb b R H (Q0e R ps) ka kc l da dc D HQ.out hl 2000 (qR _) W 0 0 l.length hSp (qBg _) (qR _) (by rw[e];exact hA);rw[e]at this;exact this)
 have kp:(R:Int)<((R+1:Nat):Int):=by omega
 generalize R+1=r1 at j7 RI kp;generalize(Q78 ps R X).getD R false=bR at jc jd CR;clear en1 en2 hC WN k6 k2;cases bR
 ·have j0:=hid (jc.out rfl);generalize hris:risF (Q78 ps R X)=RS at j0 RI;generalize Q78 ps R X=WR at j7 RI CR;clear jc jd SP TR hris;go_wp2_with (first
   |(go_at_call 38;refine(j7.out).mono ?_;rintro e w4⟨g4,rfl,hB4,hf4⟩;have jk:=hid hB4;have c4:=CR.out w4 g4 hB4;have z4:=HZ.out w4 hf4;have j8:=hid (jm.trans hf4);clear hB4 hf4)
   |(go_at_call 37;refine(RI.out _ g4 jk.out).mono ?_;rintro e w5⟨v5,rfl,ho5,hf5⟩;obtain⟨wa,wc,hv5⟩:=z0d ho5;subst hv5;have ja:=hid ho5;have j2:=hid (j8.trans hf5);have j3:=hid (j2.at j1.out (fun x=>x));have j5:w.heap.size<w4.heap.size:=z0j (j8.at j1.out (fun x=>x));clear ho5 hf5)
   |(refine wpList_store_row rfl 25 _ _ rfl w.heap.size (Q3n (.slice none 0 0) (.slice wa RS.length wc) l.length) rfl rfl _ _ j3.out Q2i rfl (z1z _ _ _ rfl rfl) ?_))
  refine bodyPost_ret (z0m rfl _ _ w.heap.size 25 (Q3n (.slice none 0 0) (.slice wa RS.length wc) l.length) (0,0) _ rfl (setRow_heap _ _ _ _ _ _ j3.out) Tryz.underlying25 rfl Q2i) rfl ?_;refine⟨.slice none 0 0,.slice wa RS.length wc,by rw[j0.out];rfl,(j4.trans j2.out).setRow (fun h=>absurd h (qBk _)) _,?_,?_⟩
  ·rw[j0.out];exact World.ownsRow_nil _ _ _ _
  rw[j0.out];refine z0f (z0c ja.out (fun g hg=>?_)) (qEa j5);have:=(ja.lt g hg).1;exact setRow_other _ _ _ _ (by omega)
 obtain⟨A,hGA,hA1,hA2⟩:=jd.out rfl;have j0:=hid hGA;have k7:(Q17 ps A).length<=1000000000000:=by
  rw[z62];have:=ju.out;rw[hGA]at this;dsimp only at this;omega
 have k5:=hid (TR.out A k7 hA1 hA2);generalize hNF:Q17 ps A=NF at k5;have kl:=hid hNF;generalize Q78 ps R X=WR at j7 CR;unfold SpnRet at SP;clear jc jd TR hGA hA1 hA2 k7 hNF RI ju;go_wp2_with (first
  |(go_at_call 38;refine(j7.out).mono ?_;rintro e w4⟨g4,rfl,hB4,hf4⟩;have c4:=CR.out w4 g4 hB4;have z4:=HZ.out w4 hf4;have j8:=hid hf4;clear hB4 hf4)
  |(go_at_call 39;refine(SP.out _ j8.out).mono ?_;rintro e w5⟨sb,da,dc,D,rfl,hSp,hf5,hSo,hCl⟩;have kn:=hid hSp;have jx:=hid (j8.trans hf5);have km:=hid hSo;have jl:=hid hCl;clear hSp hf5 hSo hCl)
  |(go_at_call 40;refine(k5.out _ sb da dc D kn.out km.out jl.out).mono ?_;rintro e w6⟨v6,rfl,ho6,hf6⟩;obtain⟨na,nc,hv6⟩:=z0d ho6;subst hv6;have jz:=hid ho6;have j2:=hid (jm.trans (jx.trans hf6));have j3:=hid (j2.at j1.out (fun x=>x));have jt:w.heap.size<w5.heap.size:=z0j ((jm.trans jx.out).at j1.out (fun x=>x));clear ho6 hf6)
  |(refine wpList_store_row rfl 25 _ _ rfl w.heap.size (Q3n (.slice na NF.length nc) (.slice none 0 0) 0) rfl rfl _ _ j3.out Q2i rfl (z1z _ _ _ rfl rfl) ?_))
 refine bodyPost_ret (z0m rfl _ _ w.heap.size 25 (Q3n (.slice na NF.length nc) (.slice none 0 0) 0) (0,0) _ rfl (setRow_heap _ _ _ _ _ _ j3.out) Tryz.underlying25 rfl Q2i) rfl ?_;refine⟨.slice na NF.length nc,.slice none 0 0,by rw[j0.out];rfl,(j4.trans j2.out).setRow (fun h=>absurd h (qBk _)) _,?_,?_⟩
 ·rw[j0.out];show Q3l _ _ _ (Q17 ps A);rw[kl.out];refine z0f (z0c jz.out (fun g hg=>?_)) (qEa jt);have:=(jz.lt g hg).1;exact setRow_other _ _ _ _ (by omega)
 rw[j0.out];exact World.ownsRow_nil _ _ _ _
theorem x5u{s:ByteArray}(h:800<s.size):(Q0t s).1=1:=by unfold Q0t;rw[qAb h]
theorem y9w{R:Int}{l:List Int}{i:Nat}(hi:i<l.length)(h:Q0w R (l.take i)=true)(h0:0<=l[i])(h1:l[i]<R):Q0w R (l.take (i+1))=true:=by
 unfold Q0w at h ⊢;rw[Q6g hi,qEk,h];simp[h0,h1]
theorem x22{R:Int}{l:List Int}{i:Nat}(hi:i<l.length)(h:l[i]<0∨R<=l[i]):Q0w R l=false:=by
 cases hk:Q0w R l with
 |false=>rfl
 |true =>
  unfold Q0w at hk;rw[qAn]at hk;have:=hk l[i] (qG hi);simp at this;omega
theorem z99(s:ByteArray)(kinds:List Int)(vk:Value)(w:World)(hs:s.size<=maxLen)(hk:Q0z w vk kinds)(hl:800<s.size∨60<kinds.length)(hm:kinds.length<=maxLen) :
  Calls Tryz.prog 5 #[.string s,vk] w fun e w'=>Q2c s (Q65 1) w e w':=by
 obtain⟨ka,kc,rfl,hkc,_⟩:=hk;unfold maxLen at hm hs;by_cases h8:800<s.size
 ·have h1:(800:Int)<(s.size:Int):=by omega
  clear hl;go_enter Tryz.func5,Tryz.ntmps5
  go_wp2;exact bodyPost_ret (z0m rfl _ _ w.heap.size 25 (Q3n (.slice none 0 0) (.slice none 0 0) 0) (0,0) _ rfl (z0a _ _) Tryz.underlying25 rfl Q2i) rfl (Q2c.bad ((mRf _ w).alloc _))
 have h1:¬(800:Int)<(s.size:Int):=by omega
 have h2:(60:Int)<(kinds.length:Int):=by omega
 clear hl;go_enter Tryz.func5,Tryz.ntmps5
 go_wp2;exact bodyPost_ret (z0m rfl _ _ w.heap.size 25 (Q3n (.slice none 0 0) (.slice none 0 0) 0) (0,0) _ rfl (z0a _ _) Tryz.underlying25 rfl Q2i) rfl (Q2c.bad ((mRf _ w).alloc _))
theorem x0z(s:ByteArray)(kinds:List Int)(vk:Value)(w:World)(hs:s.size<=800)(hk:Q0z w vk kinds)(hl:kinds.length<=60)(hc:(Q0t s).1≠0) :
  Calls Tryz.prog 5 #[.string s,vk] w fun e w'=>Q2c s (Q65 (Q0t s).1) w e w':=by
 obtain⟨ka,kc,rfl,hkc,_⟩:=hk;have RD:=hid (fun w=>y5y s w (by unfold maxLen;omega));unfold Q9j at RD;have c0:((Q0t s).1 != 0)=true:=by simpa using hc
 have j3:¬(60:Int)<(kinds.length:Int):=by omega
 have j4:¬(800:Int)<(s.size:Int):=by omega
 have j0:Hid (∀w,Calls Tryz.prog 15 #[.string s] w fun e w'=>∃(p:Value) (pl:Int),e=.returned (.tuple #[p,.int .i64 (Q0t s).1,.int .i64 pl])/\Q0a w w'):=hid (fun w=>(RD.out w).mono (by
  rintro e w'⟨p,pl,h1,h2,_⟩;exact⟨p,pl,h1,h2⟩))
 generalize(Q0t s).1=E at j0 c0;clear hc RD;go_enter Tryz.func5,Tryz.ntmps5
 go_wp2_with (first
  |(refine wpList_store_row rfl 25 _ _ rfl w.heap.size (Q3n (.slice none 0 0) (.slice none 0 0) 0) rfl rfl _ _ j1.out Q2i rfl (z1z _ _ _ rfl rfl) ?_)
  |(go_at_call 15;refine(j0.out _).mono ?_;rintro e w1⟨p,pl,rfl,hf1⟩;have j2:=hid hf1;have j1:=hid (hf1.at (z0a w _) (fun x=>x));clear hf1))
 refine bodyPost_ret (z0m rfl _ _ w.heap.size 25 (Q3n (.slice none 0 0) (.slice none 0 0) 0) (0,0) _ rfl (setRow_heap _ _ _ _ _ _ j1.out) Tryz.underlying25 rfl Q2i) rfl (Q2c.bad ?_);exact(Mod.trans ((mRf _ w).alloc _) j2.out).setRow (fun h=>absurd h (qBk _)) _
theorem y7f(s:ByteArray)(kinds:List Int)(vk:Value)(w:World)(hs:s.size<=800)(hk:Q0z w vk kinds)(hl:kinds.length<=60)(hc:(Q0t s).1=0) :
  Calls Tryz.prog 5 #[.string s,vk] w fun e w'=>Q2c s (Q2f s kinds) w e w':=by
 have jb:=z31 hc;have RD:=hid (fun w=>v01 s w (by unfold maxLen;omega) jb);have jh:=x5v jb;have j8:=y9n hc;have j2:=x8i jb;have CL:=hid (fun(W:World) (b:Nat) (hS:Q3x W b (Q0f (Q0c s).1).length (Q0h (Q0c s).1).length (Q0e (Q0f (Q0c s).1).length (Q0q (Q0c s).1)))=>y5q W b _ _ _ j2 hS (by rw[jh];exact j8));rw[jh]at CL;have HK:=hid hk;obtain⟨ka,kc,hvk,hkc,hcell⟩:=hk;have ZP:Hid (Q26 s=[]->Q0w (nR s) kinds=true->∀(W:World) (b:Nat),Q0a w W->Q3x W b (Q0f (Q0c s).1).length (Q0h (Q0c s).1).length (Q0e (Q0f (Q0c s).1).length (Q0q (Q0c s).1))->Calls Tryz.prog 17 #[.pointer (some ⟨b,0,none⟩),.slice ka kinds.length kc] W fun e w'=>Q2c s (Q70 s kinds) W e w'):=hid (fun hcl j7 W b hW hS=>x05 W b _ _ _ _ (x44 hc hcl) hS j2.qk ka kc kinds (by rw[← hvk];exact HK.fresh hW) hl j7);have js:Q2f s kinds=if Q0w (nR s) kinds=false then Q65 7 else if Q26 s≠[] then Q65 8 else Q70 s kinds:=by
  unfold Q2f;rw[qAa (by omega),qAa (by simp[hc])]
 rw[js];generalize hRES:(if Q0w (nR s) kinds=false then Q65 7 else if Q26 s≠[] then Q65 8 else Q70 s kinds)=RES;have j1:=hid hRES;unfold ReadN at RD;subst hvk;have k4:nR s<=8:=j2.qk.r8;have e1:((Q0f (Q0c s).1).length:Nat)=nR s:=rfl;rw[e1]at RD CL ZP;have ju:=hid hcell;have jy:¬(60:Int)<(kinds.length:Int):=by omega
 have jz:¬(800:Int)<(s.size:Int):=by omega
 have k2:decide ((60:Int)<(kinds.length:Int))=false:=qBh jy;have k3:decide ((800:Int)<(s.size:Int))=false:=qBh jz;generalize nR s=R at *;clear js hc jb jh j8 j2 e1 hcell HK hRES;go_enter Tryz.func5,Tryz.ntmps5
 go_upto_region 6 with(first
  |(go_at_call 15;refine(RD.out _).mono ?_;rintro e w1⟨b,pl,rfl,hS1,hf1⟩;have jx:=hid hS1;have ja:=hid (Mod.trans ((mRf _ w).alloc _) hf1);have ji:=hid (hf1.at (z0a w _) (fun x=>x));clear hS1 hf1))
 go_wp2;go_loopw [9] (fun x9 wr=>∃i:Nat,x9=.int .i64 i/\i<=kinds.length/\Q0w R (kinds.take i)=true/\Q0a w1 wr)
   (fun x _=>1001-(intOf x).toNat)
 case atStart=>exact⟨0,rfl,by omega,by simp[Q0w],mRf _ _⟩
 obtain⟨i,rfl,hi,hok,hfr⟩:=hrel;have jw:=hid (Q15 (B:=1001) i (by omega));have HF:=hid hfr;have jn:=hid hok;have jj:=jx.fresh hfr;obtain⟨a0,c0,a1,c1,a2,c2,v3,v4,sv,hN⟩:=id jj;have z0:=hN.k0;have jo:=hid jj;clear hok hN jj;by_cases hlt:i<kinds.length
 ·have s1:(i:Int)<(kinds.length:Int):=by omega
  obtain⟨g,o,rfl,y0⟩:=ju.out i hlt;have y1:=Q0i (ja.trans hfr) y0;have jr:=y9w (R:=R) hlt jn.out;have jq:=x22 (R:=R) hlt;have jl:=hid jr;have jd:=hid jq;generalize kinds[i]=c at y1 y0 jl jd;clear jr jq y0 hfr;by_cases hneg:c<0
  ·have d1:decide (c<0)=true:=qBl hneg;have HB:=hid (jd.out (.inl hneg));have j4:=hid (HF.at ji.out (fun x=>x));go_wp2_with fail
   go_quiet (fail);have j0:=hid ((Q0r wr nq).at j4.out (fun x=>x));have j6:=hid ((ja.trans HF.out).trans (Q0r wr nq));generalize wr.drewN nq=W at j0 j6 ⊢;go_wp2_with (first
    |(refine wpList_store_row rfl 25 _ _ rfl w.heap.size (Q3n (.slice none 0 0) (.slice none 0 0) 0) rfl rfl _ _ j0.out Q2i rfl (z1z _ _ _ rfl rfl) ?_))
   refine bodyPost_ret (z0m rfl _ _ w.heap.size 25 (Q3n (.slice none 0 0) (.slice none 0 0) 0) (0,0) _ rfl (setRow_heap _ _ _ _ _ _ j0.out) Tryz.underlying25 rfl Q2i) rfl ?_;rw[show RES=Q65 7 by rw[← j1.out,HB.out,qAb rfl]];exact Q2c.bad (j6.setRow (fun h=>absurd h (qBk _)) _)
  have d1:decide (c<0)=false:=qBh hneg;by_cases hge:(R:Int)<=c
  ·have HB:=hid (jd.out (.inr hge));have j4:=hid (HF.at ji.out (fun x=>x));go_wp2_with fail
   go_quiet (fail);have j0:=hid ((Q0r wr nq).at j4.out (fun x=>x));have j6:=hid ((ja.trans HF.out).trans (Q0r wr nq));generalize wr.drewN nq=W at j0 j6 ⊢;go_wp2_with (first
    |(refine wpList_store_row rfl 25 _ _ rfl w.heap.size (Q3n (.slice none 0 0) (.slice none 0 0) 0) rfl rfl _ _ j0.out Q2i rfl (z1z _ _ _ rfl rfl) ?_))
   refine bodyPost_ret (z0m rfl _ _ w.heap.size 25 (Q3n (.slice none 0 0) (.slice none 0 0) 0) (0,0) _ rfl (setRow_heap _ _ _ _ _ _ j0.out) Tryz.underlying25 rfl Q2i) rfl ?_;rw[show RES=Q65 7 by rw[← j1.out,HB.out,qAb rfl]];exact Q2c.bad (j6.setRow (fun h=>absurd h (qBk _)) _)
  have jv:=hid (jl.out (by omega) (by omega));go_wp2_with fail
  go_quiet (fail);go_wp2;go_roundw
  case rel=>exact⟨i+1,by go_num,by omega,jv.out,HF.trans (Q0r _ _)⟩
  exact jw.out
 have s1:¬(i:Int)<(kinds.length:Int):=by omega
 have j7:Q0w R kinds=true:=by
  have:=jn.out;rw[qCh (by omega)]at this;exact this
 have j3:=j1.out;rw[j7,qAa (by simp)]at j3;have jf:=hid (fun hcl=>ZP.out hcl j7);have j9:=hid (CL.out wr b jo.out);have j4:=hid (hfr.at ji.out (fun x=>x));have jc:=hid (ja.trans hfr);clear j7 ZP CL hfr j1;by_cases hcl:Q26 s=[]
 ·rw[qAa (by simp[hcl])]at j3;have jg:=hid (jf.out hcl);rw[hcl]at j9;generalize Q70 s kinds=GS at jg j3;have je:=hid j3;unfold Q2c at jg;clear hcl jf j3;go_wp2_with (first
   |(refine wpList_store_row rfl 25 _ _ rfl w.heap.size (Q3n (.slice na (Q17 (tabF s) GS.st).length nc) (.slice wa GS.wanted.length wc) GS.place) rfl rfl _ _ j0.out Q2i rfl (z1z _ _ _ rfl rfl) ?_)
   |(go_at_call 16;refine(j9.out).mono ?_;rintro e w2⟨v,rfl,hO,hf2⟩;obtain⟨ao,cp,hv⟩:=z0d hO;subst hv;have j5:=hid hf2;clear hO hf2)
   |(go_at_call 17;refine(jg.out _ b (jc.trans j5.out) (jo.fresh j5.out)).mono ?_;rintro e w4⟨vn,vw,rfl,hf4,hn4,hw4⟩;obtain⟨na,nc,hvn⟩:=z0d hn4;subst hvn;obtain⟨wa,wc,hvw⟩:=z0d hw4;subst hvw;have jm:=hid hn4;have jp:=hid hw4;have jk:=hid (j5.trans hf4);have j0:=hid (jk.at j4.out (fun x=>x));have jt:w.heap.size<w2.heap.size:=z0j (j5.at j4.out (fun x=>x));clear hn4 hw4 hf4))
  refine bodyPost_ret (z0m rfl _ _ w.heap.size 25 (Q3n (.slice na (Q17 (tabF s) GS.st).length nc) (.slice wa GS.wanted.length wc) GS.place) (0,0) _ rfl (setRow_heap _ _ _ _ _ _ j0.out) Tryz.underlying25 rfl Q2i) rfl ?_;rw[← je.out];refine⟨_,_,rfl,(jc.trans jk.out).setRow (fun h=>absurd h (qBk _)) _,?_,?_⟩
  ·refine z0f (z0c jm.out (fun g hg=>?_)) (qEa jt);have:=(jm.lt g hg).1;exact setRow_other _ _ _ _ (by omega)
  refine z0f (z0c jp.out (fun g hg=>?_)) (qEa jt);have:=(jp.lt g hg).1;exact setRow_other _ _ _ _ (by omega)
 rw[qAb hcl]at j3;have je:=hid j3;have k1:(0:Int)<((Q26 s).length:Int):=by have:=List.length_pos_iff.2 hcl;omega
 clear hcl jf j3;generalize Q26 s=CF at j9 k1;go_wp2_with (first
  |(refine wpList_store_row rfl 25 _ _ rfl w.heap.size (Q3n (.slice none 0 0) (.slice none 0 0) 0) rfl rfl _ _ j0.out Q2i rfl (z1z _ _ _ rfl rfl) ?_)
  |(go_at_call 16;refine(j9.out).mono ?_;rintro e w2⟨v,rfl,hO,hf2⟩;obtain⟨ao,cp,hv⟩:=z0d hO;subst hv;have j5:=hid hf2;have j0:=hid (hf2.at j4.out (fun x=>x));clear hO hf2))
 refine bodyPost_ret (z0m rfl _ _ w.heap.size 25 (Q3n (.slice none 0 0) (.slice none 0 0) 0) (0,0) _ rfl (setRow_heap _ _ _ _ _ _ j0.out) Tryz.underlying25 rfl Q2i) rfl ?_;rw[← je.out];refine Q2c.bad ?_;exact(jc.trans j5.out).setRow (fun h=>absurd h (qBk _)) _
theorem x0y(s:ByteArray)(kinds:List Int)(vk:Value)(w:World)(hs:s.size<=maxLen)(hk:Q0z w vk kinds)(hm:kinds.length<=maxLen) :
  Calls Tryz.prog 5 #[.string s,vk] w fun e w'=>Q2c s (Q2f s kinds) w e w':=by
 by_cases hl:60<kinds.length
 ·have e:Q2f s kinds=Q65 1:=by unfold Q2f;rw[qAb hl]
  rw[e];exact z99 s kinds vk w hs hk (.inr hl) hm
 by_cases h8:800<s.size
 ·have e:Q2f s kinds=Q65 1:=by unfold Q2f;rw[qAa hl,x5u h8,qAb (by decide)]
  rw[e];exact z99 s kinds vk w hs hk (.inl h8) hm
 by_cases hc:(Q0t s).1=0
 ·exact y7f s kinds vk w (by omega) hk (by omega) hc
 have e:Q2f s kinds=Q65 (Q0t s).1:=by unfold Q2f;rw[qAa hl,qAb hc]
 rw[e];exact x0z s kinds vk w (by omega) hk (by omega) hc
attribute [local go_sem ↓] y14
theorem y6l(w:World)(va vb:Value)(l:List Nd)(ha:NdsAt w va l)(hb:NdsAt w vb l)(hl:l.length<=10000000000000) :
  Calls Tryz.prog 6 #[va,vb] w fun e w'=>e=.returned (.bool true)/\∃m,w'=w.drewN m:=by
 obtain⟨aa,ca,hva⟩:=z0d ha.own;subst hva;obtain⟨ab,cb,hvb⟩:=z0d hb.own;subst hvb;have HA:=hid ha;have HB:=hid hb;clear ha hb;go_enter Tryz.func6,Tryz.ntmps6
 go_wp2;go_loopw [5] (fun x5 wr=>∃(i:Nat),x5=.int .i64 i/\i<=l.length/\∃m,wr=w.drewN m)
  (fun x _=>10000000000001-(intOf x).toNat)
 case atStart=>exact⟨0,rfl,by omega,0,rfl⟩
 obtain⟨i,rfl,hi,m,hfr⟩:=hrel;subst hfr;have j0:=hid (Q15 (B:=10000000000001) i (by omega));by_cases hlt:i<l.length
 ·have j1:(i:Int)<(l.length:Int):=by omega
  obtain⟨g,c',hg⟩:=Joins.ownsRow_form HA.own (by omega);rw[qI]at hg;obtain⟨rfl,_,rfl⟩:=hg;obtain⟨g2,c2',hg2⟩:=Joins.ownsRow_form HB.own (by omega);rw[qI]at hg2;obtain⟨rfl,_,rfl⟩:=hg2;have r1:=HA.range i hlt;have r2:=HB.range i hlt;generalize l[i]=li at r1 r2;obtain⟨p,k,a,s⟩:=li;have l1:∀m,(ldN (.pointer (some ⟨g,i*4,none⟩))).run Tryz.prog (w.drewN m)=.ok (.agg (ndA p k a s)) (w.drewN m):=fun m=>x24 (w:=w.drewN m) (z0t r1 rfl);have l2:∀m,(ldN (.pointer (some ⟨g2,i*4,none⟩))).run Tryz.prog (w.drewN m)=.ok (.agg (ndA p k a s)) (w.drewN m):=fun m=>x24 (w:=w.drewN m) (z0t r2 rfl);have q1:∀w,(Op.equalIn 10000 59 (.agg (ndA p k a s)) (.agg (ndA p k a s))).run Tryz.prog w=.ok true w:=fun w=>eqNd 9996 p k a s w;have g1:=guardNd;clear r1 r2;go_wp2_with fail
  go_quiet (fail);go_wp2;go_roundw
  case rel=>exact⟨i+1,by go_num,by omega,_,rfl⟩
  exact j0.out
 have j2:¬(i:Int)<(l.length:Int):=by omega
 go_wp2;go_ret;exact⟨rfl,m,rfl⟩
theorem x2m{ps:List Pr}{hs:List Hd}{R H:Nat}:∀(l:List Int) (a:Nat) (k:List Sy) (st:List St),(Q6a ps hs R H l a k st).wanted.length<=9
 | [],a,k,st=>by
  unfold Q6a;split
  ·simp
  exact z38 _
 |t::l,a,k,st=>by
  unfold Q6a;split
  ·exact x2m l _ _ _
  exact z38 _
theorem x3y(s:ByteArray)(kinds:List Int):(Q2f s kinds).wanted.length<=9/\(Q2f s kinds).st.length<=61*2000000000:=by
 unfold Q2f;split
 ·simp[Q65]
 split
 ·simp[Q65]
 split
 ·simp[Q65]
 split
 ·simp[Q65]
 rename_i h1 h2 h3 h4;exact⟨x2m _ _ _ _,(x9k (by simpa using h2) (by simpa using h4) kinds (by simpa using h3) (by omega)).1⟩
theorem y9p(w:World)(vk:Value)(kinds:List Int)(hk:Q0z w vk kinds):∃W2,(∀ty,(Builtin.copy_ #[22,22] ty #[.slice (some ⟨w.heap.size,0,none⟩) (kinds.length+1) (kinds.length+1),vk]).run Tryz.prog (w.alloc (.cells (madeCells #[Value.int .i64 0] (kinds.length+1)) 3))=.ok (.int .i64 kinds.length) W2)/\Q0a w W2/\W2.heap[w.heap.size]? = some (.cells (Q5w kinds++[Value.int .i64 0]).toArray 3 (0,0)):=by
 have hm:madeCells #[Value.int .i64 0] (kinds.length+1)=(List.replicate (kinds.length+1) (Value.int .i64 0)).toArray:=by
  unfold madeCells;apply qDk;intro i;by_cases h:i<kinds.length+1<;>simp[h,Nat.mod_one]
 have hF:Q0a w (w.alloc (.cells (madeCells #[Value.int .i64 0] (kinds.length+1)) 3)):=(mRf _ w).alloc _;have hB:(w.alloc (.cells (madeCells #[Value.int .i64 0] (kinds.length+1)) 3)).heap[w.heap.size]? = some (.cells (List.replicate (kinds.length+1) (Value.int .i64 0)).toArray 3 (0,0)):=by rw[z0a,hm]
 cases hkn:kinds with
 |nil =>
  subst hkn;obtain⟨ao,cap,rfl,_,_⟩:=hk;exact⟨_,fun ty=>run_copy_none (P:=Tryz.prog) _ _ _ ty _ _ _ _ _ _ _ Tryz.underlying22 (by kernel_rfl) (by simp),hF,by simpa using hB⟩
 |cons c ks =>
  rw[← hkn];obtain⟨ao,cap,rfl,hcap,hcell⟩:=hk;obtain⟨g,o,rfl,_⟩:=hcell 0 (by rw[hkn];simp);have j0:(Q5w kinds).length=kinds.length:=by simp[Q5w]
  have h:=fun ty=>run_copy_row (P:=Tryz.prog) (w.alloc (.cells (madeCells #[Value.int .i64 0] (kinds.length+1)) 3)) 22 22 ty 3 w.heap.size 0 (kinds.length+1) (kinds.length+1) ⟨g,o,none⟩ kinds.length cap _ _ (Q5w kinds) Tryz.underlying22 (by kernel_rfl) hB (by rw[j0];exact(qDq (by omega)).symm) (fun j v hj=>by
   have j1:j<kinds.length:=by have:=(qS hj).1;omega
   obtain⟨g',o',e,hc⟩:=hcell j j1;cases e;have hv:v=.int .i64 kinds[j]:=by
    simp[Q5w,j1]at hj;exact hj.symm
   rw[hv,Addr.add_mid];exact Q0i hF hc) (by rw[j0];simp) (by intro v hv;simp[Q5w]at hv;obtain⟨_,_,rfl⟩:=hv;rfl)
  refine⟨_,fun ty=>by rw[h ty,j0];rfl,hF.setRow (fun h=>absurd h (qBk _)) _,?_⟩;rw[setRow_heap _ _ _ _ _ _ hB];congr 3;simp only[List.take_zero,qBq,qBi];congr 1;rw[List.drop_replicate];simp
theorem x0c(s:ByteArray)(kinds:List Int)(vk:Value)(w:World)(hs:s.size<=maxLen)(hk:Q0z w vk kinds)(hm:kinds.length<=35000000000000) :
  Calls Tryz.prog 3 #[.string s,vk] w fun e w'=>e=.returned (.bool true)/\Q0a w w':=by
 have HK:=hid hk;obtain⟨W2,hcp,hF2,hB2⟩:=y9p w vk kinds hk;obtain⟨ka,kc,rfl,_,_⟩:=hk;have mk:=run_make_row' (P:=Tryz.prog) 22 3 (.int .i64 0) 8 Tryz.underlying22 (by kernel_rfl) rfl .i64 .i64 (kinds.length+1) (by omega) (by omega) w;have jj:(Q5w kinds).length=kinds.length:=by simp[Q5w]
 have x1:W2.cell? ⟨w.heap.size,kinds.length,none⟩=some (.int .i64 0):=by rw[Q0b hB2];simp[jj]
 have x2:=Q0g hB2 kinds.length;have ju:(W2.setCell ⟨w.heap.size,kinds.length,none⟩ (.int .i64 (-77))).heap[w.heap.size]? = some (.cells (Q5w kinds++[Value.int .i64 (-77)]).toArray 3 (0,0)):=by
  rw[zhs hB2,List.setIfInBounds_toArray,qCy _ _ (by omega),jj,qCu];rfl
 have k7:Q0a w (W2.setCell ⟨w.heap.size,kinds.length,none⟩ (.int .i64 (-77))):=hF2.setCell (fun h=>absurd h (qBk _)) _;have k8:∀W:World,W.heap[w.heap.size]? = some (.cells (Q5w kinds++[Value.int .i64 (-77)]).toArray 3 (0,0))->Q0z W (.slice (some ⟨w.heap.size,0,none⟩) kinds.length (kinds.length+1)) kinds/\W.cell? ⟨w.heap.size,kinds.length,none⟩=some (.int .i64 (-77)):=fun W hB=>by
  refine⟨⟨_,_,rfl,by omega,fun j hj=>⟨_,_,rfl,?_⟩⟩,?_⟩
  ·rw[Q0b hB,qBi,qCb,qAe (by omega)];simp[hj,Q5w]
  rw[Q0b hB,qCb,qAg (by omega),jj,qCu];rfl
 have jg:=hid k8;have jc:=hid ju;have je:=hid k7;have PA:=hid (fun(W:World) (vk:Value) (h:Q0z W vk kinds)=>x3z s kinds vk W hs h (by unfold maxLen;omega));have PB:=hid (fun(W:World) (vk:Value) (h:Q0z W vk kinds)=>x0y s kinds vk W hs h (by unfold maxLen;omega));unfold Q2c at PA PB;obtain⟨bd1,bd2⟩:=x3y s kinds;have jh:=z62 (tabF s) (Q2f s kinds).st;generalize Q2f s kinds=G at PA PB bd1 bd2 jh;obtain⟨ge,gw,gp,gst⟩:=G;dsimp only at PA PB bd1 bd2 jh;generalize Q17 (tabF s) gst=NF at PA PB jh;have jv:NF.length<=10000000000000:=by omega
 clear jh bd2;have NU:=hid (fun e w=>x92 e w);have ki:w.heap.size<W2.heap.size:=z0j hB2;have kh:w.heap.size<(W2.setCell ⟨w.heap.size,kinds.length,none⟩ (.int .i64 (-77))).heap.size:=z0j ju;generalize hW3:W2.setCell ⟨w.heap.size,kinds.length,none⟩ (.int .i64 (-77))=W3 at jc je kh;have kb:=hid hW3;generalize hn1:kinds.length+1=n1 at mk hcp jg;have kj:IntKind.i64.wrap ((kinds.length:Int)+1)=(n1:Int):=by rw[IntKind.wrap_i64];omega
 have s1:(kinds.length:Int)<(n1:Int):=by omega
 have s2:(kinds.length:Int)<=(n1:Int):=by omega
 have P1:=hid (PA.out W3 _ (jg.out W3 jc.out).1);clear jj hB2 hF2 ju k7 k8 hn1 hW3 PA;go_enter Tryz.func3,Tryz.ntmps3
 go_upto_region 4 with fail
 rw[kb.out];go_upto_region 5 with(first
  |(go_at_call 4;refine(P1.out).mono ?_;rintro e w4⟨vn,vw,rfl,hf4,hn4,hw4⟩;obtain⟨na,nc,hvn⟩:=z0d hn4;subst hvn;obtain⟨wa,wc,hvw⟩:=z0d hw4;subst hvw;have k3:=hid hn4;have jt:=hid hw4;have k0:=hid hf4;clear hn4 hw4 hf4)
  |(refine z0e rfl 25 _ _ rfl w4 _ (Q3n (.slice na NF.length nc) (.slice wa gw.length wc) gp) _ rfl rfl rfl Q2i rfl (z1z _ _ _ rfl rfl) ?_))
 have jx:Q0a w4 (w4.alloc (.cells (Q3n (.slice na NF.length nc) (.slice wa gw.length wc) gp) 25)):=(mRf _ w4).alloc _;have k5:=z0a w4 (.cells (Q3n (.slice na NF.length nc) (.slice wa gw.length wc) gp) 25);have P2:=hid (PB.out _ _ (HK.fresh ((je.trans k0.out).trans jx)));have k1:=hid jx;have jy:=hid k5;generalize(w4.alloc (.cells (Q3n (.slice na NF.length nc) (.slice wa gw.length wc) gp) 25))=W5 at k1 jy P2 ⊢;clear jx k5 P1 PB;go_upto_region 6 with(first
  |(go_at_call 5;refine(P2.out).mono ?_;rintro e w6⟨vn,vw,rfl,hf6,hn6,hw6⟩;obtain⟨ma,mc,hvn⟩:=z0d hn6;subst hvn;obtain⟨ua,uc,hvw⟩:=z0d hw6;subst hvw;have k4:=hid hn6;have kd:=hid hw6;have k2:=hid hf6;clear hn6 hw6 hf6)
  |(refine z0e rfl 25 _ _ rfl w6 _ (Q3n (.slice ma NF.length mc) (.slice ua gw.length uc) gp) _ rfl rfl rfl Q2i rfl (z1z _ _ _ rfl rfl) ?_))
 have ji:Q0a w6 (w6.alloc (.cells (Q3n (.slice ma NF.length mc) (.slice ua gw.length uc) gp) 25)):=(mRf _ w6).alloc _;have k6:=z0a w6 (.cells (Q3n (.slice ma NF.length mc) (.slice ua gw.length uc) gp) 25);have j1:=hid (k1.trans (k2.trans ji));have jb:=hid ((k2.trans ji).at jy.out (fun x=>x));have jd:=hid k6;have jp:=hid ji;generalize(w6.alloc (.cells (Q3n (.slice ma NF.length mc) (.slice ua gw.length uc) gp) 25))=W7 at j1 jb jd jp ⊢;have a0:W7.cell? ⟨w4.heap.size,0,none⟩=some (.slice na NF.length nc):=Q0b jb.out 0;have b0:W7.cell? ⟨w6.heap.size,0,none⟩=some (.slice ma NF.length mc):=Q0b jd.out 0;have SN:=hid (y6l W7 _ _ NF (Q2e.fresh ⟨z0f k3.out (qBg _),fun x _=>rfl⟩ j1.out) (Q2e.fresh ⟨z0f k4.out (qBg _),fun x _=>rfl⟩ jp.out) jv);clear ji k6 P2 k3 k4;go_upto_region 7 with(first
  |(go_at_call 6;refine(SN.out).mono ?_;rintro e W8⟨rfl,m8,hw8⟩;have j6:Hid (Q0a W7 W8):=hid (by rw[hw8];exact Q0r _ _);clear hw8))
 have jk:=hid (j6.at jb.out (fun x=>x));have jm:=hid (j6.at jd.out (fun x=>x));have a1:W8.cell? ⟨w4.heap.size,1,none⟩=some (.slice wa gw.length wc):=Q0b jk.out 1;have b1:W8.cell? ⟨w6.heap.size,1,none⟩=some (.slice ua gw.length uc):=Q0b jm.out 1;have SW:=hid (y06 W8 _ _ gw (Q0z.fresh (IntOwn.at' jt.out) (j1.trans j6.out)) (Q0z.fresh (IntOwn.at' kd.out) (jp.trans j6.out)) (by omega));clear a0 b0 SN jb jd;go_upto_region 8 with(first
  |(go_at_call 7;refine(SW.out).mono ?_;rintro e W9⟨rfl,m9,hw9⟩;have jf:Hid (Q0a W8 W9):=hid (by rw[hw9];exact Q0r _ _);clear hw9))
 have jl:=hid (jf.at jk.out (fun x=>x));have jz:=hid (jf.at jm.out (fun x=>x));have ke:W9.cell? ⟨w4.heap.size,1,none⟩=some (.slice wa gw.length wc):=Q0b jl.out 1;have kf:W9.cell? ⟨w4.heap.size,2,none⟩=some (.int .i64 gp):=Q0b jl.out 2;have kg:W9.cell? ⟨w6.heap.size,2,none⟩=some (.int .i64 gp):=Q0b jz.out 2;have jw:W9.ownsRow W3.heap.size 3 1 (.slice wa gw.length wc) gw.length (Q5w gw):=z0c jt.out (fun g hg=>((j1.trans j6.out).trans jf.out).block g (jt.lt g hg).2 (fun x=>x));have k9:=hid jw;have OW:=hid (v0c W9 _ gw (-78) (z0f jw (qBg _)) (by omega));unfold OwnRet at OW;have jo:=hid (k0.trans ((j1.trans j6.out).trans jf.out));clear a1 b1 SW jw jk jm;go_upto_region 11 with(first
  |(go_at_call 8;refine csm (NU.out _ _) ?_)
  |(go_at_call 9;refine(OW.out).mono ?_;rintro e W10⟨e1,q1,e2,q2,e3,q3,rfl,hO10,hm10,p1,p2,p3⟩;have jr:=hid hO10;have jq:=hid hm10;clear hO10 hm10 p1 p2 p3)
  |(refine z0e rfl 35 _ _ rfl W10 _ (Q91 (.slice wa gw.length wc) (.slice e1 (gw.length+1) q1) (.slice e2 (gw.length+2) q2) (.slice e3 (gw.length+6) q3) (-78)) _ rfl rfl rfl szOwn rfl (x3w _ _ _ _ _ _ _ _ _ _ _ _ _) ?_))
 have j4:Q0a W3 W10:=jo.trans' jq.out (fun k hk e=>by have:=(k9.lt k e).1;omega);have j3:Q0a W10 (W10.alloc (.cells (Q91 (.slice wa gw.length wc) (.slice e1 (gw.length+1) q1) (.slice e2 (gw.length+2) q2) (.slice e3 (gw.length+6) q3) (-78)) 35)):=(mRf _ W10).alloc _;have j5:=z0a W10 (.cells (Q91 (.slice wa gw.length wc) (.slice e1 (gw.length+1) q1) (.slice e2 (gw.length+2) q2) (.slice e3 (gw.length+6) q3) (-78)) 35);generalize(W10.alloc (.cells (Q91 (.slice wa gw.length wc) (.slice e1 (gw.length+1) q1) (.slice e2 (gw.length+2) q2) (.slice e3 (gw.length+6) q3) (-78)) 35))=W11 at j3 j5 ⊢;have j0:=hid (j4.trans j3);have j7:=hid j5;have js:=hid (jr.kept (w':=W11) (fun x _ k _ hlt=>j3.block k hlt (fun z=>z)));have j9:=j0.at jc.out (fun x=>x);have SL:=hid (y06 W11 _ _ kinds (jg.out W11 j9).1 (HK.fresh (je.trans j0.out)) (by omega));clear ke kf kg OW jl jz j4 j3 j5 j9;go_upto_region 12 with(first
  |(go_at_call 7;refine(SL.out).mono ?_;rintro e W12⟨rfl,m12,hw12⟩;have j2:Hid (Q0a W11 W12):=hid (by rw[hw12];exact Q0r _ _);clear hw12))
 have jn:=hid (j2.at j7.out (fun x=>x));have LH:=hid (y9x W12 wa e1 e2 e3 gw.length wc q1 q2 q3 (-78) (js.kept (w':=W12) (fun x _ k _ hlt=>j2.block k hlt (fun z=>z))) (by omega));clear SL j7;go_upto_region 13 with(first
  |(refine wpList_load_row rfl 35 _ rfl W10.heap.size rfl _ _ _ _ jn.out Tryz.underlying35 rfl szOwn ?_)
  |(go_at_call 10;refine(LH.out).mono ?_;rintro e W13⟨rfl,hf13⟩;have j8:=hid hf13;clear hf13))
 have ja:=(j0.trans (j2.trans j8.out)).at jc.out (fun x=>x);have y1:=(jg.out W13 ja).2;clear ja LH;go_wp2;go_ret;exact⟨rfl,je.trans (j0.trans (j2.trans j8.out))⟩
end Go.Proofs.YtcpceafmlgaodaaGreat
