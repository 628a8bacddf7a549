import Derived.Test.YtbdpfmalabgmbaaGreatEb8
import Derived.Test.YtbdpfmalabgmbaaGreatEb9
import Derived.Test.YtbdpfmalabgmbaaGreatEbd
import Derived.Laws.IdiomCopy
namespace Go.Proofs.YtbdpfmalabgmbaaGreat
open Go.RowKit
set_option maxRecDepth 99999
set_option maxHeartbeats 0
set_option linter.all false
section
variable {ps:List Pr}{R H:Nat}{l:List Int}
theorem z2p(R:Nat)(ps:List Pr)(p:Nat):(Q0e R ps)[p]? = (ps[p]?).map fun q=>(q.head,q.syms.map (Q0w R)):=by unfold Q0e;rw[qBt]
theorem y0g(R:Nat)(ps:List Pr)(m:Itm):Q4w (Q0e R ps) m=((Q83 ps m).map (Q0w R)).getD (-1):=by
 unfold Q4w Q83;rw[z2p];cases ps[m.p]? with
 |none=>rfl
 |some q=>simp
theorem y7q(hT:Q1d ps R H){m:Itm}{s:Sy}(h:Q83 ps m=some s):0<=s.num/\s.num<(if s.isH then(H:Int) else R):=by
 unfold Q83 at h;cases hq:ps[m.p]? with
 |none=>rw[hq]at h;cases h
 |some q =>
  rw[hq]at h;exact hT.sy q (qAi hq) s (qAi h)
theorem z8l(hT:Q1d ps R H){m:Itm}:Q4w (Q0e R ps) m<0↔Q83 ps m=none:=by
 rw[y0g];cases h:Q83 ps m with
 |none=>simp
 |some s =>
  have:=y7q hT h;simp only[qDw,qDy,reduceCtorEq,iff_false];unfold Q0w;split<;>omega
theorem z6t(hT:Q1d ps R H){m:Itm}{X:Int}(h0:0<=X):Q4w (Q0e R ps) m=bs R+X↔Q83 ps m=some ⟨true,X⟩:=by
 rw[y0g];cases h:Q83 ps m with
 |none=>simp[bs]<;>omega
 |some s =>
  obtain⟨a,b⟩:=s;have:=y7q hT h;simp only[qDw,qDy,qO,Sy.mk.injEq];unfold Q0w bs;cases a
  ·simp only[qF,qAz]at this ⊢;simp<;>omega
  simp only[qBn]at this ⊢;simp<;>omega
theorem z4e(hT:Q1d ps R H){m:Itm}{t:Int}(h0:0<=t)(ht:t<R):Q4w (Q0e R ps) m=t↔Q83 ps m=some ⟨false,t⟩:=by
 rw[y0g];cases h:Q83 ps m with
 |none=>simp<;>omega
 |some s =>
  obtain⟨a,b⟩:=s;have:=y7q hT h;simp only[qDw,qDy,qO,Sy.mk.injEq];unfold Q0w;cases a
  ·simp
  simp only[qBn]at this ⊢;simp<;>omega
theorem y8i(hT:Q1d ps R H)(hm:∀p∈ps,p.syms.length<=6){P:List (List Itm)}{N:Nat}(hN:P.length=N)(hNl:N<=l.length)(hl:l.length<=60)(hx:∀(k:Nat) (Y:List Itm),P[k]? = some Y->∀m:Itm,m∈Y↔Q99 ps l k m):FillQ R (Q0e R ps) P (Q99 ps l N):=by
 have j3:(Q0e R ps).length=ps.length:=by unfold Q0e;simp
 refine⟨fun m hm'=>?_,fun m hm'=>?_,fun m p x h1 h2 h3=>?_,fun m x m' h1 h2 h3 h4 h5=>?_⟩
 ·obtain⟨h1,q,h2,h3⟩:=y2m hm';have:=hm q (qAi h2);have:=(qS h2).1;exact⟨by omega,by omega,by omega⟩
 ·have:=(y2m hm').1;omega
 ·rw[z2p]at h2;cases hq:ps[p]? with
  |none=>rw[hq]at h2;cases h2
  |some q' =>
   rw[hq]at h2;simp at h2;subst h2;have hs:=(z6t hT (hT.hd q' (qAi hq)).1).1 h3;obtain⟨_,q,j1,_⟩:=y2m h1;rw[z3r j1]at hs;rw[hN];exact x3g h1 hNl j1 hs hq rfl
 rw[z2p]at h3;cases hq:ps[m.p]? with
 |none=>rw[hq]at h3;cases h3
 |some q =>
  rw[hq]at h3;simp at h3;subst h3;have hd:=(x83 h1 hq).1 ((z8l hT).1 h2);have hs:=(z6t hT (hT.hd q (qAi hq)).1).1 h5;have j2:It ps l N m.p q.syms.length m.f:=by rw[← hd];exact h1
  have hI:Q99 ps l m.f m':=by
   rcases h4 with h4|⟨e,h4⟩
   ·have hk:m.f<P.length:=by
     rcases qCk m.f P.length with z|z
     ·exact z
     rw[qD,qN z]at h4;cases h4
    rw[qD,qE hk]at h4;exact(hx m.f _ (qE hk) m').1 h4
   rw[e,hN];exact h4
  obtain⟨_,q',j0,_⟩:=y2m hI;rw[z3r j0]at hs;exact x3e j2 hNl hq hI j0 hs
theorem y4a(hT:Q1d ps R H){P:List (List Itm)}{X:List Itm}(h:∀m∈X,Q6i R (Q0e R ps) P X m):Q9x ps (P++[X]) P.length X:=by
 refine⟨fun m X' p' q' hm hs hq hh=>?_,fun m q m' Y hm hq hs hY hm' hs'=>?_⟩
 ·exact(h m hm).pred p' (q'.head,q'.syms.map (Q0w R)) (by rw[z2p,hq];rfl) ((z6t hT (hT.hd q' (qAi hq)).1).2 (by rw[hh];exact hs))
 refine(h m hm).comp ((z8l hT).2 hs) (q.head,q.syms.map (Q0w R)) (by rw[z2p,hq];rfl) m' ?_ ((z6t hT (hT.hd q (qAi hq)).1).2 hs');unfold atS;rw[qD,hY];exact hm'
theorem y7v(R:Nat)(q:List Q1):∀(X:List Itm) (o:List Bool),o.length=R+1->(W0k R q X o).length=R+1/\∀t,(W0k R q X o).getD t false=true↔(o.getD t false=true∨∃m∈X,(t<R/\Q4w q m=t)∨(t=R/\Q4w q m<0/\m.f=0/\hdI q m=0))
 | [],o,ho=>⟨ho,fun t=>by simp[W0k]⟩
 |m::X,o,ho=>by
  obtain⟨r1,r2⟩:=y7v R q X (wanS R q o m) (by rw[x8g];exact ho);refine⟨r1,fun t=>?_⟩;rw[W0k,r2 t];have j0:(wanS R q o m).getD t false=true↔(o.getD t false=true∨(t<R/\Q4w q m=t)∨(t=R/\Q4w q m<0/\m.f=0/\hdI q m=0)):=by
   unfold wanS;by_cases h1:Q4w q m<0
   ·rw[qAb h1];by_cases h2:m.f=0/\hdI q m=0
    ·rw[qAb h2,z2a _ _ _ _ _ (by omega)];by_cases h3:t=R
     ·rw[qAb h3];simp[h3,h1,h2.1,h2.2]
     rw[qAa h3];simp[h3];omega
    rw[qAa h2];constructor
    ·exact .inl
    rintro(h|⟨h3,h4⟩|⟨h3,h4,h5,h6⟩)
    ·exact h
    ·omega
    exact absurd ⟨h5,h6⟩ h2
   rw[qAa h1];by_cases h2:Q4w q m<R
   ·rw[qAb h2,z2a _ _ _ _ _ (by omega)];by_cases h3:t=(Q4w q m).toNat
    ·rw[qAb h3];exact⟨fun _=>.inr (.inl ⟨by omega,by omega⟩),fun _=>rfl⟩
    rw[qAa h3];constructor
    ·exact .inl
    rintro(h|⟨h4,h5⟩|⟨h4,h5,_⟩)
    ·exact h
    ·omega
    omega
   rw[qAa h2];constructor
   ·exact .inl
   rintro(h|⟨h4,h5⟩|⟨h4,h5,_⟩)
   ·exact h
   ·omega
   omega
  rw[j0];constructor
  ·rintro((h|h)|⟨m',h1,h2⟩)
   ·exact .inl h
   ·exact .inr ⟨m,by simp,h⟩
   exact .inr ⟨m',by simp[h1],h2⟩
  rintro(h|⟨m',h1,h2⟩)
  ·exact .inl (.inl h)
  rw[qBu]at h1;rcases h1 with rfl|h1
  ·exact .inl (.inr h2)
  exact .inr ⟨m',h1,h2⟩
theorem y5z(hT:Q1d ps R H){n:Nat}(hn:n<=l.length){P:List (List Itm)}{X:List Itm}(hP:P.length=n)(hI:Q3a ps l n (P++[X])) :
  (∀t:Nat,t<R->((W0k R (Q0e R ps) X (List.replicate (R+1) false)).getD t false=true↔Vb ps (l.take n) t))/\((W0k R (Q0e R ps) X (List.replicate (R+1) false)).getD R false=true↔Ve ps (l.take n)):=by
 have hl:(l.take n).length=n:=by rw[qCo];omega
 have h2:=hI.take (qR n);have hS:Q3a ps (l.take n) (l.take n).length (P++[X]):=by rw[hl];exact h2
 have hX:(P++[X])[(l.take n).length]? = some X:=by rw[hl,← hP,qAr (qR _)];simp
 have hz:∀t,(List.replicate (R+1) false).getD t false=false:=fun t=>by
  rw[qD,qEb];split<;>rfl
 obtain⟨_,hw⟩:=y7v R (Q0e R ps) X (List.replicate (R+1) false) (by simp);constructor
 ·intro t ht;rw[hw t,← hS.next hX,hz t];constructor
  ·rintro(h|⟨m,h1,h2|h2⟩)
   ·cases h
   ·exact⟨m,h1,(z4e hT (by omega) (by omega)).1 h2.2⟩
   omega
  rintro⟨m,h1,h2⟩;exact .inr ⟨m,h1,.inl ⟨ht,(z4e hT (by omega) (by omega)).2 h2⟩⟩
 rw[hw R,← hS.fin hX,hz R];have hh:∀(m:Itm) (q:Pr),ps[m.p]? = some q->hdI (Q0e R ps) m=q.head:=fun m q hq=>by
  unfold hdI;rw[z2p,hq];rfl
 constructor
 ·rintro(h|⟨m,h1,h2|⟨_,h2,h3,h4⟩⟩)
  ·cases h
  ·omega
  obtain⟨_,q,hq,_⟩:=y2m ((hS.iff _ X hX m).1 h1);exact⟨m,h1,q,hq,(z8l hT).1 h2,h3,by rw[← hh m q hq];exact h4⟩
 rintro⟨m,h1,q,hq,h2,h3,h4⟩;exact .inr ⟨m,h1,.inr ⟨rfl,(z8l hT).2 h2,h3,by rw[hh m q hq];exact h4⟩⟩
theorem v0s(hT:Q1d ps R H){n:Nat}(hn:n<=l.length){P:List (List Itm)}{X:List Itm}(hP:P.length=n)(hI:Q3a ps l n (P++[X])){c:Int}(h0:0<=c)(hc:c<R):Q4n (Q0e R ps) c X≠[]↔Vb ps (l.take n) c.toNat:=by
 have hl:(l.take n).length=n:=by rw[qCo];omega
 have h2:=hI.take (qR n);have hS:Q3a ps (l.take n) (l.take n).length (P++[X]):=by rw[hl];exact h2
 have hX:(P++[X])[(l.take n).length]? = some X:=by rw[hl,← hP,qAr (qR _)];simp
 rw[← hS.next hX,show((c.toNat:Nat):Int)=c by omega];constructor
 ·intro h;obtain⟨y,hy⟩:=List.exists_mem_of_ne_nil _ h;obtain⟨m,h1,h2,_⟩:=z6m.1 hy;exact⟨m,h1,(z4e hT h0 hc).1 h2⟩
 rintro⟨m,h1,h2⟩ e;have:=z6m (q:=Q0e R ps) (c:=c) (l:=X) (y:=mvI m);rw[e]at this;exact absurd (this.2 ⟨m,h1,(z4e hT h0 hc).2 h2,rfl⟩) (by simp)
theorem x47(hT:Q1d ps R H){n:Nat}(hn:n<l.length){P:List (List Itm)}{X X':List Itm}(hP:P.length=n)(hI:Q3a ps l n (P++[X]))(h0:0<=l[n])(hc:l[n]<R)(hg:Q4y (Q99 ps l (n+1)) (Q4n (Q0e R ps) l[n] X) X')(hd:∀m∈X',Q6i R (Q0e R ps) (P++[X]) X' m):Q3a ps l (n+1) ((P++[X])++[X']):=by
 have hF:=y4a hT hd;rw[qP,hP]at hF;refine y9h (by omega) (by rw[qP,hP];rfl) (fun k Y hk m=>hI.iff k Y hk m) hg.q hF (fun e=>by omega) (fun k Y m t e hk hm hs ht=>?_);have e2:k=n:=by omega
 subst e2;have hY:Y=X:=by
  rw[← hP,qAr (qR _)]at hk;simpa using hk.symm
 subst hY;rw[qE hn]at ht;injection ht with ht;subst ht;exact hg.mem (z6m.2 ⟨m,hm,(z4e hT h0 hc).2 hs,rfl⟩)
theorem x07(hT:Q1d ps R H){X':List Itm}(hg:Q4y (Q99 ps l 0) [] X')(hd:∀m∈X',Q6i R (Q0e R ps) [] X' m)(h0:∀(p:Nat) (x:Q1),(Q0e R ps)[p]? = some x->x.1=0->(⟨p,0,0⟩:Itm)∈X'):Q3a ps l 0 ([]++[X']):=by
 have hF:=y4a hT hd;exact y9h (qBq _) rfl (fun k Y hk=>by simp at hk) hg.q hF (fun _ p q hp hq=>h0 p (q.head,q.syms.map (Q0w R)) (by rw[z2p,hp];rfl) hq) (fun k Y m t e=>by omega)
theorem x5a(hT:Q1d ps R H){D:List Mat}(hD:Q5c ps l D){p:Nat}{x:Q1}(hx:(Q0e R ps)[p]? = some x){i:Nat}(hi:i<=l.length):Q5c ps l (addR R l D x i):=by
 intro h a j e;unfold addR Q97 atM at e;rw[z2p]at hx;cases hq:ps[p]? with
 |none=>rw[hq]at hx;cases hx
 |some q =>
  rw[hq]at hx;simp at hx;subst hx;have j1:=qAi hq;dsimp only at e;have old:((D.getD h []).getD a []).getD j false=true->Ds ps l [⟨true,(h:Int)⟩] a j:=fun e=>hD h a j e;rcases qCk q.head.toNat D.length with hh|hh
  ·rw[z14 _ _ _ _ _ hh]at e;split at e
   ·rename_i eh;rcases qCk i (D.getD q.head.toNat []).length with j0|j0
    ·rw[z14 _ _ _ _ _ j0]at e;split at e
     ·rename_i ei;subst ei;have hj:j<l.length+1:=by
       rcases qCk j (l.length+1)with z|z
       ·exact z
       rw[qD,qN (by rw[z2s];exact z)]at e;cases e
      rw[z9y hj,qAt]at e;rcases e with e|e
      ·rw[eh];exact hD _ _ _ e
      obtain⟨_,r2⟩:=x4t (bs R) l D hD.wide (q.syms.map (Q0w R)) hi;have hr:=(r2 j hj).1 e;obtain⟨d1,d2,B,b1,b2⟩:=y9k hT hD (hT.sy q j1) hi hr;have j2:=hT.hd q j1;refine⟨d1,d2,⟨false,(p:Int)⟩::B,?_,by simpa [Q0d]using b2⟩;rw[eh,show((q.head.toNat:Nat):Int)=q.head by omega,z3p hq,qBd];exact b1
     rw[eh];exact hD _ _ _ e
    rw[qFs j0]at e;rw[eh];exact hD _ _ _ e
   exact old e
  rw[qFs hh]at e;exact old e
theorem x09(n:Nat):Q5c ps l (List.replicate H (sqF n)):=by
 intro h i j e;unfold atM at e;exfalso;have h1:((List.replicate H (sqF n)).getD h []).getD i []=List.replicate n false∨((List.replicate H (sqF n)).getD h []).getD i []=[]:=by
  have e0:(List.replicate H (sqF n)).getD h []=sqF n∨(List.replicate H (sqF n)).getD h []=[]:=by
   rw[qD,qEb];split
   ·exact .inl rfl
   exact .inr rfl
  rcases e0 with e0|e0
  ·rw[e0];unfold sqF;rw[qD,qEb];split
   ·exact .inl rfl
   exact .inr rfl
  rw[e0];exact .inr (by simp)
 rcases h1 with h1|h1
 ·rw[h1,qD,qEb]at e;split at e<;>cases e
 rw[h1]at e;simp at e
theorem x2h(hT:Q1d ps R H){D:List Mat}(hD:Q5c ps l D)(hc:CloD R (Q0e R ps) l D):Q91 R ps l D:=by
 intro q hq i j hi hr;obtain⟨p,hp⟩:=List.getElem?_of_mem hq;have hm:=hc p (q.head,q.syms.map (Q0w R)) i (by rw[z2p,hp];rfl) hi;have hj:=x87 hD.wide _ i j hi hr;obtain⟨_,r2⟩:=x4t (bs R) l D hD.wide (q.syms.map (Q0w R)) hi;have hs:=(r2 j (by omega)).2 hr;unfold atM;cases hx:((D.getD q.head.toNat []).getD i []).getD j false with
 |true=>rfl
 |false =>
  have:=(y64 (n:=l.length+1)).2 ⟨j,by omega,hs,hx⟩;rw[hm]at this;cases this
theorem x4x{rb:List Int->Nat->Nat->Bool}{T:Int->Nat->Nat->List Nd}:∀(ys:List Sy),(∀s∈ys,0<=s.num/\s.num<(if s.isH then(H:Int) else R))->∀i j,Q9u (bs R) rb T (ys.map (Q0w R)) i j=rowN (fun ys i j=>rb (ys.map (Q0w R)) i j) T ys i j
 | [],_,_,_=>rfl
 |y::ys,hv,i,j=>by
  have hy:=hv y (by simp);have ih:=x4x (rb:=rb) (T:=T) ys (fun s hs=>hv s (by simp[hs]));rw[qDl,Q9u,rowN,ih];have e1:toC rb (Q0w R y) (ys.map (Q0w R)) i j=toF (fun ys i j=>rb (ys.map (Q0w R)) i j) y ys i j:=rfl;rw[e1];congr 1;cases hb:y.isH
  ·rw[hb]at hy;simp only[qF,qAz]at hy;rw[z35 hb,qAb (by unfold bs;omega),qAb rfl]
  have:=z1r (R:=R) hb;rw[hb,qAb rfl]at hy;rw[qAa (by unfold bs;omega),qAa (by simp),show Q0w R y-bs R=y.num by unfold bs;omega]
theorem y9r(hT:Q1d ps R H){rb:List Int->Nat->Nat->Bool}:∀(f:Nat) (h:Int) (i j:Nat),Q5n (bs R) (Q0e R ps) rb f h i j=Q8j ps (fun ys i j=>rb (ys.map (Q0w R)) i j) f h i j
 |0,_,_,_=>rfl
 |f+1,h,i,j=>by
  have ef:Q9b (Q0e R ps) rb h i j=Q7u ps (fun ys i j=>rb (ys.map (Q0w R)) i j) h i j:=by
   unfold Q9b Q7u Q0e;rw[List.findIdx_map];rfl
  have et:Q5n (bs R) (Q0e R ps) rb f=Q8j ps (fun ys i j=>rb (ys.map (Q0w R)) i j) f:=by
   funext h i j;exact y9r hT f h i j
  rw[Q5n,Q8j,ef,z2p,et];cases hq:ps[Q7u ps (fun ys i j=>rb (ys.map (Q0w R)) i j) h i j]? with
  |none=>rfl
  |some q =>
   simp only[qDw];rw[x4x q.syms (hT.sy q (qAi hq))]
end
section
variable {ps:List Pr}{R H:Nat}{l:List Int}{G:GOut}{n i:Nat}{P:List (List Itm)}{X:List Itm}
def Q8k(ps:List Pr)(R:Nat)(X:List Itm):List Bool:=W0k R (Q0e R ps) X (List.replicate (R+1) false)
theorem y3j:(Q8k ps R X).length=R+1:=(y7v R (Q0e R ps) X _ (by simp)).1
theorem x88(hT:Q1d ps R H)(hR:R<=8)(hn:i<=l.length)(hP:P.length=i)(hI:Q3a ps l i (P++[X])){W:List Bool}(w1:∀t,t<R->(W.getD t false=true↔Vb ps (l.take i) t))(w2:W.getD R false=true↔Ve ps (l.take i))(w3:∀t,R<t->W.getD t false=false):risF (Q8k ps R X)=Q3e W:=by
 obtain⟨z1,z2⟩:=y5z hT hn hP hI;refine x06 (fun t=>?_) (by rw[y3j];omega);rw[qBc];unfold Q8k;rcases qFx t R with h|h|h
 ·rw[z1 t h,w1 t h]
 ·subst h;rw[z2,w2]
 rw[w3 t h,qD,qN (by have:=y3j (ps:=ps) (R:=R) (X:=X);unfold Q8k at this;omega)];rfl
theorem x0v(hT:Q1d ps R H)(hR:R<=8)(hG:GrowIs ps R l G n)(hP:P.length=i)(hI:Q3a ps l i (P++[X]))(hi:i<l.length)(hin:i<=n)(h0:0<=l[i])(hc:l[i]<R) :
  (Q4n (Q0e R ps) l[i] X=[]->G=⟨10,risF (Q8k ps R X),i,[]⟩)/\(Q4n (Q0e R ps) l[i] X≠[]->i+1<=n):=by
 have hx:=v0s hT (by omega:i<=l.length) hP hI h0 hc;constructor
 ·intro e;have j1:¬Vb ps (l.take i) l[i].toNat:=fun q=>hx.2 q e;have j0:n=i:=by
   rcases qCk i n with z|z
   ·exact absurd (hG.each i hi z) j1
   omega
  subst j0;rcases hG.or with⟨e1,_⟩|⟨W,e1,e2,e3,e4,_⟩
  ·omega
  rw[x88 hT hR (by omega) hP hI e2 e3 e4];exact e1
 intro e;have hv:=hx.1 e;rcases qCk i n with z|z
 ·exact z
 exfalso;obtain rfl:n=i:=by omega
 rcases hG.or with⟨e1,_⟩|⟨W,_,_,_,_,e5,_⟩
 ·omega
 exact e5 hi hv
theorem x4g(hT:Q1d ps R H)(hR:R<=8)(hG:GrowIs ps R l G n)(hP:P.length=l.length)(hI:Q3a ps l l.length (P++[X]))(hin:l.length<=n) :
  ((Q8k ps R X).getD R false=false->G=⟨10,risF (Q8k ps R X),l.length,[]⟩)/\((Q8k ps R X).getD R false=true->∃A,G=⟨0,[],0,A⟩/\Q1i ps A [⟨true,0⟩]=some []/\Q0d A=l):=by
 have hn:n=l.length:=by have:=hG.le;omega
 subst hn;obtain⟨_,z2⟩:=y5z hT (qR _) hP hI;rw[qAw]at z2;constructor
 ·intro e;rcases hG.or with⟨_,e2,_⟩|⟨W,e1,e2,e3,e4,_⟩
  ·have:=z2.2 e2;unfold Q8k at e;rw[e]at this;cases this
  rw[x88 hT hR (qR _) hP hI e2 e3 e4];exact e1
 intro e;have j0:=z2.1 e;rcases hG.or with⟨_,_,A,e3,e4,e5⟩|⟨W,_,_,_,_,_,e6⟩
 ·exact⟨A,e3,e4,e5⟩
 exact absurd j0 (e6 rfl)
end
def ZpRet(ps:List Pr)(G:GOut)(w:World)(e:Ending)(w':World):Prop:=∃vn vw,e=.returned (.tuple #[.agg (Q6m vn vw G.place),.int .i64 G.err])/\Q0a w w'/\Q2x w' w.heap.size vn (Q1p ps G.st)/\IntOwn w' w.heap.size vw G.wanted
theorem x1o(w:World)(b R H:Nat)(ps:List Pr)(hs:List Hd)(hTb:Tab ps R H hs)(hS:Q3q w b R H (Q0e R ps))(hQ:QOk R H (Q0e R ps))(ka:Option Addr)(kc:Nat)(l:List Int)(hk:Q1c w (.slice ka l.length kc) l)(hl:l.length<=60)(hkk:Q1z R l=true) :
  Calls Tryz.prog 22 #[.pointer (some ⟨b,0,none⟩),.slice ka l.length kc] w fun e w'=>ZpRet ps (Q6k ps hs R H l 0 [⟨true,0⟩] []) w e w':=by
 have hT:=hTb.g.tab;have hR:=hTb.hR;have k9:∀p∈ps,p.syms.length<=6:=fun p hp=>(hTb.syms p hp).1;obtain⟨n,hG⟩:=v0c hTb hkk;have k8:=(y61 hTb l 0 [⟨true,0⟩] [] hTb.start.1 hTb.start.2 (by simp) hkk (by omega) (by simp) (by simp)).1;have x0:=fun(rc:List Sy->Nat->Nat->Bool) (h:RcIs ps l R H rc) (A:List St) h1 h2=>x8a hTb hl h (A:=A) h1 h2;generalize Q6k ps hs R H l 0 [⟨true,0⟩] []=G at hG k8 ⊢;have jm:=hQ.p20;have HK:=hid hk;obtain⟨ak,ck,ek,xn,j7⟩:=hk;rw[qI]at ek;obtain⟨rfl,_,rfl⟩:=ek;have xb:=hid j7;have x6:∀(i:Nat) (hi:i<l.length),0<=l[i]/\l[i]<R:=fun i hi=>by
  unfold Q1z at hkk;rw[qAy]at hkk;have:=hkk l[i] (qG hi);simpa using this
 have jc:=hid x6;have HT:=hid hT;have HM:=hid k9;have HG:=hid hG;have km:=hid x0;have kf:=hid k8;have HS:=hid hS;have HQ:=hid hQ;obtain⟨a0,c0,a1,c1,a2,c2,v3,v4,sv,hN⟩:=hS;have xc:=hid hN.k0;have k5:Q0a w (w.alloc (.cells (Q6m (.slice none 0 0) (.slice none 0 0) 0) 50)):=(mRf _ w).alloc _;have kx:=z0a w (.cells (Q6m (.slice none 0 0) (.slice none 0 0) 0) 50);have CT:=hid (x2b _ b R H (Q0e R ps) (Q99 ps l 0) (HS.fresh k5) hQ (y8i hT k9 rfl (qBq _) hl (fun k Y hY=>by simp at hY)) (fun p x hx h0=>by
  rw[z2p]at hx;cases hq:ps[p]? with
  |none=>rw[hq]at hx;cases hx
  |some q =>
   rw[hq]at hx;simp at hx;subst hx;exact x3f hq h0))
 have j9:=hid k5;have j4:=hid kx;clear hT hG x0 k8 j7 x6 k9 hQ hN k5 kx hkk hTb hs;go_enter Tryz.func22,Tryz.ntmps22
 go_upto_region 2 with(first
  |(go_at_call 49;refine(CT.out).mono ?_;rintro e w2⟨cb,gs,cap,X0,rfl,hC,x5,x2,jl⟩;have HC:=hid hC;have jg:=hid x5;have kh:=hid x2;have kj:=hid jl;clear hC x5 x2 jl))
 generalize(w.alloc (.cells (Q6m (.slice none 0 0) (.slice none 0 0) 0) 50))=w1 at j9 j4 HC;have kl:=hid (x07 HT.out jg.out kh.out kj.out);have jq:=hid (fun(N:Nat) (P:List (List Itm)) (h1:P.length=N) (h2:N<=l.length) (h3:∀(k:Nat) (Y:List Itm),P[k]? = some Y->∀m:Itm,m∈Y↔Q99 ps l k m)=>y8i HT.out HM.out h1 h2 hl h3);have kn:Hid (∀Y∈[]++[X0],Q8s (Q0e R ps) Y):=hid (fun Y hY=>by
  simp at hY;subst hY;exact⟨jg.len (jq.out 0 [] rfl (qBq _) (fun k Y hY=>by simp at hY)).b jm,fun m hm=>by
   have:=(jq.out 0 [] rfl (qBq _) (fun k Y hY=>by simp at hY)).b m (jg.q m hm);exact⟨this.1,this.2.1⟩⟩)
 clear CT kh kj;go_wp2;go_loopw [7,8,9] (fun x7 _ _ wr=>∃(i gs cap:Nat) (P:List (List Itm)) (X:List Itm),x7=.int .i64 i/\i<=l.length/\i<=n/\P.length=i/\ChG w1 wr cb gs cap b (P++[X])/\Q3a ps l i (P++[X])/\X.Nodup/\∀Y∈P++[X],Q8s (Q0e R ps) Y)
   (fun x _ _ _=>1001-(intOf x).toNat)
 case atStart=>exact⟨0,gs,cap,[],X0,rfl,by omega,by omega,rfl,HC.out,kl.out,jg.nd,kn.out⟩
 obtain⟨i,kt,ji,P,X,rfl,hi,jl,hP,hC,hI,x8,k7⟩:=hrel;have xd:=hid (Q19 (B:=1001) i (by omega));have xa:=hid hC;have HI:=hid hI;have xe:=hid x8;have ko:=hid k7;have HP:=hid hP;have jw:Q0a w1 wr:=by
  obtain⟨vs,z⟩:=hC;exact z.fr
 have jz:=hid jw;have jr:=hid (j9.trans jw);have xm:=hid (jw.at j4.out id);have WN:=hid (y75 w1 · cb kt ji b R H (Q0e R ps) P X (HS.fresh j9.out) HQ.out · (by rw[hP];omega) (k7 X (by simp)));have k3:=hid (y3j (ps:=ps) (R:=R) (X:=X));clear hI x8 k7 HC kl jg kn jw;by_cases j2:i<l.length
 ·have s1:(i:Int)<(l.length:Int):=by omega
  obtain⟨gk,ok,rfl,y1⟩:=xb.out i j2;have y2:=Q0h jr.out y1;obtain⟨st1,st2⟩:=x0v HT.out hR HG.out HP.out HI.out j2 jl (jc.out i j2).1 (jc.out i j2).2;have TK:=hid (x2i w1 wr cb kt ji b R H (Q0e R ps) P X l[i] (Q99 ps l (i+1)) (HS.fresh j9.out) HQ.out hC xe.out (by rw[hP];omega) ko.out (jq.out (i+1) (P++[X]) (by rw[qP,HP.out];rfl) (by omega) (fun k Y hY m=>HI.iff k Y hY m)) (fun m hm hsc=>by
   have kz:=(HI.iff i X (by rw[← HP.out,qAr (qR _)];simp) m).1 hm;have x9:=(z4e HT.out (jc.out i j2).1 (jc.out i j2).2).1 hsc;obtain⟨_,q,hq,_⟩:=y2m kz;rw[z3r hq]at x9;exact x3h kz hq x9 (qE j2)))
  have SN:=hid (fun(X':List Itm) (hg:Q4y (Q99 ps l (i+1)) (Q4n (Q0e R ps) l[i] X) X') (hd:∀m∈X',Q6i R (Q0e R ps) (P++[X]) X' m)=>(⟨x47 HT.out j2 HP.out HI.out (jc.out i j2).1 (jc.out i j2).2 hg hd,hg.nd,(fun Y hY=>by
   rw[qU]at hY;rcases hY with hY|hY
   ·exact ko.out Y hY
   rw[qM]at hY;subst hY;have hb:=(jq.out (i+1) (P++[X]) (by rw[qP,HP.out];rfl) (by omega) (fun k Y hY m=>HI.iff k Y hY m)).b;exact⟨hg.len hb jm,fun m hm=>⟨(hb m (hg.q m hm)).1,(hb m (hg.q m hm)).2.1⟩⟩)⟩:Q3a ps l (i+1) ((P++[X])++[X'])/\X'.Nodup/\∀Y∈(P++[X])++[X'],Q8s (Q0e R ps) Y))
  unfold TkRet at TK;have js:=hid st1;have jt:=hid st2;generalize l[i]=c at y1 y2 TK SN js jt;clear y1 st1 st2 hC hP;by_cases je:Q4n (Q0e R ps) c X=[]
  ·have ky:=js.out je;have k1:=hid je;have j0:=hid ky;have RI:=hid (fun(W:World) (g:Nat) (hB:Q1x W g (Q8k ps R X))=>y1z W g (R+1) (Q8k ps R X) hB k3.out (by omega));generalize hris:risF (Q8k ps R X)=RS at j0 RI;clear je ky SN js jt hris;go_wp2_with (first
    |(go_at_call 50;refine(TK.out).mono ?_;rintro e w3 hz;obtain⟨_,rfl,jj⟩:=hz.elim id (fun z=>absurd k1.out z.1);have jp:=hid jj;clear hz jj)
    |(go_at_call 52;refine(WN.out _ jp.out).mono ?_;rintro e w4⟨g4,rfl,j3,j1⟩;have jx:=hid j3;have kg:=hid (jp.fresh j1);clear j3 j1)
    |(go_at_call 51;refine(RI.out _ g4 jx.out).mono ?_;rintro e w5⟨v5,rfl,ja,j8⟩;obtain⟨wa,wc,ke⟩:=z0c ja;subst ke;have jh:=hid ja;have j5:Hid (Q0a w1 w5):=hid (by obtain⟨vs,z⟩:=kg.out;exact z.fr.trans j8);have j6:=hid (j5.at j4.out id);have jb:w.heap.size<w4.heap.size:=(by obtain⟨vs,z⟩:=kg.out;exact z0j (z.fr.at j4.out id));clear ja j8)
    |(refine qAg rfl 50 _ _ rfl w.heap.size (Q6m (.slice none 0 0) (.slice wa RS.length wc) i) rfl rfl _ _ j6.out Q7d rfl (z53 _ _ _ rfl rfl) ?_))
   refine qAc (z0l rfl _ _ w.heap.size 50 (Q6m (.slice none 0 0) (.slice wa RS.length wc) i) (0,0) _ rfl (qAn _ _ _ _ _ _ j6.out) qFk rfl Q7d) rfl ?_;refine⟨.slice none 0 0,.slice wa RS.length wc,by rw[j0.out];rfl,(j9.trans j5.out).setRow (fun h=>absurd h (qBw _)) _,?_,?_⟩
   ·rw[j0.out];exact qAh _ _ _ _
   rw[j0.out];refine z0g (z0d jh.out (fun g hg=>?_)) (qFd jb);have:=(jh.lt g hg).1;exact qCx _ _ _ _ (by omega)
  have xj:=jt.out je;have k1:=hid je;clear je js jt WN;go_wp2_with (first
   |(go_at_call 50;refine(TK.out).mono ?_;rintro e w3 hz;obtain⟨_,rfl,xi,k4,X',jj,x4,x1⟩:=hz.elim (fun z=>absurd z.1 k1.out) id;have jp:=hid jj;have k2:=hid (SN.out X' x4 x1);clear hz jj x4 x1))
  go_roundw
  case rel=>exact⟨i+1,xi,k4,P++[X],X',by go_num,by omega,xj,by rw[qP,HP.out];rfl,jp.out,k2.1,k2.2.1,k2.2.2⟩
  exact xd.out
 have s1:¬(i:Int)<(l.length:Int):=by omega
 obtain rfl:i=l.length:=by omega
 obtain⟨kr,ks⟩:=x4g HT.out hR HG.out HP.out HI.out jl;have kq:=hid (WN.out wr xa.out);have RI:=hid (fun(W:World) (g:Nat) (hB:Q1x W g (Q8k ps R X))=>y1z W g (R+1) (Q8k ps R X) hB k3.out (by omega));have jn:=hid kr;have jo:=hid ks;have jd:Hid (Calls Tryz.prog 52 #[.pointer (some ⟨cb,0,none⟩)] wr fun e w'=>WnRet wr R (Q8k ps R X) e w'):=hid kq.out;unfold WnRet at jd;have CR:Hid (∀(W:World) (g:Nat),Q1x W g (Q8k ps R X)->W.cell? ⟨g,R,none⟩=some (.bool ((Q8k ps R X).getD R false))):=hid (fun W g hB=>hB.cell (j:=R) (by rw[k3.out];omega));have HZ:Hid (∀W,Q0a wr W->W.cell? ⟨b,0,none⟩=some (.slice a0 R c0)):=hid (fun W hW=>Q0h (jr.trans hW) xc.out);have SP:=hid (fun(W:World) (hW:Q0a wr W)=>x5b W b R H (Q0e R ps) ka kc l (Q5c ps l) (HS.fresh (jr.trans hW)) HQ.out (HK.fresh (jr.trans hW)) hl (x09 (l.length+1)) (fun D p x i h1 _ h3 h4=>x5a HT.out h1 h3 h4));have TR:Hid (∀(A:List St),(Q1p ps A).length<=1000000000000->Q1i ps A [⟨true,0⟩]=some []->Q0d A=l->∀(W:World) (sb:Nat) (da:Option Addr) (dc:Nat) (D:List Mat),SpR W sb b R H (Q0e R ps) ka kc l da dc D->Q5c ps l D->CloD R (Q0e R ps) l D->Calls Tryz.prog 54 #[.pointer (some ⟨sb,0,none⟩),.int .i64 0,.int .i64 0,.int .i64 l.length,.int .i64 2000] W fun e w'=>NdRet W (Q1p ps A) e w'):=hid (fun A hA h1 h2 W sb da dc D jv jk ju=>by
  have e:Q5n (bs R) (Q0e R ps) (rcB R l D) 2000 0 0 l.length=Q1p ps A:=by
   rw[y9r HT.out];exact km.out _ (v3a HT.out jk (x2h HT.out jk ju)) A h1 h2
  have:=y9s sb b R H (Q0e R ps) ka kc l da dc D HQ.out hl 2000 (qR _) W 0 0 l.length jv (qBq _) (qR _) (by rw[e];exact hA);rw[e]at this;exact this)
 have xk:(R:Int)<((R+1:Nat):Int):=by omega
 generalize R+1=r1 at jd RI xk;generalize(Q8k ps R X).getD R false=bR at jn jo CR;clear kr ks hC WN kq km;cases bR
 ·have j0:=hid (jn.out rfl);generalize hris:risF (Q8k ps R X)=RS at j0 RI;generalize Q8k ps R X=WR at jd RI CR;clear jn jo SP TR hris;go_wp2_with (first
   |(go_at_call 52;refine(jd.out).mono ?_;rintro e w4⟨g4,rfl,j3,j1⟩;have jx:=hid j3;have c4:=CR.out w4 g4 j3;have z4:=HZ.out w4 j1;have jf:=hid (jz.trans j1);clear j3 j1)
   |(go_at_call 51;refine(RI.out _ g4 jx.out).mono ?_;rintro e w5⟨v5,rfl,ja,j8⟩;obtain⟨wa,wc,ke⟩:=z0c ja;subst ke;have jh:=hid ja;have j5:=hid (jf.trans j8);have j6:=hid (j5.at j4.out id);have jb:w.heap.size<w4.heap.size:=z0j (jf.at j4.out id);clear ja j8)
   |(refine qAg rfl 50 _ _ rfl w.heap.size (Q6m (.slice none 0 0) (.slice wa RS.length wc) l.length) rfl rfl _ _ j6.out Q7d rfl (z53 _ _ _ rfl rfl) ?_))
  refine qAc (z0l rfl _ _ w.heap.size 50 (Q6m (.slice none 0 0) (.slice wa RS.length wc) l.length) (0,0) _ rfl (qAn _ _ _ _ _ _ j6.out) qFk rfl Q7d) rfl ?_;refine⟨.slice none 0 0,.slice wa RS.length wc,by rw[j0.out];rfl,(j9.trans j5.out).setRow (fun h=>absurd h (qBw _)) _,?_,?_⟩
  ·rw[j0.out];exact qAh _ _ _ _
  rw[j0.out];refine z0g (z0d jh.out (fun g hg=>?_)) (qFd jb);have:=(jh.lt g hg).1;exact qCx _ _ _ _ (by omega)
 obtain⟨A,k6,ku,kv⟩:=jo.out rfl;have j0:=hid k6;have kw:(Q1p ps A).length<=1000000000000:=by
  rw[z7b];have:=kf.out;rw[k6]at this;dsimp only at this;omega
 have kp:=hid (TR.out A kw ku kv);generalize hNF:Q1p ps A=NF at kp;have xf:=hid hNF;generalize Q8k ps R X=WR at jd CR;unfold SpnRet at SP;clear jn jo TR k6 ku kv kw hNF RI kf;go_wp2_with (first
  |(go_at_call 52;refine(jd.out).mono ?_;rintro e w4⟨g4,rfl,j3,j1⟩;have c4:=CR.out w4 g4 j3;have z4:=HZ.out w4 j1;have jf:=hid j1;clear j3 j1)
  |(go_at_call 53;refine(SP.out _ jf.out).mono ?_;rintro e w5⟨sb,da,dc,D,rfl,jv,j8,jk,ju⟩;have xh:=hid jv;have ki:=hid (jf.trans j8);have xg:=hid jk;have jy:=hid ju;clear jv j8 jk ju)
  |(go_at_call 54;refine(kp.out _ sb da dc D xh.out xg.out jy.out).mono ?_;rintro e w6⟨v6,rfl,kb,x3⟩;obtain⟨na,nc,xl⟩:=z0c kb;subst xl;have kk:=hid kb;have j5:=hid (jz.trans (ki.trans x3));have j6:=hid (j5.at j4.out id);have kd:w.heap.size<w5.heap.size:=z0j ((jz.trans ki.out).at j4.out id);clear kb x3)
  |(refine qAg rfl 50 _ _ rfl w.heap.size (Q6m (.slice na NF.length nc) (.slice none 0 0) 0) rfl rfl _ _ j6.out Q7d rfl (z53 _ _ _ rfl rfl) ?_))
 refine qAc (z0l rfl _ _ w.heap.size 50 (Q6m (.slice na NF.length nc) (.slice none 0 0) 0) (0,0) _ rfl (qAn _ _ _ _ _ _ j6.out) qFk rfl Q7d) rfl ?_;refine⟨.slice na NF.length nc,.slice none 0 0,by rw[j0.out];rfl,(j9.trans j5.out).setRow (fun h=>absurd h (qBw _)) _,?_,?_⟩
 ·rw[j0.out];show Q2x _ _ _ (Q1p ps A);rw[xf.out];refine z0g (z0d kk.out (fun g hg=>?_)) (qFd kd);have:=(kk.lt g hg).1;exact qCx _ _ _ _ (by omega)
 rw[j0.out];exact qAh _ _ _ _
theorem x6c{s:ByteArray}(h:800<s.size):(Q0u s).1=1:=by unfold Q0u;rw[qAb h]
theorem y57(s t:ByteArray)(w:World)(hs:s.size<=maxLen)(ht:t.size<=maxLen)(hl:800<s.size∨200<t.size) :
  Calls Tryz.prog 5 #[.string s,.string t] w fun e w'=>Q2a s (Q7i 1 0) w e w':=by
 unfold maxLen at ht hs;by_cases h8:800<s.size
 ·have h1:(800:Int)<(s.size:Int):=by omega
  clear hl;go_enter Tryz.func5,Tryz.ntmps5
  go_wp2;exact qAc (z0l rfl _ _ w.heap.size 26 Q66 (0,0) _ rfl (z0a _ _) qCl rfl Q29) rfl (Q2a.bad ((mRf _ w).alloc _))
 have h1:¬(800:Int)<(s.size:Int):=by omega
 have h2:(200:Int)<(t.size:Int):=by omega
 clear hl;go_enter Tryz.func5,Tryz.ntmps5
 go_wp2;exact qAc (z0l rfl _ _ w.heap.size 26 Q66 (0,0) _ rfl (z0a _ _) qCl rfl Q29) rfl (Q2a.bad ((mRf _ w).alloc _))
theorem x8m(s t:ByteArray)(w:World)(hs:s.size<=800)(ht:t.size<=200)(hc:(Q0u s).1≠0) :
  Calls Tryz.prog 5 #[.string s,.string t] w fun e w'=>Q2a s (Q7i (Q0u s).1 0) w e w':=by
 have RD:=hid (fun w=>y6g s w (by unfold maxLen;omega));unfold Q9y at RD;have c0:((Q0u s).1 != 0)=true:=by simpa using hc
 have j4:¬(200:Int)<(t.size:Int):=by omega
 have j5:¬(800:Int)<(s.size:Int):=by omega
 have j1:Hid (∀w,Calls Tryz.prog 18 #[.string s] w fun e w'=>∃(p:Value) (pl:Int),e=.returned (.tuple #[p,.int .i64 (Q0u s).1,.int .i64 pl])/\Q0a w w'):=hid (fun w=>(RD.out w).mono (by
  rintro e w'⟨p,pl,h1,h2,_⟩;exact⟨p,pl,h1,h2⟩))
 generalize(Q0u s).1=E at j1 c0;clear hc RD;go_enter Tryz.func5,Tryz.ntmps5
 go_wp2_with (first
  |(refine qAg rfl 26 _ _ rfl w.heap.size Q66 rfl rfl _ _ j2.out Q29 rfl (z2f _ _ _ _ rfl rfl rfl) ?_)
  |(go_at_call 18;refine(j1.out _).mono ?_;rintro e w1⟨p,pl,rfl,j0⟩;have j3:=hid j0;have j2:=hid (j0.at (z0a w _) id);clear j0))
 refine qAc (z0l rfl _ _ w.heap.size 26 Q66 (0,0) _ rfl (qAn _ _ _ _ _ _ j2.out) qCl rfl Q29) rfl (Q2a.bad ?_);exact(Mod.trans ((mRf _ w).alloc _) j3.out).setRow (fun h=>absurd h (qBw _)) _
def ReadB(s:ByteArray)(w:World)(e:Ending)(w':World):Prop :=
 ∃(b:Nat) (pl:Int) (X:SP) (v0 v1 v2 v3 v4:Value) (sv:List Value),e=.returned (.tuple #[.pointer (some ⟨b,0,none⟩),.int .i64 0,.int .i64 pl])/\Q3q w' b (nR s) (nH s) (Q0e (nR s) (Q8b s))/\Q2f w' b X v0 v1 v2 v3 v4 sv/\Q7s (Q0i s) X.rules/\X.rules.length<=1000/\Q0a w w'
theorem x54(s:ByteArray)(w:World)(hs:s.size<=800)(hc:(Q0u s).1=0):Calls Tryz.prog 18 #[.string s] w fun e w'=>ReadB s w e w':=by
 refine(y6g s w (by unfold maxLen;omega)).mono ?_;rintro e w'⟨p,pl,rfl,hf,_,_,h⟩;obtain⟨b,xs,_,rfl,hX,hO⟩:=h hc;have j0:=z2w hc;obtain⟨v0,v1,v2,v3,v4,sv,hA⟩:=hX.at
 have j1:=hO.bd.rules;exact⟨b,pl,_,v0,v1,v2,v3,v4,sv,by rw[hc],v2t hX (x72 j0 hO),hA,x7y hs hO,by omega,hf⟩
theorem x1i(s t:ByteArray)(w:World)(hs:s.size<=800)(ht:t.size<=200)(hc:(Q0u s).1=0)(hcl:Q13 s≠[]) :
  Calls Tryz.prog 5 #[.string s,.string t] w fun e w'=>Q2a s (Q7i 8 0) w e w':=by
 have RD:=hid (fun w=>x54 s w hs hc);unfold ReadB at RD;have j3:=z2w hc;have j2:=y8b j3;have j0:=y07 hc;have j1:=x37 j3;have CL:=hid (fun(W:World) (b:Nat) (hS:Q3q W b (nR s) (nH s) (Q0e (nR s) (Q8b s)))=>z74 W b _ _ _ j1 hS (by rw[j2];exact j0));rw[j2]at CL;have jc:(0:Int)<((Q13 s).length:Int):=by have:=List.length_pos_iff.2 hcl;omega
 have jd:¬(200:Int)<(t.size:Int):=by omega
 have je:¬(800:Int)<(s.size:Int):=by omega
 generalize Q13 s=CF at CL jc;clear hcl hc j3 j2 j0 j1;go_enter Tryz.func5,Tryz.ntmps5
 go_wp2_with (first
  |(refine qAg rfl 26 _ _ rfl w.heap.size Q66 rfl rfl _ _ j6.out Q29 rfl (z2f _ _ _ _ rfl rfl rfl) ?_)
  |(go_at_call 18;refine(RD.out _).mono ?_;rintro e w1⟨b,pl,X,v0,v1,v2,v3,v4,sv,rfl,j7,_,_,_,j4⟩;have ja:=hid j7;have j8:=hid (Mod.trans ((mRf _ w).alloc _) j4);have jb:=hid (j4.at (z0a w _) id);clear j7 j4)
  |(go_at_call 19;refine(CL.out _ b ja.out).mono ?_;rintro e w2⟨v,rfl,hO,j5⟩;obtain⟨ao,cp,hv⟩:=z0c hO;subst hv;have j9:=hid j5;have j6:=hid (j5.at jb.out id);clear hO j5))
 refine qAc (z0l rfl _ _ w.heap.size 26 Q66 (0,0) _ rfl (qAn _ _ _ _ _ _ j6.out) qCl rfl Q29) rfl (Q2a.bad ?_);exact(j8.trans j9.out).setRow (fun h=>absurd h (qBw _)) _
theorem x4i{toks:List Tk}{p n:Nat}:Q49 toks p n=if h:p<toks.length then toks[p].a else n:=by
 unfold Q49;rw[qAa (by omega),qAo];by_cases h:p<toks.length
 ·rw[qEt h,qE h]
 rw[qFm h,qN (by omega)]
theorem x5w(s t:ByteArray)(w:World)(hs:s.size<=800)(ht:t.size<=200)(hc:(Q0u s).1=0)(hcl:Q13 s=[]) :
  Calls Tryz.prog 5 #[.string s,.string t] w fun e w'=>Q2a s (runG s t (Q3r (Q0i s) t)) w e w':=by
 obtain⟨i1,xa,xg,xh,xi⟩:=Q6z;have RD:=hid (fun w=>x54 s w hs hc);unfold ReadB at RD;have k2:=z2w hc;have k0:=y8b k2;have jh:=y07 hc;have j8:=x37 k2;have CL:=hid (fun(W:World) (b:Nat) (hS:Q3q W b (nR s) (nH s) (Q0e (nR s) (Q8b s)))=>z74 W b _ _ _ j8 hS (by rw[k0];exact jh));rw[k0,hcl]at CL;have ZP:Hid (∀(W:World) (b:Nat) (ka:Option Addr) (kc:Nat) (l:List Int),Q3q W b (nR s) (nH s) (Q0e (nR s) (Q8b s))->Q1c W (.slice ka l.length kc) l->l.length<=60->Q1z (nR s) l=true->Calls Tryz.prog 22 #[.pointer (some ⟨b,0,none⟩),.slice ka l.length kc] W fun e w'=>ParRet s (Q24 s l) W e w'):=hid (fun W b ka kc l hS hk hl hko=>x1o W b _ _ _ _ (y9p hc hcl) hS j8.qk ka kc l hk hl hko);have jn:=z6d s t;have j0:=x2j (Q0i s) t (t.size+1) 0 [] (by omega) (by omega);have ko:Q93 (Q0i s) t (t.size+1) 0 []=Q3r (Q0i s) t:=rfl;rw[List.filter_nil,ko]at j0;obtain⟨z1,z2,z3⟩:=y91 (Q0i s) t (t.size+1) 0 [] (by omega) (by simp) (fun k hk=>by(cases hk));have CU:=hid (fun(W:World) (b:Nat) (X:SP) (v0 v1 v2 v3 v4:Value) (sv:List Value) (h:Q2f W b X v0 v1 v2 v3 v4 sv) (hR:Q7s (Q0i s) X.rules) (hn:X.rules.length<=1000)=>x8n W b X v0 v1 v2 v3 v4 sv (Q0i s) t h hR hn ht);unfold CutRet at CU;generalize Q3r (Q0i s) t=C at j0 jn ⊢;generalize Q6t (Q0i s) t (t.size+1) 0 []=Z at j0 z1 z2 z3 CU;obtain⟨ts,zp⟩:=Z;dsimp only at j0 z1 z2 z3 CU;have kk:=hid z1;have xc:¬(200:Int)<(t.size:Int):=by omega
 have xd:¬(800:Int)<(s.size:Int):=by omega
 have xm:decide ((200:Int)<(t.size:Int))=false:=qCa xc;have xn:decide ((800:Int)<(s.size:Int))=false:=qCa xd;clear hcl hc k2 k0 jh j8 ko z1;go_enter Tryz.func5,Tryz.ntmps5
 go_upto_region 10 with(first
  |(go_at_call 18;refine(RD.out _).mono ?_;rintro e w1⟨b,pl,X,v0,v1,v2,v3,v4,sv,rfl,kt,kn,ks,ky,k3⟩;have jv:=hid kt;have jp:=hid kn;have ju:=hid ks;have js:=hid ky;have kz:=hid (Mod.trans ((mRf _ w).alloc _) k3);have kr:=hid (k3.at (z0a w _) id);clear kt k3 kn ks ky)
  |(go_at_call 19;refine(CL.out _ b jv.out).mono ?_;rintro e w2⟨v,rfl,hO,ku⟩;obtain⟨ao,cp,hv⟩:=z0c hO;subst hv;have ke:=hid ku;clear hO ku)
  |(go_at_call 20;refine(CU.out _ b X v0 v1 v2 v3 v4 sv (jp.fresh ke.out) ju.out js.out).mono ?_;rintro e w3⟨v,rfl,kv,k8⟩;obtain⟨ta,tc,hv⟩:=z0c k8;subst hv;have jj:=hid (ke.trans kv);have kh:=hid k8;clear kv k8))
 have jk:=hid (jj.at kr.out id);have kg:=hid (kz.trans jj.out);clear CL CU RD;by_cases kd:0<=zp
 ·rw[qAb kd]at j0;have ja:Hid (runG s t C=Q7i 9 zp):=hid (by rw[j0];unfold runG;rw[qAb (by simp)]);clear j0;go_wp2_with (first
   |(refine qAg rfl 26 _ _ rfl w.heap.size (Q7o (.slice none 0 0) (.slice none 0 0) (.slice none 0 0) zp) rfl rfl _ _ jk.out Q29 rfl (z2f _ _ _ _ rfl rfl rfl) ?_))
  refine qAc (z0l rfl _ _ w.heap.size 26 (Q7o (.slice none 0 0) (.slice none 0 0) (.slice none 0 0) zp) (0,0) _ rfl (qAn _ _ _ _ _ _ jk.out) qCl rfl Q29) rfl ?_;rw[ja.out];exact Q2a.bad (kg.setRow (fun h=>absurd h (qBw _)) _)
 rw[qAa kd]at j0;have KE:=hid (x51 w3 b _ X v0 v1 v2 v3 v4 _ sv (Q0i s) ts (jp.fresh jj.out) ju.out js.out (by omega) kh.out kk.out);have jz:C.1=ts.filter (fun k=>!Q27 (Q0i s) k.r):=by rw[j0]
 rw[← jz]at KE;have x8:C.1.length<=200:=by
  rw[jz];have:=qCc (fun k:Tk=>!Q27 (Q0i s) k.r) ts;omega
 have ja:Hid (runG s t C=if 60<C.1.length then Q7i 1 0 else if(Q24 s (C.1.map Tk.r)).err≠0 then⟨(Q24 s (C.1.map Tk.r)).err,[],[],(Q24 s (C.1.map Tk.r)).wanted,Q49 C.1 (Q24 s (C.1.map Tk.r)).place t.size⟩ else⟨0,C.1,(Q24 s (C.1.map Tk.r)).st,[],0⟩):=hid (by unfold runG;rw[qAa (by rw[j0];simp)]);have xj:zp=-1:=by omega
 clear j0 jz z2 z3 kd kk kh;subst xj;obtain⟨K,e1,e2⟩:=C;dsimp only at KE x8 ja jn;go_upto_region 13 with(first
  |(go_at_call 21;refine(KE.out).mono ?_;rintro e w4⟨v9,rfl,kw,k9⟩;obtain⟨la,lc,hv⟩:=z0c k9.own;subst hv;have jq:=hid kw;have ki:=hid k9;clear kw k9))
 have jc:=hid (kg.trans jq.out);have jl:=hid (jq.at jk.out id);have x6:=hid (jv.fresh (jj.trans jq.out));clear KE jv jp ju js kr jk;by_cases km:60<K.length
 ·have h6:(60:Int)<(K.length:Int):=by omega
  have j1:Hid (runG s t (K,e1,e2)=Q7i 1 0):=hid (by rw[ja.out,qAb km]);go_wp2_with (first
   |(refine qAg rfl 26 _ _ rfl w.heap.size Q66 rfl rfl _ _ jl.out Q29 rfl (z2f _ _ _ _ rfl rfl rfl) ?_))
  refine qAc (z0l rfl _ _ w.heap.size 26 Q66 (0,0) _ rfl (qAn _ _ _ _ _ _ jl.out) qCl rfl Q29) rfl ?_;rw[j1.out];exact Q2a.bad (jc.setRow (fun h=>absurd h (qBw _)) _)
 have h6:¬(60:Int)<(K.length:Int):=by omega
 have xl:decide ((60:Int)<(K.length:Int))=false:=qCa h6;have j1:=hid ja.out;rw[qAa km]at j1;have xo:w.heap.size<w4.heap.size:=z0j jl.out;have jy:=hid (fun(W:World) (ka:Option Addr) (kc:Nat) (hS:Q3q W b (nR s) (nH s) (Q0e (nR s) (Q8b s))) (hk:Q1c W (.slice ka (K.map Tk.r).length kc) (K.map Tk.r))=>ZP.out W b ka kc (K.map Tk.r) hS hk (by simpa using(by omega:K.length<=60)) jn);unfold ParRet at jy;clear ja ZP;go_wp2;go_loopw [12,13] (fun x12 x13 wr=>∃i:Nat,x13=.int .i64 i/\i<=K.length/\wr.ownsRow w4.heap.size 3 1 x12 i (Q9p ((K.take i).map Tk.r))/\Q0a w4 wr)
   (fun _ x _=>1001-(intOf x).toNat)
 case atStart=>exact⟨0,rfl,by omega,qAh _ _ _ _,mRf _ _⟩
 obtain⟨i,rfl,hi,j9,j3⟩:=hrel;have x3:=hid (Q19 (B:=1001) i (by omega));have HO:=hid j9;have HF:=hid j3;obtain⟨ka,kc,xb⟩:=z0c j9;subst xb;have xp:w4.heap.size<=wr.heap.size:=j3.size;have hV:=ki.fresh j3;clear j9;by_cases k4:i<K.length
 ·have s1:(i:Int)<(K.length:Int):=by omega
  obtain⟨g,c',jg⟩:=Joins.ownsRow_form hV.own (by omega);rw[qI]at jg;obtain⟨rfl,_,rfl⟩:=jg;have c0:=hV.cell i 0 k4 (by omega);have k7:K.take (i+1)=K.take i++[K[i]]:=Q6e k4;simp[Tk.cells]at c0;generalize K[i]=k at c0 k7;have x7:=hid k7;clear hV k7 j3;go_wp2_with (first
   |(at_builtin;refine z0f _ rfl _ _ 24 rfl w4.heap.size 3 i1 _ 1 8 qDq xa xg xh xi rfl (by decide) (.slice ka i kc) i (Q9p ((K.take i).map Tk.r)) rfl (qFq HO.out _) ⟨wr.heap.size,0,none⟩ 1 1 [.int .i64 k.r] rfl rfl (z0m rfl) (by intro u hu;simp at hu;subst hu;rfl) (by unfold maxLen;omega) (by omega) (by simp;omega) ?_;intro v9 w6 j5 j4 k1;have x5:=hid j5;have x2:=hid (Mod.grown (S:=fun _=>False) (HF.alloc _) j4 (fun k hk k4=>by have:=(HO.lt k hk).1;omega));clear j5 j4 k1))
  go_roundw
  case rel=>exact⟨i+1,by go_num,by omega,by rw[x7.out];have:=x5.out;simpa [Q9p]using this,x2.out⟩
  exact x3.out
 have s1:¬(i:Int)<(K.length:Int):=by omega
 obtain rfl:i=K.length:=by omega
 have hO:=HO.out;rw[qAw]at hO;have jo:(K.map Tk.r).length=K.length:=by simp
 have kp:Q1c wr (.slice ka (K.map Tk.r).length kc) (K.map Tk.r):=by
  rw[jo];exact IntOwn.at' (base:=w4.heap.size) (by unfold IntOwn;rw[jo];exact hO)
 have jb:=hid (jy.out wr ka kc (x6.fresh j3) kp);rw[jo]at jb;generalize Q24 s (K.map Tk.r)=G at jb j1;obtain⟨ge,gw,gp,kl⟩:=G;dsimp only at jb j1;generalize hNF:Q1p (Q8b s) kl=NF at jb;have x4:=hid hNF;have kq:=hid (j3.at jl.out id);have x0:=hid (jc.trans j3);have kj:=hid hV;clear hO jo kp jy jn hNF hV j3 HO;go_upto_region 21 with(first
  |(go_at_call 22;refine(jb.out).mono ?_;rintro e w7⟨vn,vw,rfl,kx,k5,kb⟩;obtain⟨na,nc,xe⟩:=z0c k5;subst xe;obtain⟨wa,wc,xf⟩:=z0c kb;subst xf;have jt:=hid k5;have jx:=hid kb;have x1:=hid kx;clear k5 kb kx)
  |(refine z0e rfl 50 _ _ rfl w7 _ (Q6m (.slice na NF.length nc) (.slice wa gw.length wc) gp) _ rfl rfl rfl Q7d rfl (z53 _ _ _ rfl rfl) ?_))
 have jm:Q0a w7 (w7.alloc (.cells (Q6m (.slice na NF.length nc) (.slice wa gw.length wc) gp) 50)):=(mRf _ w7).alloc _;have jd:=z0a w7 (.cells (Q6m (.slice na NF.length nc) (.slice wa gw.length wc) gp) 50);generalize(w7.alloc (.cells (Q6m (.slice na NF.length nc) (.slice wa gw.length wc) gp) 50))=W8 at jm jd ⊢;have j6:=hid (x1.trans jm);have b0:W8.cell? ⟨w7.heap.size,0,none⟩=some (.slice na NF.length nc):=Q0b jd 0;have b1:W8.cell? ⟨w7.heap.size,1,none⟩=some (.slice wa gw.length wc):=Q0b jd 1;have b2:W8.cell? ⟨w7.heap.size,2,none⟩=some (.int .i64 gp):=Q0b jd 2;have j7:=hid (j6.at kq.out id);have kf:=hid jm;have jr:=hid (x0.trans j6.out);have je:=kj.fresh j6.out;have jw:=hid je;have ji:w.heap.size<wr.heap.size:=z0j kq.out;clear jb jm jd kj ki;have tail:Hid (∀(cs:Array Value),Q43 (W8.setRow w.heap.size cs) (.slice la K.length lc) K/\Q2x (W8.setRow w.heap.size cs) w.heap.size (.slice na NF.length nc) NF/\IntOwn (W8.setRow w.heap.size cs) w.heap.size (.slice wa gw.length wc) gw):=hid (fun cs=>by
  refine⟨⟨z0d jw.own (fun g hg=>qCx _ _ _ _ ?_),jw.wf⟩,z0g (z0d jt.out (fun g hg=>?_)) (qFd ji),z0g (z0d jx.out (fun g hg=>?_)) (qFd ji)⟩
  ·intro e;obtain⟨xk,x9⟩:=z2z jw.own hg;exact x1e x9 j7.out (by decide) e
  ·have:=(jt.lt g hg).1;rw[qCx _ _ _ _ (by omega)];exact kf.block g (jt.lt g hg).2 id
  have:=(jx.lt g hg).1;rw[qCx _ _ _ _ (by omega)];exact kf.block g (jx.lt g hg).2 id)
 by_cases jf:ge=0
 ·have j2:=hid j1.out;rw[qAa (by simp[jf])]at j2;subst jf;clear j1;go_wp2_with (first
   |(refine qAg rfl 26 _ _ rfl w.heap.size (Q7o (.slice la K.length lc) (.slice na NF.length nc) (.slice none 0 0) 0) rfl rfl _ _ j7.out Q29 rfl (z2f _ _ _ _ rfl rfl rfl) ?_))
  refine qAc (z0l rfl _ _ w.heap.size 26 (Q7o (.slice la K.length lc) (.slice na NF.length nc) (.slice none 0 0) 0) (0,0) _ rfl (qAn _ _ _ _ _ _ j7.out) qCl rfl Q29) rfl ?_;rw[j2.out];refine⟨_,_,_,rfl,jr.setRow (fun h=>absurd h (qBw _)) _,(tail.out _).1,?_,qAh _ _ _ _⟩;show Q2x _ _ _ (Q1p (Q8b s) kl);rw[x4.out];exact(tail.out _).2.1
 have j2:=hid j1.out;rw[qAb jf,x4i]at j2;have c0:(ge != 0)=true:=by simpa using jf
 clear j1 jf;by_cases k6:gp<K.length
 ·have s2:(gp:Int)<(K.length:Int):=by omega
  rw[qEt k6]at j2;obtain⟨g,c',jg⟩:=Joins.ownsRow_form je.own (by omega);rw[qI]at jg;obtain⟨rfl,_,rfl⟩:=jg;have c1:=je.cell gp 1 k6 (by omega);simp[Tk.cells]at c1;generalize K[gp]=k at c1 j2;clear je;go_wp2_with (first
   |(refine qAg rfl 26 _ _ rfl w.heap.size (Q7o (.slice none 0 0) (.slice none 0 0) (.slice wa gw.length wc) k.a) rfl rfl _ _ j7.out Q29 rfl (z2f _ _ _ _ rfl rfl rfl) ?_))
  refine qAc (z0l rfl _ _ w.heap.size 26 (Q7o (.slice none 0 0) (.slice none 0 0) (.slice wa gw.length wc) k.a) (0,0) _ rfl (qAn _ _ _ _ _ _ j7.out) qCl rfl Q29) rfl ?_;rw[j2.out];exact⟨_,_,_,rfl,jr.setRow (fun h=>absurd h (qBw _)) _,Q18.nil _ _ _ _,qAh _ _ _ _,(tail.out _).2.2⟩
 have s2:¬(gp:Int)<(K.length:Int):=by omega
 rw[qFm k6]at j2;clear je;go_wp2_with (first
  |(refine qAg rfl 26 _ _ rfl w.heap.size (Q7o (.slice none 0 0) (.slice none 0 0) (.slice wa gw.length wc) t.size) rfl rfl _ _ j7.out Q29 rfl (z2f _ _ _ _ rfl rfl rfl) ?_))
 refine qAc (z0l rfl _ _ w.heap.size 26 (Q7o (.slice none 0 0) (.slice none 0 0) (.slice wa gw.length wc) t.size) (0,0) _ rfl (qAn _ _ _ _ _ _ j7.out) qCl rfl Q29) rfl ?_;rw[j2.out];exact⟨_,_,_,rfl,jr.setRow (fun h=>absurd h (qBw _)) _,Q18.nil _ _ _ _,qAh _ _ _ _,(tail.out _).2.2⟩
theorem x8l(s t:ByteArray)(w:World)(hs:s.size<=maxLen)(ht:t.size<=maxLen) :
  Calls Tryz.prog 5 #[.string s,.string t] w fun e w'=>Q2a s (Q82 s t) w e w':=by
 by_cases h2:200<t.size
 ·have e:Q82 s t=Q7i 1 0:=by unfold Q82;rw[qAb h2]
  rw[e];exact y57 s t w hs ht (.inr h2)
 by_cases h8:800<s.size
 ·have e:Q82 s t=Q7i 1 0:=by unfold Q82;rw[qAa h2,x6c h8,qAb (by decide)]
  rw[e];exact y57 s t w hs ht (.inl h8)
 by_cases hc:(Q0u s).1=0
 ·by_cases j0:Q13 s=[]
  ·have e:Q82 s t=runG s t (Q3r (Q0i s) t):=by unfold Q82;rw[qAa h2,qAa (by simp[hc]),qAa (by simp[j0])]
   rw[e];exact x5w s t w (by omega) (by omega) hc j0
  have e:Q82 s t=Q7i 8 0:=by unfold Q82;rw[qAa h2,qAa (by simp[hc]),qAb j0]
  rw[e];exact x1i s t w (by omega) (by omega) hc j0
 have e:Q82 s t=Q7i (Q0u s).1 0:=by unfold Q82;rw[qAa h2,qAb hc]
 rw[e];exact x8m s t w (by omega) (by omega) hc
attribute [local go_sem ↓] y2n
theorem y63(w:World)(va vb:Value)(l:List Nd)(ha:NdsAt w va l)(hb:NdsAt w vb l)(hl:l.length<=10000000000000) :
  Calls Tryz.prog 7 #[va,vb] w fun e w'=>e=.returned (.bool true)/\∃m,w'=w.drewN m:=by
 obtain⟨aa,ca,j4⟩:=z0c ha.own;subst j4;obtain⟨ab,cb,j5⟩:=z0c hb.own;subst j5;have HA:=hid ha;have HB:=hid hb;clear ha hb;go_enter Tryz.func7,Tryz.ntmps7
 go_wp2;go_loopw [5] (fun x5 wr=>∃(i:Nat),x5=.int .i64 i/\i<=l.length/\∃m,wr=w.drewN m)
  (fun x _=>10000000000001-(intOf x).toNat)
 case atStart=>exact⟨0,rfl,by omega,0,rfl⟩
 obtain⟨i,rfl,hi,m,j3⟩:=hrel;subst j3;have j2:=hid (Q19 (B:=10000000000001) i (by omega));by_cases j1:i<l.length
 ·have j7:(i:Int)<(l.length:Int):=by omega
  obtain⟨g,c',hg⟩:=Joins.ownsRow_form HA.own (by omega);rw[qI]at hg;obtain⟨rfl,_,rfl⟩:=hg;obtain⟨g2,j6,j0⟩:=Joins.ownsRow_form HB.own (by omega);rw[qI]at j0;obtain⟨rfl,_,rfl⟩:=j0;have r1:=HA.range i j1;have r2:=HB.range i j1;generalize l[i]=li at r1 r2;obtain⟨p,k,a,s⟩:=li;have l1:∀m,(ldN (.pointer (some ⟨g,i*4,none⟩))).run Tryz.prog (w.drewN m)=.ok (.agg (ndA p k a s)) (w.drewN m):=fun m=>x3m (w:=w.drewN m) (z0t r1 rfl);have l2:∀m,(ldN (.pointer (some ⟨g2,i*4,none⟩))).run Tryz.prog (w.drewN m)=.ok (.agg (ndA p k a s)) (w.drewN m):=fun m=>x3m (w:=w.drewN m) (z0t r2 rfl);have q1:∀w,(Op.equalIn 10000 67 (.agg (ndA p k a s)) (.agg (ndA p k a s))).run Tryz.prog w=.ok true w:=fun w=>eqNd 9996 p k a s w;have g1:=guardNd;clear r1 r2;go_wp2_with fail
  go_quiet (fail);go_wp2;go_roundw
  case rel=>exact⟨i+1,by go_num,by omega,_,rfl⟩
  exact j2.out
 have j8:¬(i:Int)<(l.length:Int):=by omega
 go_wp2;go_ret;exact⟨rfl,m,rfl⟩
theorem x24{ps:List Pr}{hs:List Hd}{R H:Nat}:∀(l:List Int) (a:Nat) (k:List Sy) (st:List St),(Q6k ps hs R H l a k st).wanted.length<=9
 | [],a,k,st=>by
  unfold Q6k;split
  ·simp
  exact z4b _
 |t::l,a,k,st=>by
  unfold Q6k;split
  ·exact x24 l _ _ _
  exact z4b _
theorem v1h(s t:ByteArray):(Q82 s t).toks.length<=60/\(Q82 s t).wanted.length<=9/\(Q82 s t).st.length<=61*2000000000:=by
 unfold Q82;split
 ·simp[Q7i]
 split
 ·simp[Q7i]
 split
 ·simp[Q7i]
 rename_i h1 h2 h3;have hk:=z6d s t;unfold runG;split
 ·simp[Q7i]
 split
 ·simp[Q7i]
 rename_i h4 h5;split
 ·exact⟨by simp,x24 _ _ _ _,by simp⟩
 exact⟨by dsimp only;omega,by simp,(v0b (by simpa using h2) (by simpa using h3) _ hk (by simp;omega)).1⟩
theorem v1a(s t:ByteArray)(w:World)(hs:s.size<=maxLen)(ht:t.size<=maxLen) :
  Calls Tryz.prog 3 #[.string s,.string t] w fun e w'=>e=.returned (.bool true)/\Q0a w w':=by
 have RA:=hid (v1i s t w hs ht);have RB:=hid (fun W=>x8l s t W hs ht);unfold Q2a at RA RB;obtain⟨ju,jv,jd⟩:=v1h s t;have j6:=z7b (Q8b s) (Q82 s t).st;generalize Q82 s t=G at RA RB ju jv jd j6;obtain⟨ge,gt,k9,gw,gp⟩:=G;dsimp only at RA RB ju jv jd j6;generalize Q1p (Q8b s) k9=NF at RA RB j6;have jg:NF.length<=10000000000000:=by omega
 have NU:=hid (fun e w=>v0t e w);clear j6 jd;go_enter Tryz.func3,Tryz.ntmps3
 go_upto_region 2 with(first
  |(go_at_call 4;refine(RA.out).mono ?_;rintro e w4⟨vt,vn,vw,rfl,jw,jk,ji,jp⟩;obtain⟨ta,tc,jn⟩:=z0c jk.own;subst jn;obtain⟨na,nc,jm⟩:=z0c ji;subst jm;obtain⟨wa,wc,jo⟩:=z0c jp;subst jo;have k5:=hid jk;have k3:=hid ji;have k7:=hid jp;have k1:=hid jw;clear jk ji jp jw)
  |(refine z0e rfl 26 _ _ rfl w4 _ (Q7o (.slice ta gt.length tc) (.slice na NF.length nc) (.slice wa gw.length wc) gp) _ rfl rfl rfl Q29 rfl (z2f _ _ _ _ rfl rfl rfl) ?_))
 have jh:Q0a w4 (w4.alloc (.cells (Q7o (.slice ta gt.length tc) (.slice na NF.length nc) (.slice wa gw.length wc) gp) 26)):=(mRf _ w4).alloc _;have je:=z0a w4 (.cells (Q7o (.slice ta gt.length tc) (.slice na NF.length nc) (.slice wa gw.length wc) gp) 26);generalize(w4.alloc (.cells (Q7o (.slice ta gt.length tc) (.slice na NF.length nc) (.slice wa gw.length wc) gp) 26))=W5 at jh je ⊢;have P2:=hid (RB.out W5);have k2:=hid jh;have k0:=hid je;clear jh je RA RB;go_upto_region 3 with(first
  |(go_at_call 5;refine(P2.out).mono ?_;rintro e w6⟨vt,vn,vw,rfl,jx,jl,jj,jq⟩;obtain⟨xa,xc,jn⟩:=z0c jl.own;subst jn;obtain⟨ma,mc,jm⟩:=z0c jj;subst jm;obtain⟨ua,uc,jo⟩:=z0c jq;subst jo;have k6:=hid jl;have k4:=hid jj;have k8:=hid jq;have jt:=hid jx;clear jl jj jq jx)
  |(refine z0e rfl 26 _ _ rfl w6 _ (Q7o (.slice xa gt.length xc) (.slice ma NF.length mc) (.slice ua gw.length uc) gp) _ rfl rfl rfl Q29 rfl (z2f _ _ _ _ rfl rfl rfl) ?_))
 have j4:Q0a w6 (w6.alloc (.cells (Q7o (.slice xa gt.length xc) (.slice ma NF.length mc) (.slice ua gw.length uc) gp) 26)):=(mRf _ w6).alloc _;have jf:=z0a w6 (.cells (Q7o (.slice xa gt.length xc) (.slice ma NF.length mc) (.slice ua gw.length uc) gp) 26);generalize(w6.alloc (.cells (Q7o (.slice xa gt.length xc) (.slice ma NF.length mc) (.slice ua gw.length uc) gp) 26))=W7 at j4 jf ⊢;have j0:=hid (k2.trans (jt.trans j4));have j7:=hid ((jt.trans j4).at k0.out id);have j9:=hid jf;have jb:=hid j4;have a0:W7.cell? ⟨w4.heap.size,0,none⟩=some (.slice ta gt.length tc):=Q0b j7.out 0;have b0:W7.cell? ⟨w6.heap.size,0,none⟩=some (.slice xa gt.length xc):=Q0b j9.out 0;have ST:=hid (y0v W7 _ _ gt (k5.fresh j0.out) (k6.fresh jb.out) (by omega));clear j4 jf P2;go_upto_region 4 with(first
  |(go_at_call 6;refine(ST.out).mono ?_;rintro e W8⟨rfl,jy⟩;have j2:=hid jy;clear jy))
 have j8:=hid (j2.at j7.out id);have ja:=hid (j2.at j9.out id);have a1:W8.cell? ⟨w4.heap.size,1,none⟩=some (.slice na NF.length nc):=Q0b j8.out 1;have b1:W8.cell? ⟨w6.heap.size,1,none⟩=some (.slice ma NF.length mc):=Q0b ja.out 1;have SN:=hid (y63 W8 _ _ NF (Q18.fresh ⟨z0g k3.out (qBq _),fun x _=>rfl⟩ (j0.trans j2.out)) (Q18.fresh ⟨z0g k4.out (qBq _),fun x _=>rfl⟩ (jb.trans j2.out)) jg);clear a0 b0 ST j7 j9;go_upto_region 5 with(first
  |(go_at_call 7;refine(SN.out).mono ?_;rintro e W9⟨rfl,m9,jz⟩;have j3:Hid (Q0a W8 W9):=hid (by rw[jz];exact Q0v _ _);clear jz))
 have jr:=hid (j3.at j8.out id);have js:=hid (j3.at ja.out id);have a2:W9.cell? ⟨w4.heap.size,2,none⟩=some (.slice wa gw.length wc):=Q0b jr.out 2;have b2:W9.cell? ⟨w6.heap.size,2,none⟩=some (.slice ua gw.length uc):=Q0b js.out 2;have SW:=hid (x0k W9 _ _ gw (Q1c.fresh (IntOwn.at' k7.out) ((j0.trans j2.out).trans j3.out)) (Q1c.fresh (IntOwn.at' k8.out) ((jb.trans j2.out).trans j3.out)) (by omega));clear a1 b1 SN j8 ja;go_upto_region 6 with(first
  |(go_at_call 8;refine(SW.out).mono ?_;rintro e jc⟨rfl,ka,j5⟩;have j1:Hid (Q0a W9 jc):=hid (by rw[j5];exact Q0v _ _);clear j5))
 have a3:jc.cell? ⟨w4.heap.size,3,none⟩=some (.int .i64 gp):=Q0b (j1.at jr.out id) 3;have b3:jc.cell? ⟨w6.heap.size,3,none⟩=some (.int .i64 gp):=Q0b (j1.at js.out id) 3;clear a2 b2 SW;go_wp2_with (first
  |(go_at_call 9;refine csm (NU.out _ _) ?_))
 go_ret;exact⟨rfl,(k1.trans j0.out).trans (j2.trans (j3.trans j1.out))⟩
end Go.Proofs.YtbdpfmalabgmbaaGreat
