import Derived.Test.YtcpceafmlgaodaaGreatEbe
namespace Go.Proofs.YtcpceafmlgaodaaGreat
open Go.RowKit
set_option maxRecDepth 99999
set_option maxHeartbeats 0
set_option linter.all false
section
variable {ps:List Pr}{R H:Nat}{l:List Int}
theorem z2m(R:Nat)(ps:List Pr)(p:Nat):(Q0e R ps)[p]? = (ps[p]?).map fun q=>(q.head,q.syms.map (Q0u R)):=by unfold Q0e;rw[List.getElem?_map]
theorem z9p(R:Nat)(ps:List Pr)(m:Itm):Q4k (Q0e R ps) m=((Q8m ps m).map (Q0u R)).getD (-1):=by
 unfold Q4k Q8m;rw[z2m];cases ps[m.p]? with
 |none=>rfl
 |some q=>simp
theorem y7c(hT:Q1b ps R H){m:Itm}{s:Sy}(h:Q8m ps m=some s):0<=s.num/\s.num<(if s.isH then(H:Int) else R):=by
 unfold Q8m at h;cases hq:ps[m.p]? with
 |none=>rw[hq]at h;cases h
 |some q =>
  rw[hq]at h;exact hT.sy q (List.mem_of_getElem? hq) s (List.mem_of_getElem? h)
theorem z77(hT:Q1b ps R H){m:Itm}:Q4k (Q0e R ps) m<0↔Q8m ps m=none:=by
 rw[z9p];cases h:Q8m ps m with
 |none=>simp
 |some s =>
  have:=y7c hT h;simp only[Option.map_some,Option.getD_some,reduceCtorEq,iff_false];unfold Q0u;split<;>omega
theorem z6k(hT:Q1b ps R H){m:Itm}{X:Int}(h0:0<=X):Q4k (Q0e R ps) m=bs R+X↔Q8m ps m=some ⟨true,X⟩:=by
 rw[z9p];cases h:Q8m ps m with
 |none=>simp[bs]<;>omega
 |some s =>
  obtain⟨a,b⟩:=s;have:=y7c hT h;simp only[Option.map_some,Option.getD_some,qO,Sy.mk.injEq];unfold Q0u bs;cases a
  ·simp only[qF,if_false]at this ⊢;simp<;>omega
  simp only[if_true]at this ⊢;simp<;>omega
theorem z38(hT:Q1b ps R H){m:Itm}{t:Int}(h0:0<=t)(ht:t<R):Q4k (Q0e R ps) m=t↔Q8m ps m=some ⟨false,t⟩:=by
 rw[z9p];cases h:Q8m ps m with
 |none=>simp<;>omega
 |some s =>
  obtain⟨a,b⟩:=s;have:=y7c hT h;simp only[Option.map_some,Option.getD_some,qO,Sy.mk.injEq];unfold Q0u;cases a
  ·simp
  simp only[if_true]at this ⊢;simp<;>omega
theorem y7u(hT:Q1b ps R H)(hm:∀p∈ps,p.syms.length<=6){P:List (List Itm)}{N:Nat}(hN:P.length=N)(hNl:N<=l.length)(hl:l.length<=60)(hx:∀(k:Nat) (Y:List Itm),P[k]? = some Y->∀m:Itm,m∈Y↔Q9v ps l k m):FillQ R (Q0e R ps) P (Q9v ps l N):=by
 have j1:(Q0e R ps).length=ps.length:=by unfold Q0e;simp
 refine⟨fun m hm'=>?_,fun m hm'=>?_,fun m p x h1 h2 h3=>?_,fun m x m' h1 h2 h3 h4 h5=>?_⟩
 ·obtain⟨h1,q,h2,h3⟩:=y2s hm';have:=hm q (List.mem_of_getElem? h2);have:=(qS h2).1;exact⟨by omega,by omega,by omega⟩
 ·have:=(y2s hm').1;omega
 ·rw[z2m]at h2;cases hq:ps[p]? with
  |none=>rw[hq]at h2;cases h2
  |some q' =>
   rw[hq]at h2;simp at h2;subst h2;have hs:=(z6k hT (hT.hd q' (List.mem_of_getElem? hq)).1).1 h3;obtain⟨_,q,hq1,_⟩:=y2s h1;rw[z3p hq1]at hs;rw[hN];exact x2p h1 hNl hq1 hs hq rfl
 rw[z2m]at h3;cases hq:ps[m.p]? with
 |none=>rw[hq]at h3;cases h3
 |some q =>
  rw[hq]at h3;simp at h3;subst h3;have hd:=(x8o h1 hq).1 ((z77 hT).1 h2);have hs:=(z6k hT (hT.hd q (List.mem_of_getElem? hq)).1).1 h5;have j0:It ps l N m.p q.syms.length m.f:=by rw[← hd];exact h1
  have hI:Q9v ps l m.f m':=by
   rcases h4 with h4|⟨e,h4⟩
   ·have hk:m.f<P.length:=by
     rcases Nat.lt_or_ge m.f P.length with z|z
     ·exact z
     rw[qD,qN z]at h4;cases h4
    rw[qD,qE hk]at h4;exact(hx m.f _ (qE hk) m').1 h4
   rw[e,hN];exact h4
  obtain⟨_,q',hq',_⟩:=y2s hI;rw[z3p hq']at hs;exact x5p j0 hNl hq hI hq' hs
theorem y3n(hT:Q1b ps R H){P:List (List Itm)}{X:List Itm}(h:∀m∈X,Q6c R (Q0e R ps) P X m):Q9s ps (P++[X]) P.length X:=by
 refine⟨fun m X' p' q' hm hs hq hh=>?_,fun m q m' Y hm hq hs hY hm' hs'=>?_⟩
 ·exact(h m hm).pred p' (q'.head,q'.syms.map (Q0u R)) (by rw[z2m,hq];rfl) ((z6k hT (hT.hd q' (List.mem_of_getElem? hq)).1).2 (by rw[hh];exact hs))
 refine(h m hm).comp ((z77 hT).2 hs) (q.head,q.syms.map (Q0u R)) (by rw[z2m,hq];rfl) m' ?_ ((z6k hT (hT.hd q (List.mem_of_getElem? hq)).1).2 hs');unfold atS;rw[qD,hY];exact hm'
theorem y6n(R:Nat)(q:List Q1):∀(X:List Itm) (o:List Bool),o.length=R+1->(Q9x R q X o).length=R+1/\∀t,(Q9x R q X o).getD t false=true↔(o.getD t false=true∨∃m∈X,(t<R/\Q4k q m=t)∨(t=R/\Q4k q m<0/\m.f=0/\hdI q m=0))
 | [],o,ho=>⟨ho,fun t=>by simp[Q9x]⟩
 |m::X,o,ho=>by
  obtain⟨r1,r2⟩:=y6n R q X (wanS R q o m) (by rw[x7u];exact ho);refine⟨r1,fun t=>?_⟩;rw[Q9x,r2 t];have j0:(wanS R q o m).getD t false=true↔(o.getD t false=true∨(t<R/\Q4k q m=t)∨(t=R/\Q4k q m<0/\m.f=0/\hdI q m=0)):=by
   unfold wanS;by_cases h1:Q4k q m<0
   ·rw[if_pos h1];by_cases h2:m.f=0/\hdI q m=0
    ·rw[if_pos h2,z14 _ _ _ _ _ (by omega)];by_cases h3:t=R
     ·rw[if_pos h3];simp[h3,h1,h2.1,h2.2]
     rw[if_neg h3];simp[h3];omega
    rw[if_neg h2];constructor
    ·exact .inl
    rintro(h|⟨h3,h4⟩|⟨h3,h4,h5,h6⟩)
    ·exact h
    ·omega
    exact absurd ⟨h5,h6⟩ h2
   rw[if_neg h1];by_cases h2:Q4k q m<R
   ·rw[if_pos h2,z14 _ _ _ _ _ (by omega)];by_cases h3:t=(Q4k q m).toNat
    ·rw[if_pos h3];exact⟨fun _=>.inr (.inl ⟨by omega,by omega⟩),fun _=>rfl⟩
    rw[if_neg h3];constructor
    ·exact .inl
    rintro(h|⟨h4,h5⟩|⟨h4,h5,_⟩)
    ·exact h
    ·omega
    omega
   rw[if_neg h2];constructor
   ·exact .inl
   rintro(h|⟨h4,h5⟩|⟨h4,h5,_⟩)
   ·exact h
   ·omega
   omega
  rw[j0];constructor
  ·rintro((h|h)|⟨m',h1,h2⟩)
   ·exact .inl h
   ·exact .inr ⟨m,by simp,h⟩
   exact .inr ⟨m',by simp[h1],h2⟩
  rintro(h|⟨m',h1,h2⟩)
  ·exact .inl (.inl h)
  rw[List.mem_cons]at h1;rcases h1 with rfl|h1
  ·exact .inl (.inr h2)
  exact .inr ⟨m',h1,h2⟩
theorem y5s(hT:Q1b ps R H){n:Nat}(hn:n<=l.length){P:List (List Itm)}{X:List Itm}(hP:P.length=n)(hI:Q26 ps l n (P++[X])) :
  (∀t:Nat,t<R->((Q9x R (Q0e R ps) X (List.replicate (R+1) false)).getD t false=true↔Vb ps (l.take n) t))/\((Q9x R (Q0e R ps) X (List.replicate (R+1) false)).getD R false=true↔Ve ps (l.take n)):=by
 have hl:(l.take n).length=n:=by rw[List.length_take];omega
 have h2:=hI.take (qR n);have hS:Q26 ps (l.take n) (l.take n).length (P++[X]):=by rw[hl];exact h2
 have hX:(P++[X])[(l.take n).length]? = some X:=by rw[hl,← hP,List.getElem?_append_right (qR _)];simp
 have hz:∀t,(List.replicate (R+1) false).getD t false=false:=fun t=>by
  rw[qD,List.getElem?_replicate];split<;>rfl
 obtain⟨_,hw⟩:=y6n R (Q0e R ps) X (List.replicate (R+1) false) (by simp);constructor
 ·intro t ht;rw[hw t,← hS.next hX,hz t];constructor
  ·rintro(h|⟨m,h1,h2|h2⟩)
   ·cases h
   ·exact⟨m,h1,(z38 hT (by omega) (by omega)).1 h2.2⟩
   omega
  rintro⟨m,h1,h2⟩;exact .inr ⟨m,h1,.inl ⟨ht,(z38 hT (by omega) (by omega)).2 h2⟩⟩
 rw[hw R,← hS.fin hX,hz R];have hh:∀(m:Itm) (q:Pr),ps[m.p]? = some q->hdI (Q0e R ps) m=q.head:=fun m q hq=>by
  unfold hdI;rw[z2m,hq];rfl
 constructor
 ·rintro(h|⟨m,h1,h2|⟨_,h2,h3,h4⟩⟩)
  ·cases h
  ·omega
  obtain⟨_,q,hq,_⟩:=y2s ((hS.iff _ X hX m).1 h1);exact⟨m,h1,q,hq,(z77 hT).1 h2,h3,by rw[← hh m q hq];exact h4⟩
 rintro⟨m,h1,q,hq,h2,h3,h4⟩;exact .inr ⟨m,h1,.inr ⟨rfl,(z77 hT).2 h2,h3,by rw[hh m q hq];exact h4⟩⟩
theorem x9j(hT:Q1b ps R H){n:Nat}(hn:n<=l.length){P:List (List Itm)}{X:List Itm}(hP:P.length=n)(hI:Q26 ps l n (P++[X])){c:Int}(h0:0<=c)(hc:c<R):Q4g (Q0e R ps) c X≠[]↔Vb ps (l.take n) c.toNat:=by
 have hl:(l.take n).length=n:=by rw[List.length_take];omega
 have h2:=hI.take (qR n);have hS:Q26 ps (l.take n) (l.take n).length (P++[X]):=by rw[hl];exact h2
 have hX:(P++[X])[(l.take n).length]? = some X:=by rw[hl,← hP,List.getElem?_append_right (qR _)];simp
 rw[← hS.next hX,show((c.toNat:Nat):Int)=c by omega];constructor
 ·intro h;obtain⟨y,hy⟩:=List.exists_mem_of_ne_nil _ h;obtain⟨m,h1,h2,_⟩:=z51.1 hy;exact⟨m,h1,(z38 hT h0 hc).1 h2⟩
 rintro⟨m,h1,h2⟩ e;have:=z51 (q:=Q0e R ps) (c:=c) (l:=X) (y:=mvI m);rw[e]at this;exact absurd (this.2 ⟨m,h1,(z38 hT h0 hc).2 h2,rfl⟩) (by simp)
theorem x37(hT:Q1b ps R H){n:Nat}(hn:n<l.length){P:List (List Itm)}{X X':List Itm}(hP:P.length=n)(hI:Q26 ps l n (P++[X]))(h0:0<=l[n])(hc:l[n]<R)(hg:Q4s (Q9v ps l (n+1)) (Q4g (Q0e R ps) l[n] X) X')(hd:∀m∈X',Q6c R (Q0e R ps) (P++[X]) X' m):Q26 ps l (n+1) ((P++[X])++[X']):=by
 have hF:=y3n hT hd;rw[qP,hP]at hF;refine y8n (by omega) (by rw[qP,hP];rfl) (fun k Y hk m=>hI.iff k Y hk m) hg.q hF (fun e=>by omega) (fun k Y m t e hk hm hs ht=>?_);have e2:k=n:=by omega
 subst e2;have hY:Y=X:=by
  rw[← hP,List.getElem?_append_right (qR _)]at hk;simpa using hk.symm
 subst hY;rw[qE hn]at ht;injection ht with ht;subst ht;exact hg.mem (z51.2 ⟨m,hm,(z38 hT h0 hc).2 hs,rfl⟩)
theorem y9t(hT:Q1b ps R H){X':List Itm}(hg:Q4s (Q9v ps l 0) [] X')(hd:∀m∈X',Q6c R (Q0e R ps) [] X' m)(h0:∀(p:Nat) (x:Q1),(Q0e R ps)[p]? = some x->x.1=0->(⟨p,0,0⟩:Itm)∈X'):Q26 ps l 0 ([]++[X']):=by
 have hF:=y3n hT hd;exact y8n (Nat.zero_le _) rfl (fun k Y hk=>by simp at hk) hg.q hF (fun _ p q hp hq=>h0 p (q.head,q.syms.map (Q0u R)) (by rw[z2m,hp];rfl) hq) (fun k Y m t e=>by omega)
theorem x2y(hT:Q1b ps R H){D:List Mat}(hD:Q44 ps l D){p:Nat}{x:Q1}(hx:(Q0e R ps)[p]? = some x){i:Nat}(hi:i<=l.length):Q44 ps l (addR R l D x i):=by
 intro h a j e;unfold addR Q9t atM at e;rw[z2m]at hx;cases hq:ps[p]? with
 |none=>rw[hq]at hx;cases hx
 |some q =>
  rw[hq]at hx;simp at hx;subst hx;have j0:=List.mem_of_getElem? hq;dsimp only at e;have old:((D.getD h []).getD a []).getD j false=true->Ds ps l [⟨true,(h:Int)⟩] a j:=fun e=>hD h a j e;rcases Nat.lt_or_ge q.head.toNat D.length with hh|hh
  ·rw[z11 _ _ _ _ _ hh]at e;split at e
   ·rename_i eh;rcases Nat.lt_or_ge i (D.getD q.head.toNat []).length with hi2|hi2
    ·rw[z11 _ _ _ _ _ hi2]at e;split at e
     ·rename_i ei;subst ei;have hj:j<l.length+1:=by
       rcases Nat.lt_or_ge j (l.length+1)with z|z
       ·exact z
       rw[qD,qN (by rw[z2h];exact z)]at e;cases e
      rw[z84 hj,Bool.or_eq_true]at e;rcases e with e|e
      ·rw[eh];exact hD _ _ _ e
      obtain⟨_,r2⟩:=x4c (bs R) l D hD.wide (q.syms.map (Q0u R)) hi;have hr:=(r2 j hj).1 e;obtain⟨d1,d2,B,b1,b2⟩:=y8y hT hD (hT.sy q j0) hi hr;have j1:=hT.hd q j0;refine⟨d1,d2,⟨false,(p:Int)⟩::B,?_,by simpa [Q0d]using b2⟩;rw[eh,show((q.head.toNat:Nat):Int)=q.head by omega,z3n hq,List.append_nil];exact b1
     rw[eh];exact hD _ _ _ e
    rw[List.set_eq_of_length_le hi2]at e;rw[eh];exact hD _ _ _ e
   exact old e
  rw[List.set_eq_of_length_le hh]at e;exact old e
theorem y9y(n:Nat):Q44 ps l (List.replicate H (sqF n)):=by
 intro h i j e;unfold atM at e;exfalso;have h1:((List.replicate H (sqF n)).getD h []).getD i []=List.replicate n false∨((List.replicate H (sqF n)).getD h []).getD i []=[]:=by
  have e0:(List.replicate H (sqF n)).getD h []=sqF n∨(List.replicate H (sqF n)).getD h []=[]:=by
   rw[qD,List.getElem?_replicate];split
   ·exact .inl rfl
   exact .inr rfl
  rcases e0 with e0|e0
  ·rw[e0];unfold sqF;rw[qD,List.getElem?_replicate];split
   ·exact .inl rfl
   exact .inr rfl
  rw[e0];exact .inr (by simp)
 rcases h1 with h1|h1
 ·rw[h1,qD,List.getElem?_replicate]at e;split at e<;>cases e
 rw[h1]at e;simp at e
theorem x2c(hT:Q1b ps R H){D:List Mat}(hD:Q44 ps l D)(hc:CloD R (Q0e R ps) l D):Q9r R ps l D:=by
 intro q hq i j hi hr;obtain⟨p,hp⟩:=List.getElem?_of_mem hq;have hm:=hc p (q.head,q.syms.map (Q0u R)) i (by rw[z2m,hp];rfl) hi;have hj:=x79 hD.wide _ i j hi hr;obtain⟨_,r2⟩:=x4c (bs R) l D hD.wide (q.syms.map (Q0u R)) hi;have hs:=(r2 j (by omega)).2 hr;unfold atM;cases hx:((D.getD q.head.toNat []).getD i []).getD j false with
 |true=>rfl
 |false =>
  have:=(y6k (n:=l.length+1)).2 ⟨j,by omega,hs,hx⟩;rw[hm]at this;cases this
theorem x4r{rb:List Int->Nat->Nat->Bool}{T:Int->Nat->Nat->List Nd}:∀(ys:List Sy),(∀s∈ys,0<=s.num/\s.num<(if s.isH then(H:Int) else R))->∀i j,Q9a (bs R) rb T (ys.map (Q0u R)) i j=rowN (fun ys i j=>rb (ys.map (Q0u R)) i j) T ys i j
 | [],_,_,_=>rfl
 |y::ys,hv,i,j=>by
  have hy:=hv y (by simp);have ih:=x4r (rb:=rb) (T:=T) ys (fun s hs=>hv s (by simp[hs]));rw[List.map_cons,Q9a,rowN,ih];have e1:toC rb (Q0u R y) (ys.map (Q0u R)) i j=toF (fun ys i j=>rb (ys.map (Q0u R)) i j) y ys i j:=rfl;rw[e1];congr 1;cases hb:y.isH
  ·rw[hb]at hy;simp only[qF,if_false]at hy;rw[z30 hb,if_pos (by unfold bs;omega),if_pos rfl]
  have:=z1p (R:=R) hb;rw[hb,if_pos rfl]at hy;rw[if_neg (by unfold bs;omega),if_neg (by simp),show Q0u R y-bs R=y.num by unfold bs;omega]
theorem y8q(hT:Q1b ps R H){rb:List Int->Nat->Nat->Bool}:∀(f:Nat) (h:Int) (i j:Nat),Q5a (bs R) (Q0e R ps) rb f h i j=Q73 ps (fun ys i j=>rb (ys.map (Q0u R)) i j) f h i j
 |0,_,_,_=>rfl
 |f+1,h,i,j=>by
  have ef:Q8r (Q0e R ps) rb h i j=Q7j ps (fun ys i j=>rb (ys.map (Q0u R)) i j) h i j:=by
   unfold Q8r Q7j Q0e;rw[List.findIdx_map];rfl
  have et:Q5a (bs R) (Q0e R ps) rb f=Q73 ps (fun ys i j=>rb (ys.map (Q0u R)) i j) f:=by
   funext h i j;exact y8q hT f h i j
  rw[Q5a,Q73,ef,z2m,et];cases hq:ps[Q7j ps (fun ys i j=>rb (ys.map (Q0u R)) i j) h i j]? with
  |none=>rfl
  |some q =>
   simp only[Option.map_some];rw[x4r q.syms (hT.sy q (List.mem_of_getElem? hq))]
end
theorem v1m(l:List Bool)(n i:Nat)(acc:List Int)(h:i<n):risL l (n-i) i acc=risL l (n-(i+1)) (i+1) (if l.getD i false=true then acc++[(i:Int)] else acc):=by
 rw[show n-i=(n-(i+1))+1 by omega];rfl
def RisRet(w:World)(l:List Int)(e:Ending)(w':World):Prop:=∃v,e=.returned v/\IntOwn w' w.heap.size v l/\Q0a w w'
theorem y0k(w:World)(g n:Nat)(l:List Bool)(hB:Q1y w g l)(hl:l.length=n)(hn:n<=100) :
  Calls Tryz.prog 37 #[bsl g n] w fun e w'=>RisRet w (risF l) e w':=by
 obtain⟨i1,hi1,hy0,hy1,hy2⟩:=Q6t;have HB:=hid hB;have HL:=hid hl;have hV:risL l n 0 []=risF l:=by unfold risF;rw[hl]
 generalize risF l=V at hV;have HV:=hid hV;clear hB hl hV;go_enter Tryz.func37,Tryz.ntmps37
 go_wp2;go_loopw [3,4] (fun x3 x4 wr=>∃(i:Nat) (acc:List Int),x4=.int .i64 i/\i<=n/\acc.length<=i/\wr.ownsRow w.heap.size 3 1 x3 acc.length (Q5x acc)/\Q0a w wr/\risL l (n-i) i acc=V)
   (fun _ x _=>1001-(intOf x).toNat)
 case atStart=>exact⟨0,[],rfl,by omega,by simp,World.ownsRow_nil _ _ _ _,mRf _ _,HV⟩
 obtain⟨i,acc,rfl,hi,hal,hown,hfr,hrec⟩:=hrel;have j1:=hid (Q15 (B:=1001) i (by omega));have HF:=hid hfr;have HO:=hid hown;obtain⟨ao,cp,hv⟩:=z0d hown;subst hv;have j4:w.heap.size<=wr.heap.size:=hfr.size;by_cases hlt:i<n
 ·have k1:(i:Int)<(n:Int):=by omega
  rw[v1m _ _ _ _ hlt]at hrec;have c1:=(HB.fresh hfr).cell (j:=i) (by rw[HL.out];exact hlt);generalize l.getD i false=lb at hrec c1;have j0:=hid hrec;clear hrec hown hfr;cases lb
  ·go_wp2;go_roundw
   case rel=>exact⟨i+1,acc,by go_num,by omega,by omega,HO,HF,j0⟩
   exact j1
  go_wp2_with (first
   |(at_builtin;refine z0g _ rfl _ _ 22 rfl w.heap.size 3 i1 _ 1 8 Tryz.underlying22 hi1 hy0 hy1 hy2 rfl (by decide) (.slice ao acc.length cp) acc.length (Q5x acc) rfl (World.ownsRow.alloc HO.out _) ⟨wr.heap.size,0,none⟩ 1 1 [.int .i64 i] rfl rfl (z0l rfl) (by intro u hu;simp at hu;subst hu;rfl) (by unfold maxLen;omega) (by omega) (by simp;omega) ?_;intro v9 w4 hown2 hgrow hblk;have j3:=hid hown2;have j2:=hid (Mod.grown (S:=fun _=>False) (HF.alloc _) hgrow (fun k hk hlt=>by have:=(HO.lt k hk).1;omega));clear hown2 hgrow hblk))
  go_roundw
  case rel=>exact⟨i+1,acc++[(i:Int)],by go_num,by omega,by simp;omega,by have:=j3.out;simpa [Q5x]using this,j2,j0⟩
  exact j1
 have k1:¬(i:Int)<(n:Int):=by omega
 have hz:n-i=0:=by omega
 rw[hz]at hrec;have j0:=hid hrec;clear hrec hown hfr hz;go_wp2;go_ret;refine⟨_,rfl,?_,HF⟩;have:=j0.out;unfold risL at this;rw[← this];exact HO
section
variable {ps:List Pr}{R H:Nat}{l:List Int}{G:Q98}{n i:Nat}{P:List (List Itm)}{X:List Itm}
def Q7y(ps:List Pr)(R:Nat)(X:List Itm):List Bool:=Q9x R (Q0e R ps) X (List.replicate (R+1) false)
theorem y2a:(Q7y ps R X).length=R+1:=(y6n R (Q0e R ps) X _ (by simp)).1
theorem x8y(hT:Q1b ps R H)(hR:R<=8)(hn:i<=l.length)(hP:P.length=i)(hI:Q26 ps l i (P++[X])){W:List Bool}(w1:∀t,t<R->(W.getD t false=true↔Vb ps (l.take i) t))(w2:W.getD R false=true↔Ve ps (l.take i))(w3:∀t,R<t->W.getD t false=false):risF (Q7y ps R X)=Q27 W:=by
 obtain⟨z1,z2⟩:=y5s hT hn hP hI;refine y92 (fun t=>?_) (by rw[y2a];omega);rw[Bool.eq_iff_iff];unfold Q7y;rcases Nat.lt_trichotomy t R with h|h|h
 ·rw[z1 t h,w1 t h]
 ·subst h;rw[z2,w2]
 rw[w3 t h,qD,qN (by have:=y2a (ps:=ps) (R:=R) (X:=X);unfold Q7y at this;omega)];rfl
theorem x0h(hT:Q1b ps R H)(hR:R<=8)(hG:GrowIs ps R l G n)(hP:P.length=i)(hI:Q26 ps l i (P++[X]))(hi:i<l.length)(hin:i<=n)(h0:0<=l[i])(hc:l[i]<R) :
  (Q4g (Q0e R ps) l[i] X=[]->G=⟨10,risF (Q7y ps R X),i,[]⟩)/\(Q4g (Q0e R ps) l[i] X≠[]->i+1<=n):=by
 have hx:=x9j hT (by omega:i<=l.length) hP hI h0 hc;constructor
 ·intro e;have j1:¬Vb ps (l.take i) l[i].toNat:=fun q=>hx.2 q e;have j0:n=i:=by
   rcases Nat.lt_or_ge i n with z|z
   ·exact absurd (hG.each i hi z) j1
   omega
  subst j0;rcases hG.or with⟨e1,_⟩|⟨W,e1,e2,e3,e4,_⟩
  ·omega
  rw[x8y hT hR (by omega) hP hI e2 e3 e4];exact e1
 intro e;have hv:=hx.1 e;rcases Nat.lt_or_ge i n with z|z
 ·exact z
 exfalso;obtain rfl:n=i:=by omega
 rcases hG.or with⟨e1,_⟩|⟨W,_,_,_,_,e5,_⟩
 ·omega
 exact e5 hi hv
theorem x1k(hT:Q1b ps R H)(hR:R<=8)(hG:GrowIs ps R l G n)(hP:P.length=l.length)(hI:Q26 ps l l.length (P++[X]))(hin:l.length<=n) :
  ((Q7y ps R X).getD R false=false->G=⟨10,risF (Q7y ps R X),l.length,[]⟩)/\((Q7y ps R X).getD R false=true->∃A,G=⟨0,[],0,A⟩/\Q1d ps A [⟨true,0⟩]=some []/\Q0d A=l):=by
 have hn:n=l.length:=by have:=hG.le;omega
 subst hn;obtain⟨_,z2⟩:=y5s hT (qR _) hP hI;rw[List.take_length]at z2;constructor
 ·intro e;rcases hG.or with⟨_,e2,_⟩|⟨W,e1,e2,e3,e4,_⟩
  ·have:=z2.2 e2;unfold Q7y at e;rw[e]at this;cases this
  rw[x8y hT hR (qR _) hP hI e2 e3 e4];exact e1
 intro e;have j0:=z2.1 e;rcases hG.or with⟨_,_,A,e3,e4,e5⟩|⟨W,_,_,_,_,_,e6⟩
 ·exact⟨A,e3,e4,e5⟩
 exact absurd j0 (e6 rfl)
end
def ZpRet(ps:List Pr)(G:Q98)(w:World)(e:Ending)(w':World):Prop:=∃vn vw,e=.returned (.tuple #[.agg (Q3n vn vw G.place),.int .i64 G.err])/\Q0a w w'/\Q3p w' w.heap.size vn (Q17 ps G.st)/\IntOwn w' w.heap.size vw G.wanted
theorem x02(w:World)(b R H:Nat)(ps:List Pr)(hs:List Hd)(hTb:Tab ps R H hs)(hS:Q3y w b R H (Q0e R ps))(hQ:QOk R H (Q0e R ps))(ka:Option Addr)(kc:Nat)(l:List Int)(hk:Q00 w (.slice ka l.length kc) l)(hl:l.length<=60)(hkk:Q0x R l=true) :
  Calls Tryz.prog 17 #[.pointer (some ⟨b,0,none⟩),.slice ka l.length kc] w fun e w'=>ZpRet ps (Q6b ps hs R H l 0 [⟨true,0⟩] []) w e w':=by
 have hT:=hTb.g.tab;have hR:=hTb.hR;have js:∀p∈ps,p.syms.length<=6:=fun p hp=>(hTb.syms p hp).1;obtain⟨n,hG⟩:=x88 hTb hkk;have jn:=(y7l hTb l 0 [⟨true,0⟩] [] hTb.start.1 hTb.start.2 (by simp) hkk (by omega) (by simp) (by simp)).1;have jv:=fun(rc:List Sy->Nat->Nat->Bool) (h:RcIs ps l R H rc) (A:List St) h1 h2=>x70 hTb hl h (A:=A) h1 h2;generalize Q6b ps hs R H l 0 [⟨true,0⟩] []=G at hG jn ⊢;have j9:=hQ.p20;have HK:=hid hk;obtain⟨ak,ck,ek,hck,hcell⟩:=hk;rw[qI]at ek;obtain⟨rfl,_,rfl⟩:=ek;have kp:=hid hcell;have k2:∀(i:Nat) (hi:i<l.length),0<=l[i]/\l[i]<R:=fun i hi=>by
  unfold Q0x at hkk;rw[List.all_eq_true]at hkk;have:=hkk l[i] (qG hi);simpa using this
 have j6:=hid k2;have HT:=hid hT;have HM:=hid js;have HG:=hid hG;have jy:=hid jv;have jx:=hid jn;have HS:=hid hS;have HQ:=hid hQ;obtain⟨a0,c0,a1,c1,a2,c2,v3,v4,sv,hN⟩:=hS;have kn:=hid hN.k0;have jq:Q0a w (w.alloc (.cells (Q3n (.slice none 0 0) (.slice none 0 0) 0) 25)):=(mRf _ w).alloc _;have k6:=z0a w (.cells (Q3n (.slice none 0 0) (.slice none 0 0) 0) 25);have CT:=hid (x48 _ b R H (Q0e R ps) (Q9v ps l 0) (HS.fresh jq) hQ (y7u hT js rfl (Nat.zero_le _) hl (fun k Y hY=>by simp at hY)) (fun p x hx h0=>by
  rw[z2m]at hx;cases hq:ps[p]? with
  |none=>rw[hq]at hx;cases hx
  |some q =>
   rw[hq]at hx;simp at hx;subst hx;exact x3c hq h0))
 have j4:=hid jq;have j3:=hid k6;clear hT hG jv jn hcell k2 js hQ hN jq k6 hkk hTb hs;go_enter Tryz.func17,Tryz.ntmps17
 go_upto_region 2 with(first
  |(go_at_call 35;refine(CT.out).mono ?_;rintro e w2⟨cb,gs,cap,X0,rfl,hC,hgr,hdn,hin⟩;have HC:=hid hC;have ja:=hid hgr;have k4:=hid hdn;have k7:=hid hin;clear hC hgr hdn hin))
 generalize(w.alloc (.cells (Q3n (.slice none 0 0) (.slice none 0 0) 0) 25))=w1 at j4 j3 HC;have kd:=hid (y9t HT.out ja.out k4.out k7.out);have jd:=hid (fun(N:Nat) (P:List (List Itm)) (h1:P.length=N) (h2:N<=l.length) (h3:∀(k:Nat) (Y:List Itm),P[k]? = some Y->∀m:Itm,m∈Y↔Q9v ps l k m)=>y7u HT.out HM.out h1 h2 hl h3);have k8:Hid (∀Y∈[]++[X0],Q8n (Q0e R ps) Y):=hid (fun Y hY=>by
  simp at hY;subst hY;exact⟨ja.len (jd.out 0 [] rfl (Nat.zero_le _) (fun k Y hY=>by simp at hY)).b j9,fun m hm=>by
   have:=(jd.out 0 [] rfl (Nat.zero_le _) (fun k Y hY=>by simp at hY)).b m (ja.q m hm);exact⟨this.1,this.2.1⟩⟩)
 clear CT k4 k7;go_wp2;go_loopw [7,8,9] (fun x7 _ _ wr=>∃(i gs cap:Nat) (P:List (List Itm)) (X:List Itm),x7=.int .i64 i/\i<=l.length/\i<=n/\P.length=i/\ChG w1 wr cb gs cap b (P++[X])/\Q26 ps l i (P++[X])/\X.Nodup/\∀Y∈P++[X],Q8n (Q0e R ps) Y)
   (fun x _ _ _=>1001-(intOf x).toNat)
 case atStart=>exact⟨0,gs,cap,[],X0,rfl,by omega,by omega,rfl,HC,kd,ja.nd,k8⟩
 obtain⟨i,gs2,cap2,P,X,rfl,hi,hin,hP,hC,hI,hnd,hXb⟩:=hrel;have km:=hid (Q15 (B:=1001) i (by omega));have ki:=hid hC;have HI:=hid hI;have kk:=hid hnd;have ke:=hid hXb;have HP:=hid hP;have je:Q0a w1 wr:=by
  obtain⟨vs,z⟩:=hC;exact z.fr
 have jo:=hid je;have jg:=hid (j4.trans je);have kq:=hid (je.at j3.out (fun x=>x));have WN:=hid (y57 w1 · cb gs2 cap2 b R H (Q0e R ps) P X (HS.fresh j4.out) HQ.out · (by rw[hP];omega) (hXb X (by simp)));have jl:=hid (y2a (ps:=ps) (R:=R) (X:=X));clear hI hnd hXb HC kd ja k8 je;by_cases hlt:i<l.length
 ·have s1:(i:Int)<(l.length:Int):=by omega
  obtain⟨gk,ok,rfl,y1⟩:=kp.out i hlt;have y2:=Q0i jg.out y1;obtain⟨st1,st2⟩:=x0h HT.out hR HG.out HP.out HI.out hlt hin (j6.out i hlt).1 (j6.out i hlt).2;have TK:=hid (x2i w1 wr cb gs2 cap2 b R H (Q0e R ps) P X l[i] (Q9v ps l (i+1)) (HS.fresh j4.out) HQ.out hC kk.out (by rw[hP];omega) ke.out (jd.out (i+1) (P++[X]) (by rw[qP,HP.out];rfl) (by omega) (fun k Y hY m=>HI.iff k Y hY m)) (fun m hm hsc=>by
   have k9:=(HI.iff i X (by rw[← HP.out,List.getElem?_append_right (qR _)];simp) m).1 hm;have ju:=(z38 HT.out (j6.out i hlt).1 (j6.out i hlt).2).1 hsc;obtain⟨_,q,hq,_⟩:=y2s k9;rw[z3p hq]at ju;exact x3u k9 hq ju (qE hlt)))
  have SN:=hid (fun(X':List Itm) (hg:Q4s (Q9v ps l (i+1)) (Q4g (Q0e R ps) l[i] X) X') (hd:∀m∈X',Q6c R (Q0e R ps) (P++[X]) X' m)=>(⟨x37 HT.out hlt HP.out HI.out (j6.out i hlt).1 (j6.out i hlt).2 hg hd,hg.nd,(fun Y hY=>by
   rw[qU]at hY;rcases hY with hY|hY
   ·exact ke.out Y hY
   rw[qM]at hY;subst hY;have hb:=(jd.out (i+1) (P++[X]) (by rw[qP,HP.out];rfl) (by omega) (fun k Y hY m=>HI.iff k Y hY m)).b;exact⟨hg.len hb j9,fun m hm=>⟨(hb m (hg.q m hm)).1,(hb m (hg.q m hm)).2.1⟩⟩)⟩:Q26 ps l (i+1) ((P++[X])++[X'])/\X'.Nodup/\∀Y∈(P++[X])++[X'],Q8n (Q0e R ps) Y))
  unfold TkRet at TK;have ji:=hid st1;have jh:=hid st2;generalize l[i]=c at y1 y2 TK SN ji jh;clear y1 st1 st2 hC hP;by_cases hnx:Q4g (Q0e R ps) c X=[]
  ·have k3:=ji.out hnx;have jr:=hid hnx;have j0:=hid k3;have RI:=hid (fun(W:World) (g:Nat) (hB:Q1y W g (Q7y ps R X))=>y0k W g (R+1) (Q7y ps R X) hB jl.out (by omega));generalize hris:risF (Q7y ps R X)=RS at j0 RI;clear hnx k3 SN ji jh hris;go_wp2_with (first
    |(go_at_call 36;refine(TK.out).mono ?_;rintro e w3 hz;obtain⟨_,rfl,hC3⟩:=hz.elim id (fun z=>absurd jr.out z.1);have jf:=hid hC3;clear hz hC3)
    |(go_at_call 38;refine(WN.out _ jf.out).mono ?_;rintro e w4⟨g4,rfl,hB4,hf4⟩;have jk:=hid hB4;have kf:=hid (jf.fresh hf4);clear hB4 hf4)
    |(go_at_call 37;refine(RI.out _ g4 jk.out).mono ?_;rintro e w5⟨v5,rfl,ho5,hf5⟩;obtain⟨wa,wc,hv5⟩:=z0d ho5;subst hv5;have j8:=hid ho5;have j1:Hid (Q0a w1 w5):=hid (by obtain⟨vs,z⟩:=kf.out;exact z.fr.trans hf5);have j2:=hid (j1.at j3.out (fun x=>x));have j5:w.heap.size<w4.heap.size:=(by obtain⟨vs,z⟩:=kf.out;exact z0j (z.fr.at j3.out (fun x=>x)));clear ho5 hf5)
    |(refine wpList_store_row rfl 25 _ _ rfl w.heap.size (Q3n (.slice none 0 0) (.slice wa RS.length wc) i) rfl rfl _ _ j2.out Q2g rfl (z1z _ _ _ rfl rfl) ?_))
   refine bodyPost_ret (z0m rfl _ _ w.heap.size 25 (Q3n (.slice none 0 0) (.slice wa RS.length wc) i) (0,0) _ rfl (setRow_heap _ _ _ _ _ _ j2.out) Tryz.underlying25 rfl Q2g) rfl ?_;refine⟨.slice none 0 0,.slice wa RS.length wc,by rw[j0.out];rfl,(j4.trans j1.out).setRow (fun h=>absurd h (Nat.lt_irrefl _)) _,?_,?_⟩
   ·rw[j0.out];exact World.ownsRow_nil _ _ _ _
   rw[j0.out];refine z0f (z0c j8.out (fun g hg=>?_)) (Nat.le_of_lt j5);have:=(j8.lt g hg).1;exact setRow_other _ _ _ _ (by omega)
  have kj:=jh.out hnx;have jr:=hid hnx;clear hnx ji jh WN;go_wp2_with (first
   |(go_at_call 36;refine(TK.out).mono ?_;rintro e w3 hz;obtain⟨_,rfl,gs3,cap3,X',hC3,hg3,hd3⟩:=hz.elim (fun z=>absurd z.1 jr.out) id;have jf:=hid hC3;have jm:=hid (SN.out X' hg3 hd3);clear hz hC3 hg3 hd3))
  go_roundw
  case rel=>exact⟨i+1,gs3,cap3,P++[X],X',by go_num,by omega,kj,by rw[qP,HP.out];rfl,jf,jm.1,jm.2.1,jm.2.2⟩
  exact km
 have s1:¬(i:Int)<(l.length:Int):=by omega
 obtain rfl:i=l.length:=by omega
 obtain⟨en1,en2⟩:=x1k HT.out hR HG.out HP.out HI.out hin;have kb:=hid (WN.out wr ki.out);have RI:=hid (fun(W:World) (g:Nat) (hB:Q1y W g (Q7y ps R X))=>y0k W g (R+1) (Q7y ps R X) hB jl.out (by omega));have jc:=hid en1;have jj:=hid en2;have j7:Hid (Calls Tryz.prog 38 #[.pointer (some ⟨cb,0,none⟩)] wr fun e w'=>WnRet wr R (Q7y ps R X) e w'):=hid kb.out;unfold WnRet at j7;have CR:Hid (∀(W:World) (g:Nat),Q1y W g (Q7y ps R X)->W.cell? ⟨g,R,none⟩=some (.bool ((Q7y ps R X).getD R false))):=hid (fun W g hB=>hB.cell (j:=R) (by rw[jl.out];omega));have HZ:Hid (∀W,Q0a wr W->W.cell? ⟨b,0,none⟩=some (.slice a0 R c0)):=hid (fun W hW=>Q0i (jg.trans hW) kn.out);have SP:=hid (fun(W:World) (hW:Q0a wr W)=>x4t W b R H (Q0e R ps) ka kc l (Q44 ps l) (HS.fresh (jg.trans hW)) HQ.out (HK.fresh (jg.trans hW)) hl (y9y (l.length+1)) (fun D p x i h1 _ h3 h4=>x2y HT.out h1 h3 h4));have TR:Hid (∀(A:List St),(Q17 ps A).length<=1000000000000->Q1d ps A [⟨true,0⟩]=some []->Q0d A=l->∀(W:World) (sb:Nat) (da:Option Addr) (dc:Nat) (D:List Mat),SpR W sb b R H (Q0e R ps) ka kc l da dc D->Q44 ps l D->CloD R (Q0e R ps) l D->Calls Tryz.prog 40 #[.pointer (some ⟨sb,0,none⟩),.int .i64 0,.int .i64 0,.int .i64 l.length,.int .i64 2000] W fun e w'=>NdRet W (Q17 ps A) e w'):=hid (fun A hA h1 h2 W sb da dc D hSp hSo hCl=>by
  have e:Q5a (bs R) (Q0e R ps) (rcB R l D) 2000 0 0 l.length=Q17 ps A:=by
   rw[y8q HT.out];exact jy.out _ (v2c HT.out hSo (x2c HT.out hSo hCl)) A h1 h2
  have:=y72 sb b R H (Q0e R ps) ka kc l da dc D HQ.out hl 2000 (qR _) W 0 0 l.length hSp (Nat.zero_le _) (qR _) (by rw[e];exact hA);rw[e]at this;exact this)
 have kl:(R:Int)<((R+1:Nat):Int):=by omega
 generalize R+1=r1 at j7 RI kl;generalize(Q7y ps R X).getD R false=bR at jc jj CR;clear en1 en2 hC WN kb jy;cases bR
 ·have j0:=hid (jc.out rfl);generalize hris:risF (Q7y ps R X)=RS at j0 RI;generalize Q7y ps R X=WR at j7 RI CR;clear jc jj SP TR hris;go_wp2_with (first
   |(go_at_call 38;refine(j7.out).mono ?_;rintro e w4⟨g4,rfl,hB4,hf4⟩;have jk:=hid hB4;have c4:=CR.out w4 g4 hB4;have z4:=HZ.out w4 hf4;have jb:=hid (jo.trans hf4);clear hB4 hf4)
   |(go_at_call 37;refine(RI.out _ g4 jk.out).mono ?_;rintro e w5⟨v5,rfl,ho5,hf5⟩;obtain⟨wa,wc,hv5⟩:=z0d ho5;subst hv5;have j8:=hid ho5;have j1:=hid (jb.trans hf5);have j2:=hid (j1.at j3.out (fun x=>x));have j5:w.heap.size<w4.heap.size:=z0j (jb.at j3.out (fun x=>x));clear ho5 hf5)
   |(refine wpList_store_row rfl 25 _ _ rfl w.heap.size (Q3n (.slice none 0 0) (.slice wa RS.length wc) l.length) rfl rfl _ _ j2.out Q2g rfl (z1z _ _ _ rfl rfl) ?_))
  refine bodyPost_ret (z0m rfl _ _ w.heap.size 25 (Q3n (.slice none 0 0) (.slice wa RS.length wc) l.length) (0,0) _ rfl (setRow_heap _ _ _ _ _ _ j2.out) Tryz.underlying25 rfl Q2g) rfl ?_;refine⟨.slice none 0 0,.slice wa RS.length wc,by rw[j0.out];rfl,(j4.trans j1.out).setRow (fun h=>absurd h (Nat.lt_irrefl _)) _,?_,?_⟩
  ·rw[j0.out];exact World.ownsRow_nil _ _ _ _
  rw[j0.out];refine z0f (z0c j8.out (fun g hg=>?_)) (Nat.le_of_lt j5);have:=(j8.lt g hg).1;exact setRow_other _ _ _ _ (by omega)
 obtain⟨A,hGA,hA1,hA2⟩:=jj.out rfl;have j0:=hid hGA;have k5:(Q17 ps A).length<=1000000000000:=by
  rw[z6z];have:=jx.out;rw[hGA]at this;dsimp only at this;omega
 have jw:=hid (TR.out A k5 hA1 hA2);generalize hNF:Q17 ps A=NF at jw;have kg:=hid hNF;generalize Q7y ps R X=WR at j7 CR;unfold SpnRet at SP;clear jc jj TR hGA hA1 hA2 k5 hNF RI jx;go_wp2_with (first
  |(go_at_call 38;refine(j7.out).mono ?_;rintro e w4⟨g4,rfl,hB4,hf4⟩;have c4:=CR.out w4 g4 hB4;have z4:=HZ.out w4 hf4;have jb:=hid hf4;clear hB4 hf4)
  |(go_at_call 39;refine(SP.out _ jb.out).mono ?_;rintro e w5⟨sb,da,dc,D,rfl,hSp,hf5,hSo,hCl⟩;have ko:=hid hSp;have jz:=hid (jb.trans hf5);have kh:=hid hSo;have jt:=hid hCl;clear hSp hf5 hSo hCl)
  |(go_at_call 40;refine(jw.out _ sb da dc D ko.out kh.out jt.out).mono ?_;rintro e w6⟨v6,rfl,ho6,hf6⟩;obtain⟨na,nc,hv6⟩:=z0d ho6;subst hv6;have k1:=hid ho6;have j1:=hid (jo.trans (jz.trans hf6));have j2:=hid (j1.at j3.out (fun x=>x));have jp:w.heap.size<w5.heap.size:=z0j ((jo.trans jz.out).at j3.out (fun x=>x));clear ho6 hf6)
  |(refine wpList_store_row rfl 25 _ _ rfl w.heap.size (Q3n (.slice na NF.length nc) (.slice none 0 0) 0) rfl rfl _ _ j2.out Q2g rfl (z1z _ _ _ rfl rfl) ?_))
 refine bodyPost_ret (z0m rfl _ _ w.heap.size 25 (Q3n (.slice na NF.length nc) (.slice none 0 0) 0) (0,0) _ rfl (setRow_heap _ _ _ _ _ _ j2.out) Tryz.underlying25 rfl Q2g) rfl ?_;refine⟨.slice na NF.length nc,.slice none 0 0,by rw[j0.out];rfl,(j4.trans j1.out).setRow (fun h=>absurd h (Nat.lt_irrefl _)) _,?_,?_⟩
 ·rw[j0.out];show Q3p _ _ _ (Q17 ps A);rw[kg.out];refine z0f (z0c k1.out (fun g hg=>?_)) (Nat.le_of_lt jp);have:=(k1.lt g hg).1;exact setRow_other _ _ _ _ (by omega)
 rw[j0.out];exact World.ownsRow_nil _ _ _ _
theorem v2i(base:Int)(null:List Bool)(L:Mat)(R:Nat)(l:List Int)(n i:Nat)(out:List Bool)(h:i<n):fiI base null L R l (n-i) i out=fiI base null L R l (n-(i+1)) (i+1) (if Q33 base null (l.take i)=true then fiT L (l.getD i 0) R 0 out else out):=by
 rw[show n-i=(n-(i+1))+1 by omega];rfl
theorem v2k(L:Mat)(c:Int)(n t:Nat)(out:List Bool)(h:t<n):fiT L c (n-t) t out=fiT L c (n-(t+1)) (t+1) (out.set t ((out.getD t false||c==(t:Int))||atM L c.toNat t)):=by
 rw[show n-t=(n-(t+1))+1 by omega];rfl
theorem x4m(L:Mat)(c:Int):∀(f t:Nat) (out:List Bool),(fiT L c f t out).length=out.length
 |0,_,_=>rfl
 |f+1,t,out=>by unfold fiT;rw[x4m L c f];simp
def Q9n(w:World)(n:Nat)(l:List Bool)(e:Ending)(w':World):Prop:=∃g,e=.returned (bsl g n)/\w.heap.size<=g/\Q1y w' g l/\Q0a w w'
theorem y4v(w:World)(B ab b R H:Nat)(q:List Q1)(gn:Nat)(vL:Value)(gs:List Nat)(v:Value)(l:List Int)(hA:Q7z w B ab b R H q gn vL gs)(hS:Q3y w b R H q)(hQ:QOk R H q)(hnl:(Q4j (bs R) false q H).length=H) (hsq:Sq (R+1+H) (ldF R H (Q4j (bs R) false q H) q))
  (hv:Q00 w v l) (hl:l.length<=6) (hc:∀c∈l,0<=c/\c<(R:Int)+1+H) :
  Calls Tryz.prog 67 #[.pointer (some ⟨ab,0,none⟩),v] w fun e w'=>Q9n w (R+1) (fiF R H (Q4j (bs R) false q H) q l) e w':=by
 obtain⟨a0,c0,a1,c1,a2,c2,v3,v4,sv,hN⟩:=hS;have r8:=hQ.r8;have h8:=hQ.h8;obtain⟨ao,cap,rfl,hcap,hcell⟩:=hv;obtain⟨al,cl,hvL⟩:=z0d hA.m.own;subst hvL;have p0:=Q0b hA.o 0;have p1:=Q0b hA.o 1;have p2:=Q0b hA.o 2;simp at p0 p1 p2;have k0:=hN.k0;unfold fiF firF;generalize hnu:Q4j (bs R) false q H=null at hA hnl hsq ⊢;generalize hLd:ldF R H null q=L at hA hsq ⊢;have jh:Hid (Q1y w gn null):=hid (by have:=hA.n;rw[hnu]at this;exact this);have j5:Hid (Q1s w B (R+1+H) (.slice al gs.length cl) gs L):=hid (by have:=hA.m;rw[hnu,hLd]at this;exact this);have jd:gs.length=R+1+H:=by rw[j5.len,hsq.len]
 have jk:=hid hN;have js:=hid hnl;have ji:=hid hsq;have HC:=hid hcell;have jo:=hid hc;have jb:bs R=((R+1:Nat):Int):=by unfold bs;omega
 have BA:=hid (fun(W:World) (hW:Q0a w W)=>z1i W b R a0 c0 (Q0i hW k0) (by omega));rw[jb]at BA;have NO:=hid (fun(W:World) (i:Nat) (hW:Q0a w W) (hi:i<=l.length)=>z4s W b R H gn a0 c0 (.slice ao i cap) (l.take i) null (Q0i hW k0) (by omega) (by omega) ((Q00.take ⟨ao,cap,rfl,hcap,hcell⟩ rfl hi).fresh hW) (by rw[List.length_take];omega) (jh.fresh hW) hnl (fun c hcc=>hc c (List.mem_of_mem_take hcc)));have mk:=fun w=>run_make_row' (P:=Tryz.prog) 90 4 (.bool false) 1 Tryz.underlying90 (by kernel_rfl) rfl .i64 .i64 (R+1) (by omega) (by omega) w;generalize hV:fiI (bs R) null L R l l.length 0 (List.replicate (R+1) false)=V;generalize hbs:bs R=base at hV NO;have HV:=hid hV;have jn:R+1<=9:=by omega
 have ja:=hid (show R<R+1 by omega);generalize hq1:R+1=R1 at HV BA mk jn ja ⊢;have jr:=hid hq1;have jq:=hid jd;have jl:gs.length<=20:=by omega
 clear hV hN hQ hnl hsq hcell hc hA hbs jb hq1 jd hnu hLd k0;go_enter Tryz.func67,Tryz.ntmps67
 go_wp2_with (first
  |(go_at_call 34;refine csm (BA.out _ (mRf _ _)) ?_))
 go_loopw [6,7,8] (fun x6 _ _ wr=>∃(i:Nat) (o:List Bool),x6=.int .i64 i/\i<=l.length/\Q1y wr w.heap.size o/\o.length=R1/\Q0a w wr/\fiI base null L R l (l.length-i) i o=V)
   (fun x _ _ _=>1001-(intOf x).toNat)
 case atStart =>
  refine⟨0,List.replicate R1 false,rfl,by omega,?_,by simp,(mRf _ w).alloc _,HV⟩;rw[z03];exact z0a _ _
 obtain⟨i,o,rfl,hi,hB,hol,hfr,hrec⟩:=hrel;have j8:=hid (Q15 (B:=1001) i (by omega));have HB:=hid hB;have jm:=hid hol;have HF:=hid hfr;have u0:=Q0i hfr p0;have u1:=Q0i hfr p1;clear hB hol mk;by_cases hlt:i<l.length
 ·have k1:(i:Int)<(l.length:Int):=by omega
  have k2:(i:Int)<=(l.length:Int):=by omega
  rw[v2i _ _ _ _ _ _ _ _ hlt]at hrec;obtain⟨gl,ol,rfl,y5⟩:=HC.out i hlt;have k3:(i:Int)<=(cap:Int):=by omega
  have jc:=jo.out l[i] (qG hlt);obtain⟨cn,hcn⟩:∃a:Nat,l[i]=a:=⟨l[i].toNat,by omega⟩;have jg:l.getD i 0=(cn:Int):=by rw[qD,qE hlt,Option.getD_some,hcn]
  rw[hcn]at y5 jc;rw[jg]at hrec;have jj:cn<gs.length:=by rw[jq.out];omega
  have NQ:=hid (fun n=>NO.out (wr.drewN n) i (hfr.trans (Q0r wr n)) (by omega));generalize Q33 base null (l.take i)=nb at hrec NQ;generalize hF2:(if nb=true then fiT L (cn:Int) R 0 o else o)=F2 at hrec;have jf:=hid hF2;have j2:=hid hrec;clear hrec hF2 hfr jg hcn jc;go_wp2;go_quiet (first|(go_at_call 68;refine Calls.quiet_of (NQ.out _)));have j6:=hid (HF.trans (Q0r wr nq));have j7:=hid (HB.fresh (Q0r wr nq));generalize wr.drewN nq=W2 at j6 j7 ⊢;clear u0 u1 HB HF NQ;go_wp2;go_loopw [8] (fun x8 wi=>∃(t:Nat) (o:List Bool),x8=.int .i64 t/\t<=R/\Q1y wi w.heap.size o/\o.length=R1/\Q0a w wi/\(if nb=true then fiT L (cn:Int) (R-t) t o else o)=F2)
    (fun x _=>1001-(intOf x).toNat)
  case atStart=>exact⟨0,o,rfl,by omega,j7,jm,j6,jf⟩
  obtain⟨t,o2,rfl,ht,hB,hol,hfr,hrec⟩:=hrel;have jp:=hid (Q15 (B:=1001) t (by omega));have j4:=hid hB;have j1:=hid hol;have j3:=hid hfr;have u0:=Q0i hfr p0;have u2:=Q0i hfr p2;have uk:=(jk.fresh hfr).k0;clear j6 j7 jf hol;by_cases hgo:t<R/\nb=true
  ·obtain⟨htR,hnb⟩:=hgo;subst hnb;have s1:(t:Int)<(R:Int):=by omega
   have s2:(t:Int)<(R1:Int):=by have:=ja.out;omega
   rw[if_pos rfl,v2k _ _ _ _ _ htR,Int.toNat_natCast]at hrec;obtain⟨gv,cv,hv⟩:=Joins.ownsRow_form j5.own (by omega);rw[qI]at hv;obtain⟨rfl,_,rfl⟩:=hv;obtain⟨gc,hgc⟩:∃g,gs[cn]? = some g:=⟨_,qE jj⟩;have j9:=j5.fresh hfr;have r1:=j9.row hgc;have d1:=j9.cell ji.out hgc (j:=t) (by omega);have b1:=hB.cell (j:=t) (by rw[j1.out];have:=ja.out;omega);have b2:=hB.frozen t;have z5:=Q0i hfr y5;have s3:(cn:Int)<(gs.length:Int):=by omega
   have s4:(t:Int)<((R+1+H:Nat):Int):=by omega
   generalize o2.getD t false=xa at hrec b1;generalize atM L cn t=xl at hrec d1;generalize hce:((cn:Int)==(t:Int))=xe at hrec;have j0:=hid hrec;have HP:Hid (∀c:Bool,Q1y (wr.setCell ⟨w.heap.size,t,none⟩ (.bool c)).drew w.heap.size (o2.set t c)/\Q0a w (wr.setCell ⟨w.heap.size,t,none⟩ (.bool c)).drew):=hid (fun c=>⟨j4.put t c,(j3.setCell (fun h=>absurd h (by simp)) _).drew⟩);clear hrec j9 hgc hfr hB;generalize R+1+H=nn at r1 s4;cases xa<;>cases xe<;>cases xl;all_goals
    go_wp2_with fail
    go_region;all_goals
     go_wp2;go_roundw
     case rel=>exact⟨t+1,_,by go_num,by omega,(HP.out _).1,by simp[j1.out],(HP.out _).2,by first|exact j0.out|(rw[if_pos rfl];exact j0)|simpa using j0.out⟩
     exact jp
  have je:(if nb=true then fiT L (cn:Int) (R-t) t o2 else o2)=o2:=by
   cases nb
   ·rfl
   have:R-t=0:=by
    rcases Nat.lt_or_ge t R with q|q
    ·exact absurd ⟨q,rfl⟩ hgo
    omega
   rw[if_pos rfl,this];rfl
  rw[je]at hrec;have j0:=hid hrec;clear hrec je hfr hB;cases nb
  ·by_cases htR:t<R
   ·have s1:(t:Int)<(R:Int):=by omega
    go_wp2;go_roundw
    case rel=>exact⟨i+1,o2,by go_num,by omega,j4,j1,j3,by rw[j0.out];exact j2.out⟩
    exact j8
   have s1:¬(t:Int)<(R:Int):=by omega
   go_wp2;go_roundw
   case rel=>exact⟨i+1,o2,by go_num,by omega,j4,j1,j3,by rw[j0.out];exact j2.out⟩
   exact j8
  have s1:¬(t:Int)<(R:Int):=by
   intro h;exact hgo ⟨by omega,rfl⟩
  go_wp2;go_roundw
  case rel=>exact⟨i+1,o2,by go_num,by omega,j4,j1,j3,by rw[j0.out];exact j2.out⟩
  exact j8
 have k1:¬(i:Int)<(l.length:Int):=by omega
 have hz:l.length-i=0:=by omega
 rw[hz]at hrec;have j2:=hid hrec;clear hrec hfr hz;go_wp2;go_ret;refine⟨_,rfl,qR _,?_,HF⟩;have:=j2.out;unfold fiI at this;rw[← this];exact HB
def rchF(R H:Nat)(q:List Q1):List Bool:=((reF R H q).getD 0 []).set 0 true
end Go.Proofs.YtcpceafmlgaodaaGreat
