import Derived.Test.YtcpceafmlgaodaaGreatEbe
namespace Go.Proofs.YtcpceafmlgaodaaGreat
open Go.RowKit
set_option maxRecDepth 99999
set_option maxHeartbeats 0
set_option linter.all false
section
variable {ps:List Pr}{R H:Nat}{l:List Int}
theorem z2i(R:Nat)(ps:List Pr)(p:Nat):(Q0e R ps)[p]? = (ps[p]?).map fun q=>(q.head,q.syms.map (Q0u R)):=by unfold Q0e;rw[qBe]
theorem z91(R:Nat)(ps:List Pr)(m:Itm):Q4q (Q0e R ps) m=((Q8n ps m).map (Q0u R)).getD (-1):=by
 unfold Q4q Q8n;rw[z2i];cases ps[m.p]? with
 |none=>rfl
 |some q=>simp
theorem y68(hT:Q1b ps R H){m:Itm}{s:Sy}(h:Q8n ps m=some s):0<=s.num/\s.num<(if s.isH then(H:Int) else R):=by
 unfold Q8n at h;cases hq:ps[m.p]? with
 |none=>rw[hq]at h;cases h
 |some q =>
  rw[hq]at h;exact hT.sy q (qAd hq) s (qAd h)
theorem z8b(hT:Q1b ps R H){m:Itm}:Q4q (Q0e R ps) m<0↔Q8n ps m=none:=by
 rw[z91];cases h:Q8n ps m with
 |none=>simp
 |some s =>
  have:=y68 hT h;simp only[qCz,qDa,reduceCtorEq,iff_false];unfold Q0u;split<;>omega
theorem z6k(hT:Q1b ps R H){m:Itm}{X:Int}(h0:0<=X):Q4q (Q0e R ps) m=bs R+X↔Q8n ps m=some ⟨true,X⟩:=by
 rw[z91];cases h:Q8n ps m with
 |none=>simp[bs]<;>omega
 |some s =>
  obtain⟨a,b⟩:=s;have:=y68 hT h;simp only[qCz,qDa,qO,Sy.mk.injEq];unfold Q0u bs;cases a
  ·simp only[qF,qAp]at this ⊢;simp<;>omega
  simp only[qBb]at this ⊢;simp<;>omega
theorem z4b(hT:Q1b ps R H){m:Itm}{t:Int}(h0:0<=t)(ht:t<R):Q4q (Q0e R ps) m=t↔Q8n ps m=some ⟨false,t⟩:=by
 rw[z91];cases h:Q8n ps m with
 |none=>simp<;>omega
 |some s =>
  obtain⟨a,b⟩:=s;have:=y68 hT h;simp only[qCz,qDa,qO,Sy.mk.injEq];unfold Q0u;cases a
  ·simp
  simp only[qBb]at this ⊢;simp<;>omega
theorem y7x(hT:Q1b ps R H)(hm:∀p∈ps,p.syms.length<=6){P:List (List Itm)}{N:Nat}(hN:P.length=N)(hNl:N<=l.length)(hl:l.length<=60)(hx:∀(k:Nat) (Y:List Itm),P[k]? = some Y->∀m:Itm,m∈Y↔Q9u ps l k m):FillQ R (Q0e R ps) P (Q9u ps l N):=by
 have j1:(Q0e R ps).length=ps.length:=by unfold Q0e;simp
 refine⟨fun m hm'=>?_,fun m hm'=>?_,fun m p x h1 h2 h3=>?_,fun m x m' h1 h2 h3 h4 h5=>?_⟩
 ·obtain⟨h1,q,h2,h3⟩:=y13 hm';have:=hm q (qAd h2);have:=(qS h2).1;exact⟨by omega,by omega,by omega⟩
 ·have:=(y13 hm').1;omega
 ·rw[z2i]at h2;cases hq:ps[p]? with
  |none=>rw[hq]at h2;cases h2
  |some q' =>
   rw[hq]at h2;simp at h2;subst h2;have hs:=(z6k hT (hT.hd q' (qAd hq)).1).1 h3;obtain⟨_,q,hq1,_⟩:=y13 h1;rw[z3o hq1]at hs;rw[hN];exact x2y h1 hNl hq1 hs hq rfl
 rw[z2i]at h3;cases hq:ps[m.p]? with
 |none=>rw[hq]at h3;cases h3
 |some q =>
  rw[hq]at h3;simp at h3;subst h3;have hd:=(x8f h1 hq).1 ((z8b hT).1 h2);have hs:=(z6k hT (hT.hd q (qAd hq)).1).1 h5;have j0:It ps l N m.p q.syms.length m.f:=by rw[← hd];exact h1
  have hI:Q9u ps l m.f m':=by
   rcases h4 with h4|⟨e,h4⟩
   ·have hk:m.f<P.length:=by
     rcases qBn m.f P.length with z|z
     ·exact z
     rw[qD,qN z]at h4;cases h4
    rw[qD,qE hk]at h4;exact(hx m.f _ (qE hk) m').1 h4
   rw[e,hN];exact h4
  obtain⟨_,q',hq',_⟩:=y13 hI;rw[z3o hq']at hs;exact x2w j0 hNl hq hI hq' hs
theorem y3t(hT:Q1b ps R H){P:List (List Itm)}{X:List Itm}(h:∀m∈X,Q57 R (Q0e R ps) P X m):Q9i ps (P++[X]) P.length X:=by
 refine⟨fun m X' p' q' hm hs hq hh=>?_,fun m q m' Y hm hq hs hY hm' hs'=>?_⟩
 ·exact(h m hm).pred p' (q'.head,q'.syms.map (Q0u R)) (by rw[z2i,hq];rfl) ((z6k hT (hT.hd q' (qAd hq)).1).2 (by rw[hh];exact hs))
 refine(h m hm).comp ((z8b hT).2 hs) (q.head,q.syms.map (Q0u R)) (by rw[z2i,hq];rfl) m' ?_ ((z6k hT (hT.hd q (qAd hq)).1).2 hs');unfold atS;rw[qD,hY];exact hm'
theorem y7d(R:Nat)(q:List Q1):∀(X:List Itm) (o:List Bool),o.length=R+1->(Q94 R q X o).length=R+1/\∀t,(Q94 R q X o).getD t false=true↔(o.getD t false=true∨∃m∈X,(t<R/\Q4q q m=t)∨(t=R/\Q4q q m<0/\m.f=0/\hdI q m=0))
 | [],o,ho=>⟨ho,fun t=>by simp[Q94]⟩
 |m::X,o,ho=>by
  obtain⟨r1,r2⟩:=y7d R q X (wanS R q o m) (by rw[x7v];exact ho);refine⟨r1,fun t=>?_⟩;rw[Q94,r2 t];have j0:(wanS R q o m).getD t false=true↔(o.getD t false=true∨(t<R/\Q4q q m=t)∨(t=R/\Q4q q m<0/\m.f=0/\hdI q m=0)):=by
   unfold wanS;by_cases h1:Q4q q m<0
   ·rw[qAb h1];by_cases h2:m.f=0/\hdI q m=0
    ·rw[qAb h2,z16 _ _ _ _ _ (by omega)];by_cases h3:t=R
     ·rw[qAb h3];simp[h3,h1,h2.1,h2.2]
     rw[qAa h3];simp[h3];omega
    rw[qAa h2];constructor
    ·exact .inl
    rintro(h|⟨h3,h4⟩|⟨h3,h4,h5,h6⟩)
    ·exact h
    ·omega
    exact absurd ⟨h5,h6⟩ h2
   rw[qAa h1];by_cases h2:Q4q q m<R
   ·rw[qAb h2,z16 _ _ _ _ _ (by omega)];by_cases h3:t=(Q4q q m).toNat
    ·rw[qAb h3];exact⟨fun _=>.inr (.inl ⟨by omega,by omega⟩),fun _=>rfl⟩
    rw[qAa h3];constructor
    ·exact .inl
    rintro(h|⟨h4,h5⟩|⟨h4,h5,_⟩)
    ·exact h
    ·omega
    omega
   rw[qAa h2];constructor
   ·exact .inl
   rintro(h|⟨h4,h5⟩|⟨h4,h5,_⟩)
   ·exact h
   ·omega
   omega
  rw[j0];constructor
  ·rintro((h|h)|⟨m',h1,h2⟩)
   ·exact .inl h
   ·exact .inr ⟨m,by simp,h⟩
   exact .inr ⟨m',by simp[h1],h2⟩
  rintro(h|⟨m',h1,h2⟩)
  ·exact .inl (.inl h)
  rw[qBc]at h1;rcases h1 with rfl|h1
  ·exact .inl (.inr h2)
  exact .inr ⟨m',h1,h2⟩
theorem y5h(hT:Q1b ps R H){n:Nat}(hn:n<=l.length){P:List (List Itm)}{X:List Itm}(hP:P.length=n)(hI:Q23 ps l n (P++[X])) :
  (∀t:Nat,t<R->((Q94 R (Q0e R ps) X (List.replicate (R+1) false)).getD t false=true↔Vb ps (l.take n) t))/\((Q94 R (Q0e R ps) X (List.replicate (R+1) false)).getD R false=true↔Ve ps (l.take n)):=by
 have hl:(l.take n).length=n:=by rw[qBo];omega
 have h2:=hI.take (qR n);have hS:Q23 ps (l.take n) (l.take n).length (P++[X]):=by rw[hl];exact h2
 have hX:(P++[X])[(l.take n).length]? = some X:=by rw[hl,← hP,qAg (qR _)];simp
 have hz:∀t,(List.replicate (R+1) false).getD t false=false:=fun t=>by
  rw[qD,qDd];split<;>rfl
 obtain⟨_,hw⟩:=y7d R (Q0e R ps) X (List.replicate (R+1) false) (by simp);constructor
 ·intro t ht;rw[hw t,← hS.next hX,hz t];constructor
  ·rintro(h|⟨m,h1,h2|h2⟩)
   ·cases h
   ·exact⟨m,h1,(z4b hT (by omega) (by omega)).1 h2.2⟩
   omega
  rintro⟨m,h1,h2⟩;exact .inr ⟨m,h1,.inl ⟨ht,(z4b hT (by omega) (by omega)).2 h2⟩⟩
 rw[hw R,← hS.fin hX,hz R];have hh:∀(m:Itm) (q:Pr),ps[m.p]? = some q->hdI (Q0e R ps) m=q.head:=fun m q hq=>by
  unfold hdI;rw[z2i,hq];rfl
 constructor
 ·rintro(h|⟨m,h1,h2|⟨_,h2,h3,h4⟩⟩)
  ·cases h
  ·omega
  obtain⟨_,q,hq,_⟩:=y13 ((hS.iff _ X hX m).1 h1);exact⟨m,h1,q,hq,(z8b hT).1 h2,h3,by rw[← hh m q hq];exact h4⟩
 rintro⟨m,h1,q,hq,h2,h3,h4⟩;exact .inr ⟨m,h1,.inr ⟨rfl,(z8b hT).2 h2,h3,by rw[hh m q hq];exact h4⟩⟩
theorem x91(hT:Q1b ps R H){n:Nat}(hn:n<=l.length){P:List (List Itm)}{X:List Itm}(hP:P.length=n)(hI:Q23 ps l n (P++[X])){c:Int}(h0:0<=c)(hc:c<R):Q4g (Q0e R ps) c X≠[]↔Vb ps (l.take n) c.toNat:=by
 have hl:(l.take n).length=n:=by rw[qBo];omega
 have h2:=hI.take (qR n);have hS:Q23 ps (l.take n) (l.take n).length (P++[X]):=by rw[hl];exact h2
 have hX:(P++[X])[(l.take n).length]? = some X:=by rw[hl,← hP,qAg (qR _)];simp
 rw[← hS.next hX,show((c.toNat:Nat):Int)=c by omega];constructor
 ·intro h;obtain⟨y,hy⟩:=List.exists_mem_of_ne_nil _ h;obtain⟨m,h1,h2,_⟩:=z6d.1 hy;exact⟨m,h1,(z4b hT h0 hc).1 h2⟩
 rintro⟨m,h1,h2⟩ e;have:=z6d (q:=Q0e R ps) (c:=c) (l:=X) (y:=mvI m);rw[e]at this;exact absurd (this.2 ⟨m,h1,(z4b hT h0 hc).2 h2,rfl⟩) (by simp)
theorem x4q(hT:Q1b ps R H){n:Nat}(hn:n<l.length){P:List (List Itm)}{X X':List Itm}(hP:P.length=n)(hI:Q23 ps l n (P++[X]))(h0:0<=l[n])(hc:l[n]<R)(hg:Q4s (Q9u ps l (n+1)) (Q4g (Q0e R ps) l[n] X) X')(hd:∀m∈X',Q57 R (Q0e R ps) (P++[X]) X' m):Q23 ps l (n+1) ((P++[X])++[X']):=by
 have hF:=y3t hT hd;rw[qP,hP]at hF;refine y8u (by omega) (by rw[qP,hP];rfl) (fun k Y hk m=>hI.iff k Y hk m) hg.q hF (fun e=>by omega) (fun k Y m t e hk hm hs ht=>?_);have e2:k=n:=by omega
 subst e2;have hY:Y=X:=by
  rw[← hP,qAg (qR _)]at hk;simpa using hk.symm
 subst hY;rw[qE hn]at ht;injection ht with ht;subst ht;exact hg.mem (z6d.2 ⟨m,hm,(z4b hT h0 hc).2 hs,rfl⟩)
theorem x0n(hT:Q1b ps R H){X':List Itm}(hg:Q4s (Q9u ps l 0) [] X')(hd:∀m∈X',Q57 R (Q0e R ps) [] X' m)(h0:∀(p:Nat) (x:Q1),(Q0e R ps)[p]? = some x->x.1=0->(⟨p,0,0⟩:Itm)∈X'):Q23 ps l 0 ([]++[X']):=by
 have hF:=y3t hT hd;exact y8u (qBg _) rfl (fun k Y hk=>by simp at hk) hg.q hF (fun _ p q hp hq=>h0 p (q.head,q.syms.map (Q0u R)) (by rw[z2i,hp];rfl) hq) (fun k Y m t e=>by omega)
theorem x4t(hT:Q1b ps R H){D:List Mat}(hD:Q44 ps l D){p:Nat}{x:Q1}(hx:(Q0e R ps)[p]? = some x){i:Nat}(hi:i<=l.length):Q44 ps l (addR R l D x i):=by
 intro h a j e;unfold addR Q9s atM at e;rw[z2i]at hx;cases hq:ps[p]? with
 |none=>rw[hq]at hx;cases hx
 |some q =>
  rw[hq]at hx;simp at hx;subst hx;have j0:=qAd hq;dsimp only at e;have old:((D.getD h []).getD a []).getD j false=true->Ds ps l [⟨true,(h:Int)⟩] a j:=fun e=>hD h a j e;rcases qBn q.head.toNat D.length with hh|hh
  ·rw[z11 _ _ _ _ _ hh]at e;split at e
   ·rename_i eh;rcases qBn i (D.getD q.head.toNat []).length with hi2|hi2
    ·rw[z11 _ _ _ _ _ hi2]at e;split at e
     ·rename_i ei;subst ei;have hj:j<l.length+1:=by
       rcases qBn j (l.length+1)with z|z
       ·exact z
       rw[qD,qN (by rw[z2l];exact z)]at e;cases e
      rw[z9k hj,qAk]at e;rcases e with e|e
      ·rw[eh];exact hD _ _ _ e
      obtain⟨_,r2⟩:=x4h (bs R) l D hD.wide (q.syms.map (Q0u R)) hi;have hr:=(r2 j hj).1 e;obtain⟨d1,d2,B,b1,b2⟩:=y8x hT hD (hT.sy q j0) hi hr;have j1:=hT.hd q j0;refine⟨d1,d2,⟨false,(p:Int)⟩::B,?_,by simpa [Q0d]using b2⟩;rw[eh,show((q.head.toNat:Nat):Int)=q.head by omega,z3k hq,qAt];exact b1
     rw[eh];exact hD _ _ _ e
    rw[qEj hi2]at e;rw[eh];exact hD _ _ _ e
   exact old e
  rw[qEj hh]at e;exact old e
theorem x0p(n:Nat):Q44 ps l (List.replicate H (sqF n)):=by
 intro h i j e;unfold atM at e;exfalso;have h1:((List.replicate H (sqF n)).getD h []).getD i []=List.replicate n false∨((List.replicate H (sqF n)).getD h []).getD i []=[]:=by
  have e0:(List.replicate H (sqF n)).getD h []=sqF n∨(List.replicate H (sqF n)).getD h []=[]:=by
   rw[qD,qDd];split
   ·exact .inl rfl
   exact .inr rfl
  rcases e0 with e0|e0
  ·rw[e0];unfold sqF;rw[qD,qDd];split
   ·exact .inl rfl
   exact .inr rfl
  rw[e0];exact .inr (by simp)
 rcases h1 with h1|h1
 ·rw[h1,qD,qDd]at e;split at e<;>cases e
 rw[h1]at e;simp at e
theorem x1r(hT:Q1b ps R H){D:List Mat}(hD:Q44 ps l D)(hc:CloD R (Q0e R ps) l D):Q9m R ps l D:=by
 intro q hq i j hi hr;obtain⟨p,hp⟩:=List.getElem?_of_mem hq;have hm:=hc p (q.head,q.syms.map (Q0u R)) i (by rw[z2i,hp];rfl) hi;have hj:=x8k hD.wide _ i j hi hr;obtain⟨_,r2⟩:=x4h (bs R) l D hD.wide (q.syms.map (Q0u R)) hi;have hs:=(r2 j (by omega)).2 hr;unfold atM;cases hx:((D.getD q.head.toNat []).getD i []).getD j false with
 |true=>rfl
 |false =>
  have:=(y6n (n:=l.length+1)).2 ⟨j,by omega,hs,hx⟩;rw[hm]at this;cases this
theorem x4l{rb:List Int->Nat->Nat->Bool}{T:Int->Nat->Nat->List Nd}:∀(ys:List Sy),(∀s∈ys,0<=s.num/\s.num<(if s.isH then(H:Int) else R))->∀i j,Q9e (bs R) rb T (ys.map (Q0u R)) i j=rowN (fun ys i j=>rb (ys.map (Q0u R)) i j) T ys i j
 | [],_,_,_=>rfl
 |y::ys,hv,i,j=>by
  have hy:=hv y (by simp);have ih:=x4l (rb:=rb) (T:=T) ys (fun s hs=>hv s (by simp[hs]));rw[qCl,Q9e,rowN,ih];have e1:toC rb (Q0u R y) (ys.map (Q0u R)) i j=toF (fun ys i j=>rb (ys.map (Q0u R)) i j) y ys i j:=rfl;rw[e1];congr 1;cases hb:y.isH
  ·rw[hb]at hy;simp only[qF,qAp]at hy;rw[z32 hb,qAb (by unfold bs;omega),qAb rfl]
  have:=z1p (R:=R) hb;rw[hb,qAb rfl]at hy;rw[qAa (by unfold bs;omega),qAa (by simp),show Q0u R y-bs R=y.num by unfold bs;omega]
theorem y83(hT:Q1b ps R H){rb:List Int->Nat->Nat->Bool}:∀(f:Nat) (h:Int) (i j:Nat),Q5c (bs R) (Q0e R ps) rb f h i j=Q77 ps (fun ys i j=>rb (ys.map (Q0u R)) i j) f h i j
 |0,_,_,_=>rfl
 |f+1,h,i,j=>by
  have ef:Q8v (Q0e R ps) rb h i j=Q7f ps (fun ys i j=>rb (ys.map (Q0u R)) i j) h i j:=by
   unfold Q8v Q7f Q0e;rw[List.findIdx_map];rfl
  have et:Q5c (bs R) (Q0e R ps) rb f=Q77 ps (fun ys i j=>rb (ys.map (Q0u R)) i j) f:=by
   funext h i j;exact y83 hT f h i j
  rw[Q5c,Q77,ef,z2i,et];cases hq:ps[Q7f ps (fun ys i j=>rb (ys.map (Q0u R)) i j) h i j]? with
  |none=>rfl
  |some q =>
   simp only[qCz];rw[x4l q.syms (hT.sy q (qAd hq))]
end
theorem v1v(l:List Bool)(n i:Nat)(acc:List Int)(h:i<n):risL l (n-i) i acc=risL l (n-(i+1)) (i+1) (if l.getD i false=true then acc++[(i:Int)] else acc):=by
 rw[show n-i=(n-(i+1))+1 by omega];rfl
def RisRet(w:World)(l:List Int)(e:Ending)(w':World):Prop:=∃v,e=.returned v/\IntOwn w' w.heap.size v l/\Q0a w w'
theorem y1h(w:World)(g n:Nat)(l:List Bool)(hB:Q1y w g l)(hl:l.length=n)(hn:n<=100) :
  Calls Tryz.prog 37 #[bsl g n] w fun e w'=>RisRet w (risF l) e w':=by
 obtain⟨i1,hi1,hy0,hy1,hy2⟩:=Q6o;have HB:=hid hB;have HL:=hid hl;have hV:risL l n 0 []=risF l:=by unfold risF;rw[hl]
 generalize risF l=V at hV;have HV:=hid hV;clear hB hl hV;go_enter Tryz.func37,Tryz.ntmps37
 go_wp2;go_loopw [3,4] (fun x3 x4 wr=>∃(i:Nat) (acc:List Int),x4=.int .i64 i/\i<=n/\acc.length<=i/\wr.ownsRow w.heap.size 3 1 x3 acc.length (Q5w acc)/\Q0a w wr/\risL l (n-i) i acc=V)
   (fun _ x _=>1001-(intOf x).toNat)
 case atStart=>exact⟨0,[],rfl,by omega,by simp,World.ownsRow_nil _ _ _ _,mRf _ _,HV.out⟩
 obtain⟨i,acc,rfl,hi,hal,hown,hfr,hrec⟩:=hrel;have j1:=hid (Q15 (B:=1001) i (by omega));have HF:=hid hfr;have HO:=hid hown;obtain⟨ao,cp,hv⟩:=z0d hown;subst hv;have j4:w.heap.size<=wr.heap.size:=hfr.size;by_cases hlt:i<n
 ·have k1:(i:Int)<(n:Int):=by omega
  rw[v1v _ _ _ _ hlt]at hrec;have c1:=(HB.fresh hfr).cell (j:=i) (by rw[HL.out];exact hlt);generalize l.getD i false=lb at hrec c1;have j0:=hid hrec;clear hrec hown hfr;cases lb
  ·go_wp2;go_roundw
   case rel=>exact⟨i+1,acc,by go_num,by omega,by omega,HO.out,HF.out,j0.out⟩
   exact j1.out
  go_wp2_with (first
   |(at_builtin;refine z0g _ rfl _ _ 22 rfl w.heap.size 3 i1 _ 1 8 Tryz.underlying22 hi1 hy0 hy1 hy2 rfl (by decide) (.slice ao acc.length cp) acc.length (Q5w acc) rfl (World.ownsRow.alloc HO.out _) ⟨wr.heap.size,0,none⟩ 1 1 [.int .i64 i] rfl rfl (z0l rfl) (by intro u hu;simp at hu;subst hu;rfl) (by unfold maxLen;omega) (by omega) (by simp;omega) ?_;intro v9 w4 hown2 hgrow hblk;have j3:=hid hown2;have j2:=hid (Mod.grown (S:=fun _=>False) (HF.alloc _) hgrow (fun k hk hlt=>by have:=(HO.lt k hk).1;omega));clear hown2 hgrow hblk))
  go_roundw
  case rel=>exact⟨i+1,acc++[(i:Int)],by go_num,by omega,by simp;omega,by have:=j3.out;simpa [Q5w]using this,j2.out,j0.out⟩
  exact j1.out
 have k1:¬(i:Int)<(n:Int):=by omega
 have hz:n-i=0:=by omega
 rw[hz]at hrec;have j0:=hid hrec;clear hrec hown hfr hz;go_wp2;go_ret;refine⟨_,rfl,?_,HF.out⟩;have:=j0.out;unfold risL at this;rw[← this];exact HO.out
section
variable {ps:List Pr}{R H:Nat}{l:List Int}{G:Q95}{n i:Nat}{P:List (List Itm)}{X:List Itm}
def Q78(ps:List Pr)(R:Nat)(X:List Itm):List Bool:=Q94 R (Q0e R ps) X (List.replicate (R+1) false)
theorem y21:(Q78 ps R X).length=R+1:=(y7d R (Q0e R ps) X _ (by simp)).1
theorem x8l(hT:Q1b ps R H)(hR:R<=8)(hn:i<=l.length)(hP:P.length=i)(hI:Q23 ps l i (P++[X])){W:List Bool}(w1:∀t,t<R->(W.getD t false=true↔Vb ps (l.take i) t))(w2:W.getD R false=true↔Ve ps (l.take i))(w3:∀t,R<t->W.getD t false=false):risF (Q78 ps R X)=Q28 W:=by
 obtain⟨z1,z2⟩:=y5h hT hn hP hI;refine x0m (fun t=>?_) (by rw[y21];omega);rw[qAs];unfold Q78;rcases Nat.lt_trichotomy t R with h|h|h
 ·rw[z1 t h,w1 t h]
 ·subst h;rw[z2,w2]
 rw[w3 t h,qD,qN (by have:=y21 (ps:=ps) (R:=R) (X:=X);unfold Q78 at this;omega)];rfl
theorem x0b(hT:Q1b ps R H)(hR:R<=8)(hG:GrowIs ps R l G n)(hP:P.length=i)(hI:Q23 ps l i (P++[X]))(hi:i<l.length)(hin:i<=n)(h0:0<=l[i])(hc:l[i]<R) :
  (Q4g (Q0e R ps) l[i] X=[]->G=⟨10,risF (Q78 ps R X),i,[]⟩)/\(Q4g (Q0e R ps) l[i] X≠[]->i+1<=n):=by
 have hx:=x91 hT (by omega:i<=l.length) hP hI h0 hc;constructor
 ·intro e;have j1:¬Vb ps (l.take i) l[i].toNat:=fun q=>hx.2 q e;have j0:n=i:=by
   rcases qBn i n with z|z
   ·exact absurd (hG.each i hi z) j1
   omega
  subst j0;rcases hG.or with⟨e1,_⟩|⟨W,e1,e2,e3,e4,_⟩
  ·omega
  rw[x8l hT hR (by omega) hP hI e2 e3 e4];exact e1
 intro e;have hv:=hx.1 e;rcases qBn i n with z|z
 ·exact z
 exfalso;obtain rfl:n=i:=by omega
 rcases hG.or with⟨e1,_⟩|⟨W,_,_,_,_,e5,_⟩
 ·omega
 exact e5 hi hv
theorem x32(hT:Q1b ps R H)(hR:R<=8)(hG:GrowIs ps R l G n)(hP:P.length=l.length)(hI:Q23 ps l l.length (P++[X]))(hin:l.length<=n) :
  ((Q78 ps R X).getD R false=false->G=⟨10,risF (Q78 ps R X),l.length,[]⟩)/\((Q78 ps R X).getD R false=true->∃A,G=⟨0,[],0,A⟩/\Q1f ps A [⟨true,0⟩]=some []/\Q0d A=l):=by
 have hn:n=l.length:=by have:=hG.le;omega
 subst hn;obtain⟨_,z2⟩:=y5h hT (qR _) hP hI;rw[qAr]at z2;constructor
 ·intro e;rcases hG.or with⟨_,e2,_⟩|⟨W,e1,e2,e3,e4,_⟩
  ·have:=z2.2 e2;unfold Q78 at e;rw[e]at this;cases this
  rw[x8l hT hR (qR _) hP hI e2 e3 e4];exact e1
 intro e;have j0:=z2.1 e;rcases hG.or with⟨_,_,A,e3,e4,e5⟩|⟨W,_,_,_,_,_,e6⟩
 ·exact⟨A,e3,e4,e5⟩
 exact absurd j0 (e6 rfl)
end
def ZpRet(ps:List Pr)(G:Q95)(w:World)(e:Ending)(w':World):Prop:=∃vn vw,e=.returned (.tuple #[.agg (Q3n vn vw G.place),.int .i64 G.err])/\Q0a w w'/\Q3l w' w.heap.size vn (Q17 ps G.st)/\IntOwn w' w.heap.size vw G.wanted
theorem x05(w:World)(b R H:Nat)(ps:List Pr)(hs:List Hd)(hTb:Tab ps R H hs)(hS:Q3x w b R H (Q0e R ps))(hQ:QOk R H (Q0e R ps))(ka:Option Addr)(kc:Nat)(l:List Int)(hk:Q0z w (.slice ka l.length kc) l)(hl:l.length<=60)(hkk:Q0w R l=true) :
  Calls Tryz.prog 17 #[.pointer (some ⟨b,0,none⟩),.slice ka l.length kc] w fun e w'=>ZpRet ps (Q6a ps hs R H l 0 [⟨true,0⟩] []) w e w':=by
 have hT:=hTb.g.tab;have hR:=hTb.hR;have js:∀p∈ps,p.syms.length<=6:=fun p hp=>(hTb.syms p hp).1;obtain⟨n,hG⟩:=x9l hTb hkk;have jr:=(y6j hTb l 0 [⟨true,0⟩] [] hTb.start.1 hTb.start.2 (by simp) hkk (by omega) (by simp) (by simp)).1;have kd:=fun(rc:List Sy->Nat->Nat->Bool) (h:RcIs ps l R H rc) (A:List St) h1 h2=>x7q hTb hl h (A:=A) h1 h2;generalize Q6a ps hs R H l 0 [⟨true,0⟩] []=G at hG jr ⊢;have jb:=hQ.p20;have HK:=hid hk;obtain⟨ak,ck,ek,hck,hcell⟩:=hk;rw[qI]at ek;obtain⟨rfl,_,rfl⟩:=ek;have kh:=hid hcell;have ke:∀(i:Nat) (hi:i<l.length),0<=l[i]/\l[i]<R:=fun i hi=>by
  unfold Q0w at hkk;rw[qAn]at hkk;have:=hkk l[i] (qG hi);simpa using this
 have j6:=hid ke;have HT:=hid hT;have HM:=hid js;have HG:=hid hG;have k2:=hid kd;have ju:=hid jr;have HS:=hid hS;have HQ:=hid hQ;obtain⟨a0,c0,a1,c1,a2,c2,v3,v4,sv,hN⟩:=hS;have ki:=hid hN.k0;have jq:Q0a w (w.alloc (.cells (Q3n (.slice none 0 0) (.slice none 0 0) 0) 25)):=(mRf _ w).alloc _;have k8:=z0a w (.cells (Q3n (.slice none 0 0) (.slice none 0 0) 0) 25);have CT:=hid (x1k _ b R H (Q0e R ps) (Q9u ps l 0) (HS.fresh jq) hQ (y7x hT js rfl (qBg _) hl (fun k Y hY=>by simp at hY)) (fun p x hx h0=>by
  rw[z2i]at hx;cases hq:ps[p]? with
  |none=>rw[hq]at hx;cases hx
  |some q =>
   rw[hq]at hx;simp at hx;subst hx;exact x2x hq h0))
 have j4:=hid jq;have j1:=hid k8;clear hT hG kd jr hcell ke js hQ hN jq k8 hkk hTb hs;go_enter Tryz.func17,Tryz.ntmps17
 go_upto_region 2 with(first
  |(go_at_call 35;refine(CT.out).mono ?_;rintro e w2⟨cb,gs,cap,X0,rfl,hC,hgr,hdn,hin⟩;have HC:=hid hC;have j9:=hid hgr;have jw:=hid hdn;have jy:=hid hin;clear hC hgr hdn hin))
 generalize(w.alloc (.cells (Q3n (.slice none 0 0) (.slice none 0 0) 0) 25))=w1 at j4 j1 HC;have k1:=hid (x0n HT.out j9.out jw.out jy.out);have jf:=hid (fun(N:Nat) (P:List (List Itm)) (h1:P.length=N) (h2:N<=l.length) (h3:∀(k:Nat) (Y:List Itm),P[k]? = some Y->∀m:Itm,m∈Y↔Q9u ps l k m)=>y7x HT.out HM.out h1 h2 hl h3);have k3:Hid (∀Y∈[]++[X0],Q8g (Q0e R ps) Y):=hid (fun Y hY=>by
  simp at hY;subst hY;exact⟨j9.len (jf.out 0 [] rfl (qBg _) (fun k Y hY=>by simp at hY)).b jb,fun m hm=>by
   have:=(jf.out 0 [] rfl (qBg _) (fun k Y hY=>by simp at hY)).b m (j9.q m hm);exact⟨this.1,this.2.1⟩⟩)
 clear CT jw jy;go_wp2;go_loopw [7,8,9] (fun x7 _ _ wr=>∃(i gs cap:Nat) (P:List (List Itm)) (X:List Itm),x7=.int .i64 i/\i<=l.length/\i<=n/\P.length=i/\ChG w1 wr cb gs cap b (P++[X])/\Q23 ps l i (P++[X])/\X.Nodup/\∀Y∈P++[X],Q8g (Q0e R ps) Y)
   (fun x _ _ _=>1001-(intOf x).toNat)
 case atStart=>exact⟨0,gs,cap,[],X0,rfl,by omega,by omega,rfl,HC.out,k1.out,j9.nd,k3.out⟩
 obtain⟨i,gs2,cap2,P,X,rfl,hi,hin,hP,hC,hI,hnd,hXb⟩:=hrel;have kj:=hid (Q15 (B:=1001) i (by omega));have kg:=hid hC;have HI:=hid hI;have kk:=hid hnd;have k4:=hid hXb;have HP:=hid hP;have jj:Q0a w1 wr:=by
  obtain⟨vs,z⟩:=hC;exact z.fr
 have jm:=hid jj;have jg:=hid (j4.trans jj);have kq:=hid (jj.at j1.out (fun x=>x));have WN:=hid (y7n w1 · cb gs2 cap2 b R H (Q0e R ps) P X (HS.fresh j4.out) HQ.out · (by rw[hP];omega) (hXb X (by simp)));have jp:=hid (y21 (ps:=ps) (R:=R) (X:=X));clear hI hnd hXb HC k1 j9 k3 jj;by_cases hlt:i<l.length
 ·have s1:(i:Int)<(l.length:Int):=by omega
  obtain⟨gk,ok,rfl,y1⟩:=kh.out i hlt;have y2:=Q0i jg.out y1;obtain⟨st1,st2⟩:=x0b HT.out hR HG.out HP.out HI.out hlt hin (j6.out i hlt).1 (j6.out i hlt).2;have TK:=hid (x1s w1 wr cb gs2 cap2 b R H (Q0e R ps) P X l[i] (Q9u ps l (i+1)) (HS.fresh j4.out) HQ.out hC kk.out (by rw[hP];omega) k4.out (jf.out (i+1) (P++[X]) (by rw[qP,HP.out];rfl) (by omega) (fun k Y hY m=>HI.iff k Y hY m)) (fun m hm hsc=>by
   have kb:=(HI.iff i X (by rw[← HP.out,qAg (qR _)];simp) m).1 hm;have kf:=(z4b HT.out (j6.out i hlt).1 (j6.out i hlt).2).1 hsc;obtain⟨_,q,hq,_⟩:=y13 kb;rw[z3o hq]at kf;exact x2z kb hq kf (qE hlt)))
  have SN:=hid (fun(X':List Itm) (hg:Q4s (Q9u ps l (i+1)) (Q4g (Q0e R ps) l[i] X) X') (hd:∀m∈X',Q57 R (Q0e R ps) (P++[X]) X' m)=>(⟨x4q HT.out hlt HP.out HI.out (j6.out i hlt).1 (j6.out i hlt).2 hg hd,hg.nd,(fun Y hY=>by
   rw[qU]at hY;rcases hY with hY|hY
   ·exact k4.out Y hY
   rw[qM]at hY;subst hY;have hb:=(jf.out (i+1) (P++[X]) (by rw[qP,HP.out];rfl) (by omega) (fun k Y hY m=>HI.iff k Y hY m)).b;exact⟨hg.len hb jb,fun m hm=>⟨(hb m (hg.q m hm)).1,(hb m (hg.q m hm)).2.1⟩⟩)⟩:Q23 ps l (i+1) ((P++[X])++[X'])/\X'.Nodup/\∀Y∈(P++[X])++[X'],Q8g (Q0e R ps) Y))
  unfold TkRet at TK;have jh:=hid st1;have ji:=hid st2;generalize l[i]=c at y1 y2 TK SN jh ji;clear y1 st1 st2 hC hP;by_cases hnx:Q4g (Q0e R ps) c X=[]
  ·have k9:=jh.out hnx;have jn:=hid hnx;have j0:=hid k9;have RI:=hid (fun(W:World) (g:Nat) (hB:Q1y W g (Q78 ps R X))=>y1h W g (R+1) (Q78 ps R X) hB jp.out (by omega));generalize hris:risF (Q78 ps R X)=RS at j0 RI;clear hnx k9 SN jh ji hris;go_wp2_with (first
    |(go_at_call 36;refine(TK.out).mono ?_;rintro e w3 hz;obtain⟨_,rfl,hC3⟩:=hz.elim id (fun z=>absurd jn.out z.1);have je:=hid hC3;clear hz hC3)
    |(go_at_call 38;refine(WN.out _ je.out).mono ?_;rintro e w4⟨g4,rfl,hB4,hf4⟩;have jk:=hid hB4;have jv:=hid (je.fresh hf4);clear hB4 hf4)
    |(go_at_call 37;refine(RI.out _ g4 jk.out).mono ?_;rintro e w5⟨v5,rfl,ho5,hf5⟩;obtain⟨wa,wc,hv5⟩:=z0d ho5;subst hv5;have ja:=hid ho5;have j2:Hid (Q0a w1 w5):=hid (by obtain⟨vs,z⟩:=jv.out;exact z.fr.trans hf5);have j3:=hid (j2.at j1.out (fun x=>x));have j5:w.heap.size<w4.heap.size:=(by obtain⟨vs,z⟩:=jv.out;exact z0j (z.fr.at j1.out (fun x=>x)));clear ho5 hf5)
    |(refine wpList_store_row rfl 25 _ _ rfl w.heap.size (Q3n (.slice none 0 0) (.slice wa RS.length wc) i) rfl rfl _ _ j3.out Q2i rfl (z1z _ _ _ rfl rfl) ?_))
   refine bodyPost_ret (z0m rfl _ _ w.heap.size 25 (Q3n (.slice none 0 0) (.slice wa RS.length wc) i) (0,0) _ rfl (setRow_heap _ _ _ _ _ _ j3.out) Tryz.underlying25 rfl Q2i) rfl ?_;refine⟨.slice none 0 0,.slice wa RS.length wc,by rw[j0.out];rfl,(j4.trans j2.out).setRow (fun h=>absurd h (qBk _)) _,?_,?_⟩
   ·rw[j0.out];exact World.ownsRow_nil _ _ _ _
   rw[j0.out];refine z0f (z0c ja.out (fun g hg=>?_)) (qEa j5);have:=(ja.lt g hg).1;exact setRow_other _ _ _ _ (by omega)
  have ko:=ji.out hnx;have jn:=hid hnx;clear hnx jh ji WN;go_wp2_with (first
   |(go_at_call 36;refine(TK.out).mono ?_;rintro e w3 hz;obtain⟨_,rfl,gs3,cap3,X',hC3,hg3,hd3⟩:=hz.elim (fun z=>absurd z.1 jn.out) id;have je:=hid hC3;have jo:=hid (SN.out X' hg3 hd3);clear hz hC3 hg3 hd3))
  go_roundw
  case rel=>exact⟨i+1,gs3,cap3,P++[X],X',by go_num,by omega,ko,by rw[qP,HP.out];rfl,je.out,jo.1,jo.2.1,jo.2.2⟩
  exact kj.out
 have s1:¬(i:Int)<(l.length:Int):=by omega
 obtain rfl:i=l.length:=by omega
 obtain⟨en1,en2⟩:=x32 HT.out hR HG.out HP.out HI.out hin;have k6:=hid (WN.out wr kg.out);have RI:=hid (fun(W:World) (g:Nat) (hB:Q1y W g (Q78 ps R X))=>y1h W g (R+1) (Q78 ps R X) hB jp.out (by omega));have jc:=hid en1;have jd:=hid en2;have j7:Hid (Calls Tryz.prog 38 #[.pointer (some ⟨cb,0,none⟩)] wr fun e w'=>WnRet wr R (Q78 ps R X) e w'):=hid k6.out;unfold WnRet at j7;have CR:Hid (∀(W:World) (g:Nat),Q1y W g (Q78 ps R X)->W.cell? ⟨g,R,none⟩=some (.bool ((Q78 ps R X).getD R false))):=hid (fun W g hB=>hB.cell (j:=R) (by rw[jp.out];omega));have HZ:Hid (∀W,Q0a wr W->W.cell? ⟨b,0,none⟩=some (.slice a0 R c0)):=hid (fun W hW=>Q0i (jg.trans hW) ki.out);have SP:=hid (fun(W:World) (hW:Q0a wr W)=>x4u W b R H (Q0e R ps) ka kc l (Q44 ps l) (HS.fresh (jg.trans hW)) HQ.out (HK.fresh (jg.trans hW)) hl (x0p (l.length+1)) (fun D p x i h1 _ h3 h4=>x4t HT.out h1 h3 h4));have TR:Hid (∀(A:List St),(Q17 ps A).length<=1000000000000->Q1f ps A [⟨true,0⟩]=some []->Q0d A=l->∀(W:World) (sb:Nat) (da:Option Addr) (dc:Nat) (D:List Mat),SpR W sb b R H (Q0e R ps) ka kc l da dc D->Q44 ps l D->CloD R (Q0e R ps) l D->Calls Tryz.prog 40 #[.pointer (some ⟨sb,0,none⟩),.int .i64 0,.int .i64 0,.int .i64 l.length,.int .i64 2000] W fun e w'=>NdRet W (Q17 ps A) e w'):=hid (fun A hA h1 h2 W sb da dc D hSp hSo hCl=>by
  have e:Q5c (bs R) (Q0e R ps) (rcB R l D) 2000 0 0 l.length=Q17 ps A:=by
   rw[y83 HT.out];exact k2.out _ (v2d HT.out hSo (x1r HT.out hSo hCl)) A h1 h2
  have:=y84 sb b R H (Q0e R ps) ka kc l da dc D HQ.out hl 2000 (qR _) W 0 0 l.length hSp (qBg _) (qR _) (by rw[e];exact hA);rw[e]at this;exact this)
 have kp:(R:Int)<((R+1:Nat):Int):=by omega
 generalize R+1=r1 at j7 RI kp;generalize(Q78 ps R X).getD R false=bR at jc jd CR;clear en1 en2 hC WN k6 k2;cases bR
 ·have j0:=hid (jc.out rfl);generalize hris:risF (Q78 ps R X)=RS at j0 RI;generalize Q78 ps R X=WR at j7 RI CR;clear jc jd SP TR hris;go_wp2_with (first
   |(go_at_call 38;refine(j7.out).mono ?_;rintro e w4⟨g4,rfl,hB4,hf4⟩;have jk:=hid hB4;have c4:=CR.out w4 g4 hB4;have z4:=HZ.out w4 hf4;have j8:=hid (jm.trans hf4);clear hB4 hf4)
   |(go_at_call 37;refine(RI.out _ g4 jk.out).mono ?_;rintro e w5⟨v5,rfl,ho5,hf5⟩;obtain⟨wa,wc,hv5⟩:=z0d ho5;subst hv5;have ja:=hid ho5;have j2:=hid (j8.trans hf5);have j3:=hid (j2.at j1.out (fun x=>x));have j5:w.heap.size<w4.heap.size:=z0j (j8.at j1.out (fun x=>x));clear ho5 hf5)
   |(refine wpList_store_row rfl 25 _ _ rfl w.heap.size (Q3n (.slice none 0 0) (.slice wa RS.length wc) l.length) rfl rfl _ _ j3.out Q2i rfl (z1z _ _ _ rfl rfl) ?_))
  refine bodyPost_ret (z0m rfl _ _ w.heap.size 25 (Q3n (.slice none 0 0) (.slice wa RS.length wc) l.length) (0,0) _ rfl (setRow_heap _ _ _ _ _ _ j3.out) Tryz.underlying25 rfl Q2i) rfl ?_;refine⟨.slice none 0 0,.slice wa RS.length wc,by rw[j0.out];rfl,(j4.trans j2.out).setRow (fun h=>absurd h (qBk _)) _,?_,?_⟩
  ·rw[j0.out];exact World.ownsRow_nil _ _ _ _
  rw[j0.out];refine z0f (z0c ja.out (fun g hg=>?_)) (qEa j5);have:=(ja.lt g hg).1;exact setRow_other _ _ _ _ (by omega)
 obtain⟨A,hGA,hA1,hA2⟩:=jd.out rfl;have j0:=hid hGA;have k7:(Q17 ps A).length<=1000000000000:=by
  rw[z62];have:=ju.out;rw[hGA]at this;dsimp only at this;omega
 have k5:=hid (TR.out A k7 hA1 hA2);generalize hNF:Q17 ps A=NF at k5;have kl:=hid hNF;generalize Q78 ps R X=WR at j7 CR;unfold SpnRet at SP;clear jc jd TR hGA hA1 hA2 k7 hNF RI ju;go_wp2_with (first
  |(go_at_call 38;refine(j7.out).mono ?_;rintro e w4⟨g4,rfl,hB4,hf4⟩;have c4:=CR.out w4 g4 hB4;have z4:=HZ.out w4 hf4;have j8:=hid hf4;clear hB4 hf4)
  |(go_at_call 39;refine(SP.out _ j8.out).mono ?_;rintro e w5⟨sb,da,dc,D,rfl,hSp,hf5,hSo,hCl⟩;have kn:=hid hSp;have jx:=hid (j8.trans hf5);have km:=hid hSo;have jl:=hid hCl;clear hSp hf5 hSo hCl)
  |(go_at_call 40;refine(k5.out _ sb da dc D kn.out km.out jl.out).mono ?_;rintro e w6⟨v6,rfl,ho6,hf6⟩;obtain⟨na,nc,hv6⟩:=z0d ho6;subst hv6;have jz:=hid ho6;have j2:=hid (jm.trans (jx.trans hf6));have j3:=hid (j2.at j1.out (fun x=>x));have jt:w.heap.size<w5.heap.size:=z0j ((jm.trans jx.out).at j1.out (fun x=>x));clear ho6 hf6)
  |(refine wpList_store_row rfl 25 _ _ rfl w.heap.size (Q3n (.slice na NF.length nc) (.slice none 0 0) 0) rfl rfl _ _ j3.out Q2i rfl (z1z _ _ _ rfl rfl) ?_))
 refine bodyPost_ret (z0m rfl _ _ w.heap.size 25 (Q3n (.slice na NF.length nc) (.slice none 0 0) 0) (0,0) _ rfl (setRow_heap _ _ _ _ _ _ j3.out) Tryz.underlying25 rfl Q2i) rfl ?_;refine⟨.slice na NF.length nc,.slice none 0 0,by rw[j0.out];rfl,(j4.trans j2.out).setRow (fun h=>absurd h (qBk _)) _,?_,?_⟩
 ·rw[j0.out];show Q3l _ _ _ (Q17 ps A);rw[kl.out];refine z0f (z0c jz.out (fun g hg=>?_)) (qEa jt);have:=(jz.lt g hg).1;exact setRow_other _ _ _ _ (by omega)
 rw[j0.out];exact World.ownsRow_nil _ _ _ _
theorem v18(base:Int)(null:List Bool)(L:Mat)(R:Nat)(l:List Int)(n i:Nat)(out:List Bool)(h:i<n):fiI base null L R l (n-i) i out=fiI base null L R l (n-(i+1)) (i+1) (if Q34 base null (l.take i)=true then fiT L (l.getD i 0) R 0 out else out):=by
 rw[show n-i=(n-(i+1))+1 by omega];rfl
theorem v19(L:Mat)(c:Int)(n t:Nat)(out:List Bool)(h:t<n):fiT L c (n-t) t out=fiT L c (n-(t+1)) (t+1) (out.set t ((out.getD t false||c==(t:Int))||atM L c.toNat t)):=by
 rw[show n-t=(n-(t+1))+1 by omega];rfl
theorem x18(L:Mat)(c:Int):∀(f t:Nat) (out:List Bool),(fiT L c f t out).length=out.length
 |0,_,_=>rfl
 |f+1,t,out=>by unfold fiT;rw[x18 L c f];simp
def Q9k(w:World)(n:Nat)(l:List Bool)(e:Ending)(w':World):Prop:=∃g,e=.returned (bsl g n)/\w.heap.size<=g/\Q1y w' g l/\Q0a w w'
theorem y3v(w:World)(B ab b R H:Nat)(q:List Q1)(gn:Nat)(vL:Value)(gs:List Nat)(v:Value)(l:List Int)(hA:Q7y w B ab b R H q gn vL gs)(hS:Q3x w b R H q)(hQ:QOk R H q)(hnl:(Q4j (bs R) false q H).length=H) (hsq:Sq (R+1+H) (ldF R H (Q4j (bs R) false q H) q))
  (hv:Q0z w v l) (hl:l.length<=6) (hc:∀c∈l,0<=c/\c<(R:Int)+1+H) :
  Calls Tryz.prog 67 #[.pointer (some ⟨ab,0,none⟩),v] w fun e w'=>Q9k w (R+1) (fiF R H (Q4j (bs R) false q H) q l) e w':=by
 obtain⟨a0,c0,a1,c1,a2,c2,v3,v4,sv,hN⟩:=hS;have r8:=hQ.r8;have h8:=hQ.h8;obtain⟨ao,cap,rfl,hcap,hcell⟩:=hv;obtain⟨al,cl,hvL⟩:=z0d hA.m.own;subst hvL;have p0:=Q0b hA.o 0;have p1:=Q0b hA.o 1;have p2:=Q0b hA.o 2;simp at p0 p1 p2;have k0:=hN.k0;unfold fiF firF;generalize hnu:Q4j (bs R) false q H=null at hA hnl hsq ⊢;generalize hLd:ldF R H null q=L at hA hsq ⊢;have jl:Hid (Q1y w gn null):=hid (by have:=hA.n;rw[hnu]at this;exact this);have j8:Hid (Q1t w B (R+1+H) (.slice al gs.length cl) gs L):=hid (by have:=hA.m;rw[hnu,hLd]at this;exact this);have jg:gs.length=R+1+H:=by rw[j8.len,hsq.len]
 have jk:=hid hN;have jr:=hid hnl;have jn:=hid hsq;have HC:=hid hcell;have jh:=hid hc;have jc:bs R=((R+1:Nat):Int):=by unfold bs;omega
 have BA:=hid (fun(W:World) (hW:Q0a w W)=>z1i W b R a0 c0 (Q0i hW k0) (by omega));rw[jc]at BA;have NO:=hid (fun(W:World) (i:Nat) (hW:Q0a w W) (hi:i<=l.length)=>z4o W b R H gn a0 c0 (.slice ao i cap) (l.take i) null (Q0i hW k0) (by omega) (by omega) ((Q0z.take ⟨ao,cap,rfl,hcap,hcell⟩ rfl hi).fresh hW) (by rw[qBo];omega) (jl.fresh hW) hnl (fun c hcc=>hc c (qEd hcc)));have mk:=fun w=>run_make_row' (P:=Tryz.prog) 90 4 (.bool false) 1 Tryz.underlying90 (by kernel_rfl) rfl .i64 .i64 (R+1) (by omega) (by omega) w;generalize hV:fiI (bs R) null L R l l.length 0 (List.replicate (R+1) false)=V;generalize hbs:bs R=base at hV NO;have HV:=hid hV;have jo:R+1<=9:=by omega
 have j9:=hid (show R<R+1 by omega);generalize hq1:R+1=R1 at HV BA mk jo j9 ⊢;have js:=hid hq1;have ji:=hid jg;have jq:gs.length<=20:=by omega
 clear hV hN hQ hnl hsq hcell hc hA hbs jc hq1 jg hnu hLd k0;go_enter Tryz.func67,Tryz.ntmps67
 go_wp2_with (first
  |(go_at_call 34;refine csm (BA.out _ (mRf _ _)) ?_))
 go_loopw [6,7,8] (fun x6 _ _ wr=>∃(i:Nat) (o:List Bool),x6=.int .i64 i/\i<=l.length/\Q1y wr w.heap.size o/\o.length=R1/\Q0a w wr/\fiI base null L R l (l.length-i) i o=V)
   (fun x _ _ _=>1001-(intOf x).toNat)
 case atStart =>
  refine⟨0,List.replicate R1 false,rfl,by omega,?_,by simp,(mRf _ w).alloc _,HV.out⟩;rw[z03];exact z0a _ _
 obtain⟨i,o,rfl,hi,hB,hol,hfr,hrec⟩:=hrel;have j7:=hid (Q15 (B:=1001) i (by omega));have HB:=hid hB;have jm:=hid hol;have HF:=hid hfr;have u0:=Q0i hfr p0;have u1:=Q0i hfr p1;clear hB hol mk;by_cases hlt:i<l.length
 ·have k1:(i:Int)<(l.length:Int):=by omega
  have k2:(i:Int)<=(l.length:Int):=by omega
  rw[v18 _ _ _ _ _ _ _ _ hlt]at hrec;obtain⟨gl,ol,rfl,y5⟩:=HC.out i hlt;have k3:(i:Int)<=(cap:Int):=by omega
  have jd:=jh.out l[i] (qG hlt);obtain⟨cn,hcn⟩:∃a:Nat,l[i]=a:=⟨l[i].toNat,by omega⟩;have jf:l.getD i 0=(cn:Int):=by rw[qD,qE hlt,qDa,hcn]
  rw[hcn]at y5 jd;rw[jf]at hrec;have jp:cn<gs.length:=by rw[ji.out];omega
  have NQ:=hid (fun n=>NO.out (wr.drewN n) i (hfr.trans (Q0r wr n)) (by omega));generalize Q34 base null (l.take i)=nb at hrec NQ;generalize hF2:(if nb=true then fiT L (cn:Int) R 0 o else o)=F2 at hrec;have jb:=hid hF2;have j2:=hid hrec;clear hrec hF2 hfr jf hcn jd;go_wp2;go_quiet (first|(go_at_call 68;refine Calls.quiet_of (NQ.out _)));have j6:=hid (HF.trans (Q0r wr nq));have j5:=hid (HB.fresh (Q0r wr nq));generalize wr.drewN nq=W2 at j6 j5 ⊢;clear u0 u1 HB HF NQ;go_wp2;go_loopw [8] (fun x8 wi=>∃(t:Nat) (o:List Bool),x8=.int .i64 t/\t<=R/\Q1y wi w.heap.size o/\o.length=R1/\Q0a w wi/\(if nb=true then fiT L (cn:Int) (R-t) t o else o)=F2)
    (fun x _=>1001-(intOf x).toNat)
  case atStart=>exact⟨0,o,rfl,by omega,j5.out,jm.out,j6.out,jb.out⟩
  obtain⟨t,o2,rfl,ht,hB,hol,hfr,hrec⟩:=hrel;have jj:=hid (Q15 (B:=1001) t (by omega));have j3:=hid hB;have j1:=hid hol;have j4:=hid hfr;have u0:=Q0i hfr p0;have u2:=Q0i hfr p2;have uk:=(jk.fresh hfr).k0;clear j6 j5 jb hol;by_cases hgo:t<R/\nb=true
  ·obtain⟨htR,hnb⟩:=hgo;subst hnb;have s1:(t:Int)<(R:Int):=by omega
   have s2:(t:Int)<(R1:Int):=by have:=j9.out;omega
   rw[qAb rfl,v19 _ _ _ _ _ htR,qAl]at hrec;obtain⟨gv,cv,hv⟩:=Joins.ownsRow_form j8.own (by omega);rw[qI]at hv;obtain⟨rfl,_,rfl⟩:=hv;obtain⟨gc,hgc⟩:∃g,gs[cn]? = some g:=⟨_,qE jp⟩;have ja:=j8.fresh hfr;have r1:=ja.row hgc;have d1:=ja.cell jn.out hgc (j:=t) (by omega);have b1:=hB.cell (j:=t) (by rw[j1.out];have:=j9.out;omega);have b2:=hB.frozen t;have z5:=Q0i hfr y5;have s3:(cn:Int)<(gs.length:Int):=by omega
   have s4:(t:Int)<((R+1+H:Nat):Int):=by omega
   generalize o2.getD t false=xa at hrec b1;generalize atM L cn t=xl at hrec d1;generalize hce:((cn:Int)==(t:Int))=xe at hrec;have j0:=hid hrec;have HP:Hid (∀c:Bool,Q1y (wr.setCell ⟨w.heap.size,t,none⟩ (.bool c)).drew w.heap.size (o2.set t c)/\Q0a w (wr.setCell ⟨w.heap.size,t,none⟩ (.bool c)).drew):=hid (fun c=>⟨j3.put t c,(j4.setCell (fun h=>absurd h (by simp)) _).drew⟩);clear hrec ja hgc hfr hB;generalize R+1+H=nn at r1 s4;cases xa<;>cases xe<;>cases xl;all_goals
    go_wp2_with fail
    go_region;all_goals
     go_wp2;go_roundw
     case rel=>exact⟨t+1,_,by go_num,by omega,(HP.out _).1,by simp[j1.out],(HP.out _).2,by first|exact j0.out|(rw[qAb rfl];exact j0.out)|simpa using j0.out⟩
     exact jj.out
  have je:(if nb=true then fiT L (cn:Int) (R-t) t o2 else o2)=o2:=by
   cases nb
   ·rfl
   have:R-t=0:=by
    rcases qBn t R with q|q
    ·exact absurd ⟨q,rfl⟩ hgo
    omega
   rw[qAb rfl,this];rfl
  rw[je]at hrec;have j0:=hid hrec;clear hrec je hfr hB;cases nb
  ·by_cases htR:t<R
   ·have s1:(t:Int)<(R:Int):=by omega
    go_wp2;go_roundw
    case rel=>exact⟨i+1,o2,by go_num,by omega,j3.out,j1.out,j4.out,by rw[j0.out];exact j2.out⟩
    exact j7.out
   have s1:¬(t:Int)<(R:Int):=by omega
   go_wp2;go_roundw
   case rel=>exact⟨i+1,o2,by go_num,by omega,j3.out,j1.out,j4.out,by rw[j0.out];exact j2.out⟩
   exact j7.out
  have s1:¬(t:Int)<(R:Int):=by
   intro h;exact hgo ⟨by omega,rfl⟩
  go_wp2;go_roundw
  case rel=>exact⟨i+1,o2,by go_num,by omega,j3.out,j1.out,j4.out,by rw[j0.out];exact j2.out⟩
  exact j7.out
 have k1:¬(i:Int)<(l.length:Int):=by omega
 have hz:l.length-i=0:=by omega
 rw[hz]at hrec;have j2:=hid hrec;clear hrec hfr hz;go_wp2;go_ret;refine⟨_,rfl,qR _,?_,HF.out⟩;have:=j2.out;unfold fiI at this;rw[← this];exact HB.out
def rchF(R H:Nat)(q:List Q1):List Bool:=((reF R H q).getD 0 []).set 0 true
end Go.Proofs.YtcpceafmlgaodaaGreat
