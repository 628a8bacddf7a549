import Derived.Test.YtbdpfmalabgmbaaGreatEbd
namespace Go.Proofs.YtbdpfmalabgmbaaGreat
open Go.RowKit
set_option maxRecDepth 99999
set_option maxHeartbeats 0
set_option linter.all false
structure Q8c(w:World)(B ab b R H:Nat)(q:List Q1)(gn:Nat)(vL:Value)(gs:List Nat):Prop where
 o:w.heap[ab]? = some (.cells #[.pointer (some ⟨b,0,none⟩),bsl gn H,vL] 169 (0,0))
 abB:B<=ab
 gnB:B<=gn
 n:Q1x w gn (Q4q (bs R) false q H)
 m:Q1v w B (R+1+H) vL gs (ldF R H (Q4q (bs R) false q H) q)
theorem Q1v.base{w:World}{B B' n:Nat}{v:Value}{gs:List Nat}{M:Mat}(h:Q1v w B n v gs M)(hb:B'<=B):Q1v w B' n v gs M :=
 ⟨z0g h.own hb,h.len,fun i g hi=>⟨qDa hb (h.blk i g hi).1,(h.blk i g hi).2⟩,h.inj,h.ne⟩
theorem Q8c.fresh{w w':World}{B ab b R H:Nat}{q:List Q1}{gn:Nat}{vL:Value}{gs:List Nat}(h:Q8c w B ab b R H q gn vL gs)(hf:Q0a w w'):Q8c w' B ab b R H q gn vL gs :=
 ⟨hf.at h.o id,h.abB,h.gnB,h.n.fresh hf,h.m.fresh hf⟩
def AllRet(w:World)(b R H:Nat)(q:List Q1)(e:Ending)(w':World):Prop:=∃ab gn vL gs,e=.returned (.pointer (some ⟨ab,0,none⟩))/\Q8c w' w.heap.size ab b R H q gn vL gs/\Q0a w w'
theorem x9t(w:World)(b R H:Nat)(q:List Q1)(hS:Q3q w b R H q)(hQ:QOk R H q)(hl:(Q4q (bs R) false q H).length=H) :
  Calls Tryz.prog 45 #[.pointer (some ⟨b,0,none⟩)] w fun e w'=>AllRet w b R H q e w':=by
 have DE:=hid (y6u w b R H q false hS hQ);have LE:=hid (fun(W:World) (hW:Q0a w W) (gn:Nat) (hn:Q1x W gn (Q4q (bs R) false q H))=>x3p W b R H gn q _ (hS.fresh hW) hQ hn hl);clear hS hQ hl;go_enter Tryz.func45,Tryz.ntmps45
 go_wp2_with (first
  |(go_at_call 75;refine(DE.out).mono ?_;rintro e w1⟨gn,hg,rfl,hB,hf⟩;have HB:=hid hB;have HF:=hid hf;have HG:=hid hg;clear hB hf hg)
  |(go_at_call 76;refine(LE.out _ HF.out gn HB.out).mono ?_;rintro e w2⟨vL,gs,rfl,hm,j1⟩;obtain⟨ao,cp,hv⟩:=z0c hm.own;subst hv;have HM:=hid hm;have j0:=hid j1;clear hm j1))
 go_ret;refine⟨_,gn,_,gs,rfl,⟨z0a _ _,?_,HG.out,?_,?_⟩,(HF.trans j0.out).alloc _⟩
 ·have h1:=HF.size;have h2:=j0.size;omega
 ·exact(HB.fresh j0.out).fresh ((mRf _ _).alloc _)
 exact((HM.base HF.size).fresh ((mRf _ _).alloc _))
def risL(l:List Bool):Nat->Nat->List Int->List Int
 |0,_,acc=>acc
 |f+1,i,acc=>risL l f (i+1) (if l.getD i false=true then acc++[(i:Int)] else acc)
def risF(l:List Bool):List Int:=risL l l.length 0 []
theorem y1y(l a:List Bool)(h:∀t,l.getD t false=a.getD t false):∀(f i:Nat),risL l f i (Q3s a i)=Q3s a (i+f)
 |0,i=>rfl
 |f+1,i=>by
  unfold risL;rw[h i];have e:(if a.getD i false=true then Q3s a i++[(i:Int)] else Q3s a i)=Q3s a (i+1):=by
   rw[Q3s]
  rw[e,y1y l a h f (i+1),show i+1+f=i+(f+1) by omega]
theorem y1j(a:List Bool)(n:Nat)(h:∀t,n<=t->a.getD t false=false):∀k,Q3s a (n+k)=Q3s a n
 |0=>rfl
 |k+1=>by
  rw[show n+(k+1)=(n+k)+1 by omega,Q3s,h (n+k) (by omega)];simp only[qF,qAz];exact y1j a n h k
theorem x06{l a:List Bool}(h:∀t,l.getD t false=a.getD t false)(hn:l.length<=9):risF l=Q3e a:=by
 unfold risF Q3e;have e:=y1y l a h l.length 0;rw[qBy]at e;rw[show([]:List Int)=Q3s a 0 from rfl,e];have m:=y1j a l.length (fun t ht=>by rw[← h t,qD,qN ht];rfl) (9-l.length);rw[show l.length+(9-l.length)=9 by omega]at m;exact m.symm
section
variable {ps:List Pr}{R H:Nat}{l:List Int}
theorem z2p(R:Nat)(ps:List Pr)(p:Nat):(Q0e R ps)[p]? = (ps[p]?).map fun q=>(q.head,q.syms.map (Q0w R)):=by unfold Q0e;rw[qBt]
theorem y0g(R:Nat)(ps:List Pr)(m:Itm):Q4w (Q0e R ps) m=((Q83 ps m).map (Q0w R)).getD (-1):=by
 unfold Q4w Q83;rw[z2p];cases ps[m.p]? with
 |none=>rfl
 |some q=>simp
theorem y7q(hT:Q1d ps R H){m:Itm}{s:Sy}(h:Q83 ps m=some s):0<=s.num/\s.num<(if s.isH then(H:Int) else R):=by
 unfold Q83 at h;cases hq:ps[m.p]? with
 |none=>rw[hq]at h;cases h
 |some q =>
  rw[hq]at h;exact hT.sy q (qAi hq) s (qAi h)
theorem z8l(hT:Q1d ps R H){m:Itm}:Q4w (Q0e R ps) m<0↔Q83 ps m=none:=by
 rw[y0g];cases h:Q83 ps m with
 |none=>simp
 |some s =>
  have:=y7q hT h;simp only[qDw,qDy,reduceCtorEq,iff_false];unfold Q0w;split<;>omega
theorem z6t(hT:Q1d ps R H){m:Itm}{X:Int}(h0:0<=X):Q4w (Q0e R ps) m=bs R+X↔Q83 ps m=some ⟨true,X⟩:=by
 rw[y0g];cases h:Q83 ps m with
 |none=>simp[bs]<;>omega
 |some s =>
  obtain⟨a,b⟩:=s;have:=y7q hT h;simp only[qDw,qDy,qO,Sy.mk.injEq];unfold Q0w bs;cases a
  ·simp only[qF,qAz]at this ⊢;simp<;>omega
  simp only[qBn]at this ⊢;simp<;>omega
theorem z4e(hT:Q1d ps R H){m:Itm}{t:Int}(h0:0<=t)(ht:t<R):Q4w (Q0e R ps) m=t↔Q83 ps m=some ⟨false,t⟩:=by
 rw[y0g];cases h:Q83 ps m with
 |none=>simp<;>omega
 |some s =>
  obtain⟨a,b⟩:=s;have:=y7q hT h;simp only[qDw,qDy,qO,Sy.mk.injEq];unfold Q0w;cases a
  ·simp
  simp only[qBn]at this ⊢;simp<;>omega
theorem y8i(hT:Q1d ps R H)(hm:∀p∈ps,p.syms.length<=6){P:List (List Itm)}{N:Nat}(hN:P.length=N)(hNl:N<=l.length)(hl:l.length<=60)(hx:∀(k:Nat) (Y:List Itm),P[k]? = some Y->∀m:Itm,m∈Y↔Q99 ps l k m):FillQ R (Q0e R ps) P (Q99 ps l N):=by
 have j3:(Q0e R ps).length=ps.length:=by unfold Q0e;simp
 refine⟨fun m hm'=>?_,fun m hm'=>?_,fun m p x h1 h2 h3=>?_,fun m x m' h1 h2 h3 h4 h5=>?_⟩
 ·obtain⟨h1,q,h2,h3⟩:=y2m hm';have:=hm q (qAi h2);have:=(qS h2).1;exact⟨by omega,by omega,by omega⟩
 ·have:=(y2m hm').1;omega
 ·rw[z2p]at h2;cases hq:ps[p]? with
  |none=>rw[hq]at h2;cases h2
  |some q' =>
   rw[hq]at h2;simp at h2;subst h2;have hs:=(z6t hT (hT.hd q' (qAi hq)).1).1 h3;obtain⟨_,q,j1,_⟩:=y2m h1;rw[z3r j1]at hs;rw[hN];exact x3g h1 hNl j1 hs hq rfl
 rw[z2p]at h3;cases hq:ps[m.p]? with
 |none=>rw[hq]at h3;cases h3
 |some q =>
  rw[hq]at h3;simp at h3;subst h3;have hd:=(x83 h1 hq).1 ((z8l hT).1 h2);have hs:=(z6t hT (hT.hd q (qAi hq)).1).1 h5;have j2:It ps l N m.p q.syms.length m.f:=by rw[← hd];exact h1
  have hI:Q99 ps l m.f m':=by
   rcases h4 with h4|⟨e,h4⟩
   ·have hk:m.f<P.length:=by
     rcases qCk m.f P.length with z|z
     ·exact z
     rw[qD,qN z]at h4;cases h4
    rw[qD,qE hk]at h4;exact(hx m.f _ (qE hk) m').1 h4
   rw[e,hN];exact h4
  obtain⟨_,q',j0,_⟩:=y2m hI;rw[z3r j0]at hs;exact x3e j2 hNl hq hI j0 hs
theorem y4a(hT:Q1d ps R H){P:List (List Itm)}{X:List Itm}(h:∀m∈X,Q6i R (Q0e R ps) P X m):Q9x ps (P++[X]) P.length X:=by
 refine⟨fun m X' p' q' hm hs hq hh=>?_,fun m q m' Y hm hq hs hY hm' hs'=>?_⟩
 ·exact(h m hm).pred p' (q'.head,q'.syms.map (Q0w R)) (by rw[z2p,hq];rfl) ((z6t hT (hT.hd q' (qAi hq)).1).2 (by rw[hh];exact hs))
 refine(h m hm).comp ((z8l hT).2 hs) (q.head,q.syms.map (Q0w R)) (by rw[z2p,hq];rfl) m' ?_ ((z6t hT (hT.hd q (qAi hq)).1).2 hs');unfold atS;rw[qD,hY];exact hm'
theorem y7v(R:Nat)(q:List Q1):∀(X:List Itm) (o:List Bool),o.length=R+1->(W0k R q X o).length=R+1/\∀t,(W0k R q X o).getD t false=true↔(o.getD t false=true∨∃m∈X,(t<R/\Q4w q m=t)∨(t=R/\Q4w q m<0/\m.f=0/\hdI q m=0))
 | [],o,ho=>⟨ho,fun t=>by simp[W0k]⟩
 |m::X,o,ho=>by
  obtain⟨r1,r2⟩:=y7v R q X (wanS R q o m) (by rw[x8g];exact ho);refine⟨r1,fun t=>?_⟩;rw[W0k,r2 t];have j0:(wanS R q o m).getD t false=true↔(o.getD t false=true∨(t<R/\Q4w q m=t)∨(t=R/\Q4w q m<0/\m.f=0/\hdI q m=0)):=by
   unfold wanS;by_cases h1:Q4w q m<0
   ·rw[qAb h1];by_cases h2:m.f=0/\hdI q m=0
    ·rw[qAb h2,z2a _ _ _ _ _ (by omega)];by_cases h3:t=R
     ·rw[qAb h3];simp[h3,h1,h2.1,h2.2]
     rw[qAa h3];simp[h3];omega
    rw[qAa h2];constructor
    ·exact .inl
    rintro(h|⟨h3,h4⟩|⟨h3,h4,h5,h6⟩)
    ·exact h
    ·omega
    exact absurd ⟨h5,h6⟩ h2
   rw[qAa h1];by_cases h2:Q4w q m<R
   ·rw[qAb h2,z2a _ _ _ _ _ (by omega)];by_cases h3:t=(Q4w q m).toNat
    ·rw[qAb h3];exact⟨fun _=>.inr (.inl ⟨by omega,by omega⟩),fun _=>rfl⟩
    rw[qAa h3];constructor
    ·exact .inl
    rintro(h|⟨h4,h5⟩|⟨h4,h5,_⟩)
    ·exact h
    ·omega
    omega
   rw[qAa h2];constructor
   ·exact .inl
   rintro(h|⟨h4,h5⟩|⟨h4,h5,_⟩)
   ·exact h
   ·omega
   omega
  rw[j0];constructor
  ·rintro((h|h)|⟨m',h1,h2⟩)
   ·exact .inl h
   ·exact .inr ⟨m,by simp,h⟩
   exact .inr ⟨m',by simp[h1],h2⟩
  rintro(h|⟨m',h1,h2⟩)
  ·exact .inl (.inl h)
  rw[qBu]at h1;rcases h1 with rfl|h1
  ·exact .inl (.inr h2)
  exact .inr ⟨m',h1,h2⟩
theorem y5z(hT:Q1d ps R H){n:Nat}(hn:n<=l.length){P:List (List Itm)}{X:List Itm}(hP:P.length=n)(hI:Q3a ps l n (P++[X])) :
  (∀t:Nat,t<R->((W0k R (Q0e R ps) X (List.replicate (R+1) false)).getD t false=true↔Vb ps (l.take n) t))/\((W0k R (Q0e R ps) X (List.replicate (R+1) false)).getD R false=true↔Ve ps (l.take n)):=by
 have hl:(l.take n).length=n:=by rw[qCo];omega
 have h2:=hI.take (qR n);have hS:Q3a ps (l.take n) (l.take n).length (P++[X]):=by rw[hl];exact h2
 have hX:(P++[X])[(l.take n).length]? = some X:=by rw[hl,← hP,qAr (qR _)];simp
 have hz:∀t,(List.replicate (R+1) false).getD t false=false:=fun t=>by
  rw[qD,qEb];split<;>rfl
 obtain⟨_,hw⟩:=y7v R (Q0e R ps) X (List.replicate (R+1) false) (by simp);constructor
 ·intro t ht;rw[hw t,← hS.next hX,hz t];constructor
  ·rintro(h|⟨m,h1,h2|h2⟩)
   ·cases h
   ·exact⟨m,h1,(z4e hT (by omega) (by omega)).1 h2.2⟩
   omega
  rintro⟨m,h1,h2⟩;exact .inr ⟨m,h1,.inl ⟨ht,(z4e hT (by omega) (by omega)).2 h2⟩⟩
 rw[hw R,← hS.fin hX,hz R];have hh:∀(m:Itm) (q:Pr),ps[m.p]? = some q->hdI (Q0e R ps) m=q.head:=fun m q hq=>by
  unfold hdI;rw[z2p,hq];rfl
 constructor
 ·rintro(h|⟨m,h1,h2|⟨_,h2,h3,h4⟩⟩)
  ·cases h
  ·omega
  obtain⟨_,q,hq,_⟩:=y2m ((hS.iff _ X hX m).1 h1);exact⟨m,h1,q,hq,(z8l hT).1 h2,h3,by rw[← hh m q hq];exact h4⟩
 rintro⟨m,h1,q,hq,h2,h3,h4⟩;exact .inr ⟨m,h1,.inr ⟨rfl,(z8l hT).2 h2,h3,by rw[hh m q hq];exact h4⟩⟩
theorem v0s(hT:Q1d ps R H){n:Nat}(hn:n<=l.length){P:List (List Itm)}{X:List Itm}(hP:P.length=n)(hI:Q3a ps l n (P++[X])){c:Int}(h0:0<=c)(hc:c<R):Q4n (Q0e R ps) c X≠[]↔Vb ps (l.take n) c.toNat:=by
 have hl:(l.take n).length=n:=by rw[qCo];omega
 have h2:=hI.take (qR n);have hS:Q3a ps (l.take n) (l.take n).length (P++[X]):=by rw[hl];exact h2
 have hX:(P++[X])[(l.take n).length]? = some X:=by rw[hl,← hP,qAr (qR _)];simp
 rw[← hS.next hX,show((c.toNat:Nat):Int)=c by omega];constructor
 ·intro h;obtain⟨y,hy⟩:=List.exists_mem_of_ne_nil _ h;obtain⟨m,h1,h2,_⟩:=z6m.1 hy;exact⟨m,h1,(z4e hT h0 hc).1 h2⟩
 rintro⟨m,h1,h2⟩ e;have:=z6m (q:=Q0e R ps) (c:=c) (l:=X) (y:=mvI m);rw[e]at this;exact absurd (this.2 ⟨m,h1,(z4e hT h0 hc).2 h2,rfl⟩) (by simp)
theorem x47(hT:Q1d ps R H){n:Nat}(hn:n<l.length){P:List (List Itm)}{X X':List Itm}(hP:P.length=n)(hI:Q3a ps l n (P++[X]))(h0:0<=l[n])(hc:l[n]<R)(hg:Q4y (Q99 ps l (n+1)) (Q4n (Q0e R ps) l[n] X) X')(hd:∀m∈X',Q6i R (Q0e R ps) (P++[X]) X' m):Q3a ps l (n+1) ((P++[X])++[X']):=by
 have hF:=y4a hT hd;rw[qP,hP]at hF;refine y9h (by omega) (by rw[qP,hP];rfl) (fun k Y hk m=>hI.iff k Y hk m) hg.q hF (fun e=>by omega) (fun k Y m t e hk hm hs ht=>?_);have e2:k=n:=by omega
 subst e2;have hY:Y=X:=by
  rw[← hP,qAr (qR _)]at hk;simpa using hk.symm
 subst hY;rw[qE hn]at ht;injection ht with ht;subst ht;exact hg.mem (z6m.2 ⟨m,hm,(z4e hT h0 hc).2 hs,rfl⟩)
theorem x07(hT:Q1d ps R H){X':List Itm}(hg:Q4y (Q99 ps l 0) [] X')(hd:∀m∈X',Q6i R (Q0e R ps) [] X' m)(h0:∀(p:Nat) (x:Q1),(Q0e R ps)[p]? = some x->x.1=0->(⟨p,0,0⟩:Itm)∈X'):Q3a ps l 0 ([]++[X']):=by
 have hF:=y4a hT hd;exact y9h (qBq _) rfl (fun k Y hk=>by simp at hk) hg.q hF (fun _ p q hp hq=>h0 p (q.head,q.syms.map (Q0w R)) (by rw[z2p,hp];rfl) hq) (fun k Y m t e=>by omega)
theorem x5a(hT:Q1d ps R H){D:List Mat}(hD:Q5c ps l D){p:Nat}{x:Q1}(hx:(Q0e R ps)[p]? = some x){i:Nat}(hi:i<=l.length):Q5c ps l (addR R l D x i):=by
 intro h a j e;unfold addR Q97 atM at e;rw[z2p]at hx;cases hq:ps[p]? with
 |none=>rw[hq]at hx;cases hx
 |some q =>
  rw[hq]at hx;simp at hx;subst hx;have j1:=qAi hq;dsimp only at e;have old:((D.getD h []).getD a []).getD j false=true->Ds ps l [⟨true,(h:Int)⟩] a j:=fun e=>hD h a j e;rcases qCk q.head.toNat D.length with hh|hh
  ·rw[z14 _ _ _ _ _ hh]at e;split at e
   ·rename_i eh;rcases qCk i (D.getD q.head.toNat []).length with j0|j0
    ·rw[z14 _ _ _ _ _ j0]at e;split at e
     ·rename_i ei;subst ei;have hj:j<l.length+1:=by
       rcases qCk j (l.length+1)with z|z
       ·exact z
       rw[qD,qN (by rw[z2s];exact z)]at e;cases e
      rw[z9y hj,qAt]at e;rcases e with e|e
      ·rw[eh];exact hD _ _ _ e
      obtain⟨_,r2⟩:=x4t (bs R) l D hD.wide (q.syms.map (Q0w R)) hi;have hr:=(r2 j hj).1 e;obtain⟨d1,d2,B,b1,b2⟩:=y9k hT hD (hT.sy q j1) hi hr;have j2:=hT.hd q j1;refine⟨d1,d2,⟨false,(p:Int)⟩::B,?_,by simpa [Q0d]using b2⟩;rw[eh,show((q.head.toNat:Nat):Int)=q.head by omega,z3p hq,qBd];exact b1
     rw[eh];exact hD _ _ _ e
    rw[qFs j0]at e;rw[eh];exact hD _ _ _ e
   exact old e
  rw[qFs hh]at e;exact old e
theorem x09(n:Nat):Q5c ps l (List.replicate H (sqF n)):=by
 intro h i j e;unfold atM at e;exfalso;have h1:((List.replicate H (sqF n)).getD h []).getD i []=List.replicate n false∨((List.replicate H (sqF n)).getD h []).getD i []=[]:=by
  have e0:(List.replicate H (sqF n)).getD h []=sqF n∨(List.replicate H (sqF n)).getD h []=[]:=by
   rw[qD,qEb];split
   ·exact .inl rfl
   exact .inr rfl
  rcases e0 with e0|e0
  ·rw[e0];unfold sqF;rw[qD,qEb];split
   ·exact .inl rfl
   exact .inr rfl
  rw[e0];exact .inr (by simp)
 rcases h1 with h1|h1
 ·rw[h1,qD,qEb]at e;split at e<;>cases e
 rw[h1]at e;simp at e
theorem x2h(hT:Q1d ps R H){D:List Mat}(hD:Q5c ps l D)(hc:CloD R (Q0e R ps) l D):Q91 R ps l D:=by
 intro q hq i j hi hr;obtain⟨p,hp⟩:=List.getElem?_of_mem hq;have hm:=hc p (q.head,q.syms.map (Q0w R)) i (by rw[z2p,hp];rfl) hi;have hj:=x87 hD.wide _ i j hi hr;obtain⟨_,r2⟩:=x4t (bs R) l D hD.wide (q.syms.map (Q0w R)) hi;have hs:=(r2 j (by omega)).2 hr;unfold atM;cases hx:((D.getD q.head.toNat []).getD i []).getD j false with
 |true=>rfl
 |false =>
  have:=(y64 (n:=l.length+1)).2 ⟨j,by omega,hs,hx⟩;rw[hm]at this;cases this
theorem x4x{rb:List Int->Nat->Nat->Bool}{T:Int->Nat->Nat->List Nd}:∀(ys:List Sy),(∀s∈ys,0<=s.num/\s.num<(if s.isH then(H:Int) else R))->∀i j,Q9u (bs R) rb T (ys.map (Q0w R)) i j=rowN (fun ys i j=>rb (ys.map (Q0w R)) i j) T ys i j
 | [],_,_,_=>rfl
 |y::ys,hv,i,j=>by
  have hy:=hv y (by simp);have ih:=x4x (rb:=rb) (T:=T) ys (fun s hs=>hv s (by simp[hs]));rw[qDl,Q9u,rowN,ih];have e1:toC rb (Q0w R y) (ys.map (Q0w R)) i j=toF (fun ys i j=>rb (ys.map (Q0w R)) i j) y ys i j:=rfl;rw[e1];congr 1;cases hb:y.isH
  ·rw[hb]at hy;simp only[qF,qAz]at hy;rw[z35 hb,qAb (by unfold bs;omega),qAb rfl]
  have:=z1r (R:=R) hb;rw[hb,qAb rfl]at hy;rw[qAa (by unfold bs;omega),qAa (by simp),show Q0w R y-bs R=y.num by unfold bs;omega]
theorem y9r(hT:Q1d ps R H){rb:List Int->Nat->Nat->Bool}:∀(f:Nat) (h:Int) (i j:Nat),Q5n (bs R) (Q0e R ps) rb f h i j=Q8j ps (fun ys i j=>rb (ys.map (Q0w R)) i j) f h i j
 |0,_,_,_=>rfl
 |f+1,h,i,j=>by
  have ef:Q9b (Q0e R ps) rb h i j=Q7u ps (fun ys i j=>rb (ys.map (Q0w R)) i j) h i j:=by
   unfold Q9b Q7u Q0e;rw[List.findIdx_map];rfl
  have et:Q5n (bs R) (Q0e R ps) rb f=Q8j ps (fun ys i j=>rb (ys.map (Q0w R)) i j) f:=by
   funext h i j;exact y9r hT f h i j
  rw[Q5n,Q8j,ef,z2p,et];cases hq:ps[Q7u ps (fun ys i j=>rb (ys.map (Q0w R)) i j) h i j]? with
  |none=>rfl
  |some q =>
   simp only[qDw];rw[x4x q.syms (hT.sy q (qAi hq))]
end
theorem v2p(l:List Bool)(n i:Nat)(acc:List Int)(h:i<n):risL l (n-i) i acc=risL l (n-(i+1)) (i+1) (if l.getD i false=true then acc++[(i:Int)] else acc):=by
 rw[show n-i=(n-(i+1))+1 by omega];rfl
def RisRet(w:World)(l:List Int)(e:Ending)(w':World):Prop:=∃v,e=.returned v/\IntOwn w' w.heap.size v l/\Q0a w w'
theorem y1z(w:World)(g n:Nat)(l:List Bool)(hB:Q1x w g l)(hl:l.length=n)(hn:n<=100) :
  Calls Tryz.prog 51 #[bsl g n] w fun e w'=>RisRet w (risF l) e w':=by
 obtain⟨i1,jc,jd,je,jf⟩:=Q6z;have HB:=hid hB;have HL:=hid hl;have hV:risL l n 0 []=risF l:=by unfold risF;rw[hl]
 generalize risF l=V at hV;have HV:=hid hV;clear hB hl hV;go_enter Tryz.func51,Tryz.ntmps51
 go_wp2;go_loopw [3,4] (fun x3 x4 wr=>∃(i:Nat) (j1:List Int),x4=.int .i64 i/\i<=n/\j1.length<=i/\wr.ownsRow w.heap.size 3 1 x3 j1.length (Q9p j1)/\Q0a w wr/\risL l (n-i) i j1=V)
   (fun _ x _=>1001-(intOf x).toNat)
 case atStart=>exact⟨0,[],rfl,by omega,by simp,qAh _ _ _ _,mRf _ _,HV.out⟩
 obtain⟨i,j1,rfl,hi,jg,j3,j6,j0⟩:=hrel;have j9:=hid (Q19 (B:=1001) i (by omega));have HF:=hid j6;have HO:=hid j3;obtain⟨ao,cp,hv⟩:=z0c j3;subst hv;have jh:w.heap.size<=wr.heap.size:=j6.size;by_cases j8:i<n
 ·have k1:(i:Int)<(n:Int):=by omega
  rw[v2p _ _ _ _ j8]at j0;have c1:=(HB.fresh j6).cell (j:=i) (by rw[HL.out];exact j8);generalize l.getD i false=lb at j0 c1;have j2:=hid j0;clear j0 j3 j6;cases lb
  ·go_wp2;go_roundw
   case rel=>exact⟨i+1,j1,by go_num,by omega,by omega,HO.out,HF.out,j2.out⟩
   exact j9.out
  go_wp2_with (first
   |(at_builtin;refine z0f _ rfl _ _ 24 rfl w.heap.size 3 i1 _ 1 8 qDq jc jd je jf rfl (by decide) (.slice ao j1.length cp) j1.length (Q9p j1) rfl (qFq HO.out _) ⟨wr.heap.size,0,none⟩ 1 1 [.int .i64 i] rfl rfl (z0m rfl) (by intro u hu;simp at hu;subst hu;rfl) (by unfold maxLen;omega) (by omega) (by simp;omega) ?_;intro v9 w4 j5 j4 j7;have jb:=hid j5;have ja:=hid (Mod.grown (S:=fun _=>False) (HF.alloc _) j4 (fun k hk j8=>by have:=(HO.lt k hk).1;omega));clear j5 j4 j7))
  go_roundw
  case rel=>exact⟨i+1,j1++[(i:Int)],by go_num,by omega,by simp;omega,by have:=jb.out;simpa [Q9p]using this,ja.out,j2.out⟩
  exact j9.out
 have k1:¬(i:Int)<(n:Int):=by omega
 have hz:n-i=0:=by omega
 rw[hz]at j0;have j2:=hid j0;clear j0 j3 j6 hz;go_wp2;go_ret;refine⟨_,rfl,?_,HF.out⟩;have:=j2.out;unfold risL at this;rw[← this];exact HO.out
section
variable {ps:List Pr}{R H:Nat}{l:List Int}{G:GOut}{n i:Nat}{P:List (List Itm)}{X:List Itm}
def Q8k(ps:List Pr)(R:Nat)(X:List Itm):List Bool:=W0k R (Q0e R ps) X (List.replicate (R+1) false)
theorem y3j:(Q8k ps R X).length=R+1:=(y7v R (Q0e R ps) X _ (by simp)).1
theorem x88(hT:Q1d ps R H)(hR:R<=8)(hn:i<=l.length)(hP:P.length=i)(hI:Q3a ps l i (P++[X])){W:List Bool}(w1:∀t,t<R->(W.getD t false=true↔Vb ps (l.take i) t))(w2:W.getD R false=true↔Ve ps (l.take i))(w3:∀t,R<t->W.getD t false=false):risF (Q8k ps R X)=Q3e W:=by
 obtain⟨z1,z2⟩:=y5z hT hn hP hI;refine x06 (fun t=>?_) (by rw[y3j];omega);rw[qBc];unfold Q8k;rcases qFx t R with h|h|h
 ·rw[z1 t h,w1 t h]
 ·subst h;rw[z2,w2]
 rw[w3 t h,qD,qN (by have:=y3j (ps:=ps) (R:=R) (X:=X);unfold Q8k at this;omega)];rfl
theorem x0v(hT:Q1d ps R H)(hR:R<=8)(hG:GrowIs ps R l G n)(hP:P.length=i)(hI:Q3a ps l i (P++[X]))(hi:i<l.length)(hin:i<=n)(h0:0<=l[i])(hc:l[i]<R) :
  (Q4n (Q0e R ps) l[i] X=[]->G=⟨10,risF (Q8k ps R X),i,[]⟩)/\(Q4n (Q0e R ps) l[i] X≠[]->i+1<=n):=by
 have hx:=v0s hT (by omega:i<=l.length) hP hI h0 hc;constructor
 ·intro e;have j1:¬Vb ps (l.take i) l[i].toNat:=fun q=>hx.2 q e;have j0:n=i:=by
   rcases qCk i n with z|z
   ·exact absurd (hG.each i hi z) j1
   omega
  subst j0;rcases hG.or with⟨e1,_⟩|⟨W,e1,e2,e3,e4,_⟩
  ·omega
  rw[x88 hT hR (by omega) hP hI e2 e3 e4];exact e1
 intro e;have hv:=hx.1 e;rcases qCk i n with z|z
 ·exact z
 exfalso;obtain rfl:n=i:=by omega
 rcases hG.or with⟨e1,_⟩|⟨W,_,_,_,_,e5,_⟩
 ·omega
 exact e5 hi hv
theorem x4g(hT:Q1d ps R H)(hR:R<=8)(hG:GrowIs ps R l G n)(hP:P.length=l.length)(hI:Q3a ps l l.length (P++[X]))(hin:l.length<=n) :
  ((Q8k ps R X).getD R false=false->G=⟨10,risF (Q8k ps R X),l.length,[]⟩)/\((Q8k ps R X).getD R false=true->∃A,G=⟨0,[],0,A⟩/\Q1i ps A [⟨true,0⟩]=some []/\Q0d A=l):=by
 have hn:n=l.length:=by have:=hG.le;omega
 subst hn;obtain⟨_,z2⟩:=y5z hT (qR _) hP hI;rw[qAw]at z2;constructor
 ·intro e;rcases hG.or with⟨_,e2,_⟩|⟨W,e1,e2,e3,e4,_⟩
  ·have:=z2.2 e2;unfold Q8k at e;rw[e]at this;cases this
  rw[x88 hT hR (qR _) hP hI e2 e3 e4];exact e1
 intro e;have j0:=z2.1 e;rcases hG.or with⟨_,_,A,e3,e4,e5⟩|⟨W,_,_,_,_,_,e6⟩
 ·exact⟨A,e3,e4,e5⟩
 exact absurd j0 (e6 rfl)
end
def ZpRet(ps:List Pr)(G:GOut)(w:World)(e:Ending)(w':World):Prop:=∃vn vw,e=.returned (.tuple #[.agg (Q6m vn vw G.place),.int .i64 G.err])/\Q0a w w'/\Q2x w' w.heap.size vn (Q1p ps G.st)/\IntOwn w' w.heap.size vw G.wanted
theorem x1o(w:World)(b R H:Nat)(ps:List Pr)(hs:List Hd)(hTb:Tab ps R H hs)(hS:Q3q w b R H (Q0e R ps))(hQ:QOk R H (Q0e R ps))(ka:Option Addr)(kc:Nat)(l:List Int)(hk:Q1c w (.slice ka l.length kc) l)(hl:l.length<=60)(hkk:Q1z R l=true) :
  Calls Tryz.prog 22 #[.pointer (some ⟨b,0,none⟩),.slice ka l.length kc] w fun e w'=>ZpRet ps (Q6k ps hs R H l 0 [⟨true,0⟩] []) w e w':=by
 have hT:=hTb.g.tab;have hR:=hTb.hR;have k9:∀p∈ps,p.syms.length<=6:=fun p hp=>(hTb.syms p hp).1;obtain⟨n,hG⟩:=v0c hTb hkk;have k8:=(y61 hTb l 0 [⟨true,0⟩] [] hTb.start.1 hTb.start.2 (by simp) hkk (by omega) (by simp) (by simp)).1;have x0:=fun(rc:List Sy->Nat->Nat->Bool) (h:RcIs ps l R H rc) (A:List St) h1 h2=>x8a hTb hl h (A:=A) h1 h2;generalize Q6k ps hs R H l 0 [⟨true,0⟩] []=G at hG k8 ⊢;have jm:=hQ.p20;have HK:=hid hk;obtain⟨ak,ck,ek,xn,j7⟩:=hk;rw[qI]at ek;obtain⟨rfl,_,rfl⟩:=ek;have xb:=hid j7;have x6:∀(i:Nat) (hi:i<l.length),0<=l[i]/\l[i]<R:=fun i hi=>by
  unfold Q1z at hkk;rw[qAy]at hkk;have:=hkk l[i] (qG hi);simpa using this
 have jc:=hid x6;have HT:=hid hT;have HM:=hid k9;have HG:=hid hG;have km:=hid x0;have kf:=hid k8;have HS:=hid hS;have HQ:=hid hQ;obtain⟨a0,c0,a1,c1,a2,c2,v3,v4,sv,hN⟩:=hS;have xc:=hid hN.k0;have k5:Q0a w (w.alloc (.cells (Q6m (.slice none 0 0) (.slice none 0 0) 0) 50)):=(mRf _ w).alloc _;have kx:=z0a w (.cells (Q6m (.slice none 0 0) (.slice none 0 0) 0) 50);have CT:=hid (x2b _ b R H (Q0e R ps) (Q99 ps l 0) (HS.fresh k5) hQ (y8i hT k9 rfl (qBq _) hl (fun k Y hY=>by simp at hY)) (fun p x hx h0=>by
  rw[z2p]at hx;cases hq:ps[p]? with
  |none=>rw[hq]at hx;cases hx
  |some q =>
   rw[hq]at hx;simp at hx;subst hx;exact x3f hq h0))
 have j9:=hid k5;have j4:=hid kx;clear hT hG x0 k8 j7 x6 k9 hQ hN k5 kx hkk hTb hs;go_enter Tryz.func22,Tryz.ntmps22
 go_upto_region 2 with(first
  |(go_at_call 49;refine(CT.out).mono ?_;rintro e w2⟨cb,gs,cap,X0,rfl,hC,x5,x2,jl⟩;have HC:=hid hC;have jg:=hid x5;have kh:=hid x2;have kj:=hid jl;clear hC x5 x2 jl))
 generalize(w.alloc (.cells (Q6m (.slice none 0 0) (.slice none 0 0) 0) 50))=w1 at j9 j4 HC;have kl:=hid (x07 HT.out jg.out kh.out kj.out);have jq:=hid (fun(N:Nat) (P:List (List Itm)) (h1:P.length=N) (h2:N<=l.length) (h3:∀(k:Nat) (Y:List Itm),P[k]? = some Y->∀m:Itm,m∈Y↔Q99 ps l k m)=>y8i HT.out HM.out h1 h2 hl h3);have kn:Hid (∀Y∈[]++[X0],Q8s (Q0e R ps) Y):=hid (fun Y hY=>by
  simp at hY;subst hY;exact⟨jg.len (jq.out 0 [] rfl (qBq _) (fun k Y hY=>by simp at hY)).b jm,fun m hm=>by
   have:=(jq.out 0 [] rfl (qBq _) (fun k Y hY=>by simp at hY)).b m (jg.q m hm);exact⟨this.1,this.2.1⟩⟩)
 clear CT kh kj;go_wp2;go_loopw [7,8,9] (fun x7 _ _ wr=>∃(i gs cap:Nat) (P:List (List Itm)) (X:List Itm),x7=.int .i64 i/\i<=l.length/\i<=n/\P.length=i/\ChG w1 wr cb gs cap b (P++[X])/\Q3a ps l i (P++[X])/\X.Nodup/\∀Y∈P++[X],Q8s (Q0e R ps) Y)
   (fun x _ _ _=>1001-(intOf x).toNat)
 case atStart=>exact⟨0,gs,cap,[],X0,rfl,by omega,by omega,rfl,HC.out,kl.out,jg.nd,kn.out⟩
 obtain⟨i,kt,ji,P,X,rfl,hi,jl,hP,hC,hI,x8,k7⟩:=hrel;have xd:=hid (Q19 (B:=1001) i (by omega));have xa:=hid hC;have HI:=hid hI;have xe:=hid x8;have ko:=hid k7;have HP:=hid hP;have jw:Q0a w1 wr:=by
  obtain⟨vs,z⟩:=hC;exact z.fr
 have jz:=hid jw;have jr:=hid (j9.trans jw);have xm:=hid (jw.at j4.out id);have WN:=hid (y75 w1 · cb kt ji b R H (Q0e R ps) P X (HS.fresh j9.out) HQ.out · (by rw[hP];omega) (k7 X (by simp)));have k3:=hid (y3j (ps:=ps) (R:=R) (X:=X));clear hI x8 k7 HC kl jg kn jw;by_cases j2:i<l.length
 ·have s1:(i:Int)<(l.length:Int):=by omega
  obtain⟨gk,ok,rfl,y1⟩:=xb.out i j2;have y2:=Q0h jr.out y1;obtain⟨st1,st2⟩:=x0v HT.out hR HG.out HP.out HI.out j2 jl (jc.out i j2).1 (jc.out i j2).2;have TK:=hid (x2i w1 wr cb kt ji b R H (Q0e R ps) P X l[i] (Q99 ps l (i+1)) (HS.fresh j9.out) HQ.out hC xe.out (by rw[hP];omega) ko.out (jq.out (i+1) (P++[X]) (by rw[qP,HP.out];rfl) (by omega) (fun k Y hY m=>HI.iff k Y hY m)) (fun m hm hsc=>by
   have kz:=(HI.iff i X (by rw[← HP.out,qAr (qR _)];simp) m).1 hm;have x9:=(z4e HT.out (jc.out i j2).1 (jc.out i j2).2).1 hsc;obtain⟨_,q,hq,_⟩:=y2m kz;rw[z3r hq]at x9;exact x3h kz hq x9 (qE j2)))
  have SN:=hid (fun(X':List Itm) (hg:Q4y (Q99 ps l (i+1)) (Q4n (Q0e R ps) l[i] X) X') (hd:∀m∈X',Q6i R (Q0e R ps) (P++[X]) X' m)=>(⟨x47 HT.out j2 HP.out HI.out (jc.out i j2).1 (jc.out i j2).2 hg hd,hg.nd,(fun Y hY=>by
   rw[qU]at hY;rcases hY with hY|hY
   ·exact ko.out Y hY
   rw[qM]at hY;subst hY;have hb:=(jq.out (i+1) (P++[X]) (by rw[qP,HP.out];rfl) (by omega) (fun k Y hY m=>HI.iff k Y hY m)).b;exact⟨hg.len hb jm,fun m hm=>⟨(hb m (hg.q m hm)).1,(hb m (hg.q m hm)).2.1⟩⟩)⟩:Q3a ps l (i+1) ((P++[X])++[X'])/\X'.Nodup/\∀Y∈(P++[X])++[X'],Q8s (Q0e R ps) Y))
  unfold TkRet at TK;have js:=hid st1;have jt:=hid st2;generalize l[i]=c at y1 y2 TK SN js jt;clear y1 st1 st2 hC hP;by_cases je:Q4n (Q0e R ps) c X=[]
  ·have ky:=js.out je;have k1:=hid je;have j0:=hid ky;have RI:=hid (fun(W:World) (g:Nat) (hB:Q1x W g (Q8k ps R X))=>y1z W g (R+1) (Q8k ps R X) hB k3.out (by omega));generalize hris:risF (Q8k ps R X)=RS at j0 RI;clear je ky SN js jt hris;go_wp2_with (first
    |(go_at_call 50;refine(TK.out).mono ?_;rintro e w3 hz;obtain⟨_,rfl,jj⟩:=hz.elim id (fun z=>absurd k1.out z.1);have jp:=hid jj;clear hz jj)
    |(go_at_call 52;refine(WN.out _ jp.out).mono ?_;rintro e w4⟨g4,rfl,j3,j1⟩;have jx:=hid j3;have kg:=hid (jp.fresh j1);clear j3 j1)
    |(go_at_call 51;refine(RI.out _ g4 jx.out).mono ?_;rintro e w5⟨v5,rfl,ja,j8⟩;obtain⟨wa,wc,ke⟩:=z0c ja;subst ke;have jh:=hid ja;have j5:Hid (Q0a w1 w5):=hid (by obtain⟨vs,z⟩:=kg.out;exact z.fr.trans j8);have j6:=hid (j5.at j4.out id);have jb:w.heap.size<w4.heap.size:=(by obtain⟨vs,z⟩:=kg.out;exact z0j (z.fr.at j4.out id));clear ja j8)
    |(refine qAg rfl 50 _ _ rfl w.heap.size (Q6m (.slice none 0 0) (.slice wa RS.length wc) i) rfl rfl _ _ j6.out Q7d rfl (z53 _ _ _ rfl rfl) ?_))
   refine qAc (z0l rfl _ _ w.heap.size 50 (Q6m (.slice none 0 0) (.slice wa RS.length wc) i) (0,0) _ rfl (qAn _ _ _ _ _ _ j6.out) qFk rfl Q7d) rfl ?_;refine⟨.slice none 0 0,.slice wa RS.length wc,by rw[j0.out];rfl,(j9.trans j5.out).setRow (fun h=>absurd h (qBw _)) _,?_,?_⟩
   ·rw[j0.out];exact qAh _ _ _ _
   rw[j0.out];refine z0g (z0d jh.out (fun g hg=>?_)) (qFd jb);have:=(jh.lt g hg).1;exact qCx _ _ _ _ (by omega)
  have xj:=jt.out je;have k1:=hid je;clear je js jt WN;go_wp2_with (first
   |(go_at_call 50;refine(TK.out).mono ?_;rintro e w3 hz;obtain⟨_,rfl,xi,k4,X',jj,x4,x1⟩:=hz.elim (fun z=>absurd z.1 k1.out) id;have jp:=hid jj;have k2:=hid (SN.out X' x4 x1);clear hz jj x4 x1))
  go_roundw
  case rel=>exact⟨i+1,xi,k4,P++[X],X',by go_num,by omega,xj,by rw[qP,HP.out];rfl,jp.out,k2.1,k2.2.1,k2.2.2⟩
  exact xd.out
 have s1:¬(i:Int)<(l.length:Int):=by omega
 obtain rfl:i=l.length:=by omega
 obtain⟨kr,ks⟩:=x4g HT.out hR HG.out HP.out HI.out jl;have kq:=hid (WN.out wr xa.out);have RI:=hid (fun(W:World) (g:Nat) (hB:Q1x W g (Q8k ps R X))=>y1z W g (R+1) (Q8k ps R X) hB k3.out (by omega));have jn:=hid kr;have jo:=hid ks;have jd:Hid (Calls Tryz.prog 52 #[.pointer (some ⟨cb,0,none⟩)] wr fun e w'=>WnRet wr R (Q8k ps R X) e w'):=hid kq.out;unfold WnRet at jd;have CR:Hid (∀(W:World) (g:Nat),Q1x W g (Q8k ps R X)->W.cell? ⟨g,R,none⟩=some (.bool ((Q8k ps R X).getD R false))):=hid (fun W g hB=>hB.cell (j:=R) (by rw[k3.out];omega));have HZ:Hid (∀W,Q0a wr W->W.cell? ⟨b,0,none⟩=some (.slice a0 R c0)):=hid (fun W hW=>Q0h (jr.trans hW) xc.out);have SP:=hid (fun(W:World) (hW:Q0a wr W)=>x5b W b R H (Q0e R ps) ka kc l (Q5c ps l) (HS.fresh (jr.trans hW)) HQ.out (HK.fresh (jr.trans hW)) hl (x09 (l.length+1)) (fun D p x i h1 _ h3 h4=>x5a HT.out h1 h3 h4));have TR:Hid (∀(A:List St),(Q1p ps A).length<=1000000000000->Q1i ps A [⟨true,0⟩]=some []->Q0d A=l->∀(W:World) (sb:Nat) (da:Option Addr) (dc:Nat) (D:List Mat),SpR W sb b R H (Q0e R ps) ka kc l da dc D->Q5c ps l D->CloD R (Q0e R ps) l D->Calls Tryz.prog 54 #[.pointer (some ⟨sb,0,none⟩),.int .i64 0,.int .i64 0,.int .i64 l.length,.int .i64 2000] W fun e w'=>NdRet W (Q1p ps A) e w'):=hid (fun A hA h1 h2 W sb da dc D jv jk ju=>by
  have e:Q5n (bs R) (Q0e R ps) (rcB R l D) 2000 0 0 l.length=Q1p ps A:=by
   rw[y9r HT.out];exact km.out _ (v3a HT.out jk (x2h HT.out jk ju)) A h1 h2
  have:=y9s sb b R H (Q0e R ps) ka kc l da dc D HQ.out hl 2000 (qR _) W 0 0 l.length jv (qBq _) (qR _) (by rw[e];exact hA);rw[e]at this;exact this)
 have xk:(R:Int)<((R+1:Nat):Int):=by omega
 generalize R+1=r1 at jd RI xk;generalize(Q8k ps R X).getD R false=bR at jn jo CR;clear kr ks hC WN kq km;cases bR
 ·have j0:=hid (jn.out rfl);generalize hris:risF (Q8k ps R X)=RS at j0 RI;generalize Q8k ps R X=WR at jd RI CR;clear jn jo SP TR hris;go_wp2_with (first
   |(go_at_call 52;refine(jd.out).mono ?_;rintro e w4⟨g4,rfl,j3,j1⟩;have jx:=hid j3;have c4:=CR.out w4 g4 j3;have z4:=HZ.out w4 j1;have jf:=hid (jz.trans j1);clear j3 j1)
   |(go_at_call 51;refine(RI.out _ g4 jx.out).mono ?_;rintro e w5⟨v5,rfl,ja,j8⟩;obtain⟨wa,wc,ke⟩:=z0c ja;subst ke;have jh:=hid ja;have j5:=hid (jf.trans j8);have j6:=hid (j5.at j4.out id);have jb:w.heap.size<w4.heap.size:=z0j (jf.at j4.out id);clear ja j8)
   |(refine qAg rfl 50 _ _ rfl w.heap.size (Q6m (.slice none 0 0) (.slice wa RS.length wc) l.length) rfl rfl _ _ j6.out Q7d rfl (z53 _ _ _ rfl rfl) ?_))
  refine qAc (z0l rfl _ _ w.heap.size 50 (Q6m (.slice none 0 0) (.slice wa RS.length wc) l.length) (0,0) _ rfl (qAn _ _ _ _ _ _ j6.out) qFk rfl Q7d) rfl ?_;refine⟨.slice none 0 0,.slice wa RS.length wc,by rw[j0.out];rfl,(j9.trans j5.out).setRow (fun h=>absurd h (qBw _)) _,?_,?_⟩
  ·rw[j0.out];exact qAh _ _ _ _
  rw[j0.out];refine z0g (z0d jh.out (fun g hg=>?_)) (qFd jb);have:=(jh.lt g hg).1;exact qCx _ _ _ _ (by omega)
 obtain⟨A,k6,ku,kv⟩:=jo.out rfl;have j0:=hid k6;have kw:(Q1p ps A).length<=1000000000000:=by
  rw[z7b];have:=kf.out;rw[k6]at this;dsimp only at this;omega
 have kp:=hid (TR.out A kw ku kv);generalize hNF:Q1p ps A=NF at kp;have xf:=hid hNF;generalize Q8k ps R X=WR at jd CR;unfold SpnRet at SP;clear jn jo TR k6 ku kv kw hNF RI kf;go_wp2_with (first
  |(go_at_call 52;refine(jd.out).mono ?_;rintro e w4⟨g4,rfl,j3,j1⟩;have c4:=CR.out w4 g4 j3;have z4:=HZ.out w4 j1;have jf:=hid j1;clear j3 j1)
  |(go_at_call 53;refine(SP.out _ jf.out).mono ?_;rintro e w5⟨sb,da,dc,D,rfl,jv,j8,jk,ju⟩;have xh:=hid jv;have ki:=hid (jf.trans j8);have xg:=hid jk;have jy:=hid ju;clear jv j8 jk ju)
  |(go_at_call 54;refine(kp.out _ sb da dc D xh.out xg.out jy.out).mono ?_;rintro e w6⟨v6,rfl,kb,x3⟩;obtain⟨na,nc,xl⟩:=z0c kb;subst xl;have kk:=hid kb;have j5:=hid (jz.trans (ki.trans x3));have j6:=hid (j5.at j4.out id);have kd:w.heap.size<w5.heap.size:=z0j ((jz.trans ki.out).at j4.out id);clear kb x3)
  |(refine qAg rfl 50 _ _ rfl w.heap.size (Q6m (.slice na NF.length nc) (.slice none 0 0) 0) rfl rfl _ _ j6.out Q7d rfl (z53 _ _ _ rfl rfl) ?_))
 refine qAc (z0l rfl _ _ w.heap.size 50 (Q6m (.slice na NF.length nc) (.slice none 0 0) 0) (0,0) _ rfl (qAn _ _ _ _ _ _ j6.out) qFk rfl Q7d) rfl ?_;refine⟨.slice na NF.length nc,.slice none 0 0,by rw[j0.out];rfl,(j9.trans j5.out).setRow (fun h=>absurd h (qBw _)) _,?_,?_⟩
 ·rw[j0.out];show Q2x _ _ _ (Q1p ps A);rw[xf.out];refine z0g (z0d kk.out (fun g hg=>?_)) (qFd kd);have:=(kk.lt g hg).1;exact qCx _ _ _ _ (by omega)
 rw[j0.out];exact qAh _ _ _ _
theorem v25(base:Int)(null:List Bool)(L:Mat)(R:Nat)(l:List Int)(n i:Nat)(out:List Bool)(h:i<n):fiI base null L R l (n-i) i out=fiI base null L R l (n-(i+1)) (i+1) (if Q4b base null (l.take i)=true then fiT L (l.getD i 0) R 0 out else out):=by
 rw[show n-i=(n-(i+1))+1 by omega];rfl
theorem v26(L:Mat)(c:Int)(n t:Nat)(out:List Bool)(h:t<n):fiT L c (n-t) t out=fiT L c (n-(t+1)) (t+1) (out.set t ((out.getD t false||c==(t:Int))||atM L c.toNat t)):=by
 rw[show n-t=(n-(t+1))+1 by omega];rfl
theorem x2s(L:Mat)(c:Int):∀(f t:Nat) (out:List Bool),(fiT L c f t out).length=out.length
 |0,_,_=>rfl
 |f+1,t,out=>by unfold fiT;rw[x2s L c f];simp
def Q9z(w:World)(n:Nat)(l:List Bool)(e:Ending)(w':World):Prop:=∃g,e=.returned (bsl g n)/\w.heap.size<=g/\Q1x w' g l/\Q0a w w'
theorem y4d(w:World)(B ab b R H:Nat)(q:List Q1)(gn:Nat)(vL:Value)(gs:List Nat)(v:Value)(l:List Int)(hA:Q8c w B ab b R H q gn vL gs)(hS:Q3q w b R H q)(hQ:QOk R H q)(hnl:(Q4q (bs R) false q H).length=H) (hsq:Sq (R+1+H) (ldF R H (Q4q (bs R) false q H) q))
  (hv:Q1c w v l) (hl:l.length<=6) (hc:∀c∈l,0<=c/\c<(R:Int)+1+H) :
  Calls Tryz.prog 77 #[.pointer (some ⟨ab,0,none⟩),v] w fun e w'=>Q9z w (R+1) (fiF R H (Q4q (bs R) false q H) q l) e w':=by
 obtain⟨a0,c0,a1,c1,a2,c2,v3,v4,sv,hN⟩:=hS;have r8:=hQ.r8;have h8:=hQ.h8;obtain⟨ao,cap,rfl,jg,j5⟩:=hv;obtain⟨al,cl,k6⟩:=z0c hA.m.own;subst k6;have p0:=Q0b hA.o 0;have p1:=Q0b hA.o 1;have p2:=Q0b hA.o 2;simp at p0 p1 p2;have k0:=hN.k0;unfold fiF firF;generalize hnu:Q4q (bs R) false q H=null at hA hnl hsq ⊢;generalize hLd:ldF R H null q=L at hA hsq ⊢;have jv:Hid (Q1x w gn null):=hid (by have:=hA.n;rw[hnu]at this;exact this);have jd:Hid (Q1v w B (R+1+H) (.slice al gs.length cl) gs L):=hid (by have:=hA.m;rw[hnu,hLd]at this;exact this);have jp:gs.length=R+1+H:=by rw[jd.len,hsq.len]
 have ju:=hid hN;have k7:=hid hnl;have jx:=hid hsq;have HC:=hid j5;have jr:=hid hc;have jl:bs R=((R+1:Nat):Int):=by unfold bs;omega
 have BA:=hid (fun(W:World) (hW:Q0a w W)=>z1j W b R a0 c0 (Q0h hW k0) (by omega));rw[jl]at BA;have NO:=hid (fun(W:World) (i:Nat) (hW:Q0a w W) (hi:i<=l.length)=>z4q W b R H gn a0 c0 (.slice ao i cap) (l.take i) null (Q0h hW k0) (by omega) (by omega) ((Q1c.take ⟨ao,cap,rfl,jg,j5⟩ rfl hi).fresh hW) (by rw[qCo];omega) (jv.fresh hW) hnl (fun c hcc=>hc c (qFl hcc)));have mk:=fun w=>run_make_row' (P:=Tryz.prog) 118 4 (.bool false) 1 qCw (by kernel_rfl) rfl .i64 .i64 (R+1) (by omega) (by omega) w;generalize hV:fiI (bs R) null L R l l.length 0 (List.replicate (R+1) false)=V;generalize hbs:bs R=base at hV NO;have HV:=hid hV;have jy:R+1<=9:=by omega
 have je:=hid (show R<R+1 by omega);generalize hq1:R+1=R1 at HV BA mk jy je ⊢;have k8:=hid hq1;have js:=hid jp;have k4:gs.length<=20:=by omega
 clear hV hN hQ hnl hsq j5 hc hA hbs jl hq1 jp hnu hLd k0;go_enter Tryz.func77,Tryz.ntmps77
 go_wp2_with (first
  |(go_at_call 47;refine csm (BA.out _ (mRf _ _)) ?_))
 go_loopw [6,7,8] (fun x6 _ _ wr=>∃(i:Nat) (o:List Bool),x6=.int .i64 i/\i<=l.length/\Q1x wr w.heap.size o/\o.length=R1/\Q0a w wr/\fiI base null L R l (l.length-i) i o=V)
   (fun x _ _ _=>1001-(intOf x).toNat)
 case atStart =>
  refine⟨0,List.replicate R1 false,rfl,by omega,?_,by simp,(mRf _ w).alloc _,HV.out⟩;rw[z03];exact z0a _ _
 obtain⟨i,o,rfl,hi,hB,j6,j2,j0⟩:=hrel;have jc:=hid (Q19 (B:=1001) i (by omega));have HB:=hid hB;have jw:=hid j6;have HF:=hid j2;have u0:=Q0h j2 p0;have u1:=Q0h j2 p1;clear hB j6 mk;by_cases j9:i<l.length
 ·have k1:(i:Int)<(l.length:Int):=by omega
  have k2:(i:Int)<=(l.length:Int):=by omega
  rw[v25 _ _ _ _ _ _ _ _ j9]at j0;obtain⟨gl,ol,rfl,y5⟩:=HC.out i j9;have k3:(i:Int)<=(cap:Int):=by omega
  have jm:=jr.out l[i] (qG j9);obtain⟨cn,jh⟩:∃a:Nat,l[i]=a:=⟨l[i].toNat,by omega⟩;have jo:l.getD i 0=(cn:Int):=by rw[qD,qE j9,qDy,jh]
  rw[jh]at y5 jm;rw[jo]at j0;have jz:cn<gs.length:=by rw[js.out];omega
  have NQ:=hid (fun n=>NO.out (wr.drewN n) i (j2.trans (Q0v wr n)) (by omega));generalize Q4b base null (l.take i)=nb at j0 NQ;generalize hF2:(if nb=true then fiT L (cn:Int) R 0 o else o)=F2 at j0;have jk:=hid hF2;have j4:=hid j0;clear j0 hF2 j2 jo jh jm;go_wp2;go_quiet (first|(go_at_call 78;refine Calls.quiet_of (NQ.out _)));have jb:=hid (HF.trans (Q0v wr nq));have ja:=hid (HB.fresh (Q0v wr nq));generalize wr.drewN nq=W2 at jb ja ⊢;clear u0 u1 HB HF NQ;go_wp2;go_loopw [8] (fun x8 wi=>∃(t:Nat) (o:List Bool),x8=.int .i64 t/\t<=R/\Q1x wi w.heap.size o/\o.length=R1/\Q0a w wi/\(if nb=true then fiT L (cn:Int) (R-t) t o else o)=F2)
    (fun x _=>1001-(intOf x).toNat)
  case atStart=>exact⟨0,o,rfl,by omega,ja.out,jw.out,jb.out,jk.out⟩
  obtain⟨t,o2,rfl,ht,hB,j6,j2,j0⟩:=hrel;have jt:=hid (Q19 (B:=1001) t (by omega));have j7:=hid hB;have j3:=hid j6;have j8:=hid j2;have u0:=Q0h j2 p0;have u2:=Q0h j2 p2;have uk:=(ju.fresh j2).k0;clear jb ja jk j6;by_cases jj:t<R/\nb=true
  ·obtain⟨jq,k5⟩:=jj;subst k5;have s1:(t:Int)<(R:Int):=by omega
   have s2:(t:Int)<(R1:Int):=by have:=je.out;omega
   rw[qAb rfl,v26 _ _ _ _ _ jq,qAo]at j0;obtain⟨gv,cv,hv⟩:=Joins.ownsRow_form jd.own (by omega);rw[qI]at hv;obtain⟨rfl,_,rfl⟩:=hv;obtain⟨gc,ji⟩:∃g,gs[cn]? = some g:=⟨_,qE jz⟩;have jf:=jd.fresh j2;have r1:=jf.row ji;have d1:=jf.cell jx.out ji (j:=t) (by omega);have b1:=hB.cell (j:=t) (by rw[j3.out];have:=je.out;omega);have b2:=hB.frozen t;have z5:=Q0h j2 y5;have s3:(cn:Int)<(gs.length:Int):=by omega
   have s4:(t:Int)<((R+1+H:Nat):Int):=by omega
   generalize o2.getD t false=xa at j0 b1;generalize atM L cn t=xl at j0 d1;generalize hce:((cn:Int)==(t:Int))=xe at j0;have j1:=hid j0;have HP:Hid (∀c:Bool,Q1x (wr.setCell ⟨w.heap.size,t,none⟩ (.bool c)).drew w.heap.size (o2.set t c)/\Q0a w (wr.setCell ⟨w.heap.size,t,none⟩ (.bool c)).drew):=hid (fun c=>⟨j7.put t c,(j8.setCell (fun h=>absurd h (by simp)) _).drew⟩);clear j0 jf ji j2 hB;generalize R+1+H=nn at r1 s4;cases xa<;>cases xe<;>cases xl;all_goals
    go_wp2_with fail
    go_region;all_goals
     go_wp2;go_roundw
     case rel=>exact⟨t+1,_,by go_num,by omega,(HP.out _).1,by simp[j3.out],(HP.out _).2,by first|exact j1.out|(rw[qAb rfl];exact j1.out)|simpa using j1.out⟩
     exact jt.out
  have jn:(if nb=true then fiT L (cn:Int) (R-t) t o2 else o2)=o2:=by
   cases nb
   ·rfl
   have:R-t=0:=by
    rcases qCk t R with q|q
    ·exact absurd ⟨q,rfl⟩ jj
    omega
   rw[qAb rfl,this];rfl
  rw[jn]at j0;have j1:=hid j0;clear j0 jn j2 hB;cases nb
  ·by_cases jq:t<R
   ·have s1:(t:Int)<(R:Int):=by omega
    go_wp2;go_roundw
    case rel=>exact⟨i+1,o2,by go_num,by omega,j7.out,j3.out,j8.out,by rw[j1.out];exact j4.out⟩
    exact jc.out
   have s1:¬(t:Int)<(R:Int):=by omega
   go_wp2;go_roundw
   case rel=>exact⟨i+1,o2,by go_num,by omega,j7.out,j3.out,j8.out,by rw[j1.out];exact j4.out⟩
   exact jc.out
  have s1:¬(t:Int)<(R:Int):=by
   intro h;exact jj ⟨by omega,rfl⟩
  go_wp2;go_roundw
  case rel=>exact⟨i+1,o2,by go_num,by omega,j7.out,j3.out,j8.out,by rw[j1.out];exact j4.out⟩
  exact jc.out
 have k1:¬(i:Int)<(l.length:Int):=by omega
 have hz:l.length-i=0:=by omega
 rw[hz]at j0;have j4:=hid j0;clear j0 j2 hz;go_wp2;go_ret;refine⟨_,rfl,qR _,?_,HF.out⟩;have:=j4.out;unfold fiI at this;rw[← this];exact HB.out
def rchF(R H:Nat)(q:List Q1):List Bool:=((reF R H q).getD 0 []).set 0 true
end Go.Proofs.YtbdpfmalabgmbaaGreat
