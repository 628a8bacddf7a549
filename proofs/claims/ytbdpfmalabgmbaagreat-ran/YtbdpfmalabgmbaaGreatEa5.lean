import Derived.Test.YtbdpfmalabgmbaaGreatGw7
namespace Go.Proofs.YtbdpfmalabgmbaaGreat
open Go.RowKit
set_option maxRecDepth 99999
set_option maxHeartbeats 0
set_option linter.all false
def Q83(ps:List Pr)(m:Itm):Option Sy:=(ps[m.p]?).bind fun q=>q.syms[m.d]?
def Q99(ps:List Pr)(l:List Int)(n:Nat)(m:Itm):Prop:=It ps l n m.p m.d m.f
structure Q3a(ps:List Pr)(l:List Int)(n:Nat)(L:List (List Itm)):Prop where
 len:L.length=n+1
 iff:∀(k:Nat) (X:List Itm),L[k]? = some X->∀m:Itm,m∈X↔Q99 ps l k m
structure Q9x(ps:List Pr)(L:List (List Itm))(n:Nat)(X:List Itm):Prop where
 pred:∀(m:Itm) (h:Int) (p':Nat) (q':Pr),m∈X->Q83 ps m=some ⟨true,h⟩->ps[p']? = some q'->q'.head=h->⟨p',0,n⟩∈X
 comp:∀(m:Itm) (q:Pr) (m':Itm) (Y:List Itm),m∈X->ps[m.p]? = some q->Q83 ps m=none->L[m.f]? = some Y->m'∈Y->Q83 ps m'=some ⟨true,q.head⟩->⟨m'.p,m'.d+1,m'.f⟩∈X
section
variable {ps:List Pr}{l:List Int}
theorem y2m{n p d f:Nat}(h:It ps l n p d f):f<=n/\∃q,ps[p]? = some q/\d<=q.syms.length:=by
 obtain⟨q,h1,h2,h3,_⟩:=h;exact⟨h3,q,h1,h2⟩
theorem z3r{m:Itm}{q:Pr}(h:ps[m.p]? = some q):Q83 ps m=q.syms[m.d]? := by unfold Q83;rw[h];rfl
theorem x83{n:Nat}{m:Itm}{q:Pr}(h:Q99 ps l n m)(hq:ps[m.p]? = some q):Q83 ps m=none↔m.d=q.syms.length:=by
 rw[z3r hq];obtain⟨_,q',e,hd⟩:=y2m h;rw[hq,qO]at e;subst e;constructor
 ·intro e;have:=List.getElem?_eq_none_iff.1 e;omega
 intro e;exact qN (by omega)
theorem y9h{N:Nat}{L:List (List Itm)}{X:List Itm}(hNl:N<=l.length)(hL:L.length=N)(hx:∀(k:Nat) (Y:List Itm),L[k]? = some Y->∀m:Itm,m∈Y↔Q99 ps l k m)(hs:∀m∈X,Q99 ps l N m)(hF:Q9x ps (L++[X]) N X)
  (h0:N=0->∀p q,ps[p]? = some q->q.head=0->⟨p,0,0⟩∈X)
  (h1:∀(n:Nat) (Y:List Itm) (m:Itm) (t:Int),N=n+1->L[n]? = some Y->m∈Y->Q83 ps m=some ⟨false,t⟩->l[n]? = some t->⟨m.p,m.d+1,m.f⟩∈X):Q3a ps l N (L++[X]):=by
 have j2:∀k,k<N->∃Y,L[k]? = some Y/\(L++[X])[k]? = some Y:=fun k hk=>by
  have:k<L.length:=by omega
  exact⟨L[k],qE this,by rw[qAl this,qE this]⟩
 have j0:(L++[X])[N]? = some X:=by rw[qAr (by omega),hL,qEm];rfl
 have j4:Clo ps l N (fun n p d f=>∃Y,(L++[X])[n]? = some Y/\(⟨p,d,f⟩:Itm)∈Y):=by
  have j3:∀n p d f,n<=N->(∃Y,(L++[X])[n]? = some Y/\(⟨p,d,f⟩:Itm)∈Y)->It ps l n p d f:=fun n p d f hn ⟨Y,y1,y2⟩=>by
   rcases qCk n N with q|q
   ·obtain⟨Z,z1,z2⟩:=j2 n q;rw[y1,qO]at z2;subst z2;exact(hx n Y z1 _).1 y2
   obtain rfl:n=N:=by omega
   rw[j0,qO]at y1;subst y1;exact hs _ y2
  have j1:∀n p d f,n<N->It ps l n p d f->∃Y,(L++[X])[n]? = some Y/\(⟨p,d,f⟩:Itm)∈Y:=fun n p d f hn h=>by
   obtain⟨Z,z1,z2⟩:=j2 n hn;exact⟨Z,z2,(hx n Z z1 ⟨p,d,f⟩).2 h⟩
  refine⟨fun p q hp hq=>?_,fun n p d f q t hn hS hp hsy ht=>?_,fun n p d f q p' q' hn hS hp hsy hp'=>?_,fun n p f q p' d' f' q' hn hS hp hS' hp' hsy=>?_⟩
  ·rcases Nat.eq_zero_or_pos N with e|e
   ·subst e;exact⟨X,j0,h0 rfl p q hp hq⟩
   exact j1 0 p 0 0 e (x3f hp hq)
  ·rcases qCk (n+1) N with q1|q1
   ·exact j1 _ _ _ _ q1 (x3h (j3 n p d f (by omega) hS) hp hsy ht)
   obtain⟨Y,y1,y2⟩:=hS;obtain⟨Z,z1,z2⟩:=j2 n hn;rw[y1,qO]at z2;subst z2;have e:n+1=N:=by omega
   rw[e];exact⟨X,j0,h1 n Y ⟨p,d,f⟩ t e.symm z1 y2 (by rw[z3r (m:=⟨p,d,f⟩) hp];exact hsy) ht⟩
  ·rcases qCk n N with q1|q1
   ·exact j1 _ _ _ _ q1 (x3g (j3 n p d f hn hS) (by omega) hp hsy hp' rfl)
   obtain rfl:n=N:=by omega
   obtain⟨Y,y1,y2⟩:=hS;rw[j0,qO]at y1;subst y1;exact⟨X,j0,hF.pred ⟨p,d,f⟩ q'.head p' q' y2 (by rw[z3r (m:=⟨p,d,f⟩) hp];exact hsy) hp' rfl⟩
  rcases qCk n N with q1|q1
  ·have hI:=j3 n p q.syms.length f hn hS;have:=(y2m hI).1;exact j1 _ _ _ _ q1 (x3e hI (by omega) hp (j3 f p' d' f' (by omega) hS') hp' hsy)
  obtain rfl:n=N:=by omega
  obtain⟨Y,y1,y2⟩:=hS;rw[j0,qO]at y1;subst y1;obtain⟨Y',w1,w2⟩:=hS';refine⟨X,j0,hF.comp ⟨p,q.syms.length,f⟩ q ⟨p',d',f'⟩ Y' y2 hp ?_ w1 w2 (by rw[z3r (m:=⟨p',d',f'⟩) hp'];exact hsy)⟩;rw[z3r (m:=⟨p,q.syms.length,f⟩) hp];exact qN (qR _)
 refine⟨by rw[qP,hL];rfl,fun k Y hk m=>?_⟩;have j5:k<=N:=by
  have:=(qS hk).1;rw[qP,qAj]at this;omega
 constructor
 ·intro hm;rcases qCk k N with q|q
  ·obtain⟨Z,z1,z2⟩:=j2 k q;rw[hk,qO]at z2;subst z2;exact(hx k Y z1 m).1 hm
  obtain rfl:k=N:=by omega
  rw[j0,qO]at hk;subst hk;exact hs m hm
 intro hm;obtain⟨Z,z1,z2⟩:=j4.all hNl j5 hm;rw[hk,qO]at z1;subst z1;exact z2
theorem Q3a.next{L:List (List Itm)}{X:List Itm}(h:Q3a ps l l.length L)(hX:L[l.length]? = some X){t:Nat}:(∃m∈X,Q83 ps m=some ⟨false,(t:Int)⟩)↔Vb ps l t:=by
 rw[x8c];constructor
 ·rintro⟨m,hm,hs⟩;have hI:=(h.iff _ X hX m).1 hm;obtain⟨_,q,hq,_⟩:=y2m hI;exact⟨m.p,q,m.d,m.f,hI,hq,by rw[← z3r hq];exact hs⟩
 rintro⟨p,q,d,f,hI,hq,hs⟩;exact⟨⟨p,d,f⟩,(h.iff _ X hX ⟨p,d,f⟩).2 hI,by rw[z3r (m:=⟨p,d,f⟩) hq];exact hs⟩
theorem Q3a.fin{L:List (List Itm)}{X:List Itm}(h:Q3a ps l l.length L)(hX:L[l.length]? = some X):(∃m∈X,∃q,ps[m.p]? = some q/\Q83 ps m=none/\m.f=0/\q.head=0)↔Ve ps l:=by
 rw[x8d];constructor
 ·rintro⟨m,hm,q,hq,hs,hf,hh⟩;have hI:=(h.iff _ X hX m).1 hm;have hd:=(x83 hI hq).1 hs;obtain⟨p,d,f⟩:=m;dsimp only at hf hd hq;subst hf hd;exact⟨p,q,hI,hq,hh⟩
 rintro⟨p,q,hI,hq,hh⟩;refine⟨⟨p,q.syms.length,0⟩,(h.iff _ X hX ⟨p,q.syms.length,0⟩).2 hI,q,hq,?_,rfl,hh⟩;rw[z3r (m:=⟨p,q.syms.length,0⟩) hq];exact qN (qR _)
theorem v0h{n p d f k:Nat}(hnk:n<=k):It ps (l.take k) n p d f↔It ps l n p d f:=by
 have e1:∀f,f<=n->(l.take k).take f=l.take f:=fun f hf=>by rw[List.take_take,qFe (by omega)]
 have e2:∀f,f<=n->((l.take k).drop f).take (n-f)=(l.drop f).take (n-f):=fun f hf=>by
  rw[List.drop_take,List.take_take,qFe (by omega)]
 unfold It;constructor
 ·rintro⟨q,h1,h2,h3,⟨B,b1,b2⟩,A,γ,a1,a2⟩;exact⟨q,h1,h2,h3,⟨B,b1,by rw[← e2 f h3];exact b2⟩,A,γ,a1,by rw[← e1 f h3];exact a2⟩
 rintro⟨q,h1,h2,h3,⟨B,b1,b2⟩,A,γ,a1,a2⟩;exact⟨q,h1,h2,h3,⟨B,b1,by rw[e2 f h3];exact b2⟩,A,γ,a1,by rw[e1 f h3];exact a2⟩
theorem Q3a.take{n k:Nat}{L:List (List Itm)}(h:Q3a ps l n L)(hnk:n<=k):Q3a ps (l.take k) n L:=by
 refine⟨h.len,fun j X hX m=>?_⟩;have hj:j<=n:=by
  have:=(qS hX).1;have:=h.len;omega
 rw[h.iff j X hX m];exact(v0h (by omega)).symm
end
theorem x8a{ps:List Pr}{R H:Nat}{hs:List Hd}(h:Tab ps R H hs){l:List Int}(hl:l.length<=60){rc:List Sy->Nat->Nat->Bool}(hrc:RcIs ps l R H rc){A:List St}(h1:Q1i ps A [⟨true,0⟩]=some [])(h2:Q0d A=l):Q8j ps rc 2000 0 0 l.length=Q1p ps A:=by
 have j0:Q0d A=(l.drop 0).take (l.length-0):=by rw[qEc,Nat.sub_zero,qAw];exact h2
 have hc:Ctx ps l [⟨true,0⟩] 0 l.length:=⟨[],[],[],rfl,by simp[Q0d],rfl,by simp[Q0d]⟩;have j1:0<H:=h.h0;have:=y7s (R:=R) (H:=H) h.g.tab h.hH hrc (v2x h l) 2000 0 0 l.length [0] A h1 (qBq _) (qR _) j0 hc (by simp) (fun v hv=>by
  rw[qM]at hv;subst hv;omega) (fun v hv=>by
  rw[qM]at hv;subst hv;exact⟨A,h1,j0,hc,qR _⟩) (by simp) (by simp only[qAj];omega)
 rw[this,y67]
def spJ(base:Int)(l:List Int)(D:List Mat)(c:Int)(frm:List Bool)(n:Nat):Nat->Nat->List Bool->List Bool
 |0,_,out=>out
 |f+1,i,out=>spJ base l D c frm n f (i+1) (if frm.getD i false=true then(if c<base then(if l[i]? = some c then out.set (i+1) true else out) else orI out ((D.getD (c-base).toNat []).getD i []) n n) else out)
def spF(base:Int)(l:List Int)(D:List Mat)(c:Int)(frm:List Bool)(n:Nat):List Bool:=spJ base l D c frm n n 0 (List.replicate n false)
def spP(base:Int)(l:List Int)(D:List Mat)(c:Int)(i j:Nat):Prop:=if c<base then l[i]? = some c/\j=i+1 else atM (D.getD (c-base).toNat []) i j=true
theorem x9b(base:Int)(l:List Int)(D:List Mat)(c:Int)(frm:List Bool)(n:Nat)(hn:n=l.length+1):∀(f i:Nat) (out:List Bool),out.length=n->(spJ base l D c frm n f i out).length=n/\∀j,j<n->((spJ base l D c frm n f i out).getD j false=true↔out.getD j false=true∨∃k,i<=k/\k<i+f/\frm.getD k false=true/\spP base l D c k j)
 |0,i,out,hl=>⟨hl,fun j hj=>⟨.inl,fun h=>by
   rcases h with h|⟨k,h1,h2,_⟩
   ·exact h
   omega⟩⟩
 |f+1,i,out,hl=>by
  unfold spJ;have hl2:(if frm.getD i false=true then(if c<base then(if l[i]? = some c then out.set (i+1) true else out) else orI out ((D.getD (c-base).toNat []).getD i []) n n) else out).length=n:=by
   split
   ·split
    ·split
     ·rw[qBr];exact hl
     exact hl
    exact z2s _ _ _ _
   exact hl
  obtain⟨r1,r2⟩:=x9b base l D c frm n hn f (i+1) _ hl2;refine⟨r1,fun j hj=>?_⟩;rw[r2 j hj];have j0:((if frm.getD i false=true then(if c<base then(if l[i]? = some c then out.set (i+1) true else out) else orI out ((D.getD (c-base).toNat []).getD i []) n n) else out).getD j false=true)↔(out.getD j false=true∨(frm.getD i false=true/\spP base l D c i j)):=by
   unfold spP;by_cases h1:frm.getD i false=true
   ·rw[qAb h1];by_cases h2:c<base
    ·rw[qAb h2,qAb h2];by_cases h3:l[i]? = some c
     ·have j1:=(qS h3).1;rw[qAb h3,z2a _ _ _ _ _ (by omega)];by_cases h4:j=i+1
      ·rw[qAb h4];exact⟨fun _=>.inr ⟨h1,h3,h4⟩,fun _=>rfl⟩
      rw[qAa h4];exact⟨.inl,fun q=>q.elim id (fun q=>absurd q.2.2 h4)⟩
     rw[qAa h3];exact⟨.inl,fun q=>q.elim id (fun q=>absurd q.2.1 h3)⟩
    rw[qAa h2,qAa h2,z9y hj,qAt];unfold atM;exact⟨fun q=>q.imp id (fun q=>⟨h1,q⟩),fun q=>q.imp id (fun q=>q.2)⟩
   rw[qAa h1];exact⟨.inl,fun q=>q.elim id (fun q=>absurd q.1 h1)⟩
  rw[j0];constructor
  ·rintro((h|⟨h1,h2⟩)|⟨k,h1,h2,h3⟩)
   ·exact .inl h
   ·exact .inr ⟨i,by omega,by omega,h1,h2⟩
   exact .inr ⟨k,by omega,by omega,h3⟩
  rintro(h|⟨k,h1,h2,h3⟩)
  ·exact .inl (.inl h)
  by_cases e:k=i
  ·subst e;exact .inl (.inr h3)
  exact .inr ⟨k,by omega,by omega,h3⟩
theorem x9a(base:Int)(l:List Int)(D:List Mat)(c:Int)(frm:List Bool){n:Nat}(hn:n=l.length+1):(spF base l D c frm n).length=n/\∀j,j<n->((spF base l D c frm n).getD j false=true↔∃k,k<n/\frm.getD k false=true/\spP base l D c k j):=by
 obtain⟨r1,r2⟩:=x9b base l D c frm n hn n 0 (List.replicate n false) (by simp);refine⟨r1,fun j hj=>?_⟩;unfold spF;rw[r2 j hj];constructor
 ·rintro(h|⟨k,_,h2,h3⟩)
  ·rw[qD]at h;simp[hj]at h
  exact⟨k,by omega,h3⟩
 rintro⟨k,h1,h2⟩;exact .inr ⟨k,by omega,by omega,h2⟩
def rhF(base:Int)(l:List Int)(D:List Mat)(n:Nat):List Int->List Bool->List Bool
 | [],s=>s
 |c::cs,s=>rhF base l D n cs (spF base l D c s n)
def rhP(base:Int)(l:List Int)(D:List Mat):List Int->Nat->Nat->Prop
 | [],i,j=>i=j
 |c::cs,i,j=>∃m,spP base l D c i m/\rhP base l D cs m j
def Wide(l:List Int)(D:List Mat):Prop:=∀h i j,atM (D.getD h []) i j=true->j<=l.length
theorem x9c{base:Int}{l:List Int}{D:List Mat}(hD:Wide l D){c:Int}{i j:Nat}(h:spP base l D c i j):j<=l.length:=by
 unfold spP at h;split at h
 ·have:=(qS h.1).1;omega
 exact hD _ _ _ h
theorem x86(base:Int)(l:List Int)(D:List Mat)(hD:Wide l D){n:Nat}(hn:n=l.length+1):∀(cs:List Int) (s:List Bool),s.length=n->(rhF base l D n cs s).length=n/\∀j,j<n->((rhF base l D n cs s).getD j false=true↔∃i,i<n/\s.getD i false=true/\rhP base l D cs i j)
 | [],s,hs=>⟨hs,fun j hj=>⟨fun h=>⟨j,hj,h,rfl⟩,fun⟨i,h1,h2,h3⟩=>by cases h3;exact h2⟩⟩
 |c::cs,s,hs=>by
  obtain⟨q1,q2⟩:=x9a base l D c s hn;obtain⟨r1,r2⟩:=x86 base l D hD hn cs (spF base l D c s n) q1;refine⟨r1,fun j hj=>?_⟩;unfold rhF;rw[r2 j hj];constructor
  ·rintro⟨m,h1,h2,h3⟩;obtain⟨k,k1,k2,k3⟩:=(q2 m h1).1 h2;exact⟨k,k1,k2,m,k3,h3⟩
  rintro⟨k,k1,k2,m,k3,h3⟩;have hm:m<n:=by have:=x9c hD k3;omega
  exact⟨m,hm,(q2 m hm).2 ⟨k,k1,k2,k3⟩,h3⟩
def rcF(base:Int)(l:List Int)(D:List Mat)(cs:List Int)(i:Nat):List Bool:=rhF base l D (l.length+1) cs ((List.replicate (l.length+1) false).set i true)
theorem x4t(base:Int)(l:List Int)(D:List Mat)(hD:Wide l D)(cs:List Int){i:Nat}(hi:i<=l.length):(rcF base l D cs i).length=l.length+1/\∀j,j<l.length+1->((rcF base l D cs i).getD j false=true↔rhP base l D cs i j):=by
 obtain⟨r1,r2⟩:=x86 base l D hD rfl cs ((List.replicate (l.length+1) false).set i true) (by simp);refine⟨r1,fun j hj=>?_⟩;unfold rcF;rw[r2 j hj];constructor
 ·rintro⟨k,k1,k2,k3⟩;rw[z2a _ _ _ _ _ (by simp;omega)]at k2;split at k2
  ·rename_i e;subst e;exact k3
  rw[qD]at k2;simp[k1]at k2
 intro h;refine⟨i,by omega,?_,h⟩;rw[z2a _ _ _ _ _ (by simp;omega),qAb rfl]
section
variable {ps:List Pr}{R H:Nat}
theorem x87{base:Int}{l:List Int}{D:List Mat}(hD:Wide l D):∀(cs:List Int) (i j:Nat),i<=l.length->rhP base l D cs i j->j<=l.length
 | [],i,j,hi,h=>by cases h;exact hi
 |c::cs,i,j,hi,⟨m,h1,h2⟩=>x87 hD cs m j (x9c hD h1) h2
theorem y27{l:List Int}{D:List Mat}:∀(ys:List Sy),(∀s∈ys,0<=s.num/\s.num<(if s.isH then(H:Int) else R))->∀i j,rhP (bs R) l D (ys.map (Q0w R)) i j↔RR l (fun h i j=>atM (D.getD h.toNat []) i j=true) ys i j
 | [],_,i,j=>Iff.rfl
 |y::ys,hv,i,j=>by
  have ih:=y27 (l:=l) (D:=D) ys (fun s hs=>hv s (by simp[hs]));have hy:=hv y (by simp);have j0:∀m,spP (bs R) l D (Q0w R y) i m↔Q9j l (fun h i j=>atM (D.getD h.toNat []) i j=true) y i m:=fun m=>by
   unfold spP Q9j Q0w bs;obtain⟨a,b⟩:=y;cases a
   ·simp only[qF,qAz]at hy ⊢;rw[qAb (by omega)]
   simp only[qBn]at hy ⊢;rw[qAa (by omega),show(R:Int)+1+b-((R:Int)+1)=b by omega]
  rw[qDl];constructor
  ·rintro⟨m,h1,h2⟩;exact⟨m,(j0 m).1 h1,(ih m j).1 h2⟩
  rintro⟨m,h1,h2⟩;exact⟨m,(j0 m).2 h1,(ih m j).2 h2⟩
def Q5c(ps:List Pr)(l:List Int)(D:List Mat):Prop:=∀(h i j:Nat),atM (D.getD h []) i j=true->Ds ps l [⟨true,(h:Int)⟩] i j
def Q91(R:Nat)(ps:List Pr)(l:List Int)(D:List Mat):Prop:=∀q∈ps,∀i j,i<=l.length->rhP (bs R) l D (q.syms.map (Q0w R)) i j->atM (D.getD q.head.toNat []) i j=true
theorem Q5c.wide{l:List Int}{D:List Mat}(h:Q5c ps l D):Wide l D:=fun k i j e=>(h k i j e).2.1
theorem y9k{l:List Int}{D:List Mat}(hT:Q1d ps R H)(hD:Q5c ps l D){ys:List Sy}(hv:Q3d R H ys){i j:Nat}(hi:i<=l.length)(h:rhP (bs R) l D (ys.map (Q0w R)) i j):Ds ps l ys i j:=by
 have h2:=(y27 (R:=R) (H:=H) ys hv i j).1 h;have j0:∀(ys:List Sy) (i j:Nat),Q3d R H ys->i<=l.length->RR l (fun h i j=>atM (D.getD h.toNat []) i j=true) ys i j->RR l (fun h i j=>0<=h/\atM (D.getD h.toNat []) i j=true) ys i j:=by
  intro ys;induction ys with
  |nil=>intro i j _ _ q;exact q
  |cons y ys ih =>
   intro i j hv hi ⟨m,q1,q2⟩;have hy:=hv y (by simp);have hm:Q9j l (fun h i j=>0<=h/\atM (D.getD h.toNat []) i j=true) y i m/\m<=l.length:=by
    unfold Q9j at q1 ⊢;split at q1
    ·rename_i e;rw[qAb e];exact⟨⟨hy.1,q1⟩,hD.wide _ _ _ q1⟩
    rename_i e;rw[qAa e];have:=(qS q1.1).1;exact⟨q1,by omega⟩
   exact⟨m,hm.1,ih m j (fun s hs=>hv s (by simp[hs])) hm.2 q2⟩
 refine y9f (D:=fun h i j=>0<=h/\atM (D.getD h.toNat []) i j=true) (fun h i j ⟨q1,q2⟩=>?_) ys i j hi (j0 ys i j hv hi h2);have:=hD h.toNat i j q2;rw[show((h.toNat:Nat):Int)=h by omega]at this;exact this
theorem v3a{l:List Int}{D:List Mat}(hT:Q1d ps R H)(hD:Q5c ps l D)(hc:Q91 R ps l D):RcIs ps l R H (fun ys i j=>(rcF (bs R) l D (ys.map (Q0w R)) i).getD j false):=by
 intro ys i j hv hi;obtain⟨r1,r2⟩:=x4t (bs R) l D hD.wide (ys.map (Q0w R)) hi;constructor
 ·intro e;have hj:j<l.length+1:=by
   rcases qCk j (l.length+1)with q|q
   ·exact q
   dsimp only at e;rw[qD,qN (by omega)]at e;cases e
  exact y9k hT hD hv hi ((r2 j hj).1 e)
 rintro⟨h1,h2,B,b1,b2⟩;refine(r2 j (by omega)).2 ((y27 (R:=R) (H:=H) ys hv i j).2 ?_);refine v1g (ps:=ps) (fun q hq i j hi hr=>?_) B.length B ys i j (qR _) b1 h1 h2 b2;exact hc q hq i j hi ((y27 (R:=R) (H:=H) q.syms (hT.sy q hq) i j).2 hr)
end
def RowD(w:World)(n:Nat)(da:Option Addr)(h i:Nat)(r:List Bool):Prop :=
 ∃gd gh ch g,da=some ⟨gd,0,none⟩/\w.cell? ⟨gd,h,none⟩=some (.slice (some ⟨gh,0,none⟩) n ch)/\w.cell? ⟨gh,i,none⟩=some (bsl g n)/\Q1x w g r/\r.length=n
theorem RowD.fresh{w w':World}{n:Nat}{da:Option Addr}{h i:Nat}{r:List Bool}(hr:RowD w n da h i r)(hf:Q0a w w'):RowD w' n da h i r:=by
 obtain⟨gd,gh,ch,g,h1,h2,h3,h4,h5⟩:=hr;exact⟨gd,gh,ch,g,h1,Q0h hf h2,Q0h hf h3,h4.fresh hf,h5⟩
structure SpR(w:World)(sb b R H:Nat)(q:List Q1)(ka:Option Addr)(kc:Nat)(l:List Int)(da:Option Addr)(dc:Nat)(D:List Mat):Prop where
 c0:w.cell? ⟨sb,0,none⟩=some (.pointer (some ⟨b,0,none⟩))
 c1:w.cell? ⟨sb,1,none⟩=some (.slice ka l.length kc)
 c2:w.cell? ⟨sb,2,none⟩=some (.slice da H dc)
 s:Q3q w b R H q
 k:Q1c w (.slice ka l.length kc) l
 rows:∀h i:Nat,h<H->i<=l.length->RowD w (l.length+1) da h i ((D.getD h []).getD i [])
theorem SpR.fresh{w w':World}{sb b R H:Nat}{q:List Q1}{ka:Option Addr}{kc:Nat}{l:List Int}{da:Option Addr}{dc:Nat}{D:List Mat}(h:SpR w sb b R H q ka kc l da dc D)(hf:Q0a w w'):SpR w' sb b R H q ka kc l da dc D :=
 ⟨Q0h hf h.c0,Q0h hf h.c1,Q0h hf h.c2,h.s.fresh hf,h.k.fresh hf,fun a i h1 h2=>(h.rows a i h1 h2).fresh hf⟩
theorem v3c(base:Int)(l:List Int)(D:List Mat)(c:Int)(frm:List Bool)(n i:Nat)(out:List Bool)(h:i<n):spJ base l D c frm n (n-i) i out=spJ base l D c frm n (n-(i+1)) (i+1) (if frm.getD i false=true then(if c<base then(if l[i]? = some c then out.set (i+1) true else out) else orI out ((D.getD (c-base).toNat []).getD i []) n n) else out):=by
 rw[show n-i=(n-(i+1))+1 by omega];rfl
def BRet(w:World)(n:Nat)(l:List Bool)(e:Ending)(w':World):Prop:=∃g,e=.returned (bsl g n)/\Q1x w' g l/\Q0a w w'
theorem x5d(w:World)(sb b R H:Nat)(q:List Q1)(ka:Option Addr)(kc:Nat)(l:List Int)(da:Option Addr)(dc:Nat)(D:List Mat)(hS:SpR w sb b R H q ka kc l da dc D)(hQ:QOk R H q)(hl:l.length<=60)(gf:Nat)(frm:List Bool)(hB:Q1x w gf frm)(hfl:frm.length=l.length+1)(c:Int)(hc:0<=c/\c<(R:Int)+1+H) :
  Calls Tryz.prog 115 #[.pointer (some ⟨sb,0,none⟩),.int .i64 c,bsl gf (l.length+1)] w fun e w'=>BRet w (l.length+1) (spF (bs R) l D c frm (l.length+1)) e w':=by
 have jt:=hQ.r8;have js:=hQ.h8;obtain⟨a0,c0,a1,c1,a2,c2,v3,v4,sv,hN⟩:=hS.s;have HS:=hid hS;have ja:=hid hN.k0;have HB:=hid hB;have j9:=hid hfl;have HC:=hid hc;have mk:=fun w=>run_make_row' (P:=Tryz.prog) 118 4 (.bool false) 1 qCw (by kernel_rfl) rfl .i64 .i64 (l.length+1) (by omega) (by omega) w;have UN:=hid (fun(W:World) (ga gb:Nat) (xs ys:List Bool) (h1:Q1x W ga xs) (h2:Q1x W gb ys) (h3:xs.length=l.length+1) (h4:ys.length=l.length+1)=>z23 W ga gb (l.length+1) xs ys h1 h2 h3 h4 (by omega));unfold spF;generalize hV:spJ (bs R) l D c frm (l.length+1) (l.length+1) 0 (List.replicate (l.length+1) false)=V;have HV:=hid hV;have jr:=hB.lt;generalize hn:l.length+1=n at mk UN HV j9 ⊢;have jg:n=l.length+1:=hn.symm;have j7:=hid jg;have jn:n<=61:=by omega
 clear hS hN hB hfl hc hV hn jg;go_enter Tryz.func115,Tryz.ntmps115
 go_wp2;go_loopw [7,8] (fun x7 x8 wr=>∃(i g:Nat) (out:List Bool),x8=.int .i64 i/\x7=bsl g n/\i<=n/\w.heap.size<=g/\Q1x wr g out/\out.length=n/\Q0a w wr/\spJ (bs R) l D c frm n (n-i) i out=V)
   (fun _ x _=>1001-(intOf x).toNat)
 case atStart =>
  refine⟨0,w.heap.size,List.replicate n false,rfl,rfl,by omega,qR _,?_,by simp,(mRf _ w).alloc _,HV.out⟩;rw[z03];exact z0a _ _
 obtain⟨i,g,out,rfl,rfl,hi,hg,hO,jh,j5,j0⟩:=hrel;have j4:=hid (Q19 (B:=1001) i (by omega));have HO:=hid hO;have j3:=hid jh;have HF:=hid j5;clear hO jh mk HV;by_cases jf:i<n
 ·have s1:(i:Int)<(n:Int):=by omega
  rw[v3c _ _ _ _ _ _ _ _ jf]at j0;have f1:=(HB.fresh j5).cell (j:=i) (by rw[j9.out];exact jf);have hS:=HS.fresh j5;have d0:=hS.c0;have d1:=hS.c1;have d2:=hS.c2;have BA:=hid (z1j wr b R a0 c0 (Q0h j5 ja.out) (by omega));generalize frm.getD i false=fb at j0 f1;cases fb
  ·rw[qAa (by simp)]at j0;have j1:=hid j0;clear j0 hS j5;go_wp2;go_roundw
   case rel=>exact⟨i+1,g,out,by go_num,rfl,by omega,hg,HO.out,j3.out,HF.out,j1.out⟩
   exact j4.out
  rw[qAb rfl]at j0;by_cases jc:c<bs R
  ·rw[qAb jc]at j0;by_cases je:i<l.length
   ·have s2:(i:Int)<(l.length:Int):=by omega
    obtain⟨ak,ck,ek,jq,j2⟩:=hS.k;rw[qI]at ek;obtain⟨rfl,_,rfl⟩:=ek;obtain⟨gk,ok,rfl,y1⟩:=j2 i je;rw[qE je]at j0;generalize l[i]=x at j0 y1;by_cases ji:x=c
    ·subst ji;rw[qAb rfl]at j0;have j1:=hid j0;have jo:=j7.out;have o1:=HO.cell (j:=i+1) (by rw[j3.out];omega);have o2:=HO.frozen (i+1);have s3:((i+1:Nat):Int)<(n:Int):=by omega
     have s4:(i:Int)+1<(n:Int):=by omega
     have jp:IntKind.i64.wrap ((i:Int)+1)=((i+1:Nat):Int):=by rw[qBv];omega
     have HP:=hid (HO.put (i+1) true);clear j0 hS j2 jo;go_wp2_with (first
      |(go_at_call 47;refine csm BA.out ?_))
     go_roundw
     case rel=>exact⟨i+1,g,_,by go_num,rfl,by omega,hg,HP.out,by simp[j3.out],HF.setCell (fun h=>absurd h (by dsimp only;omega)) _,j1.out⟩
     exact j4.out
    rw[qAa (by simp[ji])]at j0;have j1:=hid j0;clear j0 hS j2;go_wp2_with (first
     |(go_at_call 47;refine csm BA.out ?_))
    go_roundw
    case rel=>exact⟨i+1,g,out,by go_num,rfl,by omega,hg,HO.out,j3.out,HF.out,j1.out⟩
    exact j4.out
   have s2:¬(i:Int)<(l.length:Int):=by omega
   rw[qN (by omega),qAa (by simp)]at j0;have j1:=hid j0;clear j0 hS;go_wp2_with (first
    |(go_at_call 47;refine csm BA.out ?_))
   go_roundw
   case rel=>exact⟨i+1,g,out,by go_num,rfl,by omega,hg,HO.out,j3.out,HF.out,j1.out⟩
   exact j4.out
  rw[qAa jc]at j0;have jl:=HC.out;obtain⟨j,hj⟩:∃j:Nat,c-bs R=j:=⟨(c-bs R).toNat,by omega⟩;have jm:j<H:=by unfold bs at hj;omega
  rw[hj,qAo]at j0;obtain⟨gd,gh,ch,g2,e1,e2,e3,j8,j6⟩:=hS.rows j i jm (by have:=j7.out;omega);subst e1;generalize(D.getD j []).getD i []=dr at j0 j8 j6;rw[← j7.out]at e2 e3 j6;have s3:(j:Int)<(H:Int):=by omega
  have jp:IntKind.i64.wrap (c-bs R)=(j:Int):=by rw[qBv];unfold bs at hj ⊢;omega
  have j1:=hid j0;have UX:=hid (fun(W:World) (hW:Q0a wr W)=>UN.out W g g2 out dr (HO.fresh hW) (j8.fresh hW) j3.out j6);have BQ:=hid (fun(W:World) (hW:Q0a wr W)=>z1j W b R a0 c0 (Q0h (HF.trans hW) ja.out) (by omega));clear j0 hS j8 j6 hj jl;go_upto_region 9 with(first
   |(go_at_call 47;refine csm BA.out ?_))
  go_region_with (first
   |(go_at_call 47;refine(BQ.out _ (by first|exact(mRf _ wr).drew|exact mRf _ wr)).mono ?_;rintro e w'⟨rfl,hw⟩;rw[hw];clear hw)
   |(go_at_call 80;refine(UX.out _ (by first|exact(mRf _ wr).drew|exact mRf _ wr)).mono ?_;rintro e w3⟨rfl,jd,jb⟩;have jj:=hid jb;have jk:=hid (((mRf _ wr).drew).trans jd);clear jb jd))
  all_goals
   go_wp2;go_roundw
   case rel=>exact⟨i+1,_,_,by go_num,rfl,by omega,HF.size,jj.out,z2s _ _ _ _,HF.trans jk.out,j1.out⟩
   exact j4.out
 have s1:¬(i:Int)<(n:Int):=by omega
 have hz:n-i=0:=by omega
 rw[hz]at j0;have j1:=hid j0;clear j0 hz;go_wp2;go_ret;refine⟨g,rfl,?_,HF.out⟩;have:=j1.out;unfold spJ at this;rw[← this];exact HO.out
theorem x17(l:List Bool)(i:Nat)(b:Bool):(Q34 l).toArray.setIfInBounds i (.bool b)=(Q34 (l.set i b)).toArray:=by simp[Q34,qFr]
theorem x7w(base:Int)(l:List Int)(D:List Mat)(n:Nat)(cs:List Int)(k:Nat)(s:List Bool)(h:k<cs.length):rhF base l D n (cs.drop k) s=rhF base l D n (cs.drop (k+1)) (spF base l D cs[k] s n):=by
 rw[qC h];rfl
theorem y3d(base:Int)(l:List Int)(D:List Mat)(c:Int)(frm:List Bool):(spF base l D c frm (l.length+1)).length=l.length+1:=(x9a base l D c frm rfl).1
theorem z95(w:World)(sb b R H:Nat)(q:List Q1)(ka:Option Addr)(kc:Nat)(l:List Int)(da:Option Addr)(dc:Nat)(D:List Mat)(hS:SpR w sb b R H q ka kc l da dc D)(hQ:QOk R H q)(hl:l.length<=60)(v:Value)(cs:List Int)(hv:Q1c w v cs)(hcl:cs.length<=1000)(hcs:∀c∈cs,0<=c/\c<(R:Int)+1+H)(i:Nat)(hi:i<=l.length) :
  Calls Tryz.prog 86 #[.pointer (some ⟨sb,0,none⟩),v,.int .i64 i] w fun e w'=>BRet w (l.length+1) (rcF (bs R) l D cs i) e w':=by
 obtain⟨ao,cap,rfl,jh,j1⟩:=hv;have ST:=hid (fun(W:World) (hW:Q0a w W) (gf:Nat) (frm:List Bool) (h1:Q1x W gf frm) (h2:frm.length=l.length+1) (c:Int) (h3:0<=c/\c<(R:Int)+1+H)=>x5d W sb b R H q ka kc l da dc D (hS.fresh hW) hQ hl gf frm h1 h2 c h3);have HC:=hid j1;have jb:=hid hcs;have d1:=hS.c1;have mk:=fun w=>run_make_row' (P:=Tryz.prog) 118 4 (.bool false) 1 qCw (by kernel_rfl) rfl .i64 .i64 (l.length+1) (by omega) (by omega) w;have SL:=hid (fun c s=>y3d (bs R) l D c s);unfold rcF;generalize hV:rhF (bs R) l D (l.length+1) cs ((List.replicate (l.length+1) false).set i true)=V;have HV:=hid hV;have jj:IntKind.i64.wrap ((l.length:Int)+1)=((l.length+1:Nat):Int):=by rw[qBv];omega
 have j3:Q1x (w.alloc (.cells (madeCells #[.bool false] (l.length+1)) 4)) w.heap.size (List.replicate (l.length+1) false):=by rw[z03];exact z0a _ _
 have b1:=j3.cell (j:=i) (by simp;omega);have b2:=j3.frozen i;generalize hn:l.length+1=n at mk ST SL HV jj b1 b2 ⊢;have s0:(i:Int)<(n:Int):=by omega
 have ji:n<=61:=by omega
 clear j1 hcs hV hS hQ j3 hn;go_enter Tryz.func86,Tryz.ntmps86
 go_wp2;go_loopw [7,8] (fun x7 x8 wr=>∃(k g:Nat) (s:List Bool),x8=.int .i64 k/\x7=bsl g n/\k<=cs.length/\Q1x wr g s/\s.length=n/\Q0a w wr/\rhF (bs R) l D n (cs.drop k) s=V)
   (fun _ x _=>1001-(intOf x).toNat)
 case atStart=>exact⟨0,w.heap.size,_,rfl,rfl,by omega,by rw[z03,x17];exact z0a _ _,by simp,(mRf _ w).alloc _,HV.out⟩
 obtain⟨k,g,s,rfl,rfl,hk,hB,j9,j4,j0⟩:=hrel;have jd:=hid (Q19 (B:=1001) k (by omega));have HB:=hid hB;have HF:=hid j4;have je:=hid j9;clear hB j9 mk HV b1 b2;by_cases j5:k<cs.length
 ·have s1:(k:Int)<(cs.length:Int):=by omega
  rw[x7w _ _ _ _ _ _ _ j5]at j0;obtain⟨g1,o1,rfl,y1⟩:=HC.out k j5;have y2:=Q0h j4 y1;have j7:=jb.out cs[k] (qG j5);generalize cs[k]=c at j0 y1 y2 j7;have j2:=hid j0;have jg:=hid (ST.out wr j4 g s HB.out je.out c j7);have jf:=hid (SL.out c s);clear j0 y1;go_wp2_with (first
   |(go_at_call 115;refine(jg.out).mono ?_;rintro e w3⟨g3,rfl,j6,j8⟩;have ja:=hid j6;have jc:=hid j8;clear j6 j8))
  go_roundw
  case rel=>exact⟨k+1,g3,_,by go_num,rfl,by omega,ja.out,jf.out,HF.trans jc.out,j2.out⟩
  exact jd.out
 have s1:¬(k:Int)<(cs.length:Int):=by omega
 rw[qAp (by omega)]at j0;have j2:=hid j0;clear j0;go_wp2;go_ret;refine⟨g,rfl,?_,HF.out⟩;have:=j2.out;unfold rhF at this;rw[← this];exact HB.out
def Q9k(f:Nat->Nat):Nat->Nat
 |0=>0
 |n+1=>Q9k f n+f n
theorem z3z{f g:Nat->Nat}:∀{n:Nat},(∀i,i<n->f i<=g i)->Q9k f n<=Q9k g n
 |0,_=>qR _
 |n+1,h=>Nat.add_le_add (z3z fun i hi=>h i (by omega)) (h n (by omega))
theorem y7p{f g:Nat->Nat}{n:Nat}(h:∀i,i<n->f i=g i):Q9k f n=Q9k g n :=
 Nat.le_antisymm (z3z fun i hi=>by rw[h i hi];exact qR _) (z3z fun i hi=>by rw[h i hi];exact qR _)
theorem y3f{f g:Nat->Nat}:∀{n:Nat},(∀i,i<n->f i<=g i)->(∃i,i<n/\f i<g i)->Q9k f n<Q9k g n
 |0,_,⟨i,h,_⟩=>absurd h (by omega)
 |n+1,h,⟨i,hi,hl⟩=>by
  have h1:=z3z fun i (hi:i<n)=>h i (by omega);have h2:=h n (by omega);unfold Q9k;by_cases e:i=n
  ·subst e;omega
  have:=y3f (n:=n) (fun i hi=>h i (by omega)) ⟨i,by omega,hl⟩;omega
theorem y3e{f:Nat->Nat}{B:Nat}:∀{n:Nat},(∀i,i<n->f i<=B)->Q9k f n<=n*B
 |0,_=>by simp[Q9k]
 |n+1,h=>by
  have h1:=y3e fun i (hi:i<n)=>h i (by omega);have h2:=h n (by omega);unfold Q9k;rw[Nat.succ_mul];omega
def Q9o(H n:Nat)(D:List Mat):Nat:=Q9k (fun h=>Q9k (fun i=>Q9k (fun j=>(atM (D.getD h []) i j).toNat) n) n) H
def cntW(us:List Nat)(n:Nat)(w:World):Nat:=Q9k (fun h=>Q9k (fun i=>Q9k (fun j=>match w.cell? ⟨us.getD h 0,i,none⟩with
 |some (.slice (some a) _ _)=>(match w.cell? ⟨a.block,j,none⟩with
  |some (.bool true)=>1
  |_=>0)
 |_=>0) n) n) us.length
def Q97(D:List Mat)(h i:Nat)(r:List Bool):List Mat:=D.set h ((D.getD h []).set i r)
theorem z14{α:Type}(l:List α)(i j:Nat)(a d:α)(h:i<l.length):(l.set i a).getD j d=if j=i then a else l.getD j d:=by
 rw[qD,qCs,qD];by_cases e:i=j
 ·subst e;simp[h]
 rw[qAa e,qAa (fun x=>e x.symm)]
theorem x4k{D:List Mat}{h i:Nat}{r:List Bool}(hh:h<D.length)(hi:i<(D.getD h []).length)(h' i':Nat):((Q97 D h i r).getD h' []).getD i' []=if h'=h/\i'=i then r else(D.getD h' []).getD i' []:=by
 unfold Q97;rw[z14 _ _ _ _ _ hh];by_cases e:h'=h
 ·subst e;rw[qAb rfl,z14 _ _ _ _ _ hi];simp
 rw[qAa e,qAa (fun x=>e x.1)]
theorem x4l{D:List Mat}{h i:Nat}(hh:h<D.length)(hi:i<(D.getD h []).length):Q97 D h i ((D.getD h []).getD i [])=D:=by
 unfold Q97;have e:(D.getD h []).set i ((D.getD h []).getD i [])=D.getD h []:=by
  apply qEd;intro k;rw[qCs];by_cases e:i=k
  ·subst e;rw[qAb rfl,qAb hi,qD,qE hi];rfl
  rw[qAa e]
 rw[e];apply qEd;intro k;rw[qCs];by_cases e:h=k
 ·subst e;rw[qAb rfl,qAb hh,qD,qE hh];rfl
 rw[qAa e]
theorem y64{xs ys:List Bool}{n:Nat}:moI xs ys n=true↔∃j,j<n/\ys.getD j false=true/\xs.getD j false=false:=by
 unfold moI;rw[qBb];constructor
 ·rintro⟨j,h1,h2⟩;rw[List.mem_range]at h1;simp at h2;exact⟨j,h1,by simpa using h2.1,by simpa using h2.2⟩
 rintro⟨j,h1,h2,h3⟩;exact⟨j,List.mem_range.2 h1,by rw[h2,h3];rfl⟩
theorem x69{xs ys:List Bool}{n:Nat}(hl:xs.length=n)(h:moI xs ys n=false):orI xs ys n n=xs:=by
 apply qEu
 ·rw[z2s,hl]
 intro j h1 h2;have hj:j<n:=by rw[z2s]at h1;exact h1
 have e1:(orI xs ys n n).getD j false=xs.getD j false:=by
  rw[z9y hj];cases hx:xs.getD j false
  ·cases hy:ys.getD j false
   ·rfl
   have:=y64.2 ⟨j,hj,hy,hx⟩;rw[h]at this;cases this
  rfl
 rw[qD,qE h1,qD,qE h2]at e1;exact e1
section
variable {D:List Mat}{H n h i:Nat}{ys:List Bool}
theorem x91(hD:D.length=H)(hh:h<H)(hi:i<n)(hr:(D.getD h []).length=n):Q9o H n D<=Q9o H n (Q97 D h i (orI ((D.getD h []).getD i []) ys n n))/\(moI ((D.getD h []).getD i []) ys n=true->Q9o H n D<Q9o H n (Q97 D h i (orI ((D.getD h []).getD i []) ys n n))):=by
 have j0:∀h' i' j,j<n->(atM (D.getD h' []) i' j).toNat<=(atM ((Q97 D h i (orI ((D.getD h []).getD i []) ys n n)).getD h' []) i' j).toNat:=fun h' i' j hj=>by
  unfold atM;rw[x4k (by omega) (by omega)];split
  ·rename_i e;rw[e.1,e.2,z9y hj];cases ((D.getD h []).getD i []).getD j false<;>simp
  exact qR _
 refine⟨z3z fun h' _=>z3z fun i' _=>z3z fun j hj=>j0 h' i' j hj,fun hm=>?_⟩;obtain⟨j,hj,h1,h2⟩:=y64.1 hm;refine y3f (fun h' _=>z3z fun i' _=>z3z fun j hj=>j0 h' i' j hj) ⟨h,hh,y3f (fun i' _=>z3z fun j hj=>j0 h i' j hj) ⟨i,hi,y3f (fun j hj=>j0 h i j hj) ⟨j,hj,?_⟩⟩⟩;unfold atM;rw[x4k (by omega) (by omega),qAb ⟨rfl,rfl⟩,z9y hj,h1,h2];decide
theorem v11:Q9o H n D<=H*(n*(n*1)):=y3e fun _ _=>y3e fun _ _=>y3e fun j _=>by cases atM _ _ j<;>simp
end
def W0l(w:World)(n u:Nat)(M:Mat):Prop:=M.length=n/\∃cur,w.heap[u]? = some (.cells cur 118 (0,0))/\∀i,i<n->∃g,cur[i]? = some (bsl g n)/\Q1x w g (M.getD i [])/\(M.getD i []).length=n
theorem W0l.fresh{w w':World}{n u:Nat}{M:Mat}(h:W0l w n u M)(hf:Q0a w w'):W0l w' n u M:=by
 obtain⟨h0,j0,h1,h2⟩:=h;refine⟨h0,j0,hf.at h1 id,fun i hi=>?_⟩;obtain⟨g,g1,g2,g3⟩:=h2 i hi;exact⟨g,g1,g2.fresh hf,g3⟩
theorem x1e{w:World}{a b:Nat}{c1 c2:Array Value}{e1 e2:TypeId}{f1 f2:Nat × Nat}(h1:w.heap[a]? = some (.cells c1 e1 f1))(h2:w.heap[b]? = some (.cells c2 e2 f2))(he:e1≠e2):a≠b:=fun e=>by
 subst e;rw[h1]at h2;injection h2 with h2;injection h2 with _ h3;exact he h3
theorem z2z{w:World}{B k n:Nat}{e:TypeId}{v:Value}{xs:List Value}(h:w.ownsRow B e k v n xs){g:Nat}(hg:v.ownBlock=some g):∃cur,w.heap[g]? = some (.cells cur e (0,0)):=by
 obtain⟨h1,h2⟩:=h;rcases h2 with⟨q,_⟩|⟨g',cp,cur,q,_,j0,_⟩
 ·subst q;cases hg
 subst q;cases hg;exact⟨cur,j0⟩
theorem W0l.kept{w w':World}{n u:Nat}{M:Mat}(h:W0l w n u M)(hu:w'.heap[u]? = w.heap[u]?)(hb:∀(g:Nat) (c:Array Value),w.heap[g]? = some (.cells c 4 (0,0))->w'.heap[g]? = w.heap[g]?):W0l w' n u M:=by
 obtain⟨h0,j0,h1,h2⟩:=h;refine⟨h0,j0,by rw[hu];exact h1,fun i hi=>?_⟩;obtain⟨g,g1,g2,g3⟩:=h2 i hi;refine⟨g,g1,?_,g3⟩;unfold Q1x at g2 ⊢;rw[hb g _ g2];exact g2
structure DAt(w0 w:World)(sb b:Nat)(vk dv:Value)(n:Nat)(us:List (Nat × Nat))(D:List Mat):Prop where
 fr:Q0a w0 w
 c:w.heap[sb]? = some (.cells #[.pointer (some ⟨b,0,none⟩),vk,dv] 185 (0,0))
 sB:w0.heap.size<=sb
 own:w.ownsRow w0.heap.size 117 1 dv us.length (us.map fun u=>.slice (some ⟨u.1,0,none⟩) n u.2)
 len:us.length=D.length
 rows:∀(k:Nat) (u:Nat × Nat),us[k]? = some u->w0.heap.size<=u.1/\W0l w n u.1 (D.getD k [])
 inj:∀(j k:Nat) (u v:Nat × Nat),us[j]? = some u->us[k]? = some v->u.1=v.1->j=k
section
variable {w0 w w' W w2:World}{sb b n:Nat}{vk dv dv':Value}{us:List (Nat × Nat)}{D:List Mat}
theorem DAt.fresh(h:DAt w0 w sb b vk dv n us D)(hf:Q0a w w'):DAt w0 w' sb b vk dv n us D :=
 ⟨h.fr.trans hf,hf.at h.c id,h.sB,z0d h.own (fun g hg=>hf.block g (h.own.lt g hg).2 id),h.len,fun k u hu=>⟨(h.rows k u hu).1,(h.rows k u hu).2.fresh hf⟩,h.inj⟩
theorem DAt.push{u cap:Nat}{M:Mat}(h:DAt w0 w sb b vk dv n us D)(hf:Q0a w W)(hu:w.heap.size<=u)(hR:W0l W n u M) (ho:w2.ownsRow w0.heap.size 117 1 dv' (us.length+1) ((us.map fun u=>.slice (some ⟨u.1,0,none⟩) n u.2)++[.slice (some ⟨u,0,none⟩) n cap])) (hg:W.grownBy w2 dv.ownBlock) (hb:∀k,dv'.ownBlock=some k->dv.ownBlock=some k∨W.heap.size<=k) :
  DAt w0 (w2.setCell ⟨sb,2,none⟩ dv') sb b vk dv' n (us++[(u,cap)]) (D++[M]):=by
 have hW:=h.fresh hf;have keep:∀(x:Nat) (c:Array Value) (e:TypeId) (f:Nat × Nat),W.heap[x]? = some (.cells c e f)->e≠117->w2.heap[x]? = W.heap[x]? := fun x c e f hx he=>hg.block x (z0j hx) (fun q=>by
  obtain⟨j0,hc⟩:=z2z hW.own q.symm;exact x1e hx hc he rfl)
 have j1:w2.heap[sb]? = some (.cells #[.pointer (some ⟨b,0,none⟩),vk,dv] 185 (0,0)):=by rw[keep sb _ _ _ hW.c (by decide)];exact hW.c
 have j2:∀(x:Nat) (c:Array Value) (e:TypeId) (f:Nat × Nat),W.heap[x]? = some (.cells c e f)->e≠117->e≠185->(w2.setCell ⟨sb,2,none⟩ dv').heap[x]? = W.heap[x]? := fun x c e f hx h1 h2=>by
  rw[heap_setCell_other _ (show x≠sb from x1e hx hW.c h2)];exact keep x c e f hx h1
 have kr:∀(u:Nat) (M:Mat),W0l W n u M->W0l (w2.setCell ⟨sb,2,none⟩ dv') n u M:=fun u M hr=>by
  obtain⟨h0,j0,h1,h2⟩:=id hr;exact hr.kept (j2 u _ _ _ h1 (by decide) (by decide)) (fun g c hg=>j2 g _ _ _ hg (by decide) (by decide))
 have j3:=h.fr.size;have j4:=hf.size;have F:Q0a w0 w2:=Mod.grown (S:=fun _=>False) (h.fr.trans hf) hg (fun k hk hlt=>by have:=(h.own.lt k hk).1;omega);have lt:∀(k:Nat) (x:Nat × Nat),us[k]? = some x->x.1<w.heap.size:=fun k x hx=>by
  obtain⟨_,_,j0,h1,_⟩:=h.rows k x hx;exact z0j h1
 refine⟨F.setCell (p:=⟨sb,2,none⟩) (fun hlt=>absurd hlt (by have:=h.sB;dsimp only;omega)) _,?_,h.sB,?_,by simp[h.len],fun k x hx=>?_,fun j k x y hx hy e=>?_⟩
 ·rw[zhs j1 2];rfl
 ·rw[qP,qBp];exact z0d ho (fun g e=>by
   refine heap_setCell_other _ (show g≠sb from ?_);obtain⟨j0,hc⟩:=z2z ho e;exact x1e hc j1 (by decide))
 ·rcases qCk k us.length with q|q
  ·rw[qAl q]at hx;have hr:=hW.rows k x hx;refine⟨hr.1,?_⟩;rw[qD,qAl (by rw[← h.len];exact q),← qD];exact kr _ _ hr.2
  rw[qAr q]at hx;have e:k=us.length:=by
   have:=(qS hx).1;simp at this;omega
  subst e;simp at hx;subst hx;refine⟨by dsimp only;omega,?_⟩;rw[qD,h.len,qAr (qR _)];simp;exact kr _ _ hR
 rcases qCk j us.length with q|q<;>rcases qCk k us.length with r|r
 ·rw[qAl q]at hx;rw[qAl r]at hy;exact h.inj j k x y hx hy e
 ·rw[qAl q]at hx;rw[qAr r]at hy;have:=lt j x hx;have hk:=(qS hy).1;simp at hk;rw[show k-us.length=0 by omega]at hy;simp at hy;subst hy;dsimp only at e;omega
 ·rw[qAr q]at hx;rw[qAl r]at hy;have:=lt k y hy;have hk:=(qS hx).1;simp at hk;rw[show j-us.length=0 by omega]at hx;simp at hx;subst hx;dsimp only at e;omega
 have h1:=(qS hx).1;have h2:=(qS hy).1;simp at h1 h2;omega
theorem DAt.set(h:DAt w0 w sb b vk dv n us D){k i g:Nat}{u:Nat × Nat}{r:List Bool}(hu:us[k]? = some u)(hi:i<n)(hg:Q1x w g r)(hr:r.length=n):DAt w0 (w.setCell ⟨u.1,i,none⟩ (bsl g n)) sb b vk dv n us (Q97 D k i r):=by
 obtain⟨hB,h0,j4,h1,h2⟩:=h.rows k u hu;have j0:k<D.length:=by rw[← h.len];exact(qS hu).1
 have keep:∀(x:Nat) (c:Array Value) (e:TypeId) (f:Nat × Nat),w.heap[x]? = some (.cells c e f)->e≠118->(w.setCell ⟨u.1,i,none⟩ (bsl g n)).heap[x]? = w.heap[x]? := fun x c e f hx he=>heap_setCell_other _ (show x≠u.1 from x1e hx h1 he);refine⟨h.fr.setCell (p:=⟨u.1,i,none⟩) (fun hlt=>absurd hlt (by dsimp only;omega)) _,?_,h.sB,?_,by unfold Q97;rw[qBr];exact h.len,fun k' u' hu'=>?_,h.inj⟩
 ·rw[keep sb _ _ _ h.c (by decide)];exact h.c
 ·refine z0d h.own (fun x e=>?_);obtain⟨c,hc⟩:=z2z h.own e;exact keep x _ _ _ hc (by decide)
 obtain⟨j1,j2⟩:=h.rows k' u' hu';refine⟨j1,?_⟩;by_cases e:k'=k
 ·subst e;rw[hu]at hu';injection hu' with hu';subst hu';unfold Q97;rw[z14 _ _ _ _ _ j0,qAb rfl];refine⟨by rw[qBr];exact h0,_,zhs h1 i (bsl g n),fun i' hi'=>?_⟩;obtain⟨g',g1,g2,g3⟩:=h2 i' hi';by_cases e:i'=i
  ·subst e;have j3:=(Array.getElem?_eq_some_iff.1 g1).1;refine⟨g,by simp[j3],?_,?_⟩
   ·rw[z14 _ _ _ _ _ (by omega),qAb rfl];unfold Q1x at hg ⊢;rw[keep g _ _ _ hg (by decide)];exact hg
   rw[z14 _ _ _ _ _ (by omega),qAb rfl];exact hr
  refine⟨g',by rw[Array.getElem?_setIfInBounds_ne (fun x=>e x.symm)];exact g1,?_,?_⟩
  ·rw[z14 _ _ _ _ _ (by omega),qAa e];unfold Q1x at g2 ⊢;rw[keep g' _ _ _ g2 (by decide)];exact g2
  rw[z14 _ _ _ _ _ (by omega),qAa e];exact g3
 unfold Q97;rw[z14 _ _ _ _ _ j0,qAa e];exact j2.kept (heap_setCell_other _ (fun x=>e (h.inj k' k u' u hu' hu x))) (fun g c hg=>keep g _ _ _ hg (by decide))
theorem DAt.rowD{da:Option Addr}{m dc:Nat}(h:DAt w0 w sb b vk (.slice da m dc) n us D){k i:Nat}(hk:k<us.length)(hi:i<n):RowD w n da k i ((D.getD k []).getD i [])/\∃gd u g,da=some ⟨gd,0,none⟩/\us[k]? = some u/\w.cell? ⟨gd,k,none⟩=some (.slice (some ⟨u.1,0,none⟩) n u.2)/\w.cell? ⟨u.1,i,none⟩=some (bsl g n)/\w.frozen? ⟨u.1,i,none⟩=false/\Q1x w g ((D.getD k []).getD i []):=by
 obtain⟨gd,c',hv⟩:=Joins.ownsRow_form h.own (by omega);rw[qI]at hv;obtain⟨rfl,_,rfl⟩:=hv;have hu:us[k]? = some us[k]:=qE hk;obtain⟨hB,h0,j0,h1,h2⟩:=h.rows k _ hu;obtain⟨g,g1,g2,g3⟩:=h2 i hi;have e1:=h.own.cells (g:=gd) rfl k (.slice (some ⟨us[k].1,0,none⟩) n us[k].2) (by rw[qBt,hu];rfl);rw[qDd,qBy]at e1;have e2:w.cell? ⟨us[k].1,i,none⟩=some (bsl g n):=by rw[Q0b h1 i];exact g1
 exact⟨⟨gd,_,_,g,rfl,e1,e2,g2,g3⟩,gd,us[k],g,rfl,hu,e1,e2,Q0f h1 i,g2⟩
theorem DAt.cnt(h:DAt w0 w sb b vk dv n us D):cntW (us.map Prod.fst) n w=Q9o us.length n D:=by
 unfold cntW Q9o;rw[qAv];refine y7p fun k hk=>y7p fun i hi=>y7p fun j hj=>?_;have hu:us[k]? = some us[k]:=qE hk;obtain⟨hB,h0,j0,h1,h2⟩:=h.rows k _ hu;obtain⟨g,g1,g2,g3⟩:=h2 i hi;have eu:(us.map Prod.fst).getD k 0=us[k].1:=by rw[qD,qBt,hu];rfl
 rw[eu,Q0b h1 i,g1];show(match w.cell? ⟨g,j,none⟩with
  |some (.bool true)=>1
  |_=>0)=_
 rw[g2.cell (j:=j) (by omega)];unfold atM;cases ((D.getD k []).getD i []).getD j false<;>rfl
end
theorem Q1v.rowB{w:World}{B n:Nat}{v:Value}{gs:List Nat}{M:Mat}(h:Q1v w B n v gs M)(hs:Sq n M)(hn:0<n):∃u cap,v=.slice (some ⟨u,0,none⟩) n cap/\B<=u/\W0l w n u M:=by
 have j1:gs.length=n:=by rw[h.len,hs.len]
 obtain⟨u,cap,hv⟩:=Joins.ownsRow_form h.own (by omega);rw[j1]at hv;subst hv;obtain⟨j0,hc⟩:=z2z h.own (g:=u) rfl;refine⟨u,cap,rfl,(h.own.lt u rfl).1,hs.len,j0,hc,fun i hi=>?_⟩;have hg:gs[i]? = some gs[i]:=qE (by omega);refine⟨gs[i],?_,(h.blk i _ hg).2,hs.row i hi⟩;rw[← Q0b hc i];exact h.row hg
end Go.Proofs.YtbdpfmalabgmbaaGreat
