import Derived.Test.YtbdpfmalabgmbaaGreatRf4
namespace Go.Proofs.YtbdpfmalabgmbaaGreat
open Go.RowKit
set_option maxRecDepth 99999
set_option maxHeartbeats 0
set_option linter.all false
def Q5o(L:Q03)(t:ByteArray)(F:Nat->Prop)(j:Nat):Prop:=∃i,i<=j/\F i/\L (Q1n t i (j-i))
def On(fs:List Bool)(i:Nat):Prop:=fs[i]? = some true
structure Q6j(L:Q03)(t:ByteArray)(fs gs:List Bool):Prop where
 len:gs.length=t.size+1
 on:∀j,j<=t.size->(On gs j↔Q5o L t (On fs) j)
theorem On.lt{fs:List Bool}{i:Nat}(h:On fs i):i<fs.length:=(qS h).1
theorem z5f(t:ByteArray)(i a:Nat):∀b,Q1n t i (a+b)=Q1n t i a++Q1n t (i+a) b
 |0=>by simp[Q1n]
 |b+1=>by
  rw[← qDm,Q1n,z5f t i a b,Q1n,qAs];simp only[qDm]
theorem z3m(t:ByteArray)(i:Nat):∀k,i+k<=t.size->(Q1n t i k).length=k
 |0,_=>rfl
 |k+1,h=>by
  rw[Q1n,qEt (by omega),qP,z3m t i k (by omega)];rfl
theorem z7o{t:ByteArray}{i n:Nat}{u v:List Nat}(hn:i+n<=t.size)(h:Q1n t i n=u++v):∃a,a<=n/\u=Q1n t i a/\v=Q1n t (i+a) (n-a):=by
 have hl:=z3m t i n hn;rw[h,qP]at hl;refine⟨u.length,by omega,?_⟩;have e:=z5f t i u.length (n-u.length);rw[show u.length+(n-u.length)=n by omega,h]at e;have l1:=z3m t i u.length (by omega);exact List.append_inj e (by omega)
theorem x4u{A B:Q03}{t:ByteArray}{F:Nat->Prop}{j:Nat}(hj:j<=t.size):Q5o (Q03.cat A B) t F j↔Q5o B t (fun k=>k<=t.size/\Q5o A t F k) j:=by
 constructor
 ·rintro⟨i,hi,hf,u,v,he,ha,hb⟩;obtain⟨a,h1,h2,h3⟩:=z7o (by omega) he;refine⟨i+a,by omega,⟨by omega,i,by omega,hf,?_⟩,?_⟩
  ·rw[show i+a-i=a by omega,← h2];exact ha
  rw[show j-(i+a)=j-i-a by omega,← h3];exact hb
 rintro⟨k,hk,⟨_,i,hi,hf,ha⟩,hb⟩;refine⟨i,by omega,hf,_,_,?_,ha,hb⟩;have:=z5f t i (k-i) (j-k);rw[show k-i+(j-k)=j-i by omega,show i+(k-i)=k by omega]at this;exact this
theorem x4v{A B:Q03}(h:∀w,A w↔B w){t:ByteArray}{F:Nat->Prop}{j:Nat}:Q5o A t F j↔Q5o B t F j:=by
 constructor
 ·rintro⟨i,h1,h2,h3⟩;exact⟨i,h1,h2,(h _).1 h3⟩
 rintro⟨i,h1,h2,h3⟩;exact⟨i,h1,h2,(h _).2 h3⟩
theorem x0z{A:Q03}{t:ByteArray}{F G:Nat->Prop}(h:∀k,k<=t.size->(F k↔G k)){j:Nat}(hj:j<=t.size):Q5o A t F j↔Q5o A t G j:=by
 constructor
 ·rintro⟨i,h1,h2,h3⟩;exact⟨i,h1,(h i (by omega)).1 h2,h3⟩
 rintro⟨i,h1,h2,h3⟩;exact⟨i,h1,(h i (by omega)).2 h2,h3⟩
theorem Q6j.cat{A B:Q03}{t:ByteArray}{fs gs hs:List Bool}(h:Q6j A t fs gs)(k:Q6j B t gs hs):Q6j (Q03.cat A B) t fs hs:=by
 refine⟨k.len,fun j hj=>?_⟩;rw[k.on j hj,x4u hj];refine x0z (fun q hq=>?_) hj;rw[h.on q hq];exact⟨fun z=>⟨hq,z⟩,fun z=>z.2⟩
theorem Q6j.iff{A B:Q03}{t:ByteArray}{fs gs:List Bool}(h:Q6j A t fs gs)(e:∀w,A w↔B w):Q6j B t fs gs :=
 ⟨h.len,fun j hj=>by rw[h.on j hj];exact x4v e⟩
structure Un(xs bs cs:List Bool):Prop where
 len:cs.length=xs.length
 on:∀j,On cs j↔On xs j∨(j<xs.length/\On bs j)
theorem Q6j.alt{A B:Q03}{t:ByteArray}{fs gs hs cs:List Bool}(h:Q6j A t fs gs)(k:Q6j B t fs hs)(u:Un gs hs cs):Q6j (Q03.alt A B) t fs cs:=by
 refine⟨u.len.trans h.len,fun j hj=>?_⟩;rw[u.on,h.on j hj,k.on j hj];have hl:=h.len;constructor
 ·rintro(⟨i,h1,h2,h3⟩|⟨_,i,h1,h2,h3⟩)
  ·exact⟨i,h1,h2,.inl h3⟩
  exact⟨i,h1,h2,.inr h3⟩
 rintro⟨i,h1,h2,h3|h3⟩
 ·exact .inl ⟨i,h1,h2,h3⟩
 exact .inr ⟨by omega,i,h1,h2,h3⟩
theorem x2w{t:ByteArray}{fs gs:List Bool}(hl:gs.length=t.size+1)(h:∀j,¬On gs j):Q6j noL t fs gs :=
 ⟨hl,fun j hj=>⟨fun q=>(h j q).elim,fun⟨i,_,_,q⟩=>q.elim⟩⟩
def epsL:Q03:=fun w=>w=[]
def Q9q:List Q03->Q03
 | []=>epsL
 |A::As=>Q03.cat A (Q9q As)
theorem y8o{t:ByteArray}{fs:List Bool}(hl:fs.length=t.size+1):Q6j epsL t fs fs:=by
 refine⟨hl,fun j hj=>⟨fun h=>⟨j,qR _,h,by rw[qEm];rfl⟩,?_⟩⟩;rintro⟨i,h1,h2,h3⟩;have:(Q1n t i (j-i)).length=0:=by rw[show Q1n t i (j-i)=[] from h3];rfl
 rw[z3m t i (j-i) (by omega)]at this;rw[show j=i by omega];exact h2
theorem y6o(A:Q03)(w:List Nat):Q03.cat A epsL w↔A w:=by
 constructor
 ·rintro⟨u,v,rfl,h1,h2⟩;rw[show v=[] from h2,qBd];exact h1
 intro h;exact⟨w,[],by simp,h,rfl⟩
theorem y32(A B C:Q03)(w:List Nat):Q03.cat (Q03.cat A B) C w↔Q03.cat A (Q03.cat B C) w:=by
 constructor
 ·rintro⟨_,z,rfl,⟨u,v,rfl,h1,h2⟩,h3⟩;exact⟨u,v++z,by simp,h1,v,z,rfl,h2,h3⟩
 rintro⟨u,_,rfl,h1,v,z,rfl,h2,h3⟩;exact⟨u++v,z,by simp,⟨u,v,rfl,h1,h2⟩,h3⟩
theorem x90{A A' B B':Q03}(h:∀w,A w↔A' w)(k:∀w,B w↔B' w)(w:List Nat):Q03.cat A B w↔Q03.cat A' B' w:=by
 constructor
 ·rintro⟨u,v,e,h1,h2⟩;exact⟨u,v,e,(h u).1 h1,(k v).1 h2⟩
 rintro⟨u,v,e,h1,h2⟩;exact⟨u,v,e,(h u).2 h1,(k v).2 h2⟩
theorem y31:∀(As:List Q03) (A:Q03) (w:List Nat),Q9q (As++[A]) w↔Q03.cat (Q9q As) A w
 | [],A,w=>by
  show Q03.cat A epsL w↔Q03.cat epsL A w;rw[y6o];constructor
  ·intro h;exact⟨[],w,rfl,rfl,h⟩
  rintro⟨u,v,rfl,h1,h2⟩;rw[show u=[] from h1];exact h2
 |B::As,A,w=>by
  show Q03.cat B (Q9q (As++[A])) w↔Q03.cat (Q03.cat B (Q9q As)) A w;rw[y32];exact x90 (fun _=>Iff.rfl) (y31 As A) w
def Q5x(n m:Bool)(A:Q03):Q03:=fun w=>(n=true/\w=[])∨∃ws:List (List Nat),ws≠[]/\(∀u∈ws,A u)/\w=ws.flatten/\(m=false->ws.length=1)
theorem y8l(A:Q03)(w:List Nat):Q5x false false A w↔A w:=by
 constructor
 ·rintro(⟨h,_⟩|⟨ws,_,h1,h2,h3⟩)
  ·cases h
  obtain⟨u,rfl⟩:=List.length_eq_one_iff.1 (h3 rfl);rw[h2];simpa using h1 u (by simp)
 intro h;exact .inr ⟨[w],by simp,by simpa using h,by simp,fun _=>rfl⟩
theorem y4e{n m:Bool}{A:Q03}:∀(ws:List (List Nat)),(∀u∈ws,Q5x n m A u)->∃vs:List (List Nat),(∀u∈vs,A u)/\ws.flatten=vs.flatten/\(vs=[]->ws=[]∨n=true)/\(m=false->vs.length<=ws.length)
 | [],_=>⟨[],by simp,rfl,fun _=>.inl rfl,fun _=>by simp⟩
 |w::ws,h=>by
  obtain⟨vs,h1,h2,h3,h4⟩:=y4e ws (fun u hu=>h u (by simp[hu]));rcases h w (by simp)with⟨q1,q2⟩|⟨us,q1,q2,q3,q4⟩
  ·exact⟨vs,h1,by rw[List.flatten_cons,q2,h2,qCh],fun _=>.inr q1,fun e=>by have:=h4 e;simp only[qBk];omega⟩
  refine⟨us++vs,?_,by rw[List.flatten_cons,q3,h2,List.flatten_append],fun e=>?_,fun e=>?_⟩
  ·intro u hu;rcases qBs.1 hu with hu|hu
   ·exact q2 u hu
   exact h1 u hu
  ·exact absurd (List.append_eq_nil_iff.1 e).1 q1
  have:=h4 e;have:=q4 e;simp only[qP,qBk];omega
theorem v1e{A B:Q03}(h:∀w,A w↔B w)(c:Int)(w:List Nat):Q03.rep c A w↔Q03.rep c B w:=by
 constructor
 ·rintro⟨ws,h1,h2⟩;exact⟨ws,fun u hu=>(h u).1 (h1 u hu),h2⟩
 rintro⟨ws,h1,h2⟩;exact⟨ws,fun u hu=>(h u).2 (h1 u hu),h2⟩
theorem x7v{n m:Bool}{A:Q03}{c:Int}(hc:Q1t c=true)(w:List Nat):Q03.rep c (Q5x n m A) w↔Q5x (n||(c != 43)) (m||(c != 63)) A w:=by
 constructor
 ·rintro⟨ws,h1,h2,h3,h4⟩;obtain⟨vs,k1,k2,k3,k4⟩:=y4e ws h1;by_cases hv:vs=[]
  ·left;refine⟨?_,by rw[h2,k2,hv];rfl⟩;rcases k3 hv with e|e
   ·by_cases j0:c=43
    ·exact absurd e (h3 j0)
    have:(c != 43)=true:=by simpa using j0
    rw[this];simp
   rw[e];rfl
  right;refine⟨vs,hv,k1,by rw[h2,k2],fun e=>?_⟩;rw[qCb]at e;have j1:c=63:=by simpa using e.2
  have:=h4 j1;have:=k4 e.1;have:0<vs.length:=List.length_pos_iff.2 hv;omega
 rintro(⟨h1,h2⟩|⟨vs,h1,h2,h3,h4⟩)
 ·by_cases j0:c=43
  ·have hn:n=true:=by
    rw[j0]at h1;simpa using h1
   exact⟨[[]],by intro u hu;simp at hu;exact .inl ⟨hn,hu⟩,by simp[h2],fun _=>by simp,fun _=>by simp⟩
  exact⟨[],by simp,by simp[h2],fun e=>absurd e j0,fun _=>by simp⟩
 by_cases hm:m=true
 ·exact⟨[w],by intro u hu;simp at hu;subst hu;exact .inr ⟨vs,h1,h2,h3,fun e=>by rw[hm]at e;cases e⟩,by simp,fun _=>by simp,fun _=>by simp⟩
 by_cases j1:c=63
 ·have hl:=h4 (by rw[j1];simp;simpa using hm);exact⟨[w],by intro u hu;simp at hu;subst hu;exact .inr ⟨vs,h1,h2,h3,fun _=>hl⟩,by simp,fun _=>by simp,fun _=>by simp⟩
 exact⟨vs,by intro u hu;exact .inr ⟨[u],by simp,by simpa using h2 u hu,by simp,fun _=>rfl⟩,h3,fun _=>h1,fun e=>absurd e j1⟩
def Q8z(s:ByteArray):Nat->Nat->Bool × Bool->Bool × Bool
 |0,_,b=>b
 |f+1,i,b=>if i<s.size then Q8z s f (i+1) (b.1||(atB s i != 43),b.2||(atB s i != 63)) else b
theorem x3y(s:ByteArray)(f i:Nat)(b:Bool × Bool):Q8z s (f+1) i b=if i<s.size then Q8z s f (i+1) (b.1||(atB s i != 43),b.2||(atB s i != 63)) else b:=rfl
theorem z90{s:ByteArray}{A:Q03}:∀(f g:Nat) (x:Nat) (L:Q03) (b:Bool × Bool),(∀w,L w↔Q5x b.1 b.2 A w)->s.size+1<=f+x->s.size+1<=g+x->x<=s.size->(Q2g s f ⟨x,true,L⟩).next=s.size ->
  ∀w,(Q2g s f ⟨x,true,L⟩).lang w↔Q5x (Q8z s g x b).1 (Q8z s g x b).2 A w
 |0,g,x,L,b,hL,hf,hg,hx,hn=>by omega
 |f+1,0,x,L,b,hL,hf,hg,hx,hn=>by omega
 |f+1,g+1,x,L,b,hL,hf,hg,hx,hn=>by
  rw[z4a]at hn ⊢;rw[x3y];dsimp only at hn ⊢;rw[qBm]at hn ⊢;by_cases c:Q1t (atB s x)=true
  ·have hlt:=z0r (s:=s) (i:=(x:Int)) (z9u c);rw[qAb c]at hn ⊢;rw[qAb (by omega)];have e:((x:Nat):Int)+1=((x+1:Nat):Int):=by omega
   rw[e]at hn ⊢;refine z90 f g (x+1) _ _ (fun w=>?_) (by omega) (by omega) (by omega) hn;rw[v1e hL];exact x7v c w
  rw[qAa c]at hn ⊢;dsimp only at hn ⊢;have j0:x=s.size:=by omega
  rw[qAa (by omega)];exact hL
def Row(P:Int->LR):Int->List Q03->Int->Prop
 |x,[],y=>x=y
 |x,A::As,y=>(P x).ok=true/\(P x).lang=A/\Row P (P x).next As y
theorem Row.snoc{P:Int->LR}:∀{As:List Q03}{x y:Int},Row P x As y->(P y).ok=true->Row P x (As++[(P y).lang]) (P y).next
 | [],x,y,h,hk=>by
  have h':x=y:=h;subst h';exact⟨hk,rfl,rfl⟩
 |A::As,x,y,⟨h1,h2,h3⟩,hk=>⟨h1,h2,Row.snoc h3 hk⟩
section
variable {P:Int->LR}{s:ByteArray}
theorem z8s:∀(f:Nat) (x:Int) (L:Q03),(Q1o P s f ⟨x,true,L⟩).ok=true->∃As,Row P x As (Q1o P s f ⟨x,true,L⟩).next/\∀w,(Q1o P s f ⟨x,true,L⟩).lang w↔Q03.cat L (Q9q As) w
 |0,x,L,h=>⟨[],rfl,fun w=>(y6o L w).symm⟩
 |f+1,x,L,h=>by
  rw[z2m]at h ⊢;dsimp only at h ⊢;rw[qBm]at h ⊢;by_cases c:Q2v s x=true
  ·rw[qAb c]at h ⊢;cases hk:(P x).ok
   ·have q1:Q5z ⟨x,true,L⟩ (P x)=⟨(P x).next,false,noL⟩:=by unfold Q5z;rw[hk];rfl
    rw[q1,z1z P s _ _ rfl]at h;cases h
   have q1:Q5z ⟨x,true,L⟩ (P x)=⟨(P x).next,true,Q03.cat L (P x).lang⟩:=by unfold Q5z;rw[qAb hk]
   rw[q1]at h ⊢;obtain⟨As,h1,h2⟩:=z8s f (P x).next _ h;refine⟨(P x).lang::As,⟨hk,rfl,h1⟩,fun w=>?_⟩;rw[h2,y32];rfl
  rw[qAa c]at h ⊢;exact⟨[],rfl,fun w=>(y6o L w).symm⟩
theorem y05{x:Int}(h:(Q00 P s x).ok=true):∃As,As≠[]/\Row P x As (Q00 P s x).next/\∀w,(Q00 P s x).lang w↔Q9q As w:=by
 have hk:(P x).ok=true:=x18 h;unfold Q00 at h ⊢;rw[z2r hk]at h ⊢;obtain⟨As,h1,h2⟩:=z8s _ _ _ h;exact⟨(P x).lang::As,by simp,⟨hk,rfl,h1⟩,h2⟩
def Alts(P:Int->LR)(s:ByteArray):Int->List (List Q03)->Int->Prop
 |_,[],_=>False
 |x,B::Bs,y=>∃z,B≠[]/\Row P x B z/\((Bs=[]/\z=y)∨(atB s z=124/\Alts P s (z+1) Bs y))
theorem z7p:∀(f:Nat) (x:Int) (L:Q03),(Q04 (Q00 P s) s f ⟨x,true,L⟩).ok=true->∃Bs,((Bs=[]/\x=(Q04 (Q00 P s) s f ⟨x,true,L⟩).next)∨(atB s x=124/\Alts P s (x+1) Bs (Q04 (Q00 P s) s f ⟨x,true,L⟩).next)) /\
  ∀w,(Q04 (Q00 P s) s f ⟨x,true,L⟩).lang w↔L w∨∃B∈Bs,Q9q B w
 |0,x,L,h=>⟨[],.inl ⟨rfl,rfl⟩,fun w=>by simp[Q04]⟩
 |f+1,x,L,h=>by
  rw[z2x]at h ⊢;dsimp only at h ⊢;rw[qBm]at h ⊢;by_cases c:(atB s x==124)=true
  ·rw[qAb c]at h ⊢;have c124:atB s x=124:=by simpa using c
   cases hk:(Q00 P s (x+1)).ok
   ·have q1:Q10 ⟨x,true,L⟩ (Q00 P s (x+1))=⟨(Q00 P s (x+1)).next,false,noL⟩:=by unfold Q10;rw[hk];rfl
    rw[q1,z10 _ s _ _ rfl]at h;cases h
   have q1:Q10 ⟨x,true,L⟩ (Q00 P s (x+1))=⟨(Q00 P s (x+1)).next,true,Q03.alt L (Q00 P s (x+1)).lang⟩:=by unfold Q10;rw[qAb hk]
   rw[q1]at h ⊢;obtain⟨Bs,h1,h2⟩:=z7p f (Q00 P s (x+1)).next _ h;obtain⟨As,k1,k2,k3⟩:=y05 hk;refine⟨As::Bs,.inr ⟨c124,_,k1,k2,h1⟩,fun w=>?_⟩;rw[h2];unfold Q03.alt;rw[k3];simp only[qBu];constructor
   ·rintro((q|q)|⟨B,hB,q⟩)
    ·exact .inl q
    ·exact .inr ⟨As,.inl rfl,q⟩
    exact .inr ⟨B,.inr hB,q⟩
   rintro(q|⟨B,rfl|hB,q⟩)
   ·exact .inl (.inl q)
   ·exact .inl (.inr q)
   exact .inr ⟨B,hB,q⟩
  rw[qAa c];exact⟨[],.inl ⟨rfl,rfl⟩,fun w=>by simp⟩
theorem y6q{x:Int}(h:(Q25 (Q00 P s) s x).ok=true):∃Bs,Alts P s x Bs (Q25 (Q00 P s) s x).next/\∀w,(Q25 (Q00 P s) s x).lang w↔∃B∈Bs,Q9q B w:=by
 have hk:(Q00 P s x).ok=true:=x2d h;obtain⟨As,k1,k2,k3⟩:=y05 hk;unfold Q25 at h ⊢;rw[z2r hk]at h ⊢;obtain⟨Bs,h1,h2⟩:=z7p _ _ _ h;refine⟨As::Bs,⟨_,k1,k2,h1⟩,fun w=>?_⟩;rw[h2,k3];simp only[qBu];constructor
 ·rintro(q|⟨B,hB,q⟩)
  ·exact⟨As,.inl rfl,q⟩
  exact⟨B,.inr hB,q⟩
 rintro⟨B,rfl|hB,q⟩
 ·exact .inl q
 exact .inr ⟨B,hB,q⟩
end
theorem y7e{A:Q03}{t:ByteArray}{fs os ns:List Bool}(hl:os.length=t.size+1)(h1:∀j,j<=t.size->Q5o A t (On fs) j->On os j)(h2:∀j,On os j->j<=t.size->Q5o (Q5x false true A) t (On fs) j)
  (hn:Q6j A t os ns) (hno:∀j,On ns j->On os j):Q6j (Q5x false true A) t fs os:=by
 refine⟨hl,fun j hj=>⟨fun h=>h2 j h hj,?_⟩⟩;rintro⟨i,hi,hf,⟨h,_⟩|⟨ws,j3,j0,he,_⟩⟩
 ·cases h
 -- by the number of words
 have j4:∀(ws:List (List Nat)) (k:Nat),ws≠[]->(∀u∈ws,A u)->k<=j->(On fs k∨On os k)->Q1n t k (j-k)=ws.flatten->On os j:=by
  intro ws;induction ws with
  |nil=>intro k j3;exact absurd rfl j3
  |cons u ws ih =>
   intro k _ j0 hk j2 he;rw[List.flatten_cons]at he;obtain⟨a,q1,q2,q3⟩:=z7o (by omega) he;have hA:=j0 u (by simp);have j1:On os (k+a):=by
    have r:∀F:Nat->Prop,F k->Q5o A t F (k+a):=fun F hF=>⟨k,by omega,hF,by rw[show k+a-k=a by omega,← q2];exact hA⟩;rcases j2 with j2|j2
    ·exact h1 _ (by omega) (r _ j2)
    exact hno _ ((hn.on _ (by omega)).2 (r _ j2))
   by_cases hw:ws=[]
   ·rw[hw]at q3;have:=z3m t (k+a) (j-k-a) (by omega);rw[← q3]at this;simp at this;rw[show j=k+a by omega];exact j1
   exact ih (k+a) hw (fun u hu=>j0 u (by simp[hu])) (by omega) (.inr j1) (by rw[show j-(k+a)=j-k-a by omega];exact q3.symm)
 exact j4 ws i j3 j0 hi (.inl hf) he
theorem x7k{A:Q03}{t:ByteArray}{F:Nat->Prop}{j:Nat}(h:Q5o A t F j):Q5o (Q5x false true A) t F j:=by
 obtain⟨i,h1,h2,h3⟩:=h;exact⟨i,h1,h2,.inr ⟨[_],by simp,by simpa using h3,by simp,fun _=>rfl⟩⟩
theorem x4j{A:Q03}{t:ByteArray}{F:Nat->Prop}{j:Nat}(hj:j<=t.size)(h:Q5o A t (fun k=>Q5o (Q5x false true A) t F k) j):Q5o (Q5x false true A) t F j:=by
 obtain⟨k,h1,⟨i,k1,k2,⟨q,_⟩|⟨ws,q1,q2,q3,_⟩⟩,h3⟩:=h
 ·cases q
 refine⟨i,by omega,k2,.inr ⟨ws++[Q1n t k (j-k)],by simp,?_,?_,fun e=>by cases e⟩⟩
 ·intro u hu;rcases qBs.1 hu with hu|hu
  ·exact q2 u hu
  simp at hu;subst hu;exact h3
 have:=z5f t i (k-i) (j-k);rw[show k-i+(j-k)=j-i by omega,show i+(k-i)=k by omega]at this;rw[this,q3];simp
theorem y50{ws:List Int}(h:WOk ws){lo hi:Nat}(h1:lo<=hi)(h2:hi<256):WOk (Q2d ws lo hi)/\∀c,Q5y (Q2d ws lo hi) c=(Q5y ws c||decide (lo<=c/\c<=hi)):=by
 obtain⟨q1,q2⟩:=y3l h (lo:=lo) (hi+1-lo) (by omega);have e:Q2d ws lo hi=Q7f ws lo (hi+1-lo):=by
  unfold Q2d;congr 1;omega
 rw[e];refine⟨q1,fun c=>?_⟩;rw[z67 q1,q2,z67 h];congr 1;rw[qBc,qAu,qAu];omega
theorem y5e{a:ByteArray}{i:Int}(h0:0<=i)(h:(Q0n a i).2.2.2=true):(Q0n a i).1<=(Q0n a i).2.1:=by
 unfold Q0n at h ⊢;split
 ·rename_i e;rw[qAb e]at h;cases h
 rename_i e;rw[qAa e]at h;split
 ·exact Int.le_refl _
 rename_i e2;rw[qAa e2]at h;split
 ·rename_i e3;rw[qAb e3]at h;cases h
 rename_i e3;rw[qAa e3]at h;split
 ·rename_i e4;rw[qAb e4]at h;cases h
 rename_i e4;dsimp only;omega
theorem y1q{a:ByteArray}{i:Int}:∀(f:Nat) (next:Int) (ws:List Int),0<=next->(Q06 a i f next ws).2.2=true->next+1<=(Q06 a i f next ws).2.1
 |0,next,ws,_,h=>by simp[Q06]at h
 |f+1,next,ws,h0,h=>by
  rw[z3k]at h ⊢;by_cases c1:next=i∨atB a next≠93
  ·rw[qAb c1]at h ⊢;by_cases hr:(Q0n a next).2.2.2=false
   ·rw[qAb hr]at h;cases h
   rw[qAa hr]at h ⊢;obtain⟨b1,b2,b3,b4,b5,b6,b7⟩:=z1l a next h0
   have b8:=b7 (by simpa using hr);have:=y1q f _ _ (by omega) h;omega
  rw[qAa c1];dsimp only;omega
theorem y38{a:ByteArray}{i0:Int}{f:Nat}{next:Int}{ws:List Int}(h0:0<=next)(hw:WOk ws)(hok:(Q06 a i0 f next ws).2.2=true)(hn:(Q06 a i0 f next ws).2.1=a.size) :
  (next+1=a.size/\(Q06 a i0 f next ws).1=ws)∨(next+1<a.size/\∃lo hi nx:Nat,Q0n a next=((lo:Int),(hi:Int),(nx:Int),true)/\next<nx/\(nx:Int)+1<=a.size/\WOk (Q2d ws lo hi)/\(∀c,Q5y (Q2d ws lo hi) c=(Q5y ws c||decide (lo<=c/\c<=hi)))/\lo<=255/\hi<=255/\∃f',Q06 a i0 f' nx (Q2d ws lo hi)=Q06 a i0 f next ws):=by
 cases f with
 |zero=>simp[Q06]at hok
 |succ f =>
  rw[z3k]at hok hn ⊢;by_cases c1:next=i0∨atB a next≠93
  ·rw[qAb c1]at hok hn ⊢;by_cases hr:(Q0n a next).2.2.2=false
   ·rw[qAb hr]at hok;cases hok
   rw[qAa hr]at hok hn ⊢;have j1:(Q0n a next).2.2.2=true:=by simpa using hr
   obtain⟨b1,b2,b3,b4,b5,b6,b7⟩:=z1l a next h0
   have b8:=b7 j1;have j6:=y5e h0 j1;have j0:=y1q (i:=i0) f (Q0n a next).2.2.1 _ (by omega) hok;rw[hn]at j0;obtain⟨lo,j4⟩:∃n:Nat,(Q0n a next).1=n:=⟨(Q0n a next).1.toNat,by omega⟩;obtain⟨j3,j2⟩:∃n:Nat,(Q0n a next).2.1=n:=⟨(Q0n a next).2.1.toNat,by omega⟩;obtain⟨nx,j5⟩:∃n:Nat,(Q0n a next).2.2.1=n:=⟨(Q0n a next).2.2.1.toNat,by omega⟩;obtain⟨q1,q2⟩:=y50 hw (lo:=lo) (hi:=j3) (by omega) (by omega);refine .inr ⟨by omega,lo,j3,nx,?_,by omega,by omega,q1,q2,by omega,by omega,f,?_⟩
   ·rw[← j4,← j2,← j5,← j1]
   rw[j4,j2,j5]
  rw[qAa c1]at hok hn ⊢;dsimp only at hn ⊢;exact .inl ⟨by omega,rfl⟩
theorem x2n{a:ByteArray}{i:Int}:∀(f:Nat) (next:Int) (ws:List Int),0<=next->WOk ws->WOk (Q06 a i f next ws).1
 |0,next,ws,_,h=>h
 |f+1,next,ws,h0,h=>by
  rw[z3k];split
  ·split
   ·exact z5s
   rename_i hr;have hr':(Q0n a next).2.2.2=true:=by simpa using hr
   obtain⟨b1,b2,b3,b4,b5,b6,b7⟩:=z1l a next h0
   have j3:=y5e h0 hr';obtain⟨lo,j2⟩:∃n:Nat,(Q0n a next).1=n:=⟨(Q0n a next).1.toNat,by omega⟩;obtain⟨j1,j0⟩:∃n:Nat,(Q0n a next).2.1=n:=⟨(Q0n a next).2.1.toNat,by omega⟩;rw[j2,j0];exact x2n f _ _ (by omega) (y50 h (lo:=lo) (hi:=j1) (by omega) (by omega)).1
  exact h
theorem x50(a:ByteArray)(c:Nat)(w:World)(hs:a.size<=80000)(h1:1<a.size)(hc:c<256)(h91:atB a 0=91)(nt:Bool)(hnt:(atB a 1==94)=nt)(i0:Nat)(hi0:i0=if nt=true then 2 else 1)(E:List Int × Int × Bool)(hE:Q3f a i0=E)(hok:E.2.2=true)(hend:E.2.1=a.size) :
  Calls Tryz.prog 137 #[.string a,.int .u8 c] w fun e w'=>e=.returned (.bool (Q5y E.1 c != nt))/\w'=w:=by
 have h0:0<a.size:=by omega
 have b0:=z1u h0;have b1:=z1u h1;have z0:atB a 0=(a[0].toNat:Int):=b0;have z1:atB a 1=(a[1].toNat:Int):=b1;rw[z0]at h91;rw[z1]at hnt;have k1:((a[0].toNat:Int)==46)=false:=by simp[h91]
 have k2:((a[0].toNat:Int)==92)=false:=by simp[h91]
 have k3:((a[0].toNat:Int)==91)=true:=by simp[h91]
 have jb:a[0].toNat<256:=a[0].toNat_lt;have jc:a[1].toNat<256:=a[1].toNat_lt;have p0:(0:Int)<(a.size:Int):=by omega
 have p1:(1:Int)<(a.size:Int):=by omega
 have ZE:=hid (fun(i:Nat) (w:World) (h:i<=100000)=>y6a a i w (by omega) h);have HE:Hid (Q06 a i0 (a.size+5) i0 zero4=E):=hE;have j8:=hid hok;have j5:=hid hend;have HZ:Hid (Q5y zero4 c=false):=by unfold Hid;rw[z67 z5s,y93]
 have CC:((c:Int):Int)<256:=by omega
 clear hE hok hend b0 b1 z0 z1 h91;cases nt
 ·simp only[qF,qAz]at hi0;subst hi0;go_enter Tryz.func137,Tryz.ntmps137
  go_wp2;go_loopw [7,9] (fun x7 x9 wr=>∃(f next:Nat) (ws:List Int),x7=.int .i64 next/\x9=.bool (Q5y ws c)/\wr=w/\WOk ws/\next<=a.size/\Q06 a ((1:Nat):Int) f next ws=E)
    (fun x _ _=>100000-(intOf x).toNat)
  case atStart=>exact⟨a.size+5,1,zero4,rfl,by rw[HZ.out],rfl,z5s,by omega,HE.out⟩
  obtain⟨f,next,ws,rfl,rfl,rfl,hw,j9,j0⟩:=hrel;have j6:=y38 (a:=a) (i0:=((1:Nat):Int)) (f:=f) (next:=(next:Int)) (ws:=ws) (by omega) hw (by rw[j0];exact j8.out) (by rw[j0];exact j5.out);rw[j0]at j6;clear HE j0 HZ;rcases j6 with⟨q1,q2⟩|⟨q1,lo,hi,nx,q2,q3,q4,q5,q6,q7,q8,f',q9⟩
  ·have k4:¬(next:Int)<(a.size:Int)-1:=by omega
   have HQ:=hid q2;clear q2 q1;generalize hgb:Q5y ws c=hb;have j7:=hid hgb;clear hgb;go_wp2;go_ret;exact⟨by rw[HQ.out,j7.out];cases hb<;>rfl,rfl⟩
  have k4:(next:Int)<(a.size:Int)-1:=by omega
  have ZX:=hid (fun w=>ZE.out next w (by omega));rw[q2]at ZX;have j1:=hid (q6 c);have j3:=hid q9;have j4:=hid q5;have ZY:Hid (∀w:World,Calls Tryz.prog 138 #[.string a,.int .i64 next] w fun e w'=>e=.returned (.tuple #[.int .i64 nx,.int .i64 lo,.int .i64 hi])/\w'=w):=ZX.out;have ja:(0:Int)<=(nx:Int):=by omega
  clear q2 q6 q9 q5 ZX;generalize hh2:Q5y (Q2d ws lo hi) c=hb2 at j1;have j2:=hid hh2;clear hh2;generalize Q5y ws c=hb1 at j1;cases hb1
  ·by_cases c1:lo<=c
   ·have d1:(lo:Int)<=(c:Int):=by omega
    by_cases c2:c<=hi
    ·have d2:(c:Int)<=(hi:Int):=by omega
     have HB:Hid (hb2=true):=by unfold Hid;rw[j1.out,qCj ⟨c1,c2⟩];rfl
     go_wp2_with (first
      |(go_at_call 138;refine csm (ZY.out _) ?_))
     go_roundw
     case rel=>exact⟨f',nx,_,rfl,by rw[j2.out,HB.out],by first|rfl|trivial,j4.out,by omega,j3.out⟩
     simp[intOf];omega
    have d2:¬(c:Int)<=(hi:Int):=by omega
    have HB:Hid (hb2=false):=by unfold Hid;rw[j1.out,qCa (fun q=>c2 q.2)];rfl
    go_wp2_with (first
     |(go_at_call 138;refine csm (ZY.out _) ?_))
    go_roundw
    case rel=>exact⟨f',nx,_,rfl,by rw[j2.out,HB.out],by first|rfl|trivial,j4.out,by omega,j3.out⟩
    simp[intOf];omega
   have d1:¬(lo:Int)<=(c:Int):=by omega
   have HB:Hid (hb2=false):=by unfold Hid;rw[j1.out,qCa (fun q=>c1 q.1)];rfl
   go_wp2_with (first
    |(go_at_call 138;refine csm (ZY.out _) ?_))
   go_roundw
   case rel=>exact⟨f',nx,_,rfl,by rw[j2.out,HB.out],by first|rfl|trivial,j4.out,by omega,j3.out⟩
   simp[intOf];omega
  have HB:Hid (hb2=true):=by unfold Hid;rw[j1.out];rfl
  go_wp2_with (first
   |(go_at_call 138;refine csm (ZY.out _) ?_))
  go_roundw
  case rel=>exact⟨f',nx,_,rfl,by rw[j2.out,HB.out],by first|rfl|trivial,j4.out,by omega,j3.out⟩
  simp[intOf];omega
 simp only[qBn]at hi0;subst hi0;go_enter Tryz.func137,Tryz.ntmps137
 go_wp2;go_loopw [7,9] (fun x7 x9 wr=>∃(f next:Nat) (ws:List Int),x7=.int .i64 next/\x9=.bool (Q5y ws c)/\wr=w/\WOk ws/\next<=a.size/\Q06 a ((2:Nat):Int) f next ws=E)
   (fun x _ _=>100000-(intOf x).toNat)
 case atStart=>exact⟨a.size+5,2,zero4,rfl,by rw[HZ.out],rfl,z5s,by omega,HE.out⟩
 obtain⟨f,next,ws,rfl,rfl,rfl,hw,j9,j0⟩:=hrel;have j6:=y38 (a:=a) (i0:=((2:Nat):Int)) (f:=f) (next:=(next:Int)) (ws:=ws) (by omega) hw (by rw[j0];exact j8.out) (by rw[j0];exact j5.out);rw[j0]at j6;clear HE j0 HZ;rcases j6 with⟨q1,q2⟩|⟨q1,lo,hi,nx,q2,q3,q4,q5,q6,q7,q8,f',q9⟩
 ·have k4:¬(next:Int)<(a.size:Int)-1:=by omega
  have HQ:=hid q2;clear q2 q1;generalize hgb:Q5y ws c=hb;have j7:=hid hgb;clear hgb;go_wp2;go_ret;exact⟨by rw[HQ.out,j7.out];cases hb<;>rfl,rfl⟩
 have k4:(next:Int)<(a.size:Int)-1:=by omega
 have ZX:=hid (fun w=>ZE.out next w (by omega));rw[q2]at ZX;have j1:=hid (q6 c);have j3:=hid q9;have j4:=hid q5;have ZY:Hid (∀w:World,Calls Tryz.prog 138 #[.string a,.int .i64 next] w fun e w'=>e=.returned (.tuple #[.int .i64 nx,.int .i64 lo,.int .i64 hi])/\w'=w):=ZX.out;have ja:(0:Int)<=(nx:Int):=by omega
 clear q2 q6 q9 q5 ZX;generalize hh2:Q5y (Q2d ws lo hi) c=hb2 at j1;have j2:=hid hh2;clear hh2;generalize Q5y ws c=hb1 at j1;cases hb1
 ·by_cases c1:lo<=c
  ·have d1:(lo:Int)<=(c:Int):=by omega
   by_cases c2:c<=hi
   ·have d2:(c:Int)<=(hi:Int):=by omega
    have HB:Hid (hb2=true):=by unfold Hid;rw[j1.out,qCj ⟨c1,c2⟩];rfl
    go_wp2_with (first
     |(go_at_call 138;refine csm (ZY.out _) ?_))
    go_roundw
    case rel=>exact⟨f',nx,_,rfl,by rw[j2.out,HB.out],by first|rfl|trivial,j4.out,by omega,j3.out⟩
    simp[intOf];omega
   have d2:¬(c:Int)<=(hi:Int):=by omega
   have HB:Hid (hb2=false):=by unfold Hid;rw[j1.out,qCa (fun q=>c2 q.2)];rfl
   go_wp2_with (first
    |(go_at_call 138;refine csm (ZY.out _) ?_))
   go_roundw
   case rel=>exact⟨f',nx,_,rfl,by rw[j2.out,HB.out],by first|rfl|trivial,j4.out,by omega,j3.out⟩
   simp[intOf];omega
  have d1:¬(lo:Int)<=(c:Int):=by omega
  have HB:Hid (hb2=false):=by unfold Hid;rw[j1.out,qCa (fun q=>c1 q.1)];rfl
  go_wp2_with (first
   |(go_at_call 138;refine csm (ZY.out _) ?_))
  go_roundw
  case rel=>exact⟨f',nx,_,rfl,by rw[j2.out,HB.out],by first|rfl|trivial,j4.out,by omega,j3.out⟩
  simp[intOf];omega
 have HB:Hid (hb2=true):=by unfold Hid;rw[j1.out];rfl
 go_wp2_with (first
  |(go_at_call 138;refine csm (ZY.out _) ?_))
 go_roundw
 case rel=>exact⟨f',nx,_,rfl,by rw[j2.out,HB.out],by first|rfl|trivial,j4.out,by omega,j3.out⟩
 simp[intOf];omega
theorem x8o(a:ByteArray)(c:Nat)(w:World)(hs:a.size<=80000)(hc:c<256)(h40:atB a 0≠40)(hok:(Q2r a 0).2.2=true)(hend:(Q2r a 0).2.1=a.size) :
  Calls Tryz.prog 137 #[.string a,.int .u8 c] w fun e w'=>e=.returned (.bool (Q5y (Q2r a 0).1 c))/\w'=w:=by
 have j4:=y1w hok;have h0:0<a.size:=by
  have hb:=y21 a 0 (by omega);have j6:atB a 0≠-1:=by
   intro e;unfold Q2r at hok;rw[e,qAa (by decide),qAa (by decide),qAa (by decide),qAb (by decide)]at hok;cases hok
  have:=z0r j6;omega
 have b0:atB a 0=(a[0].toNat:Int):=z1u h0;have j7:a[0].toNat<256:=a[0].toNat_lt;have p0:(0:Int)<(a.size:Int):=by omega
 have ex:∀n:Nat,n<256->WOk (Q2d zero4 n n)/\Q5y (Q2d zero4 n n) c=((c:Int)==(n:Int)):=fun n hn=>by
  obtain⟨q1,q2⟩:=x27 (qR n) hn;refine⟨q1,?_⟩;rw[q2,qBc,qAu,qBi];omega
 by_cases j0:atB a 0=46
 ·rw[y9d j0]at hend ⊢;obtain⟨q1,q2⟩:=ex 10 (by omega);rw[show((10:Nat):Int)=10 from rfl]at q1 q2;have HV:Hid (Q5y (Q85 (Q2d zero4 10 10) 4) c=((c:Int) != 10)):=by
   unfold Hid;rw[x26 q1 hc,q2];rfl
  rw[b0]at j0;have k1:((a[0].toNat:Int)==46)=true:=by simp[j0]
  clear j4 ex q1 q2 hok b0 j0 hend;dsimp only;rw[HV.out];go_enter Tryz.func137,Tryz.ntmps137
  go_wp2;go_ret;exact⟨rfl,rfl⟩
 by_cases j2:atB a 0=91
 ·rw[x4r j2]at hok hend ⊢;have h1:1<a.size:=by
   have:=x4n a 1 (by omega) (by omega);have:=this.2.2 hok;omega
  unfold rBr at hok hend ⊢;by_cases j3:atB a (0+1)=94
  ·rw[qAb j3]at hok hend ⊢;have h2:=x50 a c w hs h1 hc j2 true (by rw[show(1:Int)=0+1 from rfl,j3];rfl) 2 rfl _ rfl hok hend;have hw:WOk (Q3f a ((2:Nat):Int)).1:=x2n _ _ _ (by omega) z5s;rw[show(0:Int)+1+1=((2:Nat):Int) from rfl];dsimp only;rw[x26 hw hc];refine h2.mono ?_;rintro e w'⟨he,j5⟩;refine⟨?_,j5⟩;rw[he];cases Q5y (Q3f a ((2:Nat):Int)).1 c<;>rfl
  rw[qAa j3]at hok hend ⊢;have h2:=x50 a c w hs h1 hc j2 false (by rw[show(1:Int)=0+1 from rfl];simpa using j3) 1 rfl _ rfl hok hend;refine h2.mono ?_;rintro e w'⟨he,j5⟩;refine⟨?_,j5⟩;rw[he,show(0:Int)+1=((1:Nat):Int) from rfl];cases Q5y (Q3f a ((1:Nat):Int)).1 c<;>rfl
 by_cases j1:atB a 0=92
 ·rw[y5f j1]at hok hend ⊢;dsimp only at hok hend ⊢;rw[show(0:Int)+1=1 from rfl]at hok hend ⊢;have h1:1<a.size:=by
   by_cases q:1<a.size
   ·exact q
   exfalso;unfold Q2k at hok;rw[z2c (by omega),qAa (by decide),qAa (by decide),qAb (by decide)]at hok;cases hok
  have b1:atB a 1=(a[1].toNat:Int):=z1u h1;have j9:a[1].toNat<256:=a[1].toNat_lt;have ZM:=hid (fun w=>z57 a[1].toNat w (by omega));rw[y2s,b1]at hok ⊢;have hm:(mkF (a[1].toNat:Int)).2=true:=by
   cases z:(mkF (a[1].toNat:Int)).2
   ·rw[z,qAa (by simp)]at hok;cases hok
   rfl
  rw[qAb hm];have j8:∃n:Nat,n<256/\(mkF (a[1].toNat:Int)).1=n:=by
   unfold mkF;split
   ·exact⟨10,by omega,rfl⟩
   split
   ·exact⟨9,by omega,rfl⟩
   exact⟨a[1].toNat,by omega,rfl⟩
  obtain⟨n,hn,he⟩:=j8;obtain⟨q1,q2⟩:=ex n hn;dsimp only;rw[he,q2];rw[he,hm]at ZM;rw[b0]at j1;have k1:((a[0].toNat:Int)==46)=false:=by simp[j1]
  have k2:((a[0].toNat:Int)==92)=true:=by simp[j1]
  have p1:(1:Int)<(a.size:Int):=by omega
  clear j4 ex q1 q2 hok b0 b1 j1 j0 j2 hend hm he h40;go_enter Tryz.func137,Tryz.ntmps137
  go_wp2_with (first
   |(go_at_call 133;refine csm (ZM.out _) ?_))
  go_ret;exact⟨rfl,rfl⟩
 have hp:Q02 (atB a 0)=true:=by
  cases z:Q02 (atB a 0)
  ·rw[x4s j0 j2 j1 z]at hok;cases hok
  rfl
 rw[y1x hp]at hend ⊢;rw[b0]at j0 j2 j1 ⊢;obtain⟨q1,q2⟩:=ex a[0].toNat j7;dsimp only;rw[q2];have k1:((a[0].toNat:Int)==46)=false:=by simpa using j0
 have k2:((a[0].toNat:Int)==92)=false:=by simpa using j1
 have k3:((a[0].toNat:Int)==91)=false:=by simpa using j2
 clear j4 ex q1 q2 hok b0 j1 j0 j2 hend h40 hp;go_enter Tryz.func137,Tryz.ntmps137
 go_wp2;go_ret;refine⟨z0w ?_,rfl⟩;rw[qBc,qBi,qBi];exact eq_comm
abbrev bsl(g n:Nat):Value:=.slice (some ⟨g,0,none⟩) n n
def Q1x(w:World)(g:Nat)(fs:List Bool):Prop:=w.heap[g]? = some (.cells (Q34 fs).toArray 4 (0,0))
theorem Q1x.fresh{w w':World}{g:Nat}{fs:List Bool}(h:Q1x w g fs)(m:Q0a w w'):Q1x w' g fs:=m.at h id
theorem Q1x.lt{w:World}{g:Nat}{fs:List Bool}(h:Q1x w g fs):g<w.heap.size:=z0j h
theorem Q1x.cell{w:World}{g:Nat}{fs:List Bool}(h:Q1x w g fs){j:Nat}(hj:j<fs.length):w.cell? ⟨g,j,none⟩=some (.bool (fs.getD j false)):=by
 rw[Q0b h,qDp,qBt,qE hj];simp[hj]
theorem Q1x.frozen{w:World}{g:Nat}{fs:List Bool}(h:Q1x w g fs)(j:Nat):w.frozen? ⟨g,j,none⟩=false:=Q0f h j
theorem Q1x.put{w:World}{g:Nat}{fs:List Bool}(h:Q1x w g fs)(j:Nat)(b:Bool):Q1x (w.setCell ⟨g,j,none⟩ (.bool b)) g (fs.set j b):=by
 unfold Q1x;rw[zhs h];congr 2;apply qEw;intro k;simp[Q34,qFr]
theorem z03(n:Nat):madeCells #[.bool false] n=(Q34 (List.replicate n false)).toArray:=by
 unfold madeCells;apply qEw;intro i;by_cases h:i<n<;>simp[h,Nat.mod_one]
theorem z2e{fs:List Bool}{i:Nat}:On fs i↔fs.getD i false=true:=by
 unfold On;rw[qD];cases fs[i]? with
 |none=>simp
 |some b=>simp
def orI(xs ys:List Bool)(n i:Nat):List Bool:=(List.range n).map fun j=>decide (j<i)&&(xs.getD j false||ys.getD j false)
theorem z2s(xs ys:List Bool)(n i:Nat):(orI xs ys n i).length=n:=by simp[orI]
theorem x7a(xs ys:List Bool)(n:Nat):orI xs ys n 0=List.replicate n false:=by
 apply qEd;intro j;by_cases h:j<n
 ·simp[orI,h]
 simp[orI,h]
theorem v0z(xs ys:List Bool){n i:Nat}(hi:i<n):(orI xs ys n i).set i (xs.getD i false||ys.getD i false)=orI xs ys n (i+1):=by
 apply qEu
 ·simp[orI]
 intro j h1 h2;rw[List.getElem_set];simp only[orI,qCd,List.getElem_range];by_cases e:i=j
 ·subst e;simp
 rw[qAa e];congr 1;rw[qBc,qAu,qAu];omega
def moI(xs ys:List Bool)(i:Nat):Bool:=(List.range i).any fun j=>ys.getD j false&&!xs.getD j false
theorem x61(xs ys:List Bool)(i:Nat):moI xs ys (i+1)=(moI xs ys i||(ys.getD i false&&!xs.getD i false)):=by
 unfold moI;rw[List.range_succ,List.any_append];simp
theorem v02{xs ys:List Bool}{n:Nat}(h:xs.length=n):Un xs ys (orI xs ys n n):=by
 refine⟨by rw[z2s,h],fun j=>?_⟩;rw[z2e,z2e,z2e];by_cases hj:j<n
 ·have:(orI xs ys n n).getD j false=(xs.getD j false||ys.getD j false):=by
   simp[orI,hj]
  rw[this,qAt];constructor
  ·rintro(q|q)
   ·exact .inl q
   exact .inr ⟨by omega,q⟩
  rintro(q|⟨_,q⟩)
  ·exact .inl q
  exact .inr q
 have e1:(orI xs ys n n).getD j false=false:=by simp[orI,hj]
 have e2:xs.getD j false=false:=by
  rw[qD,qN (by omega)];rfl
 rw[e1,e2];constructor
 ·intro q;cases q
 rintro(q|⟨q,_⟩)
 ·cases q
 omega
theorem z23(w:World)(ga gb n:Nat)(xs ys:List Bool)(ha:Q1x w ga xs)(hb:Q1x w gb ys)(la:xs.length=n)(lb:ys.length=n)(hn:n<=1000) :
  Calls Tryz.prog 80 #[bsl ga n,bsl gb n] w fun e w'=>e=.returned (.tuple #[bsl w.heap.size n,.bool (moI xs ys n)])/\Q0a w w'/\Q1x w' w.heap.size (orI xs ys n n):=by
 have HA:=hid ha;have HB:=hid hb;have LA:=hid la;have LB:=hid lb;have j4:=ha.lt;have j5:=hb.lt;have mk:=fun w=>run_make_row' (P:=Tryz.prog) 118 4 (.bool false) 1 qCw (by kernel_rfl) rfl .i64 .i64 n (by omega) (by omega) w;clear ha hb la lb;go_enter Tryz.func80,Tryz.ntmps80
 go_wp2;go_loopw [7,8] (fun x7 x8 wr=>∃i:Nat,x8=.int .i64 i/\i<=n/\x7=.bool (moI xs ys i)/\Q1x wr w.heap.size (orI xs ys n i)/\Q0a w wr)
   (fun _ x _=>1001-(intOf x).toNat)
 case atStart =>
  refine⟨0,rfl,by omega,rfl,?_,(mRf _ w).alloc _⟩;rw[x7a,z03];exact z0a _ _
 obtain⟨i,rfl,hi,rfl,hC,j0⟩:=hrel;have j2:=hid (Q19 (B:=1001) i (by omega));have HF:=hid j0;have HC:=hid hC;clear mk;by_cases j1:i<n
 ·have k1:(i:Int)<(n:Int):=by omega
  have c1:=(HA.fresh j0).cell (j:=i) (by rw[LA.out];exact j1);have c2:=(HB.fresh j0).cell (j:=i) (by rw[LB.out];exact j1);have c3:=hC.cell (j:=i) (by rw[z2s];exact j1);have z3:=hC.frozen i;have HS:=hid (v0z xs ys j1);have HM:=hid (x61 xs ys i);have n1:ga≠w.heap.size:=by omega
  have n2:gb≠w.heap.size:=by omega
  have n3:w.heap.size≠ga:=by omega
  have n4:w.heap.size≠gb:=by omega
  generalize(orI xs ys n i).getD i false=xo at c3;generalize xs.getD i false=xa at c1 HS HM;generalize ys.getD i false=yb at c2 HS HM;generalize moI xs ys i=mo at HM;clear hC j0;cases xa<;>cases yb<;>cases mo;all_goals
   go_wp2;go_roundw
   case rel =>
    refine⟨i+1,by go_num,by omega,by rw[HM.out];rfl,?_,HF.setCell (by simp) _⟩;rw[← HS.out];exact HC.put _ _
   exact j2.out
 have k1:¬(i:Int)<(n:Int):=by omega
 have j3:i=n:=by omega
 subst j3;go_wp2;go_ret2;exact⟨rfl,HF.out,HC.out⟩
def onI(H:Nat->Bool)(fs:List Bool)(n i:Nat):List Bool:=(List.range n).map fun j=>decide (0<j/\j<=i)&&(fs.getD (j-1) false&&H (j-1))
theorem x4b(H:Nat->Bool)(fs:List Bool)(n i:Nat):(onI H fs n i).length=n:=by simp[onI]
theorem x66(H:Nat->Bool)(fs:List Bool)(n:Nat):onI H fs n 0=List.replicate n false:=by
 apply qEd;intro j;by_cases h:j<n
 ·have:decide (0<j/\j<=0)=false:=qCa (by omega);simp only[onI,qBt,qFp h,qDw,this,qDh];simp[h]
 simp[onI,h]
theorem v0x(H:Nat->Bool)(fs:List Bool){n i:Nat}(hi:i+1<n):(onI H fs n i).set (i+1) (fs.getD i false&&H i)=onI H fs n (i+1):=by
 apply qEu
 ·simp[onI]
 intro j h1 h2;rw[List.getElem_set];simp only[onI,qCd,List.getElem_range];by_cases e:i+1=j
 ·subst e;simp
 rw[qAa e];congr 1;rw[qBc,qAu,qAu];omega
theorem y06{t:ByteArray}{i:Nat}(h:i<t.size):Q1n t i 1=[t[i].toNat]:=by
 show []++(if h:i+0<t.size then [t[i+0].toNat] else [])=_;rw[qEt (by omega)];simp
theorem v0y{ws:List Int}{t:ByteArray}{fs:List Bool}{H:Nat->Bool}(hH:∀j (hj:j<t.size),H j=Q5y ws t[j].toNat):Q6j (Q03.byte fun c=>Q5y ws c=true) t fs (onI H fs (t.size+1) t.size):=by
 refine⟨x4b _ _ _ _,fun j hj=>?_⟩;have e:(onI H fs (t.size+1) t.size).getD j false=(decide (0<j/\j<=t.size)&&(fs.getD (j-1) false&&H (j-1))):=by
  have:j<t.size+1:=by omega
  rw[qD];simp only[onI,qBt,qFp this,qDw,qDy]
 rw[z2e,e,qAd,qAd,qAu];constructor
 ·rintro⟨⟨h0,_⟩,h1,h2⟩;refine⟨j-1,by omega,z2e.2 h1,t[j-1].toNat,?_,?_⟩
  ·show Q5y ws t[j-1].toNat=true;rw[← hH (j-1) (by omega)];exact h2
  rw[show j-(j-1)=1 by omega,y06 (by omega)]
 rintro⟨i,hi,hf,c,hc,he⟩;have hl:=z3m t i (j-i) (by omega);rw[he]at hl;simp at hl;have j0:j=i+1:=by omega
 subst j0;rw[show i+1-i=1 by omega,y06 (by omega)]at he;simp at he;refine⟨⟨by omega,by omega⟩,by simpa using z2e.1 hf,?_⟩;rw[show i+1-1=i by omega,hH i (by omega),he];exact hc
def SetRet(L:Q03)(t:ByteArray)(fs:List Bool)(g:Nat)(w:World)(e:Ending)(w':World):Prop :=
 ∃g' gs,e=.returned (bsl g' (t.size+1))/\Q0a w w'/\Q1x w' g' gs/\Q6j L t fs gs
def SetC(f:Nat)(p:ByteArray)(L:Q03):Prop:=∀(t:ByteArray) (g:Nat) (fs:List Bool) (w:World),t.size<=210->Q1x w g fs->fs.length=t.size+1 ->
 Calls Tryz.prog f #[.string p,.string t,bsl g (t.size+1)] w fun e w'=>SetRet L t fs g w e w'
theorem x52(a:ByteArray)(hs:a.size<=80000)(h40:atB a 0≠40)(hok:(Q2r a 0).2.2=true)(hend:(Q2r a 0).2.1=a.size):SetC 131 a (Q03.byte fun c=>Q5y (Q2r a 0).1 c=true):=by
 intro t g fs w ht hg hl;have HG:=hid hg;have HL:=hid hl;have j6:=hg.lt;have HA:=hid (fun(c:Nat) (w:World) (hc:c<256)=>x8o a c w hs hc h40 hok hend);have h0:0<a.size:=by
  have j0:atB a 0≠-1:=by
   intro e;unfold Q2r at hok;rw[e,qAa (by decide),qAa (by decide),qAa (by decide),qAb (by decide)]at hok;cases hok
  have:=z0r j0;omega
 have b0:atB a 0=(a[0].toNat:Int):=z1u h0;have j7:a[0].toNat<256:=a[0].toNat_lt;have p0:(0:Int)<(a.size:Int):=by omega
 rw[b0]at h40;have j8:((a[0].toNat:Int)==40)=false:=by simpa using h40
 have mk:=fun w=>run_make_row' (P:=Tryz.prog) 118 4 (.bool false) 1 qCw (by kernel_rfl) rfl .i64 .i64 (t.size+1) (by omega) (by omega) w;simp only[Int.natCast_add,Int.cast_ofNat_Int]at mk;generalize(Q2r a 0).1=ws at HA ⊢;generalize hH:(fun j:Nat=>if h:j<t.size then Q5y ws t[j].toNat else false)=H;have HH:Hid (∀j (hj:j<t.size),H j=Q5y ws t[j].toNat):=fun j hj=>by rw[← hH];simp[hj]
 clear hg hl hok hend b0 hH h40;go_enter Tryz.func131,Tryz.ntmps131
 go_wp2;go_loopw [8] (fun x8 wr=>∃i:Nat,x8=.int .i64 i/\i<=t.size/\Q1x wr w.heap.size (onI H fs (t.size+1) i)/\Q0a w wr)
   (fun x _=>1001-(intOf x).toNat)
 case atStart =>
  refine⟨0,rfl,by omega,?_,(mRf _ w).alloc _⟩;rw[x66,z03];exact z0a _ _
 obtain⟨i,rfl,hi,hC,j1⟩:=hrel;have j3:=hid (Q19 (B:=1001) i (by omega));have HF:=hid j1;have HC:=hid hC;clear mk;by_cases j5:i<t.size
 ·have k1:(i:Int)<(t.size:Int):=by omega
  have k2:(i:Int)<(t.size:Int)+1:=by omega
  have k3:(i:Int)+1<(t.size:Int)+1:=by omega
  have c1:=(HG.fresh j1).cell (j:=i) (by rw[HL.out];omega);have c3:=hC.cell (j:=i+1) (by rw[x4b];omega);have z3:=hC.frozen (i+1);have HS:=hid (v0x H fs (n:=t.size+1) (i:=i) (by omega));have j4:t[i].toNat<256:=t[i].toNat_lt;have HX:=hid (fun w=>HA.out t[i].toNat w j4);have j2:=hid (HH.out i j5);have n1:g≠w.heap.size:=by omega
  have n3:w.heap.size≠g:=by omega
  rw[← j2.out]at HX;generalize(onI H fs (t.size+1) i).getD (i+1) false=xo at c3;generalize fs.getD i false=xa at c1 HS;generalize H i=yb at HX HS;clear hC j1 j2;cases xa<;>cases yb;all_goals
   go_wp2_with (first
    |(go_at_call 137;refine csm (HX.out _) ?_))
   go_roundw
   case rel =>
    refine⟨i+1,by go_num,by omega,?_,HF.setCell (by simp) _⟩;rw[← HS.out];exact HC.put _ _
   exact j3.out
 have k1:¬(i:Int)<(t.size:Int):=by omega
 have j0:i=t.size:=by omega
 have HI:=hid j0;clear j0;go_wp2;go_ret;refine⟨w.heap.size,_,rfl,HF.out,HC.out,?_⟩;rw[HI.out];exact v0y HH.out
abbrev Pc(s:ByteArray):Int->LR:=Q1u (Q3m (lgK s 6) s) s
abbrev Am(s:ByteArray):Int->LR:=Q3m (lgK s 6) s
def Q8u(p:ByteArray)(L:Q03):Prop:=Q61 p 6 0=⟨p.size,true,L⟩
def PceIs(p:ByteArray)(L:Q03):Prop:=Pc p 0=⟨p.size,true,L⟩
def Q86(p:ByteArray)(L:Q03):Prop:=Am p 0=⟨p.size,true,L⟩
theorem y9z(p:ByteArray)(hp:p.size<=80000):AtmC p 0 (Q3w (zgK p 6) p):=y0t p 6 0 hp (by omega) (fun k' e=>y3t p hp k' 1 (by omega))
theorem y95(p:ByteArray)(hp:p.size<=80000):PceC p 0 (Q4i (Q3w (zgK p 6) p) p):=z7n p 6 0 hp (y9z p hp)
theorem x3q(s:ByteArray):Q3z s (Pc s):=z6l s 6
theorem v2f(s:ByteArray):Q3z s (Am s):=z2y s 6
theorem x3w(s s':ByteArray):Loc s s' (Pc s) (Pc s'):=z9s (z8h (y81 s s' 6 6 (qR _)) (z2y s 6)) (z2y s 6)
theorem v2g(s s':ByteArray):LocA s s' (Am s) (Am s'):=z8h (y81 s s' 6 6 (qR _)) (z2y s 6)
theorem z59{s:ByteArray}{a e:Nat}(he:e<=s.size){x:Int}(h0:0<=x):Q3g s (a+x) (s.extract a e) x (e-a-x.toNat):=fun j hj=>by
 rw[z0z he (by omega) (by omega)];congr 1;omega
theorem z3t{s:ByteArray}{a e:Nat}(he:e<=s.size):(s.extract a e).size=e-a:=by rw[qBl];omega
theorem v06{u:ByteArray}{i j:Nat}{A:Q03}(h:Pc u i=⟨(j:Int),true,A⟩)(hi:i<=u.size):PceIs (u.extract i j) A/\i<j/\j<=u.size:=by
 have g:=x3q u i (by omega) (by omega) (by rw[h]);rw[h]at g;dsimp only at g;have j0:=z3t (s:=u) (a:=i) (e:=j) (by omega);refine⟨?_,by omega,by omega⟩;have al:=z59 (s:=u) (a:=i) (e:=j) (by omega) (x:=0) (by omega);rw[qDs]at al;have sm:=x3w u (u.extract i j) i 0 (j-i) (by omega) (by omega) (by omega) al (by rw[z2c (by omega)];decide) (by rw[h]) (by rw[h];dsimp only;omega);unfold PceIs;rw[z2r sm.ok,sm.next,sm.lang,h];dsimp only;congr 1;omega
theorem x9x{q:ByteArray}{n:Nat}{A:Q03}(h:Am q 0=⟨(n:Int),true,A⟩):Q86 (q.extract 0 n) A/\0<n/\n<=q.size:=by
 have g:=v2f q 0 (by omega) (by omega) (by rw[h]);rw[h]at g;dsimp only at g;have j0:=z3t (s:=q) (a:=0) (e:=n) (by omega);refine⟨?_,by omega,by omega⟩;have al:=z59 (s:=q) (a:=0) (e:=n) (by omega) (x:=0) (by omega);have sm:=v2g q (q.extract 0 n) 0 0 (n-0) (by omega) (by omega) (by omega) al (by rw[h]) (by rw[h];dsimp only;omega);unfold Q86;rw[z2r sm.ok,sm.next,sm.lang,h];dsimp only;congr 1;omega
theorem v0d{a:ByteArray}{A:Q03}(h:Q86 a A)(h40:atB a 0=40):Q8u (a.extract 1 (a.size-1)) A/\3<=a.size:=by
 unfold Q86 Am Q3m at h;rw[qAb h40]at h;have h':Q6h (Q61 a 5) a 0=⟨a.size,true,A⟩:=h;unfold Q6h at h';by_cases c1:(Q61 a 5 (0+1)).ok=false
 ·rw[qAb c1]at h';injection h' with _ e;cases e
 rw[qAa c1]at h';have j0:(Q61 a 5 1).ok=true:=by simpa using c1
 by_cases c2:atB a (Q61 a 5 (0+1)).next≠41
 ·rw[qAb c2]at h';injection h' with _ e;cases e
 rw[qAa c2]at h';injection h' with e1 _ e3;have hn:(Q61 a 5 ((1:Nat):Int)).next+1=a.size:=e1;have j2:=z0r (s:=a) (i:=0) (by omega);have g:=y4t a 5 ((1:Nat):Int) (by omega) (by omega) j0;have j3:=z3t (s:=a) (a:=1) (e:=a.size-1) (by omega);refine⟨?_,by omega⟩;have al:=z59 (s:=a) (a:=1) (e:=a.size-1) (by omega) (x:=0) (by omega);rw[qDs]at al;have sm:=y2p a (a.extract 1 (a.size-1)) (show 5<=6 by omega) ((1:Nat):Int) 0 (a.size-1-1) (by omega) (by omega) (by omega) al (by rw[z2c (by omega)];decide) j0 (by omega);unfold Q8u;rw[z2r sm.ok,sm.next,sm.lang];have j1:(Q61 a 5 ((1:Nat):Int)).lang=A:=e3;rw[j1];congr 1;omega
theorem y9e{s:ByteArray}:∀{As:List Q03}{x y:Int},Row (Pc s) x As y->0<=x->x<=s.size->x<=y/\y<=s.size
 | [],x,y,h,_,h1=>by have:x=y:=h;omega
 |A::As,x,y,⟨h1,h2,h3⟩,h0,hs=>by
  have g:=x3q s x h0 hs h1;have:=y9e h3 (by omega) (by omega);omega
theorem x4y{p:ByteArray}{b x:Nat}(hx:x<=p.size):∀{As:List Q03}{y:Int},Row (Pc p) y As x->(b:Int)<=y->Row (Pc (p.extract b x)) (y-b) As ((x:Int)-b)
 | [],y,h,hb=>by have:y=x:=h;show y-b=(x:Int)-b;omega
 |A::As,y,⟨h1,h2,h3⟩,hb=>by
  have hy:y<p.size:=by
   have:=z0r (s:=p) (i:=y) (y3y (z3e h1));omega
  have g:=x3q p y (by omega) (by omega) h1;have j0:=y9e h3 (by omega) (by omega);have j1:=z3t (s:=p) (a:=b) (e:=x) hx;have al:=z59 (s:=p) (a:=b) (e:=x) hx (x:=y-b) (by omega);rw[show(b:Int)+(y-b)=y by omega]at al;have sm:=x3w p (p.extract b x) y (y-b) (x-b-(y-b).toNat) (by omega) (by omega) (by omega) al (by rw[z2c (by omega)];decide) h1 (by omega);refine⟨sm.ok,by rw[sm.lang];exact h2,?_⟩;rw[sm.next,show(Pc p y).next-y+(y-(b:Int))=(Pc p y).next-b by omega];exact x4y hx h3 (by omega)
theorem x8q(a:ByteArray)(A:Q03)(hs:a.size<=1000)(h:Q86 a A)(ih:∀p L,p.size+2<=a.size->Q8u p L->SetC 81 p L):SetC 131 a A:=by
 by_cases j0:atB a 0=40
 ·obtain⟨hp,h3⟩:=v0d h j0;have j3:=z3t (s:=a) (a:=1) (e:=a.size-1) (by omega);have TH:=ih _ A (by omega) hp;intro t g fs w ht hg hl;have TX:=hid (TH t g fs w ht hg hl);have j1:0<a.size:=by omega
  have b0:atB a 0=(a[0].toNat:Int):=z1u j1;have j2:a[0].toNat<256:=a[0].toNat_lt;rw[b0]at j0;have j4:((a[0].toNat:Int)==40)=true:=by simp[j0]
  have p0:(0:Int)<(a.size:Int):=by omega
  have p1:(1:Int)<=(a.size:Int)-1:=by omega
  have p2:(a.size:Int)-1<=(a.size:Int):=by omega
  have p3:((a.size:Int)-1).toNat=a.size-1:=by omega
  clear hg hl b0 j0 h hp TH ih;go_enter Tryz.func131,Tryz.ntmps131
  go_wp2_with (first
   |(go_at_call 81;refine(TX.out).mono ?_;rintro e w1⟨g',gs,rfl,q⟩;have HQ:=hid q;clear q))
  go_ret;exact⟨g',gs,rfl,HQ.out⟩
 unfold Q86 Am Q3m at h;rw[qAa j0]at h;by_cases c:(Q2r a 0).2.2=false
 ·rw[qAb c]at h;injection h with _ e;cases e
 rw[qAa c]at h;injection h with e1 _ e3;have:=x52 a (by omega) j0 (by simpa using c) e1;rw[e3]at this;exact this
end Go.Proofs.YtbdpfmalabgmbaaGreat
