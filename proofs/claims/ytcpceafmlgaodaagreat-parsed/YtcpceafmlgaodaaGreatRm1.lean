import Derived.Test.YtcpceafmlgaodaaGreatRf4
namespace Go.Proofs.YtcpceafmlgaodaaGreat
open Go.RowKit
set_option maxRecDepth 99999
set_option maxHeartbeats 0
set_option linter.all false
def Q5d(L:Q02)(t:ByteArray)(F:Nat->Prop)(j:Nat):Prop:=∃i,i<=j/\F i/\L (Q10 t i (j-i))
def On(fs:List Bool)(i:Nat):Prop:=fs[i]? = some true
structure Q58(L:Q02)(t:ByteArray)(fs gs:List Bool):Prop where
 len:gs.length=t.size+1
 on:∀j,j<=t.size->(On gs j↔Q5d L t (On fs) j)
theorem On.lt{fs:List Bool}{i:Nat}(h:On fs i):i<fs.length:=(qS h).1
theorem z5b(t:ByteArray)(i a:Nat):∀b,Q10 t i (a+b)=Q10 t i a++Q10 t (i+a) b
 |0=>by simp[Q10]
 |b+1=>by
  rw[← qCm,Q10,z5b t i a b,Q10,qAh];simp only[qCm]
theorem z3g(t:ByteArray)(i:Nat):∀k,i+k<=t.size->(Q10 t i k).length=k
 |0,_=>rfl
 |k+1,h=>by
  rw[Q10,qEi (by omega),qP,z3g t i k (by omega)];rfl
theorem z7f{t:ByteArray}{i n:Nat}{u v:List Nat}(hn:i+n<=t.size)(h:Q10 t i n=u++v):∃a,a<=n/\u=Q10 t i a/\v=Q10 t (i+a) (n-a):=by
 have hl:=z3g t i n hn;rw[h,qP]at hl;refine⟨u.length,by omega,?_⟩;have e:=z5b t i u.length (n-u.length);rw[show u.length+(n-u.length)=n by omega,h]at e;have l1:=z3g t i u.length (by omega);exact List.append_inj e (by omega)
theorem x4i{A B:Q02}{t:ByteArray}{F:Nat->Prop}{j:Nat}(hj:j<=t.size):Q5d (Q02.cat A B) t F j↔Q5d B t (fun k=>k<=t.size/\Q5d A t F k) j:=by
 constructor
 ·rintro⟨i,hi,hf,u,v,he,ha,hb⟩;obtain⟨a,h1,h2,h3⟩:=z7f (by omega) he;refine⟨i+a,by omega,⟨by omega,i,by omega,hf,?_⟩,?_⟩
  ·rw[show i+a-i=a by omega,← h2];exact ha
  rw[show j-(i+a)=j-i-a by omega,← h3];exact hb
 rintro⟨k,hk,⟨_,i,hi,hf,ha⟩,hb⟩;refine⟨i,by omega,hf,_,_,?_,ha,hb⟩;have:=z5b t i (k-i) (j-k);rw[show k-i+(j-k)=j-i by omega,show i+(k-i)=k by omega]at this;exact this
theorem x4j{A B:Q02}(h:∀w,A w↔B w){t:ByteArray}{F:Nat->Prop}{j:Nat}:Q5d A t F j↔Q5d B t F j:=by
 constructor
 ·rintro⟨i,h1,h2,h3⟩;exact⟨i,h1,h2,(h _).1 h3⟩
 rintro⟨i,h1,h2,h3⟩;exact⟨i,h1,h2,(h _).2 h3⟩
theorem x0f{A:Q02}{t:ByteArray}{F G:Nat->Prop}(h:∀k,k<=t.size->(F k↔G k)){j:Nat}(hj:j<=t.size):Q5d A t F j↔Q5d A t G j:=by
 constructor
 ·rintro⟨i,h1,h2,h3⟩;exact⟨i,h1,(h i (by omega)).1 h2,h3⟩
 rintro⟨i,h1,h2,h3⟩;exact⟨i,h1,(h i (by omega)).2 h2,h3⟩
theorem Q58.cat{A B:Q02}{t:ByteArray}{fs gs hs:List Bool}(h:Q58 A t fs gs)(k:Q58 B t gs hs):Q58 (Q02.cat A B) t fs hs:=by
 refine⟨k.len,fun j hj=>?_⟩;rw[k.on j hj,x4i hj];refine x0f (fun q hq=>?_) hj;rw[h.on q hq];exact⟨fun z=>⟨hq,z⟩,fun z=>z.2⟩
theorem Q58.iff{A B:Q02}{t:ByteArray}{fs gs:List Bool}(h:Q58 A t fs gs)(e:∀w,A w↔B w):Q58 B t fs gs :=
 ⟨h.len,fun j hj=>by rw[h.on j hj];exact x4j e⟩
structure Un(xs bs cs:List Bool):Prop where
 len:cs.length=xs.length
 on:∀j,On cs j↔On xs j∨(j<xs.length/\On bs j)
theorem Q58.alt{A B:Q02}{t:ByteArray}{fs gs hs cs:List Bool}(h:Q58 A t fs gs)(k:Q58 B t fs hs)(u:Un gs hs cs):Q58 (Q02.alt A B) t fs cs:=by
 refine⟨u.len.trans h.len,fun j hj=>?_⟩;rw[u.on,h.on j hj,k.on j hj];have hl:=h.len;constructor
 ·rintro(⟨i,h1,h2,h3⟩|⟨_,i,h1,h2,h3⟩)
  ·exact⟨i,h1,h2,.inl h3⟩
  exact⟨i,h1,h2,.inr h3⟩
 rintro⟨i,h1,h2,h3|h3⟩
 ·exact .inl ⟨i,h1,h2,h3⟩
 exact .inr ⟨by omega,i,h1,h2,h3⟩
theorem x2e{t:ByteArray}{fs gs:List Bool}(hl:gs.length=t.size+1)(h:∀j,¬On gs j):Q58 noL t fs gs :=
 ⟨hl,fun j hj=>⟨fun q=>(h j q).elim,fun⟨i,_,_,q⟩=>q.elim⟩⟩
def epsL:Q02:=fun w=>w=[]
def Q9a:List Q02->Q02
 | []=>epsL
 |A::As=>Q02.cat A (Q9a As)
theorem y73{t:ByteArray}{fs:List Bool}(hl:fs.length=t.size+1):Q58 epsL t fs fs:=by
 refine⟨hl,fun j hj=>⟨fun h=>⟨j,qR _,h,by rw[qCu];rfl⟩,?_⟩⟩;rintro⟨i,h1,h2,h3⟩;have:(Q10 t i (j-i)).length=0:=by rw[show Q10 t i (j-i)=[] from h3];rfl
 rw[z3g t i (j-i) (by omega)]at this;rw[show j=i by omega];exact h2
theorem y55(A:Q02)(w:List Nat):Q02.cat A epsL w↔A w:=by
 constructor
 ·rintro⟨u,v,rfl,h1,h2⟩;rw[show v=[] from h2,qAt];exact h1
 intro h;exact⟨w,[],by simp,h,rfl⟩
theorem y3l(A B C:Q02)(w:List Nat):Q02.cat (Q02.cat A B) C w↔Q02.cat A (Q02.cat B C) w:=by
 constructor
 ·rintro⟨_,z,rfl,⟨u,v,rfl,h1,h2⟩,h3⟩;exact⟨u,v++z,by simp,h1,v,z,rfl,h2,h3⟩
 rintro⟨u,_,rfl,h1,v,z,rfl,h2,h3⟩;exact⟨u++v,z,by simp,⟨u,v,rfl,h1,h2⟩,h3⟩
theorem x9b{A A' B B':Q02}(h:∀w,A w↔A' w)(k:∀w,B w↔B' w)(w:List Nat):Q02.cat A B w↔Q02.cat A' B' w:=by
 constructor
 ·rintro⟨u,v,e,h1,h2⟩;exact⟨u,v,e,(h u).1 h1,(k v).1 h2⟩
 rintro⟨u,v,e,h1,h2⟩;exact⟨u,v,e,(h u).2 h1,(k v).2 h2⟩
theorem y3k:∀(As:List Q02) (A:Q02) (w:List Nat),Q9a (As++[A]) w↔Q02.cat (Q9a As) A w
 | [],A,w=>by
  show Q02.cat A epsL w↔Q02.cat epsL A w;rw[y55];constructor
  ·intro h;exact⟨[],w,rfl,rfl,h⟩
  rintro⟨u,v,rfl,h1,h2⟩;rw[show u=[] from h1];exact h2
 |B::As,A,w=>by
  show Q02.cat B (Q9a (As++[A])) w↔Q02.cat (Q02.cat B (Q9a As)) A w;rw[y3l];exact x9b (fun _=>Iff.rfl) (y3k As A) w
def Q5m(n m:Bool)(A:Q02):Q02:=fun w=>(n=true/\w=[])∨∃ws:List (List Nat),ws≠[]/\(∀u∈ws,A u)/\w=ws.flatten/\(m=false->ws.length=1)
theorem y70(A:Q02)(w:List Nat):Q5m false false A w↔A w:=by
 constructor
 ·rintro(⟨h,_⟩|⟨ws,_,h1,h2,h3⟩)
  ·cases h
  obtain⟨u,rfl⟩:=List.length_eq_one_iff.1 (h3 rfl);rw[h2];simpa using h1 u (by simp)
 intro h;exact .inr ⟨[w],by simp,by simpa using h,by simp,fun _=>rfl⟩
theorem y3w{n m:Bool}{A:Q02}:∀(ws:List (List Nat)),(∀u∈ws,Q5m n m A u)->∃vs:List (List Nat),(∀u∈vs,A u)/\ws.flatten=vs.flatten/\(vs=[]->ws=[]∨n=true)/\(m=false->vs.length<=ws.length)
 | [],_=>⟨[],by simp,rfl,fun _=>.inl rfl,fun _=>by simp⟩
 |w::ws,h=>by
  obtain⟨vs,h1,h2,h3,h4⟩:=y3w ws (fun u hu=>h u (by simp[hu]));rcases h w (by simp)with⟨q1,q2⟩|⟨us,q1,q2,q3,q4⟩
  ·exact⟨vs,h1,by rw[List.flatten_cons,q2,h2,qBq],fun _=>.inr q1,fun e=>by have:=h4 e;simp only[qAy];omega⟩
  refine⟨us++vs,?_,by rw[List.flatten_cons,q3,h2,List.flatten_append],fun e=>?_,fun e=>?_⟩
  ·intro u hu;rcases qBj.1 hu with hu|hu
   ·exact q2 u hu
   exact h1 u hu
  ·exact absurd (List.append_eq_nil_iff.1 e).1 q1
  have:=h4 e;have:=q4 e;simp only[qP,qAy];omega
theorem v0n{A B:Q02}(h:∀w,A w↔B w)(c:Int)(w:List Nat):Q02.rep c A w↔Q02.rep c B w:=by
 constructor
 ·rintro⟨ws,h1,h2⟩;exact⟨ws,fun u hu=>(h u).1 (h1 u hu),h2⟩
 rintro⟨ws,h1,h2⟩;exact⟨ws,fun u hu=>(h u).2 (h1 u hu),h2⟩
theorem x7e{n m:Bool}{A:Q02}{c:Int}(hc:Q1q c=true)(w:List Nat):Q02.rep c (Q5m n m A) w↔Q5m (n||(c != 43)) (m||(c != 63)) A w:=by
 constructor
 ·rintro⟨ws,h1,h2,h3,h4⟩;obtain⟨vs,k1,k2,k3,k4⟩:=y3w ws h1;by_cases hv:vs=[]
  ·left;refine⟨?_,by rw[h2,k2,hv];rfl⟩;rcases k3 hv with e|e
   ·by_cases c43:c=43
    ·exact absurd e (h3 c43)
    have:(c != 43)=true:=by simpa using c43
    rw[this];simp
   rw[e];rfl
  right;refine⟨vs,hv,k1,by rw[h2,k2],fun e=>?_⟩;rw[qBm]at e;have j0:c=63:=by simpa using e.2
  have:=h4 j0;have:=k4 e.1;have:0<vs.length:=List.length_pos_iff.2 hv;omega
 rintro(⟨h1,h2⟩|⟨vs,h1,h2,h3,h4⟩)
 ·by_cases c43:c=43
  ·have hn:n=true:=by
    rw[c43]at h1;simpa using h1
   exact⟨[[]],by intro u hu;simp at hu;exact .inl ⟨hn,hu⟩,by simp[h2],fun _=>by simp,fun _=>by simp⟩
  exact⟨[],by simp,by simp[h2],fun e=>absurd e c43,fun _=>by simp⟩
 by_cases hm:m=true
 ·exact⟨[w],by intro u hu;simp at hu;subst hu;exact .inr ⟨vs,h1,h2,h3,fun e=>by rw[hm]at e;cases e⟩,by simp,fun _=>by simp,fun _=>by simp⟩
 by_cases j0:c=63
 ·have hl:=h4 (by rw[j0];simp;simpa using hm);exact⟨[w],by intro u hu;simp at hu;subst hu;exact .inr ⟨vs,h1,h2,h3,fun _=>hl⟩,by simp,fun _=>by simp,fun _=>by simp⟩
 exact⟨vs,by intro u hu;exact .inr ⟨[u],by simp,by simpa using h2 u hu,by simp,fun _=>rfl⟩,h3,fun _=>h1,fun e=>absurd e j0⟩
def Q8k(s:ByteArray):Nat->Nat->Bool × Bool->Bool × Bool
 |0,_,b=>b
 |f+1,i,b=>if i<s.size then Q8k s f (i+1) (b.1||(atB s i != 43),b.2||(atB s i != 63)) else b
theorem x3g(s:ByteArray)(f i:Nat)(b:Bool × Bool):Q8k s (f+1) i b=if i<s.size then Q8k s f (i+1) (b.1||(atB s i != 43),b.2||(atB s i != 63)) else b:=rfl
theorem z9m{s:ByteArray}{A:Q02}:∀(f g:Nat) (x:Nat) (L:Q02) (b:Bool × Bool),(∀w,L w↔Q5m b.1 b.2 A w)->s.size+1<=f+x->s.size+1<=g+x->x<=s.size->(Q2a s f ⟨x,true,L⟩).next=s.size ->
  ∀w,(Q2a s f ⟨x,true,L⟩).lang w↔Q5m (Q8k s g x b).1 (Q8k s g x b).2 A w
 |0,g,x,L,b,hL,hf,hg,hx,hn=>by omega
 |f+1,0,x,L,b,hL,hf,hg,hx,hn=>by omega
 |f+1,g+1,x,L,b,hL,hf,hg,hx,hn=>by
  rw[z37]at hn ⊢;rw[x3g];dsimp only at hn ⊢;rw[qBa]at hn ⊢;by_cases c:Q1q (atB s x)=true
  ·have hlt:=z0q (s:=s) (i:=(x:Int)) (z9g c);rw[qAb c]at hn ⊢;rw[qAb (by omega)];have e:((x:Nat):Int)+1=((x+1:Nat):Int):=by omega
   rw[e]at hn ⊢;refine z9m f g (x+1) _ _ (fun w=>?_) (by omega) (by omega) (by omega) hn;rw[v0n hL];exact x7e c w
  rw[qAa c]at hn ⊢;dsimp only at hn ⊢;have j0:x=s.size:=by omega
  rw[qAa (by omega)];exact hL
def Row(P:Int->LR):Int->List Q02->Int->Prop
 |x,[],y=>x=y
 |x,A::As,y=>(P x).ok=true/\(P x).lang=A/\Row P (P x).next As y
theorem Row.snoc{P:Int->LR}:∀{As:List Q02}{x y:Int},Row P x As y->(P y).ok=true->Row P x (As++[(P y).lang]) (P y).next
 | [],x,y,h,hk=>by
  have h':x=y:=h;subst h';exact⟨hk,rfl,rfl⟩
 |A::As,x,y,⟨h1,h2,h3⟩,hk=>⟨h1,h2,Row.snoc h3 hk⟩
section
variable {P:Int->LR}{s:ByteArray}
theorem z8i:∀(f:Nat) (x:Int) (L:Q02),(Q1m P s f ⟨x,true,L⟩).ok=true->∃As,Row P x As (Q1m P s f ⟨x,true,L⟩).next/\∀w,(Q1m P s f ⟨x,true,L⟩).lang w↔Q02.cat L (Q9a As) w
 |0,x,L,h=>⟨[],rfl,fun w=>(y55 L w).symm⟩
 |f+1,x,L,h=>by
  rw[z2f]at h ⊢;dsimp only at h ⊢;rw[qBa]at h ⊢;by_cases c:Q2r s x=true
  ·rw[qAb c]at h ⊢;cases hk:(P x).ok
   ·have q1:Q5o ⟨x,true,L⟩ (P x)=⟨(P x).next,false,noL⟩:=by unfold Q5o;rw[hk];rfl
    rw[q1,z1w P s _ _ rfl]at h;cases h
   have q1:Q5o ⟨x,true,L⟩ (P x)=⟨(P x).next,true,Q02.cat L (P x).lang⟩:=by unfold Q5o;rw[qAb hk]
   rw[q1]at h ⊢;obtain⟨As,h1,h2⟩:=z8i f (P x).next _ h;refine⟨(P x).lang::As,⟨hk,rfl,h1⟩,fun w=>?_⟩;rw[h2,y3l];rfl
  rw[qAa c]at h ⊢;exact⟨[],rfl,fun w=>(y55 L w).symm⟩
theorem y0o{x:Int}(h:(Q0x P s x).ok=true):∃As,As≠[]/\Row P x As (Q0x P s x).next/\∀w,(Q0x P s x).lang w↔Q9a As w:=by
 have hk:(P x).ok=true:=x1i h;unfold Q0x at h ⊢;rw[z2k hk]at h ⊢;obtain⟨As,h1,h2⟩:=z8i _ _ _ h;exact⟨(P x).lang::As,by simp,⟨hk,rfl,h1⟩,h2⟩
def Alts(P:Int->LR)(s:ByteArray):Int->List (List Q02)->Int->Prop
 |_,[],_=>False
 |x,B::Bs,y=>∃z,B≠[]/\Row P x B z/\((Bs=[]/\z=y)∨(atB s z=124/\Alts P s (z+1) Bs y))
theorem z7g:∀(f:Nat) (x:Int) (L:Q02),(Q03 (Q0x P s) s f ⟨x,true,L⟩).ok=true->∃Bs,((Bs=[]/\x=(Q03 (Q0x P s) s f ⟨x,true,L⟩).next)∨(atB s x=124/\Alts P s (x+1) Bs (Q03 (Q0x P s) s f ⟨x,true,L⟩).next)) /\
  ∀w,(Q03 (Q0x P s) s f ⟨x,true,L⟩).lang w↔L w∨∃B∈Bs,Q9a B w
 |0,x,L,h=>⟨[],.inl ⟨rfl,rfl⟩,fun w=>by simp[Q03]⟩
 |f+1,x,L,h=>by
  rw[z2q]at h ⊢;dsimp only at h ⊢;rw[qBa]at h ⊢;by_cases c:(atB s x==124)=true
  ·rw[qAb c]at h ⊢;have c124:atB s x=124:=by simpa using c
   cases hk:(Q0x P s (x+1)).ok
   ·have q1:Q1w ⟨x,true,L⟩ (Q0x P s (x+1))=⟨(Q0x P s (x+1)).next,false,noL⟩:=by unfold Q1w;rw[hk];rfl
    rw[q1,z1x _ s _ _ rfl]at h;cases h
   have q1:Q1w ⟨x,true,L⟩ (Q0x P s (x+1))=⟨(Q0x P s (x+1)).next,true,Q02.alt L (Q0x P s (x+1)).lang⟩:=by unfold Q1w;rw[qAb hk]
   rw[q1]at h ⊢;obtain⟨Bs,h1,h2⟩:=z7g f (Q0x P s (x+1)).next _ h;obtain⟨As,k1,k2,k3⟩:=y0o hk;refine⟨As::Bs,.inr ⟨c124,_,k1,k2,h1⟩,fun w=>?_⟩;rw[h2];unfold Q02.alt;rw[k3];simp only[qBc];constructor
   ·rintro((q|q)|⟨B,hB,q⟩)
    ·exact .inl q
    ·exact .inr ⟨As,.inl rfl,q⟩
    exact .inr ⟨B,.inr hB,q⟩
   rintro(q|⟨B,rfl|hB,q⟩)
   ·exact .inl (.inl q)
   ·exact .inl (.inr q)
   exact .inr ⟨B,hB,q⟩
  rw[qAa c];exact⟨[],.inl ⟨rfl,rfl⟩,fun w=>by simp⟩
theorem y57{x:Int}(h:(Q20 (Q0x P s) s x).ok=true):∃Bs,Alts P s x Bs (Q20 (Q0x P s) s x).next/\∀w,(Q20 (Q0x P s) s x).lang w↔∃B∈Bs,Q9a B w:=by
 have hk:(Q0x P s x).ok=true:=x1m h;obtain⟨As,k1,k2,k3⟩:=y0o hk;unfold Q20 at h ⊢;rw[z2k hk]at h ⊢;obtain⟨Bs,h1,h2⟩:=z7g _ _ _ h;refine⟨As::Bs,⟨_,k1,k2,h1⟩,fun w=>?_⟩;rw[h2,k3];simp only[qBc];constructor
 ·rintro(q|⟨B,hB,q⟩)
  ·exact⟨As,.inl rfl,q⟩
  exact⟨B,.inr hB,q⟩
 rintro⟨B,rfl|hB,q⟩
 ·exact .inl q
 exact .inr ⟨B,hB,q⟩
end
theorem y6w{A:Q02}{t:ByteArray}{fs os ns:List Bool}(hl:os.length=t.size+1)(h1:∀j,j<=t.size->Q5d A t (On fs) j->On os j)(h2:∀j,On os j->j<=t.size->Q5d (Q5m false true A) t (On fs) j)
  (hn:Q58 A t os ns) (hno:∀j,On ns j->On os j):Q58 (Q5m false true A) t fs os:=by
 refine⟨hl,fun j hj=>⟨fun h=>h2 j h hj,?_⟩⟩;rintro⟨i,hi,hf,⟨h,_⟩|⟨ws,hne,hall,he,_⟩⟩
 ·cases h
 -- by the number of words
 have j1:∀(ws:List (List Nat)) (k:Nat),ws≠[]->(∀u∈ws,A u)->k<=j->(On fs k∨On os k)->Q10 t k (j-k)=ws.flatten->On os j:=by
  intro ws;induction ws with
  |nil=>intro k hne;exact absurd rfl hne
  |cons u ws ih =>
   intro k _ hall hk hon he;rw[List.flatten_cons]at he;obtain⟨a,q1,q2,q3⟩:=z7f (by omega) he;have hA:=hall u (by simp);have j0:On os (k+a):=by
    have r:∀F:Nat->Prop,F k->Q5d A t F (k+a):=fun F hF=>⟨k,by omega,hF,by rw[show k+a-k=a by omega,← q2];exact hA⟩;rcases hon with hon|hon
    ·exact h1 _ (by omega) (r _ hon)
    exact hno _ ((hn.on _ (by omega)).2 (r _ hon))
   by_cases hw:ws=[]
   ·rw[hw]at q3;have:=z3g t (k+a) (j-k-a) (by omega);rw[← q3]at this;simp at this;rw[show j=k+a by omega];exact j0
   exact ih (k+a) hw (fun u hu=>hall u (by simp[hu])) (by omega) (.inr j0) (by rw[show j-(k+a)=j-k-a by omega];exact q3.symm)
 exact j1 ws i hne hall hi (.inl hf) he
theorem x63{A:Q02}{t:ByteArray}{F:Nat->Prop}{j:Nat}(h:Q5d A t F j):Q5d (Q5m false true A) t F j:=by
 obtain⟨i,h1,h2,h3⟩:=h;exact⟨i,h1,h2,.inr ⟨[_],by simp,by simpa using h3,by simp,fun _=>rfl⟩⟩
theorem x34{A:Q02}{t:ByteArray}{F:Nat->Prop}{j:Nat}(hj:j<=t.size)(h:Q5d A t (fun k=>Q5d (Q5m false true A) t F k) j):Q5d (Q5m false true A) t F j:=by
 obtain⟨k,h1,⟨i,k1,k2,⟨q,_⟩|⟨ws,q1,q2,q3,_⟩⟩,h3⟩:=h
 ·cases q
 refine⟨i,by omega,k2,.inr ⟨ws++[Q10 t k (j-k)],by simp,?_,?_,fun e=>by cases e⟩⟩
 ·intro u hu;rcases qBj.1 hu with hu|hu
  ·exact q2 u hu
  simp at hu;subst hu;exact h3
 have:=z5b t i (k-i) (j-k);rw[show k-i+(j-k)=j-i by omega,show i+(k-i)=k by omega]at this;rw[this,q3];simp
theorem y5i{ws:List Int}(h:WOk ws){lo hi:Nat}(h1:lo<=hi)(h2:hi<256):WOk (Q19 ws lo hi)/\∀c,Q5n (Q19 ws lo hi) c=(Q5n ws c||decide (lo<=c/\c<=hi)):=by
 obtain⟨q1,q2⟩:=y23 h (lo:=lo) (hi+1-lo) (by omega);have e:Q19 ws lo hi=Q62 ws lo (hi+1-lo):=by
  unfold Q19;congr 1;omega
 rw[e];refine⟨q1,fun c=>?_⟩;rw[z6z q1,q2,z6z h];congr 1;rw[qAs,qAm,qAm];omega
theorem y4v{a:ByteArray}{i:Int}(h0:0<=i)(h:(Q0m a i).2.2.2=true):(Q0m a i).1<=(Q0m a i).2.1:=by
 unfold Q0m at h ⊢;split
 ·rename_i e;rw[qAb e]at h;cases h
 rename_i e;rw[qAa e]at h;split
 ·exact Int.le_refl _
 rename_i e2;rw[qAa e2]at h;split
 ·rename_i e3;rw[qAb e3]at h;cases h
 rename_i e3;rw[qAa e3]at h;split
 ·rename_i e4;rw[qAb e4]at h;cases h
 rename_i e4;dsimp only;omega
theorem y08{a:ByteArray}{i:Int}:∀(f:Nat) (next:Int) (ws:List Int),0<=next->(Q05 a i f next ws).2.2=true->next+1<=(Q05 a i f next ws).2.1
 |0,next,ws,_,h=>by simp[Q05]at h
 |f+1,next,ws,h0,h=>by
  rw[z3e]at h ⊢;by_cases c1:next=i∨atB a next≠93
  ·rw[qAb c1]at h ⊢;by_cases hr:(Q0m a next).2.2.2=false
   ·rw[qAb hr]at h;cases h
   rw[qAa hr]at h ⊢;obtain⟨b1,b2,b3,b4,b5,b6,b7⟩:=z1j a next h0
   have b8:=b7 (by simpa using hr);have:=y08 f _ _ (by omega) h;omega
  rw[qAa c1];dsimp only;omega
theorem y3r{a:ByteArray}{i0:Int}{f:Nat}{next:Int}{ws:List Int}(h0:0<=next)(hw:WOk ws)(hok:(Q05 a i0 f next ws).2.2=true)(hn:(Q05 a i0 f next ws).2.1=a.size) :
  (next+1=a.size/\(Q05 a i0 f next ws).1=ws)∨(next+1<a.size/\∃lo hi nx:Nat,Q0m a next=((lo:Int),(hi:Int),(nx:Int),true)/\next<nx/\(nx:Int)+1<=a.size/\WOk (Q19 ws lo hi)/\(∀c,Q5n (Q19 ws lo hi) c=(Q5n ws c||decide (lo<=c/\c<=hi)))/\lo<=255/\hi<=255/\∃f',Q05 a i0 f' nx (Q19 ws lo hi)=Q05 a i0 f next ws):=by
 cases f with
 |zero=>simp[Q05]at hok
 |succ f =>
  rw[z3e]at hok hn ⊢;by_cases c1:next=i0∨atB a next≠93
  ·rw[qAb c1]at hok hn ⊢;by_cases hr:(Q0m a next).2.2.2=false
   ·rw[qAb hr]at hok;cases hok
   rw[qAa hr]at hok hn ⊢;have j1:(Q0m a next).2.2.2=true:=by simpa using hr
   obtain⟨b1,b2,b3,b4,b5,b6,b7⟩:=z1j a next h0
   have b8:=b7 j1;have j2:=y4v h0 j1;have j0:=y08 (i:=i0) f (Q0m a next).2.2.1 _ (by omega) hok;rw[hn]at j0;obtain⟨lo,hlo⟩:∃n:Nat,(Q0m a next).1=n:=⟨(Q0m a next).1.toNat,by omega⟩;obtain⟨hi',hhi⟩:∃n:Nat,(Q0m a next).2.1=n:=⟨(Q0m a next).2.1.toNat,by omega⟩;obtain⟨nx,hnx⟩:∃n:Nat,(Q0m a next).2.2.1=n:=⟨(Q0m a next).2.2.1.toNat,by omega⟩;obtain⟨q1,q2⟩:=y5i hw (lo:=lo) (hi:=hi') (by omega) (by omega);refine .inr ⟨by omega,lo,hi',nx,?_,by omega,by omega,q1,q2,by omega,by omega,f,?_⟩
   ·rw[← hlo,← hhi,← hnx,← j1]
   rw[hlo,hhi,hnx]
  rw[qAa c1]at hok hn ⊢;dsimp only at hn ⊢;exact .inl ⟨by omega,rfl⟩
theorem x1w{a:ByteArray}{i:Int}:∀(f:Nat) (next:Int) (ws:List Int),0<=next->WOk ws->WOk (Q05 a i f next ws).1
 |0,next,ws,_,h=>h
 |f+1,next,ws,h0,h=>by
  rw[z3e];split
  ·split
   ·exact z5m
   rename_i hr;have hr':(Q0m a next).2.2.2=true:=by simpa using hr
   obtain⟨b1,b2,b3,b4,b5,b6,b7⟩:=z1j a next h0
   have j0:=y4v h0 hr';obtain⟨lo,hlo⟩:∃n:Nat,(Q0m a next).1=n:=⟨(Q0m a next).1.toNat,by omega⟩;obtain⟨hi',hhi⟩:∃n:Nat,(Q0m a next).2.1=n:=⟨(Q0m a next).2.1.toNat,by omega⟩;rw[hlo,hhi];exact x1w f _ _ (by omega) (y5i h (lo:=lo) (hi:=hi') (by omega) (by omega)).1
  exact h
theorem x5m(a:ByteArray)(c:Nat)(w:World)(hs:a.size<=80000)(h1:1<a.size)(hc:c<256)(h91:atB a 0=91)(nt:Bool)(hnt:(atB a 1==94)=nt)(i0:Nat)(hi0:i0=if nt=true then 2 else 1)(E:List Int × Int × Bool)(hE:Q29 a i0=E)(hok:E.2.2=true)(hend:E.2.1=a.size) :
  Calls Tryz.prog 134 #[.string a,.int .u8 c] w fun e w'=>e=.returned (.bool (Q5n E.1 c != nt))/\w'=w:=by
 have h0:0<a.size:=by omega
 have b0:=z1r h0;have b1:=z1r h1;have z0:atB a 0=(a[0].toNat:Int):=b0;have z1:atB a 1=(a[1].toNat:Int):=b1;rw[z0]at h91;rw[z1]at hnt;have k1:((a[0].toNat:Int)==46)=false:=by simp[h91]
 have k2:((a[0].toNat:Int)==92)=false:=by simp[h91]
 have k3:((a[0].toNat:Int)==91)=true:=by simp[h91]
 have j9:a[0].toNat<256:=a[0].toNat_lt;have ja:a[1].toNat<256:=a[1].toNat_lt;have p0:(0:Int)<(a.size:Int):=by omega
 have p1:(1:Int)<(a.size:Int):=by omega
 have ZE:=hid (fun(i:Nat) (w:World) (h:i<=100000)=>y5r a i w (by omega) h);have HE:Hid (Q05 a i0 (a.size+5) i0 zero4=E):=hE;have j7:=hid hok;have j4:=hid hend;have HZ:Hid (Q5n zero4 c=false):=by unfold Hid;rw[z6z z5m,y9e]
 have CC:((c:Int):Int)<256:=by omega
 clear hE hok hend b0 b1 z0 z1 h91;cases nt
 ·simp only[qF,qAp]at hi0;subst hi0;go_enter Tryz.func134,Tryz.ntmps134
  go_wp2;go_loopw [7,9] (fun x7 x9 wr=>∃(f next:Nat) (ws:List Int),x7=.int .i64 next/\x9=.bool (Q5n ws c)/\wr=w/\WOk ws/\next<=a.size/\Q05 a ((1:Nat):Int) f next ws=E)
    (fun x _ _=>100000-(intOf x).toNat)
  case atStart=>exact⟨a.size+5,1,zero4,rfl,by rw[HZ.out],rfl,z5m,by omega,HE.out⟩
  obtain⟨f,next,ws,rfl,rfl,rfl,hw,hnl,hrec⟩:=hrel;have j5:=y3r (a:=a) (i0:=((1:Nat):Int)) (f:=f) (next:=(next:Int)) (ws:=ws) (by omega) hw (by rw[hrec];exact j7.out) (by rw[hrec];exact j4.out);rw[hrec]at j5;clear HE hrec HZ;rcases j5 with⟨q1,q2⟩|⟨q1,lo,hi,nx,q2,q3,q4,q5,q6,q7,q8,f',q9⟩
  ·have k4:¬(next:Int)<(a.size:Int)-1:=by omega
   have HQ:=hid q2;clear q2 q1;generalize hgb:Q5n ws c=hb;have j6:=hid hgb;clear hgb;go_wp2;go_ret;exact⟨by rw[HQ.out,j6.out];cases hb<;>rfl,rfl⟩
  have k4:(next:Int)<(a.size:Int)-1:=by omega
  have ZX:=hid (fun w=>ZE.out next w (by omega));rw[q2]at ZX;have j0:=hid (q6 c);have j2:=hid q9;have j3:=hid q5;have ZY:Hid (∀w:World,Calls Tryz.prog 133 #[.string a,.int .i64 next] w fun e w'=>e=.returned (.tuple #[.int .i64 nx,.int .i64 lo,.int .i64 hi])/\w'=w):=ZX.out;have j8:(0:Int)<=(nx:Int):=by omega
  clear q2 q6 q9 q5 ZX;generalize hh2:Q5n (Q19 ws lo hi) c=hb2 at j0;have j1:=hid hh2;clear hh2;generalize Q5n ws c=hb1 at j0;cases hb1
  ·by_cases c1:lo<=c
   ·have d1:(lo:Int)<=(c:Int):=by omega
    by_cases c2:c<=hi
    ·have d2:(c:Int)<=(hi:Int):=by omega
     have HB:Hid (hb2=true):=by unfold Hid;rw[j0.out,qBl ⟨c1,c2⟩];rfl
     go_wp2_with (first
      |(go_at_call 133;refine csm (ZY.out _) ?_))
     go_roundw
     case rel=>exact⟨f',nx,_,rfl,by rw[j1.out,HB.out],by first|rfl|trivial,j3.out,by omega,j2.out⟩
     simp[intOf];omega
    have d2:¬(c:Int)<=(hi:Int):=by omega
    have HB:Hid (hb2=false):=by unfold Hid;rw[j0.out,qBh (fun q=>c2 q.2)];rfl
    go_wp2_with (first
     |(go_at_call 133;refine csm (ZY.out _) ?_))
    go_roundw
    case rel=>exact⟨f',nx,_,rfl,by rw[j1.out,HB.out],by first|rfl|trivial,j3.out,by omega,j2.out⟩
    simp[intOf];omega
   have d1:¬(lo:Int)<=(c:Int):=by omega
   have HB:Hid (hb2=false):=by unfold Hid;rw[j0.out,qBh (fun q=>c1 q.1)];rfl
   go_wp2_with (first
    |(go_at_call 133;refine csm (ZY.out _) ?_))
   go_roundw
   case rel=>exact⟨f',nx,_,rfl,by rw[j1.out,HB.out],by first|rfl|trivial,j3.out,by omega,j2.out⟩
   simp[intOf];omega
  have HB:Hid (hb2=true):=by unfold Hid;rw[j0.out];rfl
  go_wp2_with (first
   |(go_at_call 133;refine csm (ZY.out _) ?_))
  go_roundw
  case rel=>exact⟨f',nx,_,rfl,by rw[j1.out,HB.out],by first|rfl|trivial,j3.out,by omega,j2.out⟩
  simp[intOf];omega
 simp only[qBb]at hi0;subst hi0;go_enter Tryz.func134,Tryz.ntmps134
 go_wp2;go_loopw [7,9] (fun x7 x9 wr=>∃(f next:Nat) (ws:List Int),x7=.int .i64 next/\x9=.bool (Q5n ws c)/\wr=w/\WOk ws/\next<=a.size/\Q05 a ((2:Nat):Int) f next ws=E)
   (fun x _ _=>100000-(intOf x).toNat)
 case atStart=>exact⟨a.size+5,2,zero4,rfl,by rw[HZ.out],rfl,z5m,by omega,HE.out⟩
 obtain⟨f,next,ws,rfl,rfl,rfl,hw,hnl,hrec⟩:=hrel;have j5:=y3r (a:=a) (i0:=((2:Nat):Int)) (f:=f) (next:=(next:Int)) (ws:=ws) (by omega) hw (by rw[hrec];exact j7.out) (by rw[hrec];exact j4.out);rw[hrec]at j5;clear HE hrec HZ;rcases j5 with⟨q1,q2⟩|⟨q1,lo,hi,nx,q2,q3,q4,q5,q6,q7,q8,f',q9⟩
 ·have k4:¬(next:Int)<(a.size:Int)-1:=by omega
  have HQ:=hid q2;clear q2 q1;generalize hgb:Q5n ws c=hb;have j6:=hid hgb;clear hgb;go_wp2;go_ret;exact⟨by rw[HQ.out,j6.out];cases hb<;>rfl,rfl⟩
 have k4:(next:Int)<(a.size:Int)-1:=by omega
 have ZX:=hid (fun w=>ZE.out next w (by omega));rw[q2]at ZX;have j0:=hid (q6 c);have j2:=hid q9;have j3:=hid q5;have ZY:Hid (∀w:World,Calls Tryz.prog 133 #[.string a,.int .i64 next] w fun e w'=>e=.returned (.tuple #[.int .i64 nx,.int .i64 lo,.int .i64 hi])/\w'=w):=ZX.out;have j8:(0:Int)<=(nx:Int):=by omega
 clear q2 q6 q9 q5 ZX;generalize hh2:Q5n (Q19 ws lo hi) c=hb2 at j0;have j1:=hid hh2;clear hh2;generalize Q5n ws c=hb1 at j0;cases hb1
 ·by_cases c1:lo<=c
  ·have d1:(lo:Int)<=(c:Int):=by omega
   by_cases c2:c<=hi
   ·have d2:(c:Int)<=(hi:Int):=by omega
    have HB:Hid (hb2=true):=by unfold Hid;rw[j0.out,qBl ⟨c1,c2⟩];rfl
    go_wp2_with (first
     |(go_at_call 133;refine csm (ZY.out _) ?_))
    go_roundw
    case rel=>exact⟨f',nx,_,rfl,by rw[j1.out,HB.out],by first|rfl|trivial,j3.out,by omega,j2.out⟩
    simp[intOf];omega
   have d2:¬(c:Int)<=(hi:Int):=by omega
   have HB:Hid (hb2=false):=by unfold Hid;rw[j0.out,qBh (fun q=>c2 q.2)];rfl
   go_wp2_with (first
    |(go_at_call 133;refine csm (ZY.out _) ?_))
   go_roundw
   case rel=>exact⟨f',nx,_,rfl,by rw[j1.out,HB.out],by first|rfl|trivial,j3.out,by omega,j2.out⟩
   simp[intOf];omega
  have d1:¬(lo:Int)<=(c:Int):=by omega
  have HB:Hid (hb2=false):=by unfold Hid;rw[j0.out,qBh (fun q=>c1 q.1)];rfl
  go_wp2_with (first
   |(go_at_call 133;refine csm (ZY.out _) ?_))
  go_roundw
  case rel=>exact⟨f',nx,_,rfl,by rw[j1.out,HB.out],by first|rfl|trivial,j3.out,by omega,j2.out⟩
  simp[intOf];omega
 have HB:Hid (hb2=true):=by unfold Hid;rw[j0.out];rfl
 go_wp2_with (first
  |(go_at_call 133;refine csm (ZY.out _) ?_))
 go_roundw
 case rel=>exact⟨f',nx,_,rfl,by rw[j1.out,HB.out],by first|rfl|trivial,j3.out,by omega,j2.out⟩
 simp[intOf];omega
theorem x70(a:ByteArray)(c:Nat)(w:World)(hs:a.size<=80000)(hc:c<256)(h40:atB a 0≠40)(hok:(Q2n a 0).2.2=true)(hend:(Q2n a 0).2.1=a.size) :
  Calls Tryz.prog 134 #[.string a,.int .u8 c] w fun e w'=>e=.returned (.bool (Q5n (Q2n a 0).1 c))/\w'=w:=by
 have j0:=y1e hok;have h0:0<a.size:=by
  have hb:=y2j a 0 (by omega);have j1:atB a 0≠-1:=by
   intro e;unfold Q2n at hok;rw[e,qAa (by decide),qAa (by decide),qAa (by decide),qAb (by decide)]at hok;cases hok
  have:=z0q j1;omega
 have b0:atB a 0=(a[0].toNat:Int):=z1r h0;have j2:a[0].toNat<256:=a[0].toNat_lt;have p0:(0:Int)<(a.size:Int):=by omega
 have ex:∀n:Nat,n<256->WOk (Q19 zero4 n n)/\Q5n (Q19 zero4 n n) c=((c:Int)==(n:Int)):=fun n hn=>by
  obtain⟨q1,q2⟩:=x2p (qR n) hn;refine⟨q1,?_⟩;rw[q2,qAs,qAm,qAx];omega
 by_cases c46:atB a 0=46
 ·rw[y8q c46]at hend ⊢;obtain⟨q1,q2⟩:=ex 10 (by omega);rw[show((10:Nat):Int)=10 from rfl]at q1 q2;have HV:Hid (Q5n (Q8p (Q19 zero4 10 10) 4) c=((c:Int) != 10)):=by
   unfold Hid;rw[x2o q1 hc,q2];rfl
  rw[b0]at c46;have k1:((a[0].toNat:Int)==46)=true:=by simp[c46]
  clear j0 ex q1 q2 hok b0 c46 hend;dsimp only;rw[HV.out];go_enter Tryz.func134,Tryz.ntmps134
  go_wp2;go_ret;exact⟨rfl,rfl⟩
 by_cases c91:atB a 0=91
 ·rw[x4f c91]at hok hend ⊢;have h1:1<a.size:=by
   have:=x4a a 1 (by omega) (by omega);have:=this.2.2 hok;omega
  unfold rBr at hok hend ⊢;by_cases c94:atB a (0+1)=94
  ·rw[qAb c94]at hok hend ⊢;have h2:=x5m a c w hs h1 hc c91 true (by rw[show(1:Int)=0+1 from rfl,c94];rfl) 2 rfl _ rfl hok hend;have hw:WOk (Q29 a ((2:Nat):Int)).1:=x1w _ _ _ (by omega) z5m;rw[show(0:Int)+1+1=((2:Nat):Int) from rfl];dsimp only;rw[x2o hw hc];refine h2.mono ?_;rintro e w'⟨he,hw'⟩;refine⟨?_,hw'⟩;rw[he];cases Q5n (Q29 a ((2:Nat):Int)).1 c<;>rfl
  rw[qAa c94]at hok hend ⊢;have h2:=x5m a c w hs h1 hc c91 false (by rw[show(1:Int)=0+1 from rfl];simpa using c94) 1 rfl _ rfl hok hend;refine h2.mono ?_;rintro e w'⟨he,hw'⟩;refine⟨?_,hw'⟩;rw[he,show(0:Int)+1=((1:Nat):Int) from rfl];cases Q5n (Q29 a ((1:Nat):Int)).1 c<;>rfl
 by_cases c92:atB a 0=92
 ·rw[y4w c92]at hok hend ⊢;dsimp only at hok hend ⊢;rw[show(0:Int)+1=1 from rfl]at hok hend ⊢;have h1:1<a.size:=by
   by_cases q:1<a.size
   ·exact q
   exfalso;unfold Q2g at hok;rw[z18 (by omega),qAa (by decide),qAa (by decide),qAb (by decide)]at hok;cases hok
  have b1:atB a 1=(a[1].toNat:Int):=z1r h1;have j4:a[1].toNat<256:=a[1].toNat_lt;have ZM:=hid (fun w=>z5z a[1].toNat w (by omega));rw[y18,b1]at hok ⊢;have hm:(mkF (a[1].toNat:Int)).2=true:=by
   cases z:(mkF (a[1].toNat:Int)).2
   ·rw[z,qAa (by simp)]at hok;cases hok
   rfl
  rw[qAb hm];have j3:∃n:Nat,n<256/\(mkF (a[1].toNat:Int)).1=n:=by
   unfold mkF;split
   ·exact⟨10,by omega,rfl⟩
   split
   ·exact⟨9,by omega,rfl⟩
   exact⟨a[1].toNat,by omega,rfl⟩
  obtain⟨n,hn,he⟩:=j3;obtain⟨q1,q2⟩:=ex n hn;dsimp only;rw[he,q2];rw[he,hm]at ZM;rw[b0]at c92;have k1:((a[0].toNat:Int)==46)=false:=by simp[c92]
  have k2:((a[0].toNat:Int)==92)=true:=by simp[c92]
  have p1:(1:Int)<(a.size:Int):=by omega
  clear j0 ex q1 q2 hok b0 b1 c92 c46 c91 hend hm he h40;go_enter Tryz.func134,Tryz.ntmps134
  go_wp2_with (first
   |(go_at_call 128;refine csm (ZM.out _) ?_))
  go_ret;exact⟨rfl,rfl⟩
 have hp:Q01 (atB a 0)=true:=by
  cases z:Q01 (atB a 0)
  ·rw[x4g c46 c91 c92 z]at hok;cases hok
  rfl
 rw[y1f hp]at hend ⊢;rw[b0]at c46 c91 c92 ⊢;obtain⟨q1,q2⟩:=ex a[0].toNat j2;dsimp only;rw[q2];have k1:((a[0].toNat:Int)==46)=false:=by simpa using c46
 have k2:((a[0].toNat:Int)==92)=false:=by simpa using c92
 have k3:((a[0].toNat:Int)==91)=false:=by simpa using c91
 clear j0 ex q1 q2 hok b0 c92 c46 c91 hend h40 hp;go_enter Tryz.func134,Tryz.ntmps134
 go_wp2;go_ret;refine⟨z0s ?_,rfl⟩;rw[qAs,qAx,qAx];exact eq_comm
abbrev bsl(g n:Nat):Value:=.slice (some ⟨g,0,none⟩) n n
def Q1y(w:World)(g:Nat)(fs:List Bool):Prop:=w.heap[g]? = some (.cells (Q3y fs).toArray 4 (0,0))
theorem Q1y.fresh{w w':World}{g:Nat}{fs:List Bool}(h:Q1y w g fs)(m:Q0a w w'):Q1y w' g fs:=m.at h (fun x=>x)
theorem Q1y.lt{w:World}{g:Nat}{fs:List Bool}(h:Q1y w g fs):g<w.heap.size:=z0j h
theorem Q1y.cell{w:World}{g:Nat}{fs:List Bool}(h:Q1y w g fs){j:Nat}(hj:j<fs.length):w.cell? ⟨g,j,none⟩=some (.bool (fs.getD j false)):=by
 rw[Q0b h,qCb,qBe,qE hj];simp[hj]
theorem Q1y.frozen{w:World}{g:Nat}{fs:List Bool}(h:Q1y w g fs)(j:Nat):w.frozen? ⟨g,j,none⟩=false:=Q0g h j
theorem Q1y.put{w:World}{g:Nat}{fs:List Bool}(h:Q1y w g fs)(j:Nat)(b:Bool):Q1y (w.setCell ⟨g,j,none⟩ (.bool b)) g (fs.set j b):=by
 unfold Q1y;rw[zhs h];congr 2;apply qDk;intro k;simp[Q3y,qDy]
theorem z03(n:Nat):madeCells #[.bool false] n=(Q3y (List.replicate n false)).toArray:=by
 unfold madeCells;apply qDk;intro i;by_cases h:i<n<;>simp[h,Nat.mod_one]
theorem z3l{fs:List Bool}{i:Nat}:On fs i↔fs.getD i false=true:=by
 unfold On;rw[qD];cases fs[i]? with
 |none=>simp
 |some b=>simp
def orI(xs ys:List Bool)(n i:Nat):List Bool:=(List.range n).map fun j=>decide (j<i)&&(xs.getD j false||ys.getD j false)
theorem z2l(xs ys:List Bool)(n i:Nat):(orI xs ys n i).length=n:=by simp[orI]
theorem x6u(xs ys:List Bool)(n:Nat):orI xs ys n 0=List.replicate n false:=by
 apply qDf;intro j;by_cases h:j<n
 ·simp[orI,h]
 simp[orI,h]
theorem x98(xs ys:List Bool){n i:Nat}(hi:i<n):(orI xs ys n i).set i (xs.getD i false||ys.getD i false)=orI xs ys n (i+1):=by
 apply qDu
 ·simp[orI]
 intro j h1 h2;rw[List.getElem_set];simp only[orI,qBt,List.getElem_range];by_cases e:i=j
 ·subst e;simp
 rw[qAa e];congr 1;rw[qAs,qAm,qAm];omega
def moI(xs ys:List Bool)(i:Nat):Bool:=(List.range i).any fun j=>ys.getD j false&&!xs.getD j false
theorem x6l(xs ys:List Bool)(i:Nat):moI xs ys (i+1)=(moI xs ys i||(ys.getD i false&&!xs.getD i false)):=by
 unfold moI;rw[List.range_succ,List.any_append];simp
theorem v0b{xs ys:List Bool}{n:Nat}(h:xs.length=n):Un xs ys (orI xs ys n n):=by
 refine⟨by rw[z2l,h],fun j=>?_⟩;rw[z3l,z3l,z3l];by_cases hj:j<n
 ·have:(orI xs ys n n).getD j false=(xs.getD j false||ys.getD j false):=by
   simp[orI,hj]
  rw[this,qAk];constructor
  ·rintro(q|q)
   ·exact .inl q
   exact .inr ⟨by omega,q⟩
  rintro(q|⟨_,q⟩)
  ·exact .inl q
  exact .inr q
 have e1:(orI xs ys n n).getD j false=false:=by simp[orI,hj]
 have e2:xs.getD j false=false:=by
  rw[qD,qN (by omega)];rfl
 rw[e1,e2];constructor
 ·intro q;cases q
 rintro(q|⟨q,_⟩)
 ·cases q
 omega
theorem z2x(w:World)(ga gb n:Nat)(xs ys:List Bool)(ha:Q1y w ga xs)(hb:Q1y w gb ys)(la:xs.length=n)(lb:ys.length=n)(hn:n<=1000) :
  Calls Tryz.prog 70 #[bsl ga n,bsl gb n] w fun e w'=>e=.returned (.tuple #[bsl w.heap.size n,.bool (moI xs ys n)])/\Q0a w w'/\Q1y w' w.heap.size (orI xs ys n n):=by
 have HA:=hid ha;have HB:=hid hb;have LA:=hid la;have LB:=hid lb;have j2:=ha.lt;have j3:=hb.lt;have mk:=fun w=>run_make_row' (P:=Tryz.prog) 90 4 (.bool false) 1 Tryz.underlying90 (by kernel_rfl) rfl .i64 .i64 n (by omega) (by omega) w;clear ha hb la lb;go_enter Tryz.func70,Tryz.ntmps70
 go_wp2;go_loopw [7,8] (fun x7 x8 wr=>∃i:Nat,x8=.int .i64 i/\i<=n/\x7=.bool (moI xs ys i)/\Q1y wr w.heap.size (orI xs ys n i)/\Q0a w wr)
   (fun _ x _=>1001-(intOf x).toNat)
 case atStart =>
  refine⟨0,rfl,by omega,rfl,?_,(mRf _ w).alloc _⟩;rw[x6u,z03];exact z0a _ _
 obtain⟨i,rfl,hi,rfl,hC,hfr⟩:=hrel;have j0:=hid (Q15 (B:=1001) i (by omega));have HF:=hid hfr;have HC:=hid hC;clear mk;by_cases hlt:i<n
 ·have k1:(i:Int)<(n:Int):=by omega
  have c1:=(HA.fresh hfr).cell (j:=i) (by rw[LA.out];exact hlt);have c2:=(HB.fresh hfr).cell (j:=i) (by rw[LB.out];exact hlt);have c3:=hC.cell (j:=i) (by rw[z2l];exact hlt);have z3:=hC.frozen i;have HS:=hid (x98 xs ys hlt);have HM:=hid (x6l xs ys i);have n1:ga≠w.heap.size:=by omega
  have n2:gb≠w.heap.size:=by omega
  have n3:w.heap.size≠ga:=by omega
  have n4:w.heap.size≠gb:=by omega
  generalize(orI xs ys n i).getD i false=xo at c3;generalize xs.getD i false=xa at c1 HS HM;generalize ys.getD i false=yb at c2 HS HM;generalize moI xs ys i=mo at HM;clear hC hfr;cases xa<;>cases yb<;>cases mo;all_goals
   go_wp2;go_roundw
   case rel =>
    refine⟨i+1,by go_num,by omega,by rw[HM.out];rfl,?_,HF.setCell (by simp) _⟩;rw[← HS.out];exact HC.put _ _
   exact j0.out
 have k1:¬(i:Int)<(n:Int):=by omega
 have j1:i=n:=by omega
 subst j1;go_wp2;go_ret2;exact⟨rfl,HF.out,HC.out⟩
def onI(H:Nat->Bool)(fs:List Bool)(n i:Nat):List Bool:=(List.range n).map fun j=>decide (0<j/\j<=i)&&(fs.getD (j-1) false&&H (j-1))
theorem x3s(H:Nat->Bool)(fs:List Bool)(n i:Nat):(onI H fs n i).length=n:=by simp[onI]
theorem x6q(H:Nat->Bool)(fs:List Bool)(n:Nat):onI H fs n 0=List.replicate n false:=by
 apply qDf;intro j;by_cases h:j<n
 ·have:decide (0<j/\j<=0)=false:=qBh (by omega);simp only[onI,qBe,qEg h,qCz,this,qCi];simp[h]
 simp[onI,h]
theorem x96(H:Nat->Bool)(fs:List Bool){n i:Nat}(hi:i+1<n):(onI H fs n i).set (i+1) (fs.getD i false&&H i)=onI H fs n (i+1):=by
 apply qDu
 ·simp[onI]
 intro j h1 h2;rw[List.getElem_set];simp only[onI,qBt,List.getElem_range];by_cases e:i+1=j
 ·subst e;simp
 rw[qAa e];congr 1;rw[qAs,qAm,qAm];omega
theorem y0p{t:ByteArray}{i:Nat}(h:i<t.size):Q10 t i 1=[t[i].toNat]:=by
 show []++(if h:i+0<t.size then [t[i+0].toNat] else [])=_;rw[qEi (by omega)];simp
theorem x97{ws:List Int}{t:ByteArray}{fs:List Bool}{H:Nat->Bool}(hH:∀j (hj:j<t.size),H j=Q5n ws t[j].toNat):Q58 (Q02.byte fun c=>Q5n ws c=true) t fs (onI H fs (t.size+1) t.size):=by
 refine⟨x3s _ _ _ _,fun j hj=>?_⟩;have e:(onI H fs (t.size+1) t.size).getD j false=(decide (0<j/\j<=t.size)&&(fs.getD (j-1) false&&H (j-1))):=by
  have:j<t.size+1:=by omega
  rw[qD];simp only[onI,qBe,qEg this,qCz,qDa]
 rw[z3l,e,qAc,qAc,qAm];constructor
 ·rintro⟨⟨h0,_⟩,h1,h2⟩;refine⟨j-1,by omega,z3l.2 h1,t[j-1].toNat,?_,?_⟩
  ·show Q5n ws t[j-1].toNat=true;rw[← hH (j-1) (by omega)];exact h2
  rw[show j-(j-1)=1 by omega,y0p (by omega)]
 rintro⟨i,hi,hf,c,hc,he⟩;have hl:=z3g t i (j-i) (by omega);rw[he]at hl;simp at hl;have j0:j=i+1:=by omega
 subst j0;rw[show i+1-i=1 by omega,y0p (by omega)]at he;simp at he;refine⟨⟨by omega,by omega⟩,by simpa using z3l.1 hf,?_⟩;rw[show i+1-1=i by omega,hH i (by omega),he];exact hc
def SetRet(L:Q02)(t:ByteArray)(fs:List Bool)(g:Nat)(w:World)(e:Ending)(w':World):Prop :=
 ∃g' gs,e=.returned (bsl g' (t.size+1))/\Q0a w w'/\Q1y w' g' gs/\Q58 L t fs gs
def SetC(f:Nat)(p:ByteArray)(L:Q02):Prop:=∀(t:ByteArray) (g:Nat) (fs:List Bool) (w:World),t.size<=210->Q1y w g fs->fs.length=t.size+1 ->
 Calls Tryz.prog f #[.string p,.string t,bsl g (t.size+1)] w fun e w'=>SetRet L t fs g w e w'
theorem x5n(a:ByteArray)(hs:a.size<=80000)(h40:atB a 0≠40)(hok:(Q2n a 0).2.2=true)(hend:(Q2n a 0).2.1=a.size):SetC 130 a (Q02.byte fun c=>Q5n (Q2n a 0).1 c=true):=by
 intro t g fs w ht hg hl;have HG:=hid hg;have HL:=hid hl;have j4:=hg.lt;have HA:=hid (fun(c:Nat) (w:World) (hc:c<256)=>x70 a c w hs hc h40 hok hend);have h0:0<a.size:=by
  have j0:atB a 0≠-1:=by
   intro e;unfold Q2n at hok;rw[e,qAa (by decide),qAa (by decide),qAa (by decide),qAb (by decide)]at hok;cases hok
  have:=z0q j0;omega
 have b0:atB a 0=(a[0].toNat:Int):=z1r h0;have j5:a[0].toNat<256:=a[0].toNat_lt;have p0:(0:Int)<(a.size:Int):=by omega
 rw[b0]at h40;have j6:((a[0].toNat:Int)==40)=false:=by simpa using h40
 have mk:=fun w=>run_make_row' (P:=Tryz.prog) 90 4 (.bool false) 1 Tryz.underlying90 (by kernel_rfl) rfl .i64 .i64 (t.size+1) (by omega) (by omega) w;simp only[Int.natCast_add,Int.cast_ofNat_Int]at mk;generalize(Q2n a 0).1=ws at HA ⊢;generalize hH:(fun j:Nat=>if h:j<t.size then Q5n ws t[j].toNat else false)=H;have HH:Hid (∀j (hj:j<t.size),H j=Q5n ws t[j].toNat):=fun j hj=>by rw[← hH];simp[hj]
 clear hg hl hok hend b0 hH h40;go_enter Tryz.func130,Tryz.ntmps130
 go_wp2;go_loopw [8] (fun x8 wr=>∃i:Nat,x8=.int .i64 i/\i<=t.size/\Q1y wr w.heap.size (onI H fs (t.size+1) i)/\Q0a w wr)
   (fun x _=>1001-(intOf x).toNat)
 case atStart =>
  refine⟨0,rfl,by omega,?_,(mRf _ w).alloc _⟩;rw[x6q,z03];exact z0a _ _
 obtain⟨i,rfl,hi,hC,hfr⟩:=hrel;have j2:=hid (Q15 (B:=1001) i (by omega));have HF:=hid hfr;have HC:=hid hC;clear mk;by_cases hlt:i<t.size
 ·have k1:(i:Int)<(t.size:Int):=by omega
  have k2:(i:Int)<(t.size:Int)+1:=by omega
  have k3:(i:Int)+1<(t.size:Int)+1:=by omega
  have c1:=(HG.fresh hfr).cell (j:=i) (by rw[HL.out];omega);have c3:=hC.cell (j:=i+1) (by rw[x3s];omega);have z3:=hC.frozen (i+1);have HS:=hid (x96 H fs (n:=t.size+1) (i:=i) (by omega));have j3:t[i].toNat<256:=t[i].toNat_lt;have HX:=hid (fun w=>HA.out t[i].toNat w j3);have j1:=hid (HH.out i hlt);have n1:g≠w.heap.size:=by omega
  have n3:w.heap.size≠g:=by omega
  rw[← j1.out]at HX;generalize(onI H fs (t.size+1) i).getD (i+1) false=xo at c3;generalize fs.getD i false=xa at c1 HS;generalize H i=yb at HX HS;clear hC hfr j1;cases xa<;>cases yb;all_goals
   go_wp2_with (first
    |(go_at_call 134;refine csm (HX.out _) ?_))
   go_roundw
   case rel =>
    refine⟨i+1,by go_num,by omega,?_,HF.setCell (by simp) _⟩;rw[← HS.out];exact HC.put _ _
   exact j2.out
 have k1:¬(i:Int)<(t.size:Int):=by omega
 have j0:i=t.size:=by omega
 have HI:=hid j0;clear j0;go_wp2;go_ret;refine⟨w.heap.size,_,rfl,HF.out,HC.out,?_⟩;rw[HI.out];exact x97 HH.out
abbrev Pc(s:ByteArray):Int->LR:=Q1r (Q3i (lgK s 6) s) s
abbrev Am(s:ByteArray):Int->LR:=Q3i (lgK s 6) s
def Q89(p:ByteArray)(L:Q02):Prop:=Q6q p 6 0=⟨p.size,true,L⟩
def PceIs(p:ByteArray)(L:Q02):Prop:=Pc p 0=⟨p.size,true,L⟩
def Q8q(p:ByteArray)(L:Q02):Prop:=Am p 0=⟨p.size,true,L⟩
theorem y9b(p:ByteArray)(hp:p.size<=80000):AtmC p 0 (Q3r (zgK p 6) p):=y0e p 6 0 hp (by omega) (fun k' e=>y3b p hp k' 1 (by omega))
theorem y9g(p:ByteArray)(hp:p.size<=80000):PceC p 0 (Q4b (Q3r (zgK p 6) p) p):=z7e p 6 0 hp (y9b p hp)
theorem x28(s:ByteArray):Q3t s (Pc s):=z6c s 6
theorem v1l(s:ByteArray):Q3t s (Am s):=z2r s 6
theorem x3e(s s':ByteArray):Loc s s' (Pc s) (Pc s'):=z9f (z77 (y8e s s' 6 6 (qR _)) (z2r s 6)) (z2r s 6)
theorem v1m(s s':ByteArray):LocA s s' (Am s) (Am s'):=z77 (y8e s s' 6 6 (qR _)) (z2r s 6)
theorem z51{s:ByteArray}{a e:Nat}(he:e<=s.size){x:Int}(h0:0<=x):Q3a s (a+x) (s.extract a e) x (e-a-x.toNat):=fun j hj=>by
 rw[z02 he (by omega) (by omega)];congr 1;omega
theorem z3q{s:ByteArray}{a e:Nat}(he:e<=s.size):(s.extract a e).size=e-a:=by rw[qAz];omega
theorem v0g{u:ByteArray}{i j:Nat}{A:Q02}(h:Pc u i=⟨(j:Int),true,A⟩)(hi:i<=u.size):PceIs (u.extract i j) A/\i<j/\j<=u.size:=by
 have g:=x28 u i (by omega) (by omega) (by rw[h]);rw[h]at g;dsimp only at g;have j0:=z3q (s:=u) (a:=i) (e:=j) (by omega);refine⟨?_,by omega,by omega⟩;have al:=z51 (s:=u) (a:=i) (e:=j) (by omega) (x:=0) (by omega);rw[qCs]at al;have sm:=x3e u (u.extract i j) i 0 (j-i) (by omega) (by omega) (by omega) al (by rw[z18 (by omega)];decide) (by rw[h]) (by rw[h];dsimp only;omega);unfold PceIs;rw[z2k sm.ok,sm.next,sm.lang,h];dsimp only;congr 1;omega
theorem x89{q:ByteArray}{n:Nat}{A:Q02}(h:Am q 0=⟨(n:Int),true,A⟩):Q8q (q.extract 0 n) A/\0<n/\n<=q.size:=by
 have g:=v1l q 0 (by omega) (by omega) (by rw[h]);rw[h]at g;dsimp only at g;have j0:=z3q (s:=q) (a:=0) (e:=n) (by omega);refine⟨?_,by omega,by omega⟩;have al:=z51 (s:=q) (a:=0) (e:=n) (by omega) (x:=0) (by omega);have sm:=v1m q (q.extract 0 n) 0 0 (n-0) (by omega) (by omega) (by omega) al (by rw[h]) (by rw[h];dsimp only;omega);unfold Q8q;rw[z2k sm.ok,sm.next,sm.lang,h];dsimp only;congr 1;omega
theorem x9m{a:ByteArray}{A:Q02}(h:Q8q a A)(h40:atB a 0=40):Q89 (a.extract 1 (a.size-1)) A/\3<=a.size:=by
 unfold Q8q Am Q3i at h;rw[qAb h40]at h;have h':Q56 (Q6q a 5) a 0=⟨a.size,true,A⟩:=h;unfold Q56 at h';by_cases c1:(Q6q a 5 (0+1)).ok=false
 ·rw[qAb c1]at h';injection h' with _ e;cases e
 rw[qAa c1]at h';have j0:(Q6q a 5 1).ok=true:=by simpa using c1
 by_cases c2:atB a (Q6q a 5 (0+1)).next≠41
 ·rw[qAb c2]at h';injection h' with _ e;cases e
 rw[qAa c2]at h';injection h' with e1 _ e3;have hn:(Q6q a 5 ((1:Nat):Int)).next+1=a.size:=e1;have j2:=z0q (s:=a) (i:=0) (by omega);have g:=y4a a 5 ((1:Nat):Int) (by omega) (by omega) j0;have j3:=z3q (s:=a) (a:=1) (e:=a.size-1) (by omega);refine⟨?_,by omega⟩;have al:=z51 (s:=a) (a:=1) (e:=a.size-1) (by omega) (x:=0) (by omega);rw[qCs]at al;have sm:=y16 a (a.extract 1 (a.size-1)) (show 5<=6 by omega) ((1:Nat):Int) 0 (a.size-1-1) (by omega) (by omega) (by omega) al (by rw[z18 (by omega)];decide) j0 (by omega);unfold Q89;rw[z2k sm.ok,sm.next,sm.lang];have j1:(Q6q a 5 ((1:Nat):Int)).lang=A:=e3;rw[j1];congr 1;omega
theorem y8r{s:ByteArray}:∀{As:List Q02}{x y:Int},Row (Pc s) x As y->0<=x->x<=s.size->x<=y/\y<=s.size
 | [],x,y,h,_,h1=>by have:x=y:=h;omega
 |A::As,x,y,⟨h1,h2,h3⟩,h0,hs=>by
  have g:=x28 s x h0 hs h1;have:=y8r h3 (by omega) (by omega);omega
theorem x4m{p:ByteArray}{b x:Nat}(hx:x<=p.size):∀{As:List Q02}{y:Int},Row (Pc p) y As x->(b:Int)<=y->Row (Pc (p.extract b x)) (y-b) As ((x:Int)-b)
 | [],y,h,hb=>by have:y=x:=h;show y-b=(x:Int)-b;omega
 |A::As,y,⟨h1,h2,h3⟩,hb=>by
  have hy:y<p.size:=by
   have:=z0q (s:=p) (i:=y) (y3h (z28 h1));omega
  have g:=x28 p y (by omega) (by omega) h1;have j0:=y8r h3 (by omega) (by omega);have j1:=z3q (s:=p) (a:=b) (e:=x) hx;have al:=z51 (s:=p) (a:=b) (e:=x) hx (x:=y-b) (by omega);rw[show(b:Int)+(y-b)=y by omega]at al;have sm:=x3e p (p.extract b x) y (y-b) (x-b-(y-b).toNat) (by omega) (by omega) (by omega) al (by rw[z18 (by omega)];decide) h1 (by omega);refine⟨sm.ok,by rw[sm.lang];exact h2,?_⟩;rw[sm.next,show(Pc p y).next-y+(y-(b:Int))=(Pc p y).next-b by omega];exact x4m hx h3 (by omega)
theorem x72(a:ByteArray)(A:Q02)(hs:a.size<=1000)(h:Q8q a A)(ih:∀p L,p.size+2<=a.size->Q89 p L->SetC 91 p L):SetC 130 a A:=by
 by_cases h40:atB a 0=40
 ·obtain⟨hp,h3⟩:=x9m h h40;have j2:=z3q (s:=a) (a:=1) (e:=a.size-1) (by omega);have TH:=ih _ A (by omega) hp;intro t g fs w ht hg hl;have TX:=hid (TH t g fs w ht hg hl);have j0:0<a.size:=by omega
  have b0:atB a 0=(a[0].toNat:Int):=z1r j0;have j1:a[0].toNat<256:=a[0].toNat_lt;rw[b0]at h40;have j3:((a[0].toNat:Int)==40)=true:=by simp[h40]
  have p0:(0:Int)<(a.size:Int):=by omega
  have p1:(1:Int)<=(a.size:Int)-1:=by omega
  have p2:(a.size:Int)-1<=(a.size:Int):=by omega
  have p3:((a.size:Int)-1).toNat=a.size-1:=by omega
  clear hg hl b0 h40 h hp TH ih;go_enter Tryz.func130,Tryz.ntmps130
  go_wp2_with (first
   |(go_at_call 91;refine(TX.out).mono ?_;rintro e w1⟨g',gs,rfl,q⟩;have HQ:=hid q;clear q))
  go_ret;exact⟨g',gs,rfl,HQ.out⟩
 unfold Q8q Am Q3i at h;rw[qAa h40]at h;by_cases c:(Q2n a 0).2.2=false
 ·rw[qAb c]at h;injection h with _ e;cases e
 rw[qAa c]at h;injection h with e1 _ e3;have:=x5n a (by omega) h40 (by simpa using c) e1;rw[e3]at this;exact this
end Go.Proofs.YtcpceafmlgaodaaGreat
