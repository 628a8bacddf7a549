import Derived.Test.YtbdpfmalabgmbaaGreatLa4
namespace Go.Proofs.YtbdpfmalabgmbaaGreat
open Go.RowKit
set_option maxRecDepth 99999
set_option maxHeartbeats 0
set_option linter.all false
def W0m(c:Int):Bool:=c==40||c==46||c==91||c==92||Q02 c
theorem z2j(s:ByteArray)(i:Int):Q2v s i=W0m (atB s i):=rfl
def Q8i(c:Int):Bool:=!Q1t c&&!W0m c&&c != 124
theorem x1c{c:Int}(h:Q8i c=true):Q1t c=false:=by
 unfold Q8i at h;cases h1:Q1t c
 ·rfl
 rw[h1]at h;simp at h
theorem x5h{c:Int}(h:Q8i c=true):W0m c=false:=by
 unfold Q8i at h;cases h1:W0m c
 ·rfl
 rw[h1]at h;simp at h
theorem x5g{c:Int}(h:Q8i c=true):c≠124:=by
 unfold Q8i at h;intro e;rw[e]at h;simp at h
theorem z9u{c:Int}(h:Q1t c=true):c≠-1:=by intro e;rw[e]at h;revert h;decide
theorem y3y{c:Int}(h:W0m c=true):c≠-1:=by intro e;rw[e]at h;revert h;decide
def Q3z(s:ByteArray)(l:Int->LR):Prop:=∀i:Int,0<=i->i<=s.size->(l i).ok=true->i<(l i).next/\(l i).next<=s.size
theorem z8f{s:ByteArray}{f:Int->List Q0q->PR}{l:Int->LR}(h:Q5w s f)(k:LkF f l):Q3z s l:=fun i h0 h1 hok=>by
 have h2:=(h i [] h0 h1).good (by rw[(k i []).ok];exact hok);rw[(k i []).next]at h2;exact h2
theorem z2y(s:ByteArray)(k:Nat):Q3z s (Q3m (lgK s k) s):=z8f (z3n (z66 s k)) (z9o (x3u s k))
theorem z6l(s:ByteArray)(k:Nat):Q3z s (Q1u (Q3m (lgK s k) s) s):=z8f (z38 (z3n (z66 s k))) (z8g (z9o (x3u s k)))
theorem y4s(s:ByteArray)(k:Nat):Q3z s (Q00 (Q1u (Q3m (lgK s k) s) s) s):=z8f (z4m (z38 (z3n (z66 s k)))) (z9p (z8g (z9o (x3u s k))))
theorem y4t(s:ByteArray)(k:Nat):Q3z s (Q61 s k):=z8f (z5k s k) (y80 s k)
structure Same(r r':LR)(i i':Int):Prop where
 ok:r'.ok=true
 next:r'.next=r.next-i+i'
 lang:r'.lang=r.lang
def LocG(s s':ByteArray)(l l':Int->LR):Prop:=∀(i i':Int) (n:Nat),0<=i->0<=i'->atB s i=40->Q3g s i s' i' n->(l i).ok=true->(l i).next<=i+n->Same (l i) (l' i') i i'
def LocA(s s':ByteArray)(l l':Int->LR):Prop:=∀(i i':Int) (n:Nat),0<=i->i<=s.size->0<=i'->Q3g s i s' i' n->(l i).ok=true->(l i).next<=i+n->Same (l i) (l' i') i i'
def Loc(s s':ByteArray)(l l':Int->LR):Prop:=∀(i i':Int) (n:Nat),0<=i->i<=s.size->0<=i'->Q3g s i s' i' n->Q8i (atB s' (i'+n))=true->(l i).ok=true->(l i).next<=i+n->Same (l i) (l' i') i i'
theorem z4a(s:ByteArray)(f:Nat)(r:LR):Q2g s (f+1) r=if(r.ok&&Q1t (atB s r.next))=true then Q2g s f ⟨r.next+1,true,Q03.rep (atB s r.next) r.lang⟩ else r:=rfl
theorem z2m(p:Int->LR)(s:ByteArray)(f:Nat)(r:LR):Q1o p s (f+1) r=if(r.ok&&Q2v s r.next)=true then Q1o p s f (Q5z r (p r.next)) else r:=rfl
theorem z2x(p:Int->LR)(s:ByteArray)(f:Nat)(r:LR):Q04 p s (f+1) r=if(r.ok&&(atB s r.next==124))=true then Q04 p s f (Q10 r (p (r.next+1))) else r:=rfl
section
variable {s s':ByteArray}
theorem z8h{g g':Int->LR}(hg:LocG s s' g g')(hgd:Q3z s (Q3m g s)):LocA s s' (Q3m g s) (Q3m g' s'):=by
 intro i i' n h0 h1 j1 h j0 hn;have hgd:=hgd i h0 h1 j0;have e:=h.at0 (by omega);unfold Q3m at j0 hn ⊢;rw[e];by_cases c:atB s i=40
 ·rw[qAb c]at j0 hn ⊢;rw[qAb c];exact hg i i' n h0 j1 c h j0 hn
 rw[qAa c]at j0 hn ⊢;rw[qAa c];by_cases c2:(Q2r s i).2.2=false
 ·rw[qAb c2]at j0;cases j0
 rw[qAa c2]at j0 hn ⊢;have r:=x7s h h0 j1 (by simpa using c2) hn;rw[r];rw[qAa (by simp)];exact⟨rfl,rfl,rfl⟩
theorem y1o{i i':Int}{n:Nat}(h:Q3g s i s' i' n)(hst:Q8i (atB s' (i'+n))=true):∀(f:Nat) (x:Int) (L:Q03),i<=x->x<=s.size->(s.size:Int)+2<=f+x->(Q2g s f ⟨x,true,L⟩).next<=i+n->∀f':Nat,(s'.size:Int)+2<=f'+(x-i+i') ->
  Same (Q2g s f ⟨x,true,L⟩) (Q2g s' f' ⟨x-i+i',true,L⟩) i i'/\x<=(Q2g s f ⟨x,true,L⟩).next/\(Q2g s f ⟨x,true,L⟩).ok=true
 |0,x,L,_,hx,hf,_,_,_=>by omega
 |f+1,x,L,hi,hx,hf,hn,f',hf'=>by
  rw[z4a s f ⟨x,true,L⟩]at hn ⊢;dsimp only at hn ⊢;rw[qBm]at hn ⊢;by_cases c:Q1t (atB s x)=true
  ·rw[qAb c]at hn ⊢;have hx2:=z0r (s:=s) (i:=x) (z9u c);have j1:=fun f' hf'=>y1o h hst f (x+1) (Q03.rep (atB s x) L) (by omega) (by omega) (by omega) hn f' hf';have r1:=(j1 (s'.size+2+(x+1-i+i').natAbs) (by omega)).2;have a1:=h.atK hi (x:=x) (by omega);have a2:=z0r (s:=s') (i:=x-i+i') (by rw[a1];exact z9u c);cases f' with
   |zero=>omega
   |succ f' =>
    have j0:(true&&Q1t (atB s' (x-i+i')))=true:=by rw[a1];simpa using c
    rw[z4a s' f'];dsimp only;rw[qAb j0,a1,show x-i+i'+1=x+1-i+i' by omega];exact⟨(j1 f' (by omega)).1,by omega,r1.2⟩
  rw[qAa c]at hn ⊢;dsimp only at hn ⊢;have a1:Q1t (atB s' (x-i+i'))=false:=by
   by_cases q:x<i+n
   ·rw[h.atK hi q];simpa using c
   rw[show x-i+i'=i'+n by omega];exact x1c hst
  cases f' with
  |zero=>exact⟨⟨rfl,rfl,rfl⟩,by omega,rfl⟩
  |succ f' =>
   have j0:¬(true&&Q1t (atB s' (x-i+i')))=true:=by rw[a1];simp
   rw[z4a s' f'];dsimp only;rw[qAa j0];exact⟨⟨rfl,rfl,rfl⟩,by omega,rfl⟩
theorem z9k(s:ByteArray):∀(f:Nat) (r:LR),r.ok=false->Q2g s f r=r
 |0,r,_=>rfl
 |f+1,r,h=>by unfold Q2g;rw[h];rfl
theorem z2r{r:LR}(h:r.ok=true):r=⟨r.next,true,r.lang⟩:=by obtain⟨a,b,c⟩:=r;dsimp only at h ⊢;rw[h]
theorem z9s{a a':Int->LR}(ha:LocA s s' a a')(hg:Q3z s a):Loc s s' (Q1u a s) (Q1u a' s'):=by
 intro i i' n h0 h1 j3 h j4 j1 hn;unfold Q1u at j1 hn ⊢;have j0:(a i).ok=true:=by
  cases e:(a i).ok
  ·rw[z9k s _ _ e,e]at j1;cases j1
  rfl
 have g:=hg i h0 h1 j0;rw[z2r j0]at hn ⊢;have j2:=fun f' hf'=>y1o h j4 (s.size+5) (a i).next (a i).lang (by omega) (by omega) (by omega) hn f' hf';have k1:=(j2 (s'.size+2+((a i).next-i+i').natAbs) (by omega)).2.1;have sm:=ha i i' n h0 h1 j3 h j0 (by omega);rw[z2r sm.ok,sm.next,sm.lang];exact(j2 (s'.size+5) (by omega)).1
theorem z1z(p:Int->LR)(s:ByteArray):∀(f:Nat) (r:LR),r.ok=false->Q1o p s f r=r
 |0,r,_=>rfl
 |f+1,r,h=>by unfold Q1o;rw[h];rfl
theorem z10(p:Int->LR)(s:ByteArray):∀(f:Nat) (r:LR),r.ok=false->Q04 p s f r=r
 |0,r,_=>rfl
 |f+1,r,h=>by unfold Q04;rw[h];rfl
theorem z9q{p p':Int->LR}(hp:Loc s s' p p')(hg:Q3z s p){i i':Int}{n:Nat}(h0:0<=i)(h0':0<=i')(h:Q3g s i s' i' n)(hst:Q8i (atB s' (i'+n))=true):∀(f:Nat) (x:Int) (L:Q03),i<=x->x<=s.size->(s.size:Int)+2<=f+x->(Q1o p s f ⟨x,true,L⟩).ok=true->(Q1o p s f ⟨x,true,L⟩).next<=i+n->∀f':Nat,(s'.size:Int)+2<=f'+(x-i+i') ->
  Same (Q1o p s f ⟨x,true,L⟩) (Q1o p' s' f' ⟨x-i+i',true,L⟩) i i'/\x<=(Q1o p s f ⟨x,true,L⟩).next
 |0,x,L,_,hx,hf,_,_,_,_=>by omega
 |f+1,x,L,hi,hx,hf,hok,hn,f',hf'=>by
  rw[z2m p s f ⟨x,true,L⟩]at hok hn ⊢;dsimp only at hok hn ⊢;rw[qBm]at hok hn ⊢;by_cases c:Q2v s x=true
  ·rw[qAb c]at hok hn ⊢;have hx2:=z0r (s:=s) (i:=x) (y3y c);have j1:(p x).ok=true:=by
    cases e:(p x).ok
    ·have:(Q5z ⟨x,true,L⟩ (p x)).ok=false:=by unfold Q5z;rw[e];rfl
     rw[z1z p s f _ this,this]at hok;cases hok
    rfl
   have ej:Q5z ⟨x,true,L⟩ (p x)=⟨(p x).next,true,Q03.cat L (p x).lang⟩:=by unfold Q5z;rw[qAb j1]
   rw[ej]at hok hn ⊢;have g:=hg x (by omega) (by omega) j1;have j2:=fun f' hf'=>z9q hp hg h0 h0' h hst f (p x).next (Q03.cat L (p x).lang) (by omega) (by omega) (by omega) hok hn f' hf';have r1:=(j2 (s'.size+2+((p x).next-i+i').natAbs) (by omega)).2;have a1:=h.atK hi (x:=x) (by omega);have a2:=z0r (s:=s') (i:=x-i+i') (by rw[a1];exact y3y c);have hh:=h.on (x-i).toNat
   rw[show i+((x-i).toNat:Int)=x by omega,show i'+((x-i).toNat:Int)=x-i+i' by omega]at hh;have sm:=hp x (x-i+i') (n-(x-i).toNat) (by omega) hx (by omega) hh (by rw[show x-i+i'+((n-(x-i).toNat:Nat):Int)=i'+n by omega];exact hst) j1 (by omega);cases f' with
   |zero=>omega
   |succ f' =>
    have j0:(true&&Q2v s' (x-i+i'))=true:=by rw[z2j,a1,← z2j,c];rfl
    have j3:Q5z ⟨x-i+i',true,L⟩ (p' (x-i+i'))=⟨(p x).next-i+i',true,Q03.cat L (p x).lang⟩:=by
     unfold Q5z;rw[qAb sm.ok,sm.next,sm.lang,show(p x).next-x+(x-i+i')=(p x).next-i+i' by omega]
    rw[z2m p' s' f'];dsimp only;rw[qAb j0,j3];exact⟨(j2 f' (by omega)).1,by omega⟩
  rw[qAa c]at hok hn ⊢;dsimp only at hn ⊢;have a1:Q2v s' (x-i+i')=false:=by
   rw[z2j];by_cases q:x<i+n
   ·rw[h.atK hi q];simpa [z2j]using c
   rw[show x-i+i'=i'+n by omega];exact x5h hst
  cases f' with
  |zero=>exact⟨⟨rfl,rfl,rfl⟩,by omega⟩
  |succ f' =>
   have j0:¬(true&&Q2v s' (x-i+i'))=true:=by rw[a1];simp
   rw[z2m p' s' f'];dsimp only;rw[qAa j0];exact⟨⟨rfl,rfl,rfl⟩,by omega⟩
theorem y1m{p p':Int->LR}(hp:Loc s s' p p')(hg:Q3z s p):Loc s s' (Q00 p s) (Q00 p' s'):=by
 intro i i' n h0 h1 j2 h j3 j1 hn;unfold Q00 at j1 hn ⊢;have j0:(p i).ok=true:=by
  cases e:(p i).ok
  ·rw[z1z p s _ _ e,e]at j1;cases j1
  rfl
 have g:=hg i h0 h1 j0;rw[z2r j0]at j1 hn ⊢;have j4:=fun f' hf'=>z9q hp hg h0 j2 h j3 (s.size+5) (p i).next (p i).lang (by omega) (by omega) (by omega) j1 hn f' hf';have k1:=(j4 (s'.size+2+((p i).next-i+i').natAbs) (by omega)).2;have sm:=hp i i' n h0 h1 j2 h j3 j0 (by omega);rw[z2r sm.ok,sm.next,sm.lang];exact(j4 (s'.size+5) (by omega)).1
theorem z9r{p p':Int->LR}(hp:Loc s s' p p')(hg:Q3z s p){i i':Int}{n:Nat}(h0:0<=i)(h0':0<=i')(h:Q3g s i s' i' n)(hst:Q8i (atB s' (i'+n))=true):∀(f:Nat) (x:Int) (L:Q03),i<=x->x<=s.size->(s.size:Int)+2<=f+x->(Q04 p s f ⟨x,true,L⟩).ok=true->(Q04 p s f ⟨x,true,L⟩).next<=i+n->∀f':Nat,(s'.size:Int)+2<=f'+(x-i+i') ->
  Same (Q04 p s f ⟨x,true,L⟩) (Q04 p' s' f' ⟨x-i+i',true,L⟩) i i'/\x<=(Q04 p s f ⟨x,true,L⟩).next
 |0,x,L,_,hx,hf,_,_,_,_=>by omega
 |f+1,x,L,hi,hx,hf,hok,hn,f',hf'=>by
  rw[z2x p s f ⟨x,true,L⟩]at hok hn ⊢;dsimp only at hok hn ⊢;rw[qBm]at hok hn ⊢;by_cases c:(atB s x==124)=true
  ·rw[qAb c]at hok hn ⊢;have c':atB s x=124:=by simpa using c
   have j4:=z0r (s:=s) (i:=x) (by omega);have j1:(p (x+1)).ok=true:=by
    cases e:(p (x+1)).ok
    ·have:(Q10 ⟨x,true,L⟩ (p (x+1))).ok=false:=by unfold Q10;rw[e];rfl
     rw[z10 p s f _ this,this]at hok;cases hok
    rfl
   have ej:Q10 ⟨x,true,L⟩ (p (x+1))=⟨(p (x+1)).next,true,Q03.alt L (p (x+1)).lang⟩:=by unfold Q10;rw[qAb j1]
   rw[ej]at hok hn ⊢;have g:=hg (x+1) (by omega) (by omega) j1;have j2:=fun f' hf'=>z9r hp hg h0 h0' h hst f (p (x+1)).next (Q03.alt L (p (x+1)).lang) (by omega) (by omega) (by omega) hok hn f' hf';have r1:=(j2 (s'.size+2+((p (x+1)).next-i+i').natAbs) (by omega)).2;have a1:=h.atK hi (x:=x) (by omega);have a2:=z0r (s:=s') (i:=x-i+i') (by rw[a1];omega);have hh:=h.on (x+1-i).toNat
   rw[show i+((x+1-i).toNat:Int)=x+1 by omega,show i'+((x+1-i).toNat:Int)=x-i+i'+1 by omega]at hh;have sm:=hp (x+1) (x-i+i'+1) (n-(x+1-i).toNat) (by omega) (by omega) (by omega) hh (by rw[show x-i+i'+1+((n-(x+1-i).toNat:Nat):Int)=i'+n by omega];exact hst) j1 (by omega);cases f' with
   |zero=>omega
   |succ f' =>
    have j0:(true&&(atB s' (x-i+i')==124))=true:=by rw[a1];simpa using c
    have j3:Q10 ⟨x-i+i',true,L⟩ (p' (x-i+i'+1))=⟨(p (x+1)).next-i+i',true,Q03.alt L (p (x+1)).lang⟩:=by
     unfold Q10;rw[qAb sm.ok,sm.next,sm.lang,show(p (x+1)).next-(x+1)+(x-i+i'+1)=(p (x+1)).next-i+i' by omega]
    rw[z2x p' s' f'];dsimp only;rw[qAb j0,j3];exact⟨(j2 f' (by omega)).1,by omega⟩
  rw[qAa c]at hok hn ⊢;dsimp only at hn ⊢;have a1:(atB s' (x-i+i')==124)=false:=by
   by_cases q:x<i+n
   ·rw[h.atK hi q];simpa using c
   rw[show x-i+i'=i'+n by omega];simpa using x5g hst
  cases f' with
  |zero=>exact⟨⟨rfl,rfl,rfl⟩,by omega⟩
  |succ f' =>
   have j0:¬(true&&(atB s' (x-i+i')==124))=true:=by rw[a1];simp
   rw[z2x p' s' f'];dsimp only;rw[qAa j0];exact⟨⟨rfl,rfl,rfl⟩,by omega⟩
theorem y1n{p p':Int->LR}(hp:Loc s s' p p')(hg:Q3z s p):Loc s s' (Q25 p s) (Q25 p' s'):=by
 intro i i' n h0 h1 j2 h j3 j1 hn;unfold Q25 at j1 hn ⊢;have j0:(p i).ok=true:=by
  cases e:(p i).ok
  ·rw[z10 p s _ _ e,e]at j1;cases j1
  rfl
 have g:=hg i h0 h1 j0;rw[z2r j0]at j1 hn ⊢;have j4:=fun f' hf'=>z9r hp hg h0 j2 h j3 (s.size+5) (p i).next (p i).lang (by omega) (by omega) (by omega) j1 hn f' hf';have k1:=(j4 (s'.size+2+((p i).next-i+i').natAbs) (by omega)).2;have sm:=hp i i' n h0 h1 j2 h j3 j0 (by omega);rw[z2r sm.ok,sm.next,sm.lang];exact(j4 (s'.size+5) (by omega)).1
theorem x3v{c c':Int->LR}(hc:Loc s s' c c')(hg:Q3z s c):LocG s s' (Q6h c s) (Q6h c' s'):=by
 intro i i' n h0 j3 j4 h j0 hn;have hi:=z0r (s:=s) (i:=i) (by omega);unfold Q6h at j0 hn ⊢;by_cases c1:(c (i+1)).ok=false
 ·rw[qAb c1]at j0;cases j0
 have j1:(c (i+1)).ok=true:=by simpa using c1
 rw[qAa c1]at j0 hn ⊢;by_cases c2:atB s (c (i+1)).next≠41
 ·rw[qAb c2]at j0;cases j0
 rw[qAa c2]at j0 hn ⊢;dsimp only at hn ⊢;have j2:atB s (c (i+1)).next=41:=by
  by_cases q:atB s (c (i+1)).next=41
  ·exact q
  exact absurd q c2
 have g:=hg (i+1) (by omega) (by omega) j1;have a1:=h.atK (x:=(c (i+1)).next) (by omega) (by omega);have hh:=h.tail.less (m:=((c (i+1)).next-(i+1)).toNat) (by omega);have sm:=hc (i+1) (i'+1) _ (by omega) (by omega) (by omega) hh (by
  rw[show i'+1+(((c (i+1)).next-(i+1)).toNat:Int)=(c (i+1)).next-i+i' by omega,a1,j2];decide) j1 (by omega)
 have e3:(c' (i'+1)).next=(c (i+1)).next-i+i':=by rw[sm.next];omega
 rw[qAa (by rw[sm.ok];simp),e3,a1,qAa c2];exact⟨rfl,by dsimp only;omega,sm.lang⟩
end
theorem y81(s s':ByteArray):∀k k':Nat,k<=k'->LocG s s' (lgK s k) (lgK s' k')
 |0,_,_=>fun i i' n _ _ _ _ hok _=>by cases hok
 |k+1,0,h=>by omega
 |k+1,k'+1,h=>x3v (y1n (y1m (z9s (z8h (y81 s s' k k' (by omega)) (z2y s k)) (z2y s k)) (z6l s k)) (y4s s k)) (y4t s k)
theorem y2p(s s':ByteArray){k k':Nat}(h:k<=k'):Loc s s' (Q61 s k) (Q61 s' k'):=y1n (y1m (z9s (z8h (y81 s s' k k' h) (z2y s k)) (z2y s k)) (z6l s k)) (y4s s k)
theorem y18(c:Int)(w:World):Calls Tryz.prog 124 #[.int .u8 c] w fun e w'=>e=.returned (.bool (Q0m c))/\w'=w:=by
 go_enter Tryz.func124,Tryz.ntmps124
 go_wp2;all_goals (go_ret;exact⟨z0w (by rw[qBc];simp[Q0m];omega),rfl⟩)
theorem z7m(c:Int)(w:World):Calls Tryz.prog 74 #[.int .u8 c] w fun e w'=>e=.returned (.bool (Q1a c))/\w'=w:=by
 go_enter Tryz.func74,Tryz.ntmps74
 go_wp2;all_goals (go_ret;exact⟨z0w (by rw[qBc];simp[Q1a];omega),rfl⟩)
theorem y74(c:Int)(w:World):Calls Tryz.prog 127 #[.int .u8 c] w fun e w'=>e=.returned (.bool (Q1t c))/\w'=w:=by
 go_enter Tryz.func127,Tryz.ntmps127
 go_wp2;all_goals (go_ret;exact⟨z0w (by rw[qBc];simp_all[Q1t]),rfl⟩)
def mkF(c:Int):Int × Bool:=if c=110 then(10,true) else if c=116 then(9,true) else(c,!(!Q4l c||Q0m c||Q1a c||Q7x c))
theorem z57(c:Nat)(w:World)(hc:c<=255):Calls Tryz.prog 133 #[.int .u8 c] w fun e w'=>e=.returned (.tuple #[.int .i64 (mkF c).1,.bool (mkF c).2])/\w'=w:=by
 by_cases h1:c=110
 ·subst h1;go_enter Tryz.func133,Tryz.ntmps133
  go_wp2;go_ret2;exact⟨rfl,rfl⟩
 by_cases h2:c=116
 ·subst h2;go_enter Tryz.func133,Tryz.ntmps133
  go_wp2;go_ret2;exact⟨rfl,rfl⟩
 have k1:((c:Int)==110)=false:=by simp;omega
 have k2:((c:Int)==116)=false:=by simp;omega
 have k3:¬(c:Int)=110:=by omega
 have k4:¬(c:Int)=116:=by omega
 have HM:Hid (mkF c=((c:Int),!(!Q4l c||Q0m c||Q1a c||Q7x c))):=by unfold Hid mkF;rw[qAa k3,qAa k4]
 rw[HM.out];clear HM;have j1:Q4l (c:Int)=(decide (32<=c)&&decide (c<=126)):=by unfold Q4l;rw[qBc];simp;omega
 have j0:Q7x (c:Int)=(decide (48<=c)&&decide (c<=57)):=by unfold Q7x;rw[qBc];simp;omega
 have j3:=hid j1;have j2:=hid j0;clear j1 j0;generalize hsm:Q0m (c:Int)=sm;generalize hgr:Q1a (c:Int)=gr;have ZS:=hid (fun w=>y18 (c:Int) w);have ZG:=hid (fun w=>z7m (c:Int) w);rw[hsm]at ZS;rw[hgr]at ZG;clear hsm hgr;go_enter Tryz.func133,Tryz.ntmps133
 go_wp2_with (first
  |(go_at_call 124;refine csm (ZS.out _) ?_)
  |(go_at_call 74;refine csm (ZG.out _) ?_))
 all_goals
  go_ret2;refine⟨?_,rfl⟩;rw[j3.out,j2.out];simp_all
 all_goals first
  |(intros;omega)
  |(rw[qBc];simp;omega)
theorem y2s{s:ByteArray}{i:Int}:Q2k s i=if(mkF (atB s i)).2=true then((mkF (atB s i)).1,i+1,true) else(0,i,false):=by
 unfold Q2k mkF;split
 ·rfl
 split
 ·rfl
 split
 ·rename_i h;rw[qAa (by rw[h];simp)]
 rename_i h;rw[qAb (by simpa using h)]
def okI(b:Bool)(x:Int):Int:=if b=true then x else -1
def okV(b:Bool)(x:Int):Int:=if b=true then x else 0
theorem y92(p:ByteArray)(i:Nat)(w:World)(hp:p.size<=100000)(hi:i<=200000) :
  Calls Tryz.prog 144 #[.string p,.int .i64 i] w fun e w'=>e=.returned (.tuple #[.int .i64 (okV (Q1s p i).2.2 (Q1s p i).1),.int .i64 (okI (Q1s p i).2.2 (Q1s p i).2.1)])/\w'=w:=by
 by_cases h1:i<p.size
 ·have hb:atB p (i:Nat)=p[i].toNat:=by unfold atB;rw[qEt ⟨by omega,by simpa using h1⟩];simp
  have j8:p[i].toNat<256:=p[i].toNat_lt;have j1:¬(p.size:Int)<=(i:Int):=by omega
  have j5:(i:Int)<(p.size:Int):=by omega
  by_cases h2:p[i].toNat=92
  ·have hE:Q1s p i=Q2k p (i+1):=by unfold Q1s;rw[hb,h2,qAb (by decide)]
   rw[hE,y2s];have j4:((p[i].toNat:Int)==92)=true:=by simp[h2]
   by_cases h3:i+1<p.size
   ·have j0:atB p ((i:Int)+1)=p[i+1].toNat:=by
     have:atB p ((i+1:Nat):Int)=p[i+1].toNat:=by unfold atB;rw[qEt ⟨by omega,by simpa using h3⟩];simp
     rw[← this];rfl
    have j3:p[i+1].toNat<256:=p[i+1].toNat_lt;have j2:¬(p.size:Int)<=(i:Int)+1:=by omega
    have j6:(i:Int)+1<(p.size:Int):=by omega
    have j7:((i:Int)+1).toNat=i+1:=by omega
    rw[j0];have ZM:=hid (fun w=>z57 p[i+1].toNat w (by omega));generalize mkF (p[i+1].toNat:Int)=m at ZM ⊢;obtain⟨v,ok⟩:=m;dsimp only at ZM ⊢;clear hE hb j0;cases ok
    ·go_enter Tryz.func144,Tryz.ntmps144
     go_wp2_with (first
      |(go_at_call 133;refine csm (ZM.out _) ?_))
     go_ret2;exact⟨rfl,rfl⟩
    go_enter Tryz.func144,Tryz.ntmps144
    go_wp2_with (first
     |(go_at_call 133;refine csm (ZM.out _) ?_))
    go_ret2;exact⟨by simp[okV,okI];omega,rfl⟩
   have j2:(p.size:Int)<=(i:Int)+1:=by omega
   have j0:atB p ((i:Int)+1)=-1:=by unfold atB;rw[qFm (by omega)]
   rw[j0,show mkF (-1)=(-1,false) from by decide];clear hE hb j0;go_enter Tryz.func144,Tryz.ntmps144
   go_wp2;go_ret2;exact⟨rfl,rfl⟩
  have j4:((p[i].toNat:Int)==92)=false:=by simp;omega
  have hE:Q1s p i=if p[i].toNat=93∨p[i].toNat=94∨p[i].toNat=45∨p[i].toNat<32∨126<p[i].toNat then(0,(i:Int),false) else((p[i].toNat:Int),(i:Int)+1,true):=by
   unfold Q1s;rw[hb,qAa (by omega)];by_cases q:p[i].toNat=93∨p[i].toNat=94∨p[i].toNat=45
   ·rw[qAb (by omega),qAb (by omega)]
   rw[qAa (by omega)];by_cases q2:Q4l (p[i].toNat:Int)=false
   ·rw[qAb q2,qAb (by unfold Q4l at q2;rw[Bool.and_eq_false_iff,qCe,qCe]at q2;omega)]
   have q3:Q4l (p[i].toNat:Int)=true:=by simpa using q2
   unfold Q4l at q3;rw[qAd,qAu,qAu]at q3;rw[qAa q2,qAa (by omega)]
  rw[hE];clear hE hb;generalize hn:p[i].toNat=n at *;have HN:=hid hn;by_cases q:n=93∨n=94∨n=45∨n<32∨126<n
  ·rw[qAb q];go_enter Tryz.func144,Tryz.ntmps144
   go_wp2;all_goals first
    |(exfalso;omega)
    |(go_ret2;exact⟨rfl,rfl⟩)
    |(exfalso;simp_all;done)
    |(exfalso;simp_all;omega)
  rw[qAa q];go_enter Tryz.func144,Tryz.ntmps144
  go_wp2;all_goals first
   |(exfalso;omega)
   |(go_ret2;exact⟨rfl,rfl⟩)
   |(exfalso;simp_all;done)
   |(exfalso;simp_all;omega)
 have j1:(p.size:Int)<=(i:Int):=by omega
 have hE:Q1s p i=(0,(i:Int),false):=by
  have hb:atB p (i:Nat)=-1:=by unfold atB;rw[qFm (by omega)]
  unfold Q1s;rw[hb,qAa (by decide),qAa (by decide),qAb (by decide)]
 rw[hE];clear hE;go_enter Tryz.func144,Tryz.ntmps144
 go_wp2;go_ret2;exact⟨rfl,rfl⟩
end Go.Proofs.YtbdpfmalabgmbaaGreat
