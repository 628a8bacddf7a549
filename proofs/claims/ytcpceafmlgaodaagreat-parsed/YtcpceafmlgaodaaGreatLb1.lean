import Derived.Test.YtcpceafmlgaodaaGreatLa3
namespace Go.Proofs.YtcpceafmlgaodaaGreat
open Go.RowKit
set_option maxRecDepth 99999
set_option maxHeartbeats 0
set_option linter.all false
def Q97(c:Int):Bool:=c==40||c==46||c==91||c==92||Q01 c
theorem z2d(s:ByteArray)(i:Int):Q2r s i=Q97 (atB s i):=rfl
def Q76(c:Int):Bool:=!Q1q c&&!Q97 c&&c != 124
theorem x0s{c:Int}(h:Q76 c=true):Q1q c=false:=by
 unfold Q76 at h;cases h1:Q1q c
 ·rfl
 rw[h1]at h;simp at h
theorem x40{c:Int}(h:Q76 c=true):Q97 c=false:=by
 unfold Q76 at h;cases h1:Q97 c
 ·rfl
 rw[h1]at h;simp at h
theorem x4z{c:Int}(h:Q76 c=true):c≠124:=by
 unfold Q76 at h;intro e;rw[e]at h;simp at h
theorem z9g{c:Int}(h:Q1q c=true):c≠-1:=by intro e;rw[e]at h;revert h;decide
theorem y3h{c:Int}(h:Q97 c=true):c≠-1:=by intro e;rw[e]at h;revert h;decide
def Q3t(s:ByteArray)(l:Int->LR):Prop:=∀i:Int,0<=i->i<=s.size->(l i).ok=true->i<(l i).next/\(l i).next<=s.size
theorem z75{s:ByteArray}{f:Int->List Q0o->PR}{l:Int->LR}(h:Q5l s f)(k:LkF f l):Q3t s l:=fun i h0 h1 hok=>by
 have h2:=(h i [] h0 h1).good (by rw[(k i []).ok];exact hok);rw[(k i []).next]at h2;exact h2
theorem z2r(s:ByteArray)(k:Nat):Q3t s (Q3i (lgK s k) s):=z75 (z3h (z6y s k)) (z9b (x3c s k))
theorem z6c(s:ByteArray)(k:Nat):Q3t s (Q1r (Q3i (lgK s k) s) s):=z75 (z35 (z3h (z6y s k))) (z76 (z9b (x3c s k)))
theorem y39(s:ByteArray)(k:Nat):Q3t s (Q0x (Q1r (Q3i (lgK s k) s) s) s):=z75 (z4j (z35 (z3h (z6y s k)))) (z9c (z76 (z9b (x3c s k))))
theorem y4a(s:ByteArray)(k:Nat):Q3t s (Q6q s k):=z75 (z5e s k) (y8d s k)
structure Same(r r':LR)(i i':Int):Prop where
 ok:r'.ok=true
 next:r'.next=r.next-i+i'
 lang:r'.lang=r.lang
def LocG(s s':ByteArray)(l l':Int->LR):Prop:=∀(i i':Int) (n:Nat),0<=i->0<=i'->atB s i=40->Q3a s i s' i' n->(l i).ok=true->(l i).next<=i+n->Same (l i) (l' i') i i'
def LocA(s s':ByteArray)(l l':Int->LR):Prop:=∀(i i':Int) (n:Nat),0<=i->i<=s.size->0<=i'->Q3a s i s' i' n->(l i).ok=true->(l i).next<=i+n->Same (l i) (l' i') i i'
def Loc(s s':ByteArray)(l l':Int->LR):Prop:=∀(i i':Int) (n:Nat),0<=i->i<=s.size->0<=i'->Q3a s i s' i' n->Q76 (atB s' (i'+n))=true->(l i).ok=true->(l i).next<=i+n->Same (l i) (l' i') i i'
theorem z37(s:ByteArray)(f:Nat)(r:LR):Q2a s (f+1) r=if(r.ok&&Q1q (atB s r.next))=true then Q2a s f ⟨r.next+1,true,Q02.rep (atB s r.next) r.lang⟩ else r:=rfl
theorem z2f(p:Int->LR)(s:ByteArray)(f:Nat)(r:LR):Q1m p s (f+1) r=if(r.ok&&Q2r s r.next)=true then Q1m p s f (Q5o r (p r.next)) else r:=rfl
theorem z2q(p:Int->LR)(s:ByteArray)(f:Nat)(r:LR):Q03 p s (f+1) r=if(r.ok&&(atB s r.next==124))=true then Q03 p s f (Q1w r (p (r.next+1))) else r:=rfl
section
variable {s s':ByteArray}
theorem z77{g g':Int->LR}(hg:LocG s s' g g')(hgd:Q3t s (Q3i g s)):LocA s s' (Q3i g s) (Q3i g' s'):=by
 intro i i' n h0 h1 h0' h hok hn;have hgd:=hgd i h0 h1 hok;have e:=h.at0 (by omega);unfold Q3i at hok hn ⊢;rw[e];by_cases c:atB s i=40
 ·rw[qAb c]at hok hn ⊢;rw[qAb c];exact hg i i' n h0 h0' c h hok hn
 rw[qAa c]at hok hn ⊢;rw[qAa c];by_cases c2:(Q2n s i).2.2=false
 ·rw[qAb c2]at hok;cases hok
 rw[qAa c2]at hok hn ⊢;have r:=x7b h h0 h0' (by simpa using c2) hn;rw[r];rw[qAa (by simp)];exact⟨rfl,rfl,rfl⟩
theorem y05{i i':Int}{n:Nat}(h:Q3a s i s' i' n)(hst:Q76 (atB s' (i'+n))=true):∀(f:Nat) (x:Int) (L:Q02),i<=x->x<=s.size->(s.size:Int)+2<=f+x->(Q2a s f ⟨x,true,L⟩).next<=i+n->∀f':Nat,(s'.size:Int)+2<=f'+(x-i+i') ->
  Same (Q2a s f ⟨x,true,L⟩) (Q2a s' f' ⟨x-i+i',true,L⟩) i i'/\x<=(Q2a s f ⟨x,true,L⟩).next/\(Q2a s f ⟨x,true,L⟩).ok=true
 |0,x,L,_,hx,hf,_,_,_=>by omega
 |f+1,x,L,hi,hx,hf,hn,f',hf'=>by
  rw[z37 s f ⟨x,true,L⟩]at hn ⊢;dsimp only at hn ⊢;rw[qBa]at hn ⊢;by_cases c:Q1q (atB s x)=true
  ·rw[qAb c]at hn ⊢;have hx2:=z0q (s:=s) (i:=x) (z9g c);have j1:=fun f' hf'=>y05 h hst f (x+1) (Q02.rep (atB s x) L) (by omega) (by omega) (by omega) hn f' hf';have r1:=(j1 (s'.size+2+(x+1-i+i').natAbs) (by omega)).2;have a1:=h.atK hi (x:=x) (by omega);have a2:=z0q (s:=s') (i:=x-i+i') (by rw[a1];exact z9g c);cases f' with
   |zero=>omega
   |succ f' =>
    have j0:(true&&Q1q (atB s' (x-i+i')))=true:=by rw[a1];simpa using c
    rw[z37 s' f'];dsimp only;rw[qAb j0,a1,show x-i+i'+1=x+1-i+i' by omega];exact⟨(j1 f' (by omega)).1,by omega,r1.2⟩
  rw[qAa c]at hn ⊢;dsimp only at hn ⊢;have a1:Q1q (atB s' (x-i+i'))=false:=by
   by_cases q:x<i+n
   ·rw[h.atK hi q];simpa using c
   rw[show x-i+i'=i'+n by omega];exact x0s hst
  cases f' with
  |zero=>exact⟨⟨rfl,rfl,rfl⟩,by omega,rfl⟩
  |succ f' =>
   have j0:¬(true&&Q1q (atB s' (x-i+i')))=true:=by rw[a1];simp
   rw[z37 s' f'];dsimp only;rw[qAa j0];exact⟨⟨rfl,rfl,rfl⟩,by omega,rfl⟩
theorem z87(s:ByteArray):∀(f:Nat) (r:LR),r.ok=false->Q2a s f r=r
 |0,r,_=>rfl
 |f+1,r,h=>by unfold Q2a;rw[h];rfl
theorem z2k{r:LR}(h:r.ok=true):r=⟨r.next,true,r.lang⟩:=by obtain⟨a,b,c⟩:=r;dsimp only at h ⊢;rw[h]
theorem z9f{a a':Int->LR}(ha:LocA s s' a a')(hg:Q3t s a):Loc s s' (Q1r a s) (Q1r a' s'):=by
 intro i i' n h0 h1 h0' h hst hok hn;unfold Q1r at hok hn ⊢;have j0:(a i).ok=true:=by
  cases e:(a i).ok
  ·rw[z87 s _ _ e,e]at hok;cases hok
  rfl
 have g:=hg i h0 h1 j0;rw[z2k j0]at hn ⊢;have j1:=fun f' hf'=>y05 h hst (s.size+5) (a i).next (a i).lang (by omega) (by omega) (by omega) hn f' hf';have k1:=(j1 (s'.size+2+((a i).next-i+i').natAbs) (by omega)).2.1;have sm:=ha i i' n h0 h1 h0' h j0 (by omega);rw[z2k sm.ok,sm.next,sm.lang];exact(j1 (s'.size+5) (by omega)).1
theorem z1w(p:Int->LR)(s:ByteArray):∀(f:Nat) (r:LR),r.ok=false->Q1m p s f r=r
 |0,r,_=>rfl
 |f+1,r,h=>by unfold Q1m;rw[h];rfl
theorem z1x(p:Int->LR)(s:ByteArray):∀(f:Nat) (r:LR),r.ok=false->Q03 p s f r=r
 |0,r,_=>rfl
 |f+1,r,h=>by unfold Q03;rw[h];rfl
theorem z9d{p p':Int->LR}(hp:Loc s s' p p')(hg:Q3t s p){i i':Int}{n:Nat}(h0:0<=i)(h0':0<=i')(h:Q3a s i s' i' n)(hst:Q76 (atB s' (i'+n))=true):∀(f:Nat) (x:Int) (L:Q02),i<=x->x<=s.size->(s.size:Int)+2<=f+x->(Q1m p s f ⟨x,true,L⟩).ok=true->(Q1m p s f ⟨x,true,L⟩).next<=i+n->∀f':Nat,(s'.size:Int)+2<=f'+(x-i+i') ->
  Same (Q1m p s f ⟨x,true,L⟩) (Q1m p' s' f' ⟨x-i+i',true,L⟩) i i'/\x<=(Q1m p s f ⟨x,true,L⟩).next
 |0,x,L,_,hx,hf,_,_,_,_=>by omega
 |f+1,x,L,hi,hx,hf,hok,hn,f',hf'=>by
  rw[z2f p s f ⟨x,true,L⟩]at hok hn ⊢;dsimp only at hok hn ⊢;rw[qBa]at hok hn ⊢;by_cases c:Q2r s x=true
  ·rw[qAb c]at hok hn ⊢;have hx2:=z0q (s:=s) (i:=x) (y3h c);have j1:(p x).ok=true:=by
    cases e:(p x).ok
    ·have:(Q5o ⟨x,true,L⟩ (p x)).ok=false:=by unfold Q5o;rw[e];rfl
     rw[z1w p s f _ this,this]at hok;cases hok
    rfl
   have ej:Q5o ⟨x,true,L⟩ (p x)=⟨(p x).next,true,Q02.cat L (p x).lang⟩:=by unfold Q5o;rw[qAb j1]
   rw[ej]at hok hn ⊢;have g:=hg x (by omega) (by omega) j1;have j2:=fun f' hf'=>z9d hp hg h0 h0' h hst f (p x).next (Q02.cat L (p x).lang) (by omega) (by omega) (by omega) hok hn f' hf';have r1:=(j2 (s'.size+2+((p x).next-i+i').natAbs) (by omega)).2;have a1:=h.atK hi (x:=x) (by omega);have a2:=z0q (s:=s') (i:=x-i+i') (by rw[a1];exact y3h c);have hh:=h.on (x-i).toNat
   rw[show i+((x-i).toNat:Int)=x by omega,show i'+((x-i).toNat:Int)=x-i+i' by omega]at hh;have sm:=hp x (x-i+i') (n-(x-i).toNat) (by omega) hx (by omega) hh (by rw[show x-i+i'+((n-(x-i).toNat:Nat):Int)=i'+n by omega];exact hst) j1 (by omega);cases f' with
   |zero=>omega
   |succ f' =>
    have j0:(true&&Q2r s' (x-i+i'))=true:=by rw[z2d,a1,← z2d,c];rfl
    have j3:Q5o ⟨x-i+i',true,L⟩ (p' (x-i+i'))=⟨(p x).next-i+i',true,Q02.cat L (p x).lang⟩:=by
     unfold Q5o;rw[qAb sm.ok,sm.next,sm.lang,show(p x).next-x+(x-i+i')=(p x).next-i+i' by omega]
    rw[z2f p' s' f'];dsimp only;rw[qAb j0,j3];exact⟨(j2 f' (by omega)).1,by omega⟩
  rw[qAa c]at hok hn ⊢;dsimp only at hn ⊢;have a1:Q2r s' (x-i+i')=false:=by
   rw[z2d];by_cases q:x<i+n
   ·rw[h.atK hi q];simpa [z2d]using c
   rw[show x-i+i'=i'+n by omega];exact x40 hst
  cases f' with
  |zero=>exact⟨⟨rfl,rfl,rfl⟩,by omega⟩
  |succ f' =>
   have j0:¬(true&&Q2r s' (x-i+i'))=true:=by rw[a1];simp
   rw[z2f p' s' f'];dsimp only;rw[qAa j0];exact⟨⟨rfl,rfl,rfl⟩,by omega⟩
theorem y03{p p':Int->LR}(hp:Loc s s' p p')(hg:Q3t s p):Loc s s' (Q0x p s) (Q0x p' s'):=by
 intro i i' n h0 h1 h0' h hst hok hn;unfold Q0x at hok hn ⊢;have j0:(p i).ok=true:=by
  cases e:(p i).ok
  ·rw[z1w p s _ _ e,e]at hok;cases hok
  rfl
 have g:=hg i h0 h1 j0;rw[z2k j0]at hok hn ⊢;have j1:=fun f' hf'=>z9d hp hg h0 h0' h hst (s.size+5) (p i).next (p i).lang (by omega) (by omega) (by omega) hok hn f' hf';have k1:=(j1 (s'.size+2+((p i).next-i+i').natAbs) (by omega)).2;have sm:=hp i i' n h0 h1 h0' h hst j0 (by omega);rw[z2k sm.ok,sm.next,sm.lang];exact(j1 (s'.size+5) (by omega)).1
theorem z9e{p p':Int->LR}(hp:Loc s s' p p')(hg:Q3t s p){i i':Int}{n:Nat}(h0:0<=i)(h0':0<=i')(h:Q3a s i s' i' n)(hst:Q76 (atB s' (i'+n))=true):∀(f:Nat) (x:Int) (L:Q02),i<=x->x<=s.size->(s.size:Int)+2<=f+x->(Q03 p s f ⟨x,true,L⟩).ok=true->(Q03 p s f ⟨x,true,L⟩).next<=i+n->∀f':Nat,(s'.size:Int)+2<=f'+(x-i+i') ->
  Same (Q03 p s f ⟨x,true,L⟩) (Q03 p' s' f' ⟨x-i+i',true,L⟩) i i'/\x<=(Q03 p s f ⟨x,true,L⟩).next
 |0,x,L,_,hx,hf,_,_,_,_=>by omega
 |f+1,x,L,hi,hx,hf,hok,hn,f',hf'=>by
  rw[z2q p s f ⟨x,true,L⟩]at hok hn ⊢;dsimp only at hok hn ⊢;rw[qBa]at hok hn ⊢;by_cases c:(atB s x==124)=true
  ·rw[qAb c]at hok hn ⊢;have c':atB s x=124:=by simpa using c
   have j4:=z0q (s:=s) (i:=x) (by omega);have j1:(p (x+1)).ok=true:=by
    cases e:(p (x+1)).ok
    ·have:(Q1w ⟨x,true,L⟩ (p (x+1))).ok=false:=by unfold Q1w;rw[e];rfl
     rw[z1x p s f _ this,this]at hok;cases hok
    rfl
   have ej:Q1w ⟨x,true,L⟩ (p (x+1))=⟨(p (x+1)).next,true,Q02.alt L (p (x+1)).lang⟩:=by unfold Q1w;rw[qAb j1]
   rw[ej]at hok hn ⊢;have g:=hg (x+1) (by omega) (by omega) j1;have j2:=fun f' hf'=>z9e hp hg h0 h0' h hst f (p (x+1)).next (Q02.alt L (p (x+1)).lang) (by omega) (by omega) (by omega) hok hn f' hf';have r1:=(j2 (s'.size+2+((p (x+1)).next-i+i').natAbs) (by omega)).2;have a1:=h.atK hi (x:=x) (by omega);have a2:=z0q (s:=s') (i:=x-i+i') (by rw[a1];omega);have hh:=h.on (x+1-i).toNat
   rw[show i+((x+1-i).toNat:Int)=x+1 by omega,show i'+((x+1-i).toNat:Int)=x-i+i'+1 by omega]at hh;have sm:=hp (x+1) (x-i+i'+1) (n-(x+1-i).toNat) (by omega) (by omega) (by omega) hh (by rw[show x-i+i'+1+((n-(x+1-i).toNat:Nat):Int)=i'+n by omega];exact hst) j1 (by omega);cases f' with
   |zero=>omega
   |succ f' =>
    have j0:(true&&(atB s' (x-i+i')==124))=true:=by rw[a1];simpa using c
    have j3:Q1w ⟨x-i+i',true,L⟩ (p' (x-i+i'+1))=⟨(p (x+1)).next-i+i',true,Q02.alt L (p (x+1)).lang⟩:=by
     unfold Q1w;rw[qAb sm.ok,sm.next,sm.lang,show(p (x+1)).next-(x+1)+(x-i+i'+1)=(p (x+1)).next-i+i' by omega]
    rw[z2q p' s' f'];dsimp only;rw[qAb j0,j3];exact⟨(j2 f' (by omega)).1,by omega⟩
  rw[qAa c]at hok hn ⊢;dsimp only at hn ⊢;have a1:(atB s' (x-i+i')==124)=false:=by
   by_cases q:x<i+n
   ·rw[h.atK hi q];simpa using c
   rw[show x-i+i'=i'+n by omega];simpa using x4z hst
  cases f' with
  |zero=>exact⟨⟨rfl,rfl,rfl⟩,by omega⟩
  |succ f' =>
   have j0:¬(true&&(atB s' (x-i+i')==124))=true:=by rw[a1];simp
   rw[z2q p' s' f'];dsimp only;rw[qAa j0];exact⟨⟨rfl,rfl,rfl⟩,by omega⟩
theorem y04{p p':Int->LR}(hp:Loc s s' p p')(hg:Q3t s p):Loc s s' (Q20 p s) (Q20 p' s'):=by
 intro i i' n h0 h1 h0' h hst hok hn;unfold Q20 at hok hn ⊢;have j0:(p i).ok=true:=by
  cases e:(p i).ok
  ·rw[z1x p s _ _ e,e]at hok;cases hok
  rfl
 have g:=hg i h0 h1 j0;rw[z2k j0]at hok hn ⊢;have j1:=fun f' hf'=>z9e hp hg h0 h0' h hst (s.size+5) (p i).next (p i).lang (by omega) (by omega) (by omega) hok hn f' hf';have k1:=(j1 (s'.size+2+((p i).next-i+i').natAbs) (by omega)).2;have sm:=hp i i' n h0 h1 h0' h hst j0 (by omega);rw[z2k sm.ok,sm.next,sm.lang];exact(j1 (s'.size+5) (by omega)).1
theorem x3d{c c':Int->LR}(hc:Loc s s' c c')(hg:Q3t s c):LocG s s' (Q56 c s) (Q56 c' s'):=by
 intro i i' n h0 h0' h40 h hok hn;have hi:=z0q (s:=s) (i:=i) (by omega);unfold Q56 at hok hn ⊢;by_cases c1:(c (i+1)).ok=false
 ·rw[qAb c1]at hok;cases hok
 have j0:(c (i+1)).ok=true:=by simpa using c1
 rw[qAa c1]at hok hn ⊢;by_cases c2:atB s (c (i+1)).next≠41
 ·rw[qAb c2]at hok;cases hok
 rw[qAa c2]at hok hn ⊢;dsimp only at hn ⊢;have j1:atB s (c (i+1)).next=41:=by
  by_cases q:atB s (c (i+1)).next=41
  ·exact q
  exact absurd q c2
 have g:=hg (i+1) (by omega) (by omega) j0;have a1:=h.atK (x:=(c (i+1)).next) (by omega) (by omega);have hh:=h.tail.less (m:=((c (i+1)).next-(i+1)).toNat) (by omega);have sm:=hc (i+1) (i'+1) _ (by omega) (by omega) (by omega) hh (by
  rw[show i'+1+(((c (i+1)).next-(i+1)).toNat:Int)=(c (i+1)).next-i+i' by omega,a1,j1];decide) j0 (by omega)
 have e3:(c' (i'+1)).next=(c (i+1)).next-i+i':=by rw[sm.next];omega
 rw[qAa (by rw[sm.ok];simp),e3,a1,qAa c2];exact⟨rfl,by dsimp only;omega,sm.lang⟩
end
theorem y8e(s s':ByteArray):∀k k':Nat,k<=k'->LocG s s' (lgK s k) (lgK s' k')
 |0,_,_=>fun i i' n _ _ _ _ hok _=>by cases hok
 |k+1,0,h=>by omega
 |k+1,k'+1,h=>x3d (y04 (y03 (z9f (z77 (y8e s s' k k' (by omega)) (z2r s k)) (z2r s k)) (z6c s k)) (y39 s k)) (y4a s k)
theorem y16(s s':ByteArray){k k':Nat}(h:k<=k'):Loc s s' (Q6q s k) (Q6q s' k'):=y04 (y03 (z9f (z77 (y8e s s' k k' h) (z2r s k)) (z2r s k)) (z6c s k)) (y39 s k)
theorem y1q(c:Int)(w:World):Calls Tryz.prog 114 #[.int .u8 c] w fun e w'=>e=.returned (.bool (Q0l c))/\w'=w:=by
 go_enter Tryz.func114,Tryz.ntmps114
 go_wp2;all_goals (go_ret;exact⟨z0s (by rw[qAs];simp[Q0l];omega),rfl⟩)
theorem z7d(c:Int)(w:World):Calls Tryz.prog 64 #[.int .u8 c] w fun e w'=>e=.returned (.bool (Q1a c))/\w'=w:=by
 go_enter Tryz.func64,Tryz.ntmps64
 go_wp2;all_goals (go_ret;exact⟨z0s (by rw[qAs];simp[Q1a];omega),rfl⟩)
theorem y7m(c:Int)(w:World):Calls Tryz.prog 124 #[.int .u8 c] w fun e w'=>e=.returned (.bool (Q1q c))/\w'=w:=by
 go_enter Tryz.func124,Tryz.ntmps124
 go_wp2;all_goals (go_ret;exact⟨z0s (by rw[qAs];simp_all[Q1q]),rfl⟩)
def mkF(c:Int):Int × Bool:=if c=110 then(10,true) else if c=116 then(9,true) else(c,!(!Q4e c||Q0l c||Q1a c||Q7i c))
theorem z5z(c:Nat)(w:World)(hc:c<=255):Calls Tryz.prog 128 #[.int .u8 c] w fun e w'=>e=.returned (.tuple #[.int .i64 (mkF c).1,.bool (mkF c).2])/\w'=w:=by
 by_cases h1:c=110
 ·subst h1;go_enter Tryz.func128,Tryz.ntmps128
  go_wp2;go_ret2;exact⟨rfl,rfl⟩
 by_cases h2:c=116
 ·subst h2;go_enter Tryz.func128,Tryz.ntmps128
  go_wp2;go_ret2;exact⟨rfl,rfl⟩
 have k1:((c:Int)==110)=false:=by simp;omega
 have k2:((c:Int)==116)=false:=by simp;omega
 have k3:¬(c:Int)=110:=by omega
 have k4:¬(c:Int)=116:=by omega
 have HM:Hid (mkF c=((c:Int),!(!Q4e c||Q0l c||Q1a c||Q7i c))):=by unfold Hid mkF;rw[qAa k3,qAa k4]
 rw[HM.out];clear HM;have j1:Q4e (c:Int)=(decide (32<=c)&&decide (c<=126)):=by unfold Q4e;rw[qAs];simp;omega
 have j0:Q7i (c:Int)=(decide (48<=c)&&decide (c<=57)):=by unfold Q7i;rw[qAs];simp;omega
 have j3:=hid j1;have j2:=hid j0;clear j1 j0;generalize hsm:Q0l (c:Int)=sm;generalize hgr:Q1a (c:Int)=gr;have ZS:=hid (fun w=>y1q (c:Int) w);have ZG:=hid (fun w=>z7d (c:Int) w);rw[hsm]at ZS;rw[hgr]at ZG;clear hsm hgr;go_enter Tryz.func128,Tryz.ntmps128
 go_wp2_with (first
  |(go_at_call 114;refine csm (ZS.out _) ?_)
  |(go_at_call 64;refine csm (ZG.out _) ?_))
 all_goals
  go_ret2;refine⟨?_,rfl⟩;rw[j3.out,j2.out];simp_all
 all_goals first
  |(intros;omega)
  |(rw[qAs];simp;omega)
theorem y18{s:ByteArray}{i:Int}:Q2g s i=if(mkF (atB s i)).2=true then((mkF (atB s i)).1,i+1,true) else(0,i,false):=by
 unfold Q2g mkF;split
 ·rfl
 split
 ·rfl
 split
 ·rename_i h;rw[qAa (by rw[h];simp)]
 rename_i h;rw[qAb (by simpa using h)]
def okI(b:Bool)(x:Int):Int:=if b=true then x else -1
def okV(b:Bool)(x:Int):Int:=if b=true then x else 0
theorem y9d(p:ByteArray)(i:Nat)(w:World)(hp:p.size<=100000)(hi:i<=200000) :
  Calls Tryz.prog 140 #[.string p,.int .i64 i] w fun e w'=>e=.returned (.tuple #[.int .i64 (okV (Q1p p i).2.2 (Q1p p i).1),.int .i64 (okI (Q1p p i).2.2 (Q1p p i).2.1)])/\w'=w:=by
 by_cases h1:i<p.size
 ·have hb:atB p (i:Nat)=p[i].toNat:=by unfold atB;rw[qEi ⟨by omega,by simpa using h1⟩];simp
  have j8:p[i].toNat<256:=p[i].toNat_lt;have j1:¬(p.size:Int)<=(i:Int):=by omega
  have j5:(i:Int)<(p.size:Int):=by omega
  by_cases h2:p[i].toNat=92
  ·have hE:Q1p p i=Q2g p (i+1):=by unfold Q1p;rw[hb,h2,qAb (by decide)]
   rw[hE,y18];have j4:((p[i].toNat:Int)==92)=true:=by simp[h2]
   by_cases h3:i+1<p.size
   ·have j0:atB p ((i:Int)+1)=p[i+1].toNat:=by
     have:atB p ((i+1:Nat):Int)=p[i+1].toNat:=by unfold atB;rw[qEi ⟨by omega,by simpa using h3⟩];simp
     rw[← this];rfl
    have j3:p[i+1].toNat<256:=p[i+1].toNat_lt;have j2:¬(p.size:Int)<=(i:Int)+1:=by omega
    have j6:(i:Int)+1<(p.size:Int):=by omega
    have j7:((i:Int)+1).toNat=i+1:=by omega
    rw[j0];have ZM:=hid (fun w=>z5z p[i+1].toNat w (by omega));generalize mkF (p[i+1].toNat:Int)=m at ZM ⊢;obtain⟨v,ok⟩:=m;dsimp only at ZM ⊢;clear hE hb j0;cases ok
    ·go_enter Tryz.func140,Tryz.ntmps140
     go_wp2_with (first
      |(go_at_call 128;refine csm (ZM.out _) ?_))
     go_ret2;exact⟨rfl,rfl⟩
    go_enter Tryz.func140,Tryz.ntmps140
    go_wp2_with (first
     |(go_at_call 128;refine csm (ZM.out _) ?_))
    go_ret2;exact⟨by simp[okV,okI];omega,rfl⟩
   have j2:(p.size:Int)<=(i:Int)+1:=by omega
   have j0:atB p ((i:Int)+1)=-1:=by unfold atB;rw[qEp (by omega)]
   rw[j0,show mkF (-1)=(-1,false) from by decide];clear hE hb j0;go_enter Tryz.func140,Tryz.ntmps140
   go_wp2;go_ret2;exact⟨rfl,rfl⟩
  have j4:((p[i].toNat:Int)==92)=false:=by simp;omega
  have hE:Q1p p i=if p[i].toNat=93∨p[i].toNat=94∨p[i].toNat=45∨p[i].toNat<32∨126<p[i].toNat then(0,(i:Int),false) else((p[i].toNat:Int),(i:Int)+1,true):=by
   unfold Q1p;rw[hb,qAa (by omega)];by_cases q:p[i].toNat=93∨p[i].toNat=94∨p[i].toNat=45
   ·rw[qAb (by omega),qAb (by omega)]
   rw[qAa (by omega)];by_cases q2:Q4e (p[i].toNat:Int)=false
   ·rw[qAb q2,qAb (by unfold Q4e at q2;rw[Bool.and_eq_false_iff,qBr,qBr]at q2;omega)]
   have q3:Q4e (p[i].toNat:Int)=true:=by simpa using q2
   unfold Q4e at q3;rw[qAc,qAm,qAm]at q3;rw[qAa q2,qAa (by omega)]
  rw[hE];clear hE hb;generalize hn:p[i].toNat=n at *;have HN:=hid hn;by_cases q:n=93∨n=94∨n=45∨n<32∨126<n
  ·rw[qAb q];go_enter Tryz.func140,Tryz.ntmps140
   go_wp2;all_goals first
    |(exfalso;omega)
    |(go_ret2;exact⟨rfl,rfl⟩)
    |(exfalso;simp_all;done)
    |(exfalso;simp_all;omega)
  rw[qAa q];go_enter Tryz.func140,Tryz.ntmps140
  go_wp2;all_goals first
   |(exfalso;omega)
   |(go_ret2;exact⟨rfl,rfl⟩)
   |(exfalso;simp_all;done)
   |(exfalso;simp_all;omega)
 have j1:(p.size:Int)<=(i:Int):=by omega
 have hE:Q1p p i=(0,(i:Int),false):=by
  have hb:atB p (i:Nat)=-1:=by unfold atB;rw[qEp (by omega)]
  unfold Q1p;rw[hb,qAa (by decide),qAa (by decide),qAb (by decide)]
 rw[hE];clear hE;go_enter Tryz.func140,Tryz.ntmps140
 go_wp2;go_ret2;exact⟨rfl,rfl⟩
end Go.Proofs.YtcpceafmlgaodaaGreat
