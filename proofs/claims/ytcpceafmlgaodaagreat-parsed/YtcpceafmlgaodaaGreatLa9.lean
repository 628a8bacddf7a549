import Derived.Test.YtcpceafmlgaodaaGreatLa3
namespace Go.Proofs.YtcpceafmlgaodaaGreat
open Go.RowKit
set_option maxRecDepth 100000
set_option maxHeartbeats 16000000
set_option linter.unusedVariables false
set_option linter.unusedSimpArgs false
def Q3h(s:ByteArray)(i:Int)(s':ByteArray)(i':Int)(n:Nat):Prop:=∀j:Nat,j<n->atB s(i+j)=atB s'(i'+j)
theorem Q3h.at0{s s':ByteArray}{i i':Int}{n:Nat}(h:Q3h s i s' i' n)(hn:0<n):atB s' i'=atB s i:=by
 have:=h 0 hn;simpa using this.symm
theorem Q3h.on{s s':ByteArray}{i i':Int}{n:Nat}(h:Q3h s i s' i' n)(k:Nat):Q3h s(i+k)s'(i'+k)(n-k):=fun j hj=>by
 have:=h(k+j)(by omega);rw[show i+(k:Int)+(j:Int)=i+((k+j:Nat):Int)by omega,show i'+(k:Int)+(j:Int)=i'+((k+j:Nat):Int)by omega];exact this
theorem Q3h.less{s s':ByteArray}{i i':Int}{n m:Nat}(h:Q3h s i s' i' n)(hm:m<=n):Q3h s i s' i' m:=fun j hj=>h j(by omega)
theorem Q3h.atK{s s':ByteArray}{i i':Int}{n:Nat}(h:Q3h s i s' i' n){x:Int}(h0:i<=x)(h1:x<i+n):atB s'(x-i+i')=atB s x:=by
 have:=h(x-i).toNat(by omega);rw[show i+((x-i).toNat:Int)=x by omega,show i'+((x-i).toNat:Int)=x-i+i' by omega]at this;exact this.symm
theorem Q3h.tail{s s':ByteArray}{i i':Int}{n:Nat}(h:Q3h s i s' i' n):Q3h s(i+1)s'(i'+1)(n-1):=h.on 1
theorem z3c(s:ByteArray)(i:Int)(f:Nat)(next:Int)(ws:List Int):Q08 s i(f+1)next ws=if next=i∨atB s next≠93 then
   if(Q0m s next).2.2.2=false then(Q07,(Q0m s next).2.2.1,false)
   else Q08 s i f(Q0m s next).2.2.1(Q2e ws(Q0m s next).1(Q0m s next).2.1)
  else(ws,next+1,true):=rfl
section
variable{s s':ByteArray}{i i':Int}{n:Nat}
theorem y3p(h:Q3h s i s' i' n)(h0:0<=i)(hok:(Q2n s i).2.2=true)(hn:(Q2n s i).2.1<=i+n):Q2n s' i'=((Q2n s i).1,(Q2n s i).2.1-i+i',true):=by
 have hb:=(z73 s i h0).2.2.2.2 hok;have e:=h.at0(by omega);unfold Q2n at hok hb ⊢;rw[e];split
 ·simp;omega
 split
 ·simp;omega
 rename_i h1 h2;rw[if_neg h1,if_neg h2]at hok;split
 ·rename_i h3;rw[if_pos h3]at hok;cases hok
 simp;omega
theorem y1w(h:Q3h s i s' i' n)(h0:0<=i)(hok:(Q1t s i).2.2=true)(hn:(Q1t s i).2.1<=i+n):Q1t s' i'=((Q1t s i).1,(Q1t s i).2.1-i+i',true):=by
 have hb:=(z4h s i h0).2.2.2.2 hok;have e:=h.at0(by omega);unfold Q1t at hok hb hn ⊢;rw[e];split
 ·rename_i h1;rw[if_pos h1]at hok hn hb;have:=y3p h.tail(by omega)hok(by omega);rw[this];simp;omega
 rename_i h1;rw[if_neg h1]at hok;split
 ·rename_i h2;rw[if_pos h2]at hok;cases hok
 rename_i h2;rw[if_neg h2]at hok;split
 ·rename_i h3;rw[if_pos h3]at hok;cases hok
 simp;omega
theorem x05(h:Q3h s i s' i' n)(h0:0<=i)(hok:(Q0m s i).2.2.2=true)(hn:(Q0m s i).2.2.1<i+n):Q0m s' i'=((Q0m s i).1,(Q0m s i).2.1,(Q0m s i).2.2.1-i+i',true):=by
 have b1:=z4h s i h0;have b2:=z4h s((Q1t s i).2.1+1)(by omega);unfold Q0m at hok hn ⊢;by_cases c1:(Q1t s i).2.2=false
 ·rw[if_pos c1]at hok;cases hok
 have j0:(Q1t s i).2.2=true:=by simpa using c1
 have b3:=b1.2.2.2.2 j0;rw[if_neg c1]at hok hn ⊢;by_cases c2:atB s(Q1t s i).2.1≠45
 ·rw[if_pos c2]at hok hn ⊢;have r1:=y1w h h0 j0(by dsimp only at hn;omega);have a1:=h.atK(x:=(Q1t s i).2.1)(by omega)hn;rw[r1];dsimp only;rw[if_neg(by simp),a1,if_pos c2]
 rw[if_neg c2]at hok hn ⊢;by_cases c3:(Q1t s((Q1t s i).2.1+1)).2.2=false
 ·rw[if_pos c3]at hok;cases hok
 have j1:(Q1t s((Q1t s i).2.1+1)).2.2=true:=by simpa using c3
 have b4:=b2.2.2.2.2 j1;rw[if_neg c3]at hok hn ⊢;by_cases c4:(Q1t s((Q1t s i).2.1+1)).1<(Q1t s i).1
 ·rw[if_pos c4]at hok;cases hok
 rw[if_neg c4]at hok hn ⊢;dsimp only at hn ⊢;have r1:=y1w h h0 j0(by omega);have a1:=h.atK(x:=(Q1t s i).2.1)(by omega)(by omega);have hh:=h.on((Q1t s i).2.1+1-i).toNat
 rw[show i+(((Q1t s i).2.1+1-i).toNat:Int)=(Q1t s i).2.1+1 by omega,show i'+(((Q1t s i).2.1+1-i).toNat:Int)=(Q1t s i).2.1-i+i'+1 by omega]at hh;have r2:=y1w hh(by omega)j1(by omega);rw[r1];dsimp only;rw[if_neg(by simp),a1,if_neg c2,r2];dsimp only;rw[if_neg(by simp),if_neg c4];simp;omega
theorem y08(h:Q3h s i s' i' n)(h0:0<=i):∀(f:Nat)(next:Int)(ws:List Int),i<=next->(Q08 s i f next ws).2.2=true->(Q08 s i f next ws).2.1<=i+n ->
  ∀f':Nat,(s'.size:Int)+2<=f'+(next-i+i')->Q08 s' i' f'(next-i+i')ws=((Q08 s i f next ws).1,(Q08 s i f next ws).2.1-i+i',true)/\next<(Q08 s i f next ws).2.1
 |0,next,ws,_,hok,_,_,_=>by cases hok
 |f+1,next,ws,hi,hok,hn,f',hf=>by
  rw[z3c s i f next ws]at hok hn ⊢;by_cases c:next=i∨atB s next≠93
  ·rw[if_pos c]at hok hn ⊢;by_cases c1:(Q0m s next).2.2.2=false
   ·rw[if_pos c1]at hok;cases hok
   have c1':(Q0m s next).2.2.2=true:=by simpa using c1
   have b:=(z1k s next(by omega)).2.2.2.2.2.2 c1';rw[if_neg c1]at hok hn ⊢;have j0:=fun f' hf=>y08 h h0 f(Q0m s next).2.2.1(Q2e ws(Q0m s next).1(Q0m s next).2.1)(by omega)hok hn f' hf;have r1:=(j0(s'.size+2+((Q0m s next).2.2.1-i+i').natAbs)(by omega)).2;have hh:=h.on(next-i).toNat
   rw[show i+((next-i).toNat:Int)=next by omega,show i'+((next-i).toNat:Int)=next-i+i' by omega]at hh;have r2:=x05 hh(by omega)c1'(by omega);have b':=(z1k s'(next-i+i')(by
    by_cases q:0<=next-i+i'
    ·exact q
    exfalso;have a0:=h.atK(x:=next)hi(by omega);have hz:atB s'(next-i+i')=-1:=by unfold atB;rw[dif_neg(by omega)]
    rw[hz]at a0;have j1:(Q1t s next).2.2=false:=by
     unfold Q1t;rw[← a0];simp[Q5g]
    unfold Q0m at c1';rw[if_pos j1]at c1';cases c1')).2.2.2.2.2.2(by rw[r2])
   rw[r2]at b';dsimp only at b';cases f' with
   |zero=>omega
   |succ f' =>
    rw[z3c s' i' f'];have a1:next-i+i'=i'∨atB s'(next-i+i')≠93:=by
     rcases c with c|c
     ·exact .inl(by omega)
     exact .inr(by rw[h.atK hi(by omega)];exact c)
    rw[if_pos a1,r2];dsimp only;rw[if_neg(by simp)];have e:(Q0m s next).2.2.1-next+(next-i+i')=(Q0m s next).2.2.1-i+i':=by omega
    rw[e];exact⟨(j0 f'(by omega)).1,by omega⟩
  rw[if_neg c]at hok hn ⊢;dsimp only at hn ⊢;have c':¬next=i/\atB s next=93:=by
   by_cases q:next=i
   ·exact absurd(.inl q)c
   exact⟨q,by
    by_cases q2:atB s next=93
    ·exact q2
    exact absurd(.inr q2)c⟩
  have a1:=h.atK hi(x:=next)(by omega);have a2:=z0q(s:=s')(i:=next-i+i')(by rw[a1,c'.2];decide);cases f' with
  |zero=>omega
  |succ f' =>
   rw[z3c s' i' f'];rw[if_neg(by rw[a1];intro q;rcases q with q|q;omega;exact q c'.2)];exact⟨by simp;omega,by omega⟩
theorem y5h(h:Q3h s i s' i' n)(h0:0<=i)(h0':0<=i')(hok:(Q3g s i).2.2=true)(hn:(Q3g s i).2.1<=i+n):Q3g s' i'=((Q3g s i).1,(Q3g s i).2.1-i+i',true):=by
 have:=(y08 h h0(s.size+5)i Q07(by omega)hok hn(s'.size+5)(by omega)).1;rw[show i-i+i'=i' by omega]at this;exact this
theorem v0b(h:Q3h s i s' i' n)(h0:0<=i)(h0':0<=i')(hs:i<=s.size)(hok:(rBr s i).2.2=true)(hn:(rBr s i).2.1<=i+n):rBr s' i'=((rBr s i).1,(rBr s i).2.1-i+i',true):=by
 have hb:=(x25 s i h0 hs).2.2 hok;have e:=h.at0(by omega);unfold rBr at hok hn ⊢;rw[e];split
 ·rename_i h1;rw[if_pos h1]at hok hn;have:=y5h h.tail(by omega)(by omega)hok(by dsimp only at hn;omega);rw[this];simp;omega
 rename_i h1;rw[if_neg h1]at hok hn;exact y5h h h0 h0' hok hn
theorem x6e(h:Q3h s i s' i' n)(h0:0<=i)(h0':0<=i')(hok:(Q2t s i).2.2=true)(hn:(Q2t s i).2.1<=i+n):Q2t s' i'=((Q2t s i).1,(Q2t s i).2.1-i+i',true):=by
 have hb:=(y3c s i h0).2.2 hok;have e:=h.at0(by omega);unfold Q2t at hok hn hb ⊢;rw[e];by_cases c1:atB s i=46
 ·rw[if_pos c1,if_pos c1];simp;omega
 rw[if_neg c1]at hok hn hb ⊢;rw[if_neg c1];by_cases c2:atB s i=91
 ·rw[if_pos c2]at hok hn hb ⊢;rw[if_pos c2];have:=v0b h.tail(by omega)(by omega)(by omega)hok(by omega);rw[this];simp;omega
 rw[if_neg c2]at hok hn hb ⊢;rw[if_neg c2];by_cases c3:atB s i=92
 ·rw[if_pos c3]at hok hn hb ⊢;rw[if_pos c3];have:=y3p h.tail(by omega)hok(by dsimp only at hn;omega);rw[this];simp;omega
 rw[if_neg c3]at hok hn hb ⊢;rw[if_neg c3];by_cases c4:Q03(atB s i)=false
 ·rw[if_pos c4]at hok;cases hok
 rw[if_neg c4,if_neg c4];simp;omega
end
def begC(c:Int):Bool:=c==40||c==46||c==91||c==92||Q03 c
theorem z2d(s:ByteArray)(i:Int):Q2w s i=begC(atB s i):=rfl
def Q78(c:Int):Bool:=!isMark c&&!begC c&&c != 124
theorem x0w{c:Int}(h:Q78 c=true):Q1y c=false:=by
 unfold Q78 at h;cases h1:Q1y c
 ·rfl
 rw[h1]at h;simp at h
theorem x1m{c:Int}(h:Q78 c=true):begC c=false:=by
 unfold Q78 at h;cases h1:begC c
 ·rfl
 rw[h1]at h;simp at h
theorem x2u{c:Int}(h:Q78 c=true):c≠124:=by
 unfold Q78 at h;intro e;rw[e]at h;simp at h
theorem z9j{c:Int}(h:Q1y c=true):c≠-1:=by intro e;rw[e]at h;revert h;decide
theorem y5s{c:Int}(h:begC c=true):c≠-1:=by intro e;rw[e]at h;revert h;decide
def Q32(s:ByteArray)(l:Int->LR):Prop:=∀i:Int,0<=i->i<=s.size->(l i).ok=true->i<(l i).next/\(l i).next<=s.size
theorem z70{s:ByteArray}{f:Int->List Q0p->PR}{l:Int->LR}(h:Q5u s f)(k:LkF f l):Q32 s l:=fun i h0 h1 hok=>by
 have h2:=(h i []h0 h1).good(by rw[(k i []).ok];exact hok);rw[(k i []).next]at h2;exact h2
theorem z2p(s:ByteArray)(k:Nat):Q32 s(Q3q(lgK s k)s):=z70(z3h(z6x s k))(z96(x5c s k))
theorem z6b(s:ByteArray)(k:Nat):Q32 s(Q1u(Q3q(lgK s k)s)s):=z70(z3z(z3h(z6x s k)))(z71(z96(x5c s k)))
theorem y5q(s:ByteArray)(k:Nat):Q32 s(Q0z(Q1u(Q3q(lgK s k)s)s)s):=z70(z4o(z3z(z3h(z6x s k))))(z9c(z71(z96(x5c s k))))
theorem y38(s:ByteArray)(k:Nat):Q32 s(Q61 s k):=z70(z5e s k)(y72 s k)
structure Same(r r':LR)(i i':Int):Prop where
 ok:r'.ok=true
 next:r'.next=r.next-i+i'
 lang:r'.lang=r.lang
def LocG(s s':ByteArray)(l l':Int->LR):Prop:=∀(i i':Int)(n:Nat),0<=i->0<=i'->atB s i=40->Q3h s i s' i' n->(l i).ok=true->(l i).next<=i+n->Same(l i)(l' i')i i'
def LocA(s s':ByteArray)(l l':Int->LR):Prop:=∀(i i':Int)(n:Nat),0<=i->i<=s.size->0<=i'->Q3h s i s' i' n->(l i).ok=true->(l i).next<=i+n->Same(l i)(l' i')i i'
def Loc(s s':ByteArray)(l l':Int->LR):Prop:=∀(i i':Int)(n:Nat),0<=i->i<=s.size->0<=i'->Q3h s i s' i' n->Q78(atB s'(i'+n))=true->(l i).ok=true->(l i).next<=i+n->Same(l i)(l' i')i i'
theorem z4a(s:ByteArray)(f:Nat)(r:LR):Q2h s(f+1)r=if(r.ok&&Q1y(atB s r.next))=true then Q2h s f⟨r.next+1,true,Q04.rep(atB s r.next)r.lang⟩else r:=rfl
theorem z2f(p:Int->LR)(s:ByteArray)(f:Nat)(r:LR):Q1r p s(f+1)r=if(r.ok&&Q2w s r.next)=true then Q1r p s f(Q5v r(p r.next))else r:=rfl
theorem z2o(p:Int->LR)(s:ByteArray)(f:Nat)(r:LR):Q05 p s(f+1)r=if(r.ok&&(atB s r.next==124))=true then Q05 p s f(Q12 r(p(r.next+1)))else r:=rfl
section
variable{s s':ByteArray}
theorem z77{g g':Int->LR}(hg:LocG s s' g g')(hgd:Q32 s(Q3q g s)):LocA s s'(Q3q g s)(Q3q g' s'):=by
 intro i i' n h0 h1 h0' h hok hn;have hgd:=hgd i h0 h1 hok;have e:=h.at0(by omega);unfold Q3q at hok hn ⊢;rw[e];by_cases c:atB s i=40
 ·rw[if_pos c]at hok hn ⊢;rw[if_pos c];exact hg i i' n h0 h0' c h hok hn
 rw[if_neg c]at hok hn ⊢;rw[if_neg c];by_cases c2:(Q2t s i).2.2=false
 ·rw[if_pos c2]at hok;cases hok
 rw[if_neg c2]at hok hn ⊢;have r:=x6e h h0 h0'(by simpa using c2)hn;rw[r];rw[if_neg(by simp)];exact⟨rfl,rfl,rfl⟩
theorem y1f{i i':Int}{n:Nat}(h:Q3h s i s' i' n)(hst:Q78(atB s'(i'+n))=true):∀(f:Nat)(x:Int)(L:Q04),i<=x->x<=s.size->(s.size:Int)+2<=f+x->(Q2h s f⟨x,true,L⟩).next<=i+n->∀f':Nat,(s'.size:Int)+2<=f'+(x-i+i') ->
  Same(Q2h s f⟨x,true,L⟩)(Q2h s' f'⟨x-i+i',true,L⟩)i i'/\x<=(Q2h s f⟨x,true,L⟩).next/\(Q2h s f⟨x,true,L⟩).ok=true
 |0,x,L,_,hx,hf,_,_,_=>by omega
 |f+1,x,L,hi,hx,hf,hn,f',hf'=>by
  rw[z4a s f⟨x,true,L⟩]at hn ⊢;dsimp only at hn ⊢;rw[Bool.true_and]at hn ⊢;by_cases c:Q1y(atB s x)=true
  ·rw[if_pos c]at hn ⊢;have hx2:=z0q(s:=s)(i:=x)(z9j c);have j1:=fun f' hf'=>y1f h hst f(x+1)(Q04.rep(atB s x)L)(by omega)(by omega)(by omega)hn f' hf';have r1:=(j1(s'.size+2+(x+1-i+i').natAbs)(by omega)).2;have a1:=h.atK hi(x:=x)(by omega);have a2:=z0q(s:=s')(i:=x-i+i')(by rw[a1];exact z9j c);cases f' with
   |zero=>omega
   |succ f' =>
    have j0:(true&&Q1y(atB s'(x-i+i')))=true:=by rw[a1];simpa using c
    rw[z4a s' f'];dsimp only;rw[if_pos j0,a1,show x-i+i'+1=x+1-i+i' by omega];exact⟨(j1 f'(by omega)).1,by omega,r1.2⟩
  rw[if_neg c]at hn ⊢;dsimp only at hn ⊢;have a1:Q1y(atB s'(x-i+i'))=false:=by
   by_cases q:x<i+n
   ·rw[h.atK hi q];simpa using c
   rw[show x-i+i'=i'+n by omega];exact x0w hst
  cases f' with
  |zero=>exact⟨⟨rfl,rfl,rfl⟩,by omega,rfl⟩
  |succ f' =>
   have j0:¬(true&&Q1y(atB s'(x-i+i')))=true:=by rw[a1];simp
   rw[z4a s' f'];dsimp only;rw[if_neg j0];exact⟨⟨rfl,rfl,rfl⟩,by omega,rfl⟩
theorem z9m(s:ByteArray):∀(f:Nat)(r:LR),r.ok=false->Q2h s f r=r
 |0,r,_=>rfl
 |f+1,r,h=>by unfold Q2h;rw[h];rfl
theorem z2n{r:LR}(h:r.ok=true):r=⟨r.next,true,r.lang⟩:=by obtain⟨a,b,c⟩:=r;dsimp only at h ⊢;rw[h]
theorem z8w{a a':Int->LR}(ha:LocA s s' a a')(hg:Q32 s a):Loc s s'(Q1u a s)(Q1u a' s'):=by
 intro i i' n h0 h1 h0' h hst hok hn;unfold Q1u at hok hn ⊢;have j0:(a i).ok=true:=by
  cases e:(a i).ok
  ·rw[z9m s _ _ e,e]at hok;cases hok
  rfl
 have g:=hg i h0 h1 j0;rw[z2n j0]at hn ⊢;have j1:=fun f' hf'=>y1f h hst(s.size+5)(a i).next(a i).lang(by omega)(by omega)(by omega)hn f' hf';have k1:=(j1(s'.size+2+((a i).next-i+i').natAbs)(by omega)).2.1;have sm:=ha i i' n h0 h1 h0' h j0(by omega);rw[z2n sm.ok,sm.next,sm.lang];exact(j1(s'.size+5)(by omega)).1
theorem z1t(p:Int->LR)(s:ByteArray):∀(f:Nat)(r:LR),r.ok=false->Q1r p s f r=r
 |0,r,_=>rfl
 |f+1,r,h=>by unfold Q1r;rw[h];rfl
theorem z10(p:Int->LR)(s:ByteArray):∀(f:Nat)(r:LR),r.ok=false->Q05 p s f r=r
 |0,r,_=>rfl
 |f+1,r,h=>by unfold Q05;rw[h];rfl
theorem z85{p p':Int->LR}(hp:Loc s s' p p')(hg:Q32 s p){i i':Int}{n:Nat}(h0:0<=i)(h0':0<=i')(h:Q3h s i s' i' n)(hst:Q78(atB s'(i'+n))=true):∀(f:Nat)(x:Int)(L:Q04),i<=x->x<=s.size->(s.size:Int)+2<=f+x->(Q1r p s f⟨x,true,L⟩).ok=true->(Q1r p s f⟨x,true,L⟩).next<=i+n->∀f':Nat,(s'.size:Int)+2<=f'+(x-i+i') ->
  Same(Q1r p s f⟨x,true,L⟩)(Q1r p' s' f'⟨x-i+i',true,L⟩)i i'/\x<=(Q1r p s f⟨x,true,L⟩).next
 |0,x,L,_,hx,hf,_,_,_,_=>by omega
 |f+1,x,L,hi,hx,hf,hok,hn,f',hf'=>by
  rw[z2f p s f⟨x,true,L⟩]at hok hn ⊢;dsimp only at hok hn ⊢;rw[Bool.true_and]at hok hn ⊢;by_cases c:Q2w s x=true
  ·rw[if_pos c]at hok hn ⊢;have hx2:=z0q(s:=s)(i:=x)(y5s c);have j1:(p x).ok=true:=by
    cases e:(p x).ok
    ·have:(Q5v⟨x,true,L⟩(p x)).ok=false:=by unfold Q5v;rw[e];rfl
     rw[z1t p s f _ this,this]at hok;cases hok
    rfl
   have ej:Q5v⟨x,true,L⟩(p x)=⟨(p x).next,true,Q04.cat L(p x).lang⟩:=by unfold Q5v;rw[if_pos j1]
   rw[ej]at hok hn ⊢;have g:=hg x(by omega)(by omega)j1;have j2:=fun f' hf'=>z85 hp hg h0 h0' h hst f(p x).next(Q04.cat L(p x).lang)(by omega)(by omega)(by omega)hok hn f' hf';have r1:=(j2(s'.size+2+((p x).next-i+i').natAbs)(by omega)).2;have a1:=h.atK hi(x:=x)(by omega);have a2:=z0q(s:=s')(i:=x-i+i')(by rw[a1];exact y5s c);have hh:=h.on(x-i).toNat
   rw[show i+((x-i).toNat:Int)=x by omega,show i'+((x-i).toNat:Int)=x-i+i' by omega]at hh;have sm:=hp x(x-i+i')(n-(x-i).toNat)(by omega)hx(by omega)hh(by rw[show x-i+i'+((n-(x-i).toNat:Nat):Int)=i'+n by omega];exact hst)j1(by omega);cases f' with
   |zero=>omega
   |succ f' =>
    have j0:(true&&Q2w s'(x-i+i'))=true:=by rw[z2d,a1,← z2d,c];rfl
    have j3:Q5v⟨x-i+i',true,L⟩(p'(x-i+i'))=⟨(p x).next-i+i',true,Q04.cat L(p x).lang⟩:=by
     unfold Q5v;rw[if_pos sm.ok,sm.next,sm.lang,show(p x).next-x+(x-i+i')=(p x).next-i+i' by omega]
    rw[z2f p' s' f'];dsimp only;rw[if_pos j0,j3];exact⟨(j2 f'(by omega)).1,by omega⟩
  rw[if_neg c]at hok hn ⊢;dsimp only at hn ⊢;have a1:Q2w s'(x-i+i')=false:=by
   rw[z2d];by_cases q:x<i+n
   ·rw[h.atK hi q];simpa [z2d]using c
   rw[show x-i+i'=i'+n by omega];exact x1m hst
  cases f' with
  |zero=>exact⟨⟨rfl,rfl,rfl⟩,by omega⟩
  |succ f' =>
   have j0:¬(true&&Q2w s'(x-i+i'))=true:=by rw[a1];simp
   rw[z2f p' s' f'];dsimp only;rw[if_neg j0];exact⟨⟨rfl,rfl,rfl⟩,by omega⟩
theorem y01{p p':Int->LR}(hp:Loc s s' p p')(hg:Q32 s p):Loc s s'(Q0z p s)(Q0z p' s'):=by
 intro i i' n h0 h1 h0' h hst hok hn;unfold Q0z at hok hn ⊢;have j0:(p i).ok=true:=by
  cases e:(p i).ok
  ·rw[z1t p s _ _ e,e]at hok;cases hok
  rfl
 have g:=hg i h0 h1 j0;rw[z2n j0]at hok hn ⊢;have j1:=fun f' hf'=>z85 hp hg h0 h0' h hst(s.size+5)(p i).next(p i).lang(by omega)(by omega)(by omega)hok hn f' hf';have k1:=(j1(s'.size+2+((p i).next-i+i').natAbs)(by omega)).2;have sm:=hp i i' n h0 h1 h0' h hst j0(by omega);rw[z2n sm.ok,sm.next,sm.lang];exact(j1(s'.size+5)(by omega)).1
theorem z9f{p p':Int->LR}(hp:Loc s s' p p')(hg:Q32 s p){i i':Int}{n:Nat}(h0:0<=i)(h0':0<=i')(h:Q3h s i s' i' n)(hst:Q78(atB s'(i'+n))=true):∀(f:Nat)(x:Int)(L:Q04),i<=x->x<=s.size->(s.size:Int)+2<=f+x->(Q05 p s f⟨x,true,L⟩).ok=true->(Q05 p s f⟨x,true,L⟩).next<=i+n->∀f':Nat,(s'.size:Int)+2<=f'+(x-i+i') ->
  Same(Q05 p s f⟨x,true,L⟩)(Q05 p' s' f'⟨x-i+i',true,L⟩)i i'/\x<=(Q05 p s f⟨x,true,L⟩).next
 |0,x,L,_,hx,hf,_,_,_,_=>by omega
 |f+1,x,L,hi,hx,hf,hok,hn,f',hf'=>by
  rw[z2o p s f⟨x,true,L⟩]at hok hn ⊢;dsimp only at hok hn ⊢;rw[Bool.true_and]at hok hn ⊢;by_cases c:(atB s x==124)=true
  ·rw[if_pos c]at hok hn ⊢;have c':atB s x=124:=by simpa using c
   have j4:=z0q(s:=s)(i:=x)(by omega);have j0:(p(x+1)).ok=true:=by
    cases e:(p(x+1)).ok
    ·have:(Q12⟨x,true,L⟩(p(x+1))).ok=false:=by unfold Q12;rw[e];rfl
     rw[z10 p s f _ this,this]at hok;cases hok
    rfl
   have ej:Q12⟨x,true,L⟩(p(x+1))=⟨(p(x+1)).next,true,Q04.alt L(p(x+1)).lang⟩:=by unfold Q12;rw[if_pos j0]
   rw[ej]at hok hn ⊢;have g:=hg(x+1)(by omega)(by omega)j0;have j2:=fun f' hf'=>z9f hp hg h0 h0' h hst f(p(x+1)).next(Q04.alt L(p(x+1)).lang)(by omega)(by omega)(by omega)hok hn f' hf';have r1:=(j2(s'.size+2+((p(x+1)).next-i+i').natAbs)(by omega)).2;have a1:=h.atK hi(x:=x)(by omega);have a2:=z0q(s:=s')(i:=x-i+i')(by rw[a1];omega);have hh:=h.on(x+1-i).toNat
   rw[show i+((x+1-i).toNat:Int)=x+1 by omega,show i'+((x+1-i).toNat:Int)=x-i+i'+1 by omega]at hh;have sm:=hp(x+1)(x-i+i'+1)(n-(x+1-i).toNat)(by omega)(by omega)(by omega)hh(by rw[show x-i+i'+1+((n-(x+1-i).toNat:Nat):Int)=i'+n by omega];exact hst)j0(by omega);cases f' with
   |zero=>omega
   |succ f' =>
    have j1:(true&&(atB s'(x-i+i')==124))=true:=by rw[a1];simpa using c
    have j3:Q12⟨x-i+i',true,L⟩(p'(x-i+i'+1))=⟨(p(x+1)).next-i+i',true,Q04.alt L(p(x+1)).lang⟩:=by
     unfold Q12;rw[if_pos sm.ok,sm.next,sm.lang,show(p(x+1)).next-(x+1)+(x-i+i'+1)=(p(x+1)).next-i+i' by omega]
    rw[z2o p' s' f'];dsimp only;rw[if_pos j1,j3];exact⟨(j2 f'(by omega)).1,by omega⟩
  rw[if_neg c]at hok hn ⊢;dsimp only at hn ⊢;have a1:(atB s'(x-i+i')==124)=false:=by
   by_cases q:x<i+n
   ·rw[h.atK hi q];simpa using c
   rw[show x-i+i'=i'+n by omega];simpa using x2u hst
  cases f' with
  |zero=>exact⟨⟨rfl,rfl,rfl⟩,by omega⟩
  |succ f' =>
   have j1:¬(true&&(atB s'(x-i+i')==124))=true:=by rw[a1];simp
   rw[z2o p' s' f'];dsimp only;rw[if_neg j1];exact⟨⟨rfl,rfl,rfl⟩,by omega⟩
theorem y03{p p':Int->LR}(hp:Loc s s' p p')(hg:Q32 s p):Loc s s'(Q28 p s)(Q28 p' s'):=by
 intro i i' n h0 h1 h0' h hst hok hn;unfold Q28 at hok hn ⊢;have j0:(p i).ok=true:=by
  cases e:(p i).ok
  ·rw[z10 p s _ _ e,e]at hok;cases hok
  rfl
 have g:=hg i h0 h1 j0;rw[z2n j0]at hok hn ⊢;have j1:=fun f' hf'=>z9f hp hg h0 h0' h hst(s.size+5)(p i).next(p i).lang(by omega)(by omega)(by omega)hok hn f' hf';have k1:=(j1(s'.size+2+((p i).next-i+i').natAbs)(by omega)).2;have sm:=hp i i' n h0 h1 h0' h hst j0(by omega);rw[z2n sm.ok,sm.next,sm.lang];exact(j1(s'.size+5)(by omega)).1
theorem x3n{c c':Int->LR}(hc:Loc s s' c c')(hg:Q32 s c):LocG s s'(Q6d c s)(Q6d c' s'):=by
 intro i i' n h0 h0' h40 h hok hn;have hi:=z0q(s:=s)(i:=i)(by omega);unfold Q6d at hok hn ⊢;by_cases c1:(c(i+1)).ok=false
 ·rw[if_pos c1]at hok;cases hok
 have j0:(c(i+1)).ok=true:=by simpa using c1
 rw[if_neg c1]at hok hn ⊢;by_cases c2:atB s(c(i+1)).next≠41
 ·rw[if_pos c2]at hok;cases hok
 rw[if_neg c2]at hok hn ⊢;dsimp only at hn ⊢;have j1:atB s(c(i+1)).next=41:=by
  by_cases q:atB s(c(i+1)).next=41
  ·exact q
  exact absurd q c2
 have g:=hg(i+1)(by omega)(by omega)j0;have a1:=h.atK(x:=(c(i+1)).next)(by omega)(by omega);have hh:=h.tail.less(m:=((c(i+1)).next-(i+1)).toNat)(by omega);have sm:=hc(i+1)(i'+1)_(by omega)(by omega)(by omega)hh(by
  rw[show i'+1+(((c(i+1)).next-(i+1)).toNat:Int)=(c(i+1)).next-i+i' by omega,a1,j1];decide)j0(by omega)
 have e3:(c'(i'+1)).next=(c(i+1)).next-i+i':=by rw[sm.next];omega
 rw[if_neg(by rw[sm.ok];simp),e3,a1,if_neg c2];exact⟨rfl,by dsimp only;omega,sm.lang⟩
end
theorem y79(s s':ByteArray):∀k k':Nat,k<=k'->LocG s s'(lgK s k)(lgK s' k')
 |0,_,_=>fun i i' n _ _ _ _ hok _=>by cases hok
 |k+1,0,h=>by omega
 |k+1,k'+1,h=>x3n(y03(y01(z8w(z77(y79 s s' k k'(by omega))(z2p s k))(z2p s k))(z6b s k))(y5q s k))(y38 s k)
theorem y1u(s s':ByteArray){k k':Nat}(h:k<=k'):Loc s s'(Q61 s k)(Q61 s' k'):=y03(y01(z8w(z77(y79 s s' k k' h)(z2p s k))(z2p s k))(z6b s k))(y5q s k)
theorem y05(c:Int)(w:World):Calls Tryz.prog 114#[.int .u8 c]w fun e w'=>e=.returned(.bool(Q0n c))/\w'=w:=by
 go_enter Tryz.func114,Tryz.ntmps114
 go_wp2;all_goals(go_ret;exact⟨z0s(by rw[Bool.eq_iff_iff];simp[Q0n];omega),rfl⟩)
theorem z6y(c:Int)(w:World):Calls Tryz.prog 64#[.int .u8 c]w fun e w'=>e=.returned(.bool(Q1n c))/\w'=w:=by
 go_enter Tryz.func64,Tryz.ntmps64
 go_wp2;all_goals(go_ret;exact⟨z0s(by rw[Bool.eq_iff_iff];simp[Q1n];omega),rfl⟩)
theorem y6i(c:Int)(w:World):Calls Tryz.prog 124#[.int .u8 c]w fun e w'=>e=.returned(.bool(Q1y c))/\w'=w:=by
 go_enter Tryz.func124,Tryz.ntmps124
 go_wp2;all_goals(go_ret;exact⟨z0s(by rw[Bool.eq_iff_iff];simp_all[Q1y]),rfl⟩)
def mkF(c:Int):Int × Bool:=if c=110 then(10,true)else if c=116 then(9,true)else(c,!(!isPrB c||Q0n c||Q1n c||Q7r c))
theorem z50(c:Nat)(w:World)(hc:c<=255):Calls Tryz.prog 128#[.int .u8 c]w fun e w'=>e=.returned(.tuple#[.int .i64(mkF c).1,.bool(mkF c).2])/\w'=w:=by
 by_cases h1:c=110
 ·subst h1;go_enter Tryz.func128,Tryz.ntmps128
  go_wp2;go_ret2;exact⟨rfl,rfl⟩
 by_cases h2:c=116
 ·subst h2;go_enter Tryz.func128,Tryz.ntmps128
  go_wp2;go_ret2;exact⟨rfl,rfl⟩
 have k1:((c:Int)==110)=false:=by simp;omega
 have k2:((c:Int)==116)=false:=by simp;omega
 have k3:¬(c:Int)=110:=by omega
 have k4:¬(c:Int)=116:=by omega
 have HM:Hid(mkF c=((c:Int),!(!isPrB c||Q0n c||Q1n c||Q7r c))):=by unfold Hid mkF;rw[if_neg k3,if_neg k4]
 rw[HM.out];clear HM;have j1:Q5g(c:Int)=(decide(32<=c)&&decide(c<=126)):=by unfold Q5g;rw[Bool.eq_iff_iff];simp;omega
 have j0:Q7r(c:Int)=(decide(48<=c)&&decide(c<=57)):=by unfold Q7r;rw[Bool.eq_iff_iff];simp;omega
 have j2:=hid j1;have j3:=hid j0;clear j1 j0;generalize hsm:Q0n(c:Int)=sm;generalize hgr:Q1n(c:Int)=gr;have ZS:=hid(fun w=>y05(c:Int)w);have ZG:=hid(fun w=>z6y(c:Int)w);rw[hsm]at ZS;rw[hgr]at ZG;clear hsm hgr;go_enter Tryz.func128,Tryz.ntmps128
 go_wp2_with(first
  |(go_at_call 114;refine(ZS.out _).mono ?_;rintro e w'⟨rfl,hw⟩;rw[hw];clear hw)
  |(go_at_call 64;refine(ZG.out _).mono ?_;rintro e w'⟨rfl,hw⟩;rw[hw];clear hw))
 all_goals
  go_ret2;refine⟨?_,rfl⟩;rw[j2.out,j3.out];simp_all
 all_goals first
  |(intros;omega)
  |(rw[Bool.eq_iff_iff];simp;omega)
theorem y18{s:ByteArray}{i:Int}:Q2n s i=if(mkF(atB s i)).2=true then((mkF(atB s i)).1,i+1,true)else(0,i,false):=by
 unfold Q2n mkF;split
 ·rfl
 split
 ·rfl
 split
 ·rename_i h;rw[if_neg(by rw[h];simp)]
 rename_i h;rw[if_pos(by simpa using h)]
def okI(b:Bool)(x:Int):Int:=if b=true then x else -1
def okV(b:Bool)(x:Int):Int:=if b=true then x else 0
theorem y8k(p:ByteArray)(i:Nat)(w:World)(hp:p.size<=100000)(hi:i<=200000) :
  Calls Tryz.prog 140#[.string p,.int .i64 i]w fun e w'=>e=.returned(.tuple#[.int .i64(okV(Q1t p i).2.2(Q1t p i).1),.int .i64(okI(Q1t p i).2.2(Q1t p i).2.1)])/\w'=w:=by
 by_cases h1:i<p.size
 ·have hb:atB p(i:Nat)=p[i].toNat:=by unfold atB;rw[dif_pos⟨by omega,by simpa using h1⟩];simp
  have j6:p[i].toNat<256:=p[i].toNat_lt;have j4:¬(p.size:Int)<=(i:Int):=by omega
  have j5:(i:Int)<(p.size:Int):=by omega
  by_cases h2:p[i].toNat=92
  ·have hE:Q1t p i=Q2n p(i+1):=by unfold Q1t;rw[hb,h2,if_pos(by decide)]
   rw[hE,y18];have j3:((p[i].toNat:Int)==92)=true:=by simp[h2]
   by_cases h3:i+1<p.size
   ·have j0:atB p((i:Int)+1)=p[i+1].toNat:=by
     have:atB p((i+1:Nat):Int)=p[i+1].toNat:=by unfold atB;rw[dif_pos⟨by omega,by simpa using h3⟩];simp
     rw[← this];rfl
    have j1:p[i+1].toNat<256:=p[i+1].toNat_lt;have j2:¬(p.size:Int)<=(i:Int)+1:=by omega
    have j8:(i:Int)+1<(p.size:Int):=by omega
    have j7:((i:Int)+1).toNat=i+1:=by omega
    rw[j0];have ZM:=hid(fun w=>z50 p[i+1].toNat w(by omega));generalize mkF(p[i+1].toNat:Int)=m at ZM ⊢;obtain⟨v,ok⟩:=m;dsimp only at ZM ⊢;clear hE hb j0;cases ok
    ·go_enter Tryz.func140,Tryz.ntmps140
     go_wp2_with(first
      |(go_at_call 128;refine(ZM.out _).mono ?_;rintro e w'⟨rfl,hw⟩;rw[hw];clear hw))
     go_ret2;exact⟨rfl,rfl⟩
    go_enter Tryz.func140,Tryz.ntmps140
    go_wp2_with(first
     |(go_at_call 128;refine(ZM.out _).mono ?_;rintro e w'⟨rfl,hw⟩;rw[hw];clear hw))
    go_ret2;exact⟨by simp[okV,okI];omega,rfl⟩
   have j2:(p.size:Int)<=(i:Int)+1:=by omega
   have j0:atB p((i:Int)+1)=-1:=by unfold atB;rw[dif_neg(by omega)]
   rw[j0,show mkF(-1)=(-1,false)from by decide];clear hE hb j0;go_enter Tryz.func140,Tryz.ntmps140
   go_wp2;go_ret2;exact⟨rfl,rfl⟩
  have j3:((p[i].toNat:Int)==92)=false:=by simp;omega
  have hE:Q1t p i=if p[i].toNat=93∨p[i].toNat=94∨p[i].toNat=45∨p[i].toNat<32∨126<p[i].toNat then(0,(i:Int),false)else((p[i].toNat:Int),(i:Int)+1,true):=by
   unfold Q1t;rw[hb,if_neg(by omega)];by_cases q:p[i].toNat=93∨p[i].toNat=94∨p[i].toNat=45
   ·rw[if_pos(by omega),if_pos(by omega)]
   rw[if_neg(by omega)];by_cases q2:Q5g(p[i].toNat:Int)=false
   ·rw[if_pos q2,if_pos(by unfold Q5g at q2;rw[Bool.and_eq_false_iff,decide_eq_false_iff_not,decide_eq_false_iff_not]at q2;omega)]
   have q3:Q5g(p[i].toNat:Int)=true:=by simpa using q2
   unfold Q5g at q3;rw[Bool.and_eq_true,decide_eq_true_eq,decide_eq_true_eq]at q3;rw[if_neg q2,if_neg(by omega)]
  rw[hE];clear hE hb;generalize hn:p[i].toNat=n at *;have HN:=hid hn;by_cases q:n=93∨n=94∨n=45∨n<32∨126<n
  ·rw[if_pos q];go_enter Tryz.func140,Tryz.ntmps140
   go_wp2;all_goals first
    |(exfalso;omega)
    |(go_ret2;exact⟨rfl,rfl⟩)
    |(exfalso;simp_all;done)
    |(exfalso;simp_all;omega)
  rw[if_neg q];go_enter Tryz.func140,Tryz.ntmps140
  go_wp2;all_goals first
   |(exfalso;omega)
   |(go_ret2;exact⟨rfl,rfl⟩)
   |(exfalso;simp_all;done)
   |(exfalso;simp_all;omega)
 have j4:(p.size:Int)<=(i:Int):=by omega
 have hE:Q1t p i=(0,(i:Int),false):=by
  have hb:atB p(i:Nat)=-1:=by unfold atB;rw[dif_neg(by omega)]
  unfold Q1t;rw[hb,if_neg(by decide),if_neg(by decide),if_pos(by decide)]
 rw[hE];clear hE;go_enter Tryz.func140,Tryz.ntmps140
 go_wp2;go_ret2;exact⟨rfl,rfl⟩
end Go.Proofs.YtcpceafmlgaodaaGreat
