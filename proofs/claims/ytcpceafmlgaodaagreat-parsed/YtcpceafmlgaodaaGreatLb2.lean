import Derived.Test.YtcpceafmlgaodaaGreatRf2
namespace Go.Proofs.YtcpceafmlgaodaaGreat
open Go.RowKit
set_option maxRecDepth 100000
set_option maxHeartbeats 16000000
set_option linter.unusedVariables false
set_option linter.unusedSimpArgs false
section
variable{s:ByteArray}{a p:Int->LR}{i:Int}
theorem y7i{g:Int->LR}(h:(Q3q g s i).ok=true):begC(atB s i)=true:=by
  unfold Q3q at h;by_cases c:atB s i=40
  · rw[c];decide
  rw[if_neg c]at h;by_cases c2:(Q2t s i).2.2=false
  · rw[if_pos c2]at h;cases h
  unfold Q2t at c2;by_cases d1:atB s i=46
  · rw[d1];decide
  rw[if_neg d1]at c2;by_cases d2:atB s i=91
  · rw[d2];decide
  rw[if_neg d2]at c2;by_cases d3:atB s i=92
  · rw[d3];decide
  rw[if_neg d3]at c2;by_cases d4:Q03(atB s i)=false
  · rw[if_pos d4]at c2;exact absurd rfl c2
  unfold begC;have:Q03(atB s i)=true:=by simpa using d4
  rw[this];simp
theorem y1y(h:(Q1u a s i).ok=true):(a i).ok=true:=by
  cases e:(a i).ok
  · unfold Q1u at h;rw[z9m s _ _ e,e]at h;cases h
  rfl
theorem x3o(h:(Q0z p s i).ok=true):(p i).ok=true:=by
  cases e:(p i).ok
  · unfold Q0z at h;rw[z1t p s _ _ e,e]at h;cases h
  rfl
theorem x2l(h:(Q28 p s i).ok=true):(p i).ok=true:=by
  cases e:(p i).ok
  · unfold Q28 at h;rw[z10 p s _ _ e,e]at h;cases h
  rfl
theorem z89:∀(f:Nat)(x:Int)(b:Bool)(L L':Q04),(Q05 p s f⟨x,b,L⟩).next=(Q05 p s f⟨x,b,L'⟩).next/\(Q05 p s f⟨x,b,L⟩).ok=(Q05 p s f⟨x,b,L'⟩).ok
  |0,x,b,L,L'=>⟨rfl,rfl⟩
  |f+1,x,b,L,L'=>by
    unfold Q05;dsimp only;by_cases c:(b&&(atB s x==124))=true
    · rw[if_pos c,if_pos c]
      cases e:(p(x+1)).ok
      · have q1:∀L,(Q12⟨x,b,L⟩(p(x+1)))=⟨(p(x+1)).next,false,noL⟩:=fun L=>by unfold Q12;rw[e];rfl
        rw[q1,q1];exact⟨rfl,rfl⟩
      have q1:∀L,(Q12⟨x,b,L⟩(p(x+1)))=⟨(p(x+1)).next,true,Q04.alt L(p(x+1)).lang⟩:=fun L=>by unfold Q12;rw[if_pos e]
      rw[q1,q1];exact z89 f _ _ _ _
    rw[if_neg c,if_neg c];exact⟨rfl,rfl⟩
end
def Q3v(g:Int->Int)(p:ByteArray)(i:Int):Int:=if atB p i=40 then g i else okI(Q2t p i).2.2(Q2t p i).2.1
def Q5c(p:ByteArray):Nat->Int->Int
  |0,x=>x
  |f+1,x=>if 0<=x/\Q1y(atB p x)=true then Q5c p f(x+1)else x
def Q4i(a:Int->Int)(p:ByteArray)(i:Int):Int:=Q5c p(p.size+5)(a i)
def zJ(p:ByteArray)(x:Int):Int:=if atB p x=124 then x+1 else x
def Q9g(pc:Int->Int)(p:ByteArray):Nat->Int->Int
  |0,x=>x
  |f+1,x=>if 0<=x/\x<p.size then(if pc(zJ p x)<0 then x else Q9g pc p f(pc(zJ p x)))else x
def zPat(pc:Int->Int)(p:ByteArray)(i:Int):Int:=Q9g pc p(p.size+5)(pc i)
def zGrp(pt:Int->Int)(p:ByteArray)(i:Int):Int:=if 0<=pt(i+1)/\atB p(pt(i+1))=41 then pt(i+1)+1 else -1
def zgK(p:ByteArray):Nat->Int->Int
  |0=>fun _=>-1
  |k+1=>zGrp(zPat(Q4i(Q3v(zgK p k)p)p)p)p
def zpK(p:ByteArray)(k:Nat):Int->Int:=zPat(Q4i(Q3v(zgK p k)p)p)p
theorem z8o(pc:Int->Int)(p:ByteArray)(f:Nat)(x:Int):Q9g pc p(f+1)x=if 0<=x/\x<p.size then(if pc(zJ p x)<0 then x else Q9g pc p f(pc(zJ p x)))else x:=rfl
theorem z51(p:ByteArray)(f:Nat)(x:Int):Q5c p(f+1)x=if 0<=x/\Q1y(atB p x)=true then Q5c p f(x+1)else x:=rfl
def Q7g(v:Int)(r:LR):Prop:=v=okI r.ok r.next
section
variable{p:ByteArray}
theorem y3w{g:Int->Int}{l:Int->LR}{i:Int}(h:atB p i=40->Q7g(g i)(l i)):Q7g(Q3v g p i)(Q3q l p i):=by
  unfold Q7g Q3v Q3q;by_cases c:atB p i=40
  · rw[if_pos c,if_pos c];exact h c
  rw[if_neg c,if_neg c];by_cases c2:(Q2t p i).2.2=false
  · rw[if_pos c2,c2]
  have c3:(Q2t p i).2.2=true:=by simpa using c2
  rw[if_neg c2,c3]
theorem z8j:∀(f:Nat)(r:LR),(r.ok=true->0<=r.next)->Q7g(Q5c p f(okI r.ok r.next))(Q2h p f r)
  |0,r,_=>rfl
  |f+1,r,h0=>by
    rw[z51,z4a];cases hk:r.ok
    · rw[if_neg(fun q=>absurd q.1(show ¬(0:Int)<=-1 by decide)),if_neg(by simp)]
      unfold Q7g;rw[hk]
    have hn:=h0 hk;have e:okI true r.next=r.next:=rfl;rw[e];by_cases c:Q1y(atB p r.next)=true
    · rw[if_pos⟨hn,c⟩,if_pos(by rw[c];rfl)]
      exact z8j f⟨r.next+1,true,Q04.rep(atB p r.next)r.lang⟩(fun _=>by dsimp only;omega)
    rw[if_neg(fun q=>c q.2),if_neg(by simpa using c)];unfold Q7g;rw[hk];rfl
theorem y0j{a:Int->Int}{l:Int->LR}{i:Int}(h:Q7g(a i)(l i))(h0:(l i).ok=true->0<=(l i).next):Q7g(Q4i a p i)(Q1u l p i):=by
  unfold Q4i Q1u;unfold Q7g at h;rw[h];exact z8j _ _ h0
structure SaysP(p:ByteArray)(v:Int)(r:LR):Prop where
  good:r.ok=true->v=r.next
  bad:r.ok=false->v<0∨(0<=v/\v<p.size/\(atB p v=124∨begC(atB p v)=true))
theorem x5l{B:Int->LR}{f:Nat}{r r':LR}(h1:r.next=r'.next)(h2:r.ok=r'.ok):(Q05 B p f r).next=(Q05 B p f r').next/\(Q05 B p f r).ok=(Q05 B p f r').ok:=by
  obtain⟨a,b,c⟩:=r;obtain⟨a',b',c'⟩:=r';dsimp only at h1 h2;subst h1 h2;exact z89 f a b c c'
theorem x1f{pc:Int->Int}{P:Int->LR}(hP:∀x:Int,0<=x->x<=p.size->Q7g(pc x)(P x))(hg:Q32 p P)(hbeg:∀x,(P x).ok=true->begC(atB p x)=true) :
    ∀(m:Nat)(x:Int)(L:Q04)(fb fc f:Nat),(p.size:Int)<=x+m->0<=x->x<=p.size->Q1y(atB p x)=false->(p.size:Int)+2<=fb+x->(p.size:Int)+2<=fc+x->(p.size:Int)+2<=f+x ->
      (∀y:Int,0<=y->y<=p.size->(P y).ok=true->Q1y(atB p(P y).next)=false) ->
      SaysP p(Q9g pc p f x)(Q05(Q0z P p)p fc(Q1r P p fb⟨x,true,L⟩)):=by
  intro m;induction m with
  |zero =>
    intro x L fb fc f hm h0 h1 hmk hfb hfc hf hst;have hx:x=p.size:=by omega
    have hb:atB p x=-1:=by unfold atB;rw[dif_neg(by omega)]
    obtain⟨fb,rfl⟩:∃k,fb=k+1:=⟨fb-1,by omega⟩;obtain⟨fc,rfl⟩:∃k,fc=k+1:=⟨fc-1,by omega⟩;obtain⟨f,rfl⟩:∃k,f=k+1:=⟨f-1,by omega⟩;rw[z2f,if_neg(show ¬(true&&Q2w p x)=true by rw[z2d,hb];decide),z2o,if_neg(show ¬(true&&(atB p x==124))=true by rw[hb];decide),z8o,if_neg(by omega)];exact⟨fun _=>rfl,fun e=>by(cases e)⟩
  |succ m ih =>
    intro x L fb fc f hm h0 h1 hmk hfb hfc hf hst;by_cases hxs:x<p.size
    · obtain⟨fb,rfl⟩:∃k,fb=k+1:=⟨fb-1,by omega⟩
      obtain⟨fc,rfl⟩:∃k,fc=k+1:=⟨fc-1,by omega⟩;obtain⟨f,rfl⟩:∃k,f=k+1:=⟨f-1,by omega⟩;rw[z8o,if_pos⟨h0,hxs⟩];by_cases cb:begC(atB p x)=true
      · have j1:atB p x≠124:=fun e=>by rw[e]at cb;revert cb;decide
        have ej:zJ p x=x:=by unfold zJ;rw[if_neg j1]
        rw[ej];have hs:=hP x h0 h1;unfold Q7g at hs;rw[z2f,if_pos(show(true&&Q2w p x)=true by rw[z2d,cb];rfl)];cases hk:(P x).ok
        · rw[hk]at hs
          have j0:pc x<0:=by rw[hs];exact(show(-1:Int)<0 by decide)
          have q1:Q5v⟨x,true,L⟩(P x)=⟨(P x).next,false,noL⟩:=by unfold Q5v;rw[hk];rfl
          rw[if_pos j0,q1,z1t P p _ _ rfl,z10 _ p _ _ rfl];exact⟨fun e=>by(cases e),fun _=>.inr⟨h0,hxs,.inr cb⟩⟩
        rw[hk]at hs;have g:=hg x h0 h1 hk;have e1:pc x=(P x).next:=hs;have q1:Q5v⟨x,true,L⟩(P x)=⟨(P x).next,true,Q04.cat L(P x).lang⟩:=by unfold Q5v;rw[if_pos hk]
        rw[if_neg(by omega),q1,e1];exact ih _ _ fb(fc+1)f(by omega)(by omega)(by omega)(hst x h0 h1 hk)(by omega)(by omega)(by omega)hst
      rw[z2f,if_neg(show ¬(true&&Q2w p x)=true by rw[z2d];simpa using cb),z2o];by_cases c124:atB p x=124
      · have ej:zJ p x=x+1:=by unfold zJ;rw[if_pos c124]
        rw[ej,if_pos(show(true&&(atB p x==124))=true by rw[c124];rfl)];have hs:=hP(x+1)(by omega)(by omega);unfold Q7g at hs;cases hk:(P(x+1)).ok
        · rw[hk]at hs
          have j0:pc(x+1)<0:=by rw[hs];exact(show(-1:Int)<0 by decide)
          have q0:Q0z P p(x+1)=P(x+1):=by unfold Q0z;exact z1t P p _ _ hk
          have q1:Q12⟨x,true,L⟩(Q0z P p(x+1))=⟨(P(x+1)).next,false,noL⟩:=by rw[q0];unfold Q12;rw[hk];rfl
          rw[if_pos j0,q1,z10 _ p _ _ rfl];exact⟨fun e=>by(cases e),fun _=>.inr⟨h0,hxs,.inl c124⟩⟩
        rw[hk]at hs;have g:=hg(x+1)(by omega)(by omega)hk;have e1:pc(x+1)=(P(x+1)).next:=hs;rw[if_neg(by omega),e1];have j2:=ih(P(x+1)).next(P(x+1)).lang(p.size+5)fc f(by omega)(by omega)(by omega)(hst(x+1)(by omega)(by omega)hk)(by omega)(by omega)(by omega)hst;have eb:Q0z P p(x+1)=Q1r P p(p.size+5)⟨(P(x+1)).next,true,(P(x+1)).lang⟩:=by unfold Q0z;rw[← z2n hk]
        rw[eb];generalize Q1r P p(p.size+5)⟨(P(x+1)).next,true,(P(x+1)).lang⟩=r at j2 ⊢;have en:(Q12⟨x,true,L⟩r).next=r.next/\(Q12⟨x,true,L⟩r).ok=r.ok:=by
          unfold Q12;cases e:r.ok<;>simp
        obtain⟨z1,z2⟩:=x5l(B:=Q0z P p)(f:=fc)en.1 en.2;exact⟨fun e=>by rw[z1];exact j2.good(by rw[← z2];exact e),fun e=>j2.bad(by rw[← z2];exact e)⟩
      have ej:zJ p x=x:=by unfold zJ;rw[if_neg c124]
      have j3:(P x).ok=false:=by
        cases e:(P x).ok
        · rfl
        exact absurd(hbeg x e)cb
      have hs:=hP x h0 h1;unfold Q7g at hs;rw[j3]at hs;have j0:pc x<0:=by rw[hs];exact(show(-1:Int)<0 by decide)
      rw[ej,if_pos j0,if_neg(show ¬(true&&(atB p x==124))=true by simpa using c124)];exact⟨fun _=>rfl,fun e=>by(cases e)⟩
    have hx:x=p.size:=by omega
    have hb:atB p x=-1:=by unfold atB;rw[dif_neg(by omega)]
    obtain⟨fb,rfl⟩:∃k,fb=k+1:=⟨fb-1,by omega⟩;obtain⟨fc,rfl⟩:∃k,fc=k+1:=⟨fc-1,by omega⟩;obtain⟨f,rfl⟩:∃k,f=k+1:=⟨f-1,by omega⟩;rw[z2f,if_neg(show ¬(true&&Q2w p x)=true by rw[z2d,hb];decide),z2o,if_neg(show ¬(true&&(atB p x==124))=true by rw[hb];decide),z8o,if_neg(by omega)];exact⟨fun _=>rfl,fun e=>by(cases e)⟩
theorem z8u:∀(f:Nat)(x:Int)(L:Q04),x<=p.size->(p.size:Int)+2<=f+x->Q1y(atB p(Q2h p f⟨x,true,L⟩).next)=false
  |0,x,L,h1,h2=>by omega
  |f+1,x,L,h1,h2=>by
    rw[z4a];dsimp only;rw[Bool.true_and];by_cases c:Q1y(atB p x)=true
    · rw[if_pos c]
      have:=z0q(s:=p)(i:=x)(z9j c);exact z8u f _ _(by omega)(by omega)
    rw[if_neg c];simpa using c
theorem y8s{pc:Int->Int}{a:Int->LR}(hP:∀x:Int,0<=x->x<=p.size->Q7g(pc x)(Q1u a p x))(hga:Q32 p a)(hg:Q32 p(Q1u a p))(hbeg:∀x,(Q1u a p x).ok=true->begC(atB p x)=true){i:Int}(h0:0<=i)(h1:i<=p.size) :
    SaysP p(zPat pc p i)(Q28(Q0z(Q1u a p)p)p i):=by
  have j0:∀y:Int,0<=y->y<=p.size->(Q1u a p y).ok=true->Q1y(atB p(Q1u a p y).next)=false:=fun y y0 y1 hy=>by
    have ha:=y1y hy;have g:=hga y y0 y1 ha;unfold Q1u;rw[z2n ha];exact z8u _ _ _(by omega)(by omega)
  have hs:=hP i h0 h1;unfold Q7g at hs;unfold zPat Q28;cases hk:(Q1u a p i).ok
  · rw[hk]at hs
    have e1:pc i=-1:=hs;have q0:Q0z(Q1u a p)p i=Q1u a p i:=by unfold Q0z;exact z1t _ p _ _ hk
    rw[q0,z10 _ p _ _ hk,e1];show SaysP p(Q9g pc p(p.size+4+1)(-1))_;rw[z8o,if_neg(by omega)];exact⟨fun e=>by rw[hk]at e;(cases e),fun _=>.inl(by decide)⟩
  rw[hk]at hs;have e1:pc i=(Q1u a p i).next:=hs;have g:=hg i h0 h1 hk;have eb:Q0z(Q1u a p)p i=Q1r(Q1u a p)p(p.size+5)⟨(Q1u a p i).next,true,(Q1u a p i).lang⟩:=by unfold Q0z;rw[← z2n hk]
  rw[eb,e1];exact x1f hP hg hbeg p.size _ _ _ _ _(by omega)(by omega)(by omega)(j0 i h0 h1 hk)(by omega)(by omega)(by omega)j0
theorem x5v{pt:Int->Int}{c:Int->LR}{i:Int}(h:SaysP p(pt(i+1))(c(i+1)))(h0:(c(i+1)).ok=true->0<=(c(i+1)).next):Q7g(zGrp pt p i)(Q6d c p i):=by
  unfold Q7g zGrp Q6d;cases hk:(c(i+1)).ok
  · rw[if_pos rfl]
    rw[if_neg(fun q=>by
      rcases h.bad hk with b|⟨_,_,b⟩
      · omega
      rw[q.2]at b;revert b;decide)]
    rfl
  have e1:=h.good hk;have e2:=h0 hk;rw[e1];have e3:¬(true=false):=by simp
  rw[if_neg e3];by_cases c2:atB p(c(i+1)).next=41
  · rw[if_pos⟨e2,c2⟩,if_neg(by rw[c2];simp)]
    rfl
  rw[if_neg(fun q=>c2 q.2),if_pos c2];rfl
theorem z22{k:Nat}{x:Int}(h:(Q1u(Q3q(lgK p k)p)p x).ok=true):begC(atB p x)=true:=y7i(y1y h)
theorem x2x:∀(k:Nat)(i:Int),0<=i->atB p i=40->Q7g(zgK p k i)(lgK p k i)
  |0,i,_,_=>rfl
  |k+1,i,h0,h40=>by
    have hi:=z0q(s:=p)(i:=i)(by omega);have ha:∀x:Int,0<=x->x<=p.size->Q7g(Q3v(zgK p k)p x)(Q3q(lgK p k)p x):=fun x x0 _=>y3w(fun h=>x2x k x x0 h);have j0:∀x:Int,0<=x->x<=p.size->Q7g(Q4i(Q3v(zgK p k)p)p x)(Q1u(Q3q(lgK p k)p)p x):=fun x x0 x1=>y0j(ha x x0 x1)(fun h=>by have:=z2p p k x x0 x1 h;omega);exact x5v(y8s j0(z2p p k)(z6b p k)(fun x h=>z22 h)(by omega)(by omega))(fun h=>by have:=y38 p k(i+1)(by omega)(by omega)h;show 0<=(Q61 p k(i+1)).next;omega)
theorem z7e(k:Nat){x:Int}(x0:0<=x):Q7g(Q3v(zgK p k)p x)(Q3q(lgK p k)p x):=y3w(fun h=>x2x k x x0 h)
theorem z5z(k:Nat){x:Int}(x0:0<=x)(x1:x<=p.size):Q7g(Q4i(Q3v(zgK p k)p)p x)(Q1u(Q3q(lgK p k)p)p x):=y0j(z7e k x0)(fun h=>by have:=z2p p k x x0 x1 h;omega)
theorem x2i(k:Nat){i:Int}(h0:0<=i)(h1:i<=p.size):SaysP p(zpK p k i)(Q61 p k i):=y8s(fun x x0 x1=>z5z k x0 x1)(z2p p k)(z6b p k)(fun x h=>z22 h)h0 h1
end
theorem z1z{p:ByteArray}{i:Nat}(h:i<p.size):atB p(i:Nat)=p[i].toNat:=by unfold atB;rw[dif_pos⟨by omega,by simpa using h⟩];simp
theorem z19{p:ByteArray}{i:Int}(h:p.size<=i):atB p i=-1:=by unfold atB;rw[dif_neg(by omega)]
theorem x9o(x:Int):okI true x=x:=rfl
theorem x35(x:Int):okI false x=-1:=rfl
def PatC(p:ByteArray)(d:Nat)(f:Int->Int):Prop:=∀(i:Nat)(w:World),i<=p.size+1->Calls Tryz.prog 88#[.string p,.int .i64 i,.int .i64 d]w fun e w'=>e=.returned(.int .i64(f i))/\w'=w
def AtmC(p:ByteArray)(d:Nat)(f:Int->Int):Prop:=∀(i:Nat)(w:World),i<=p.size+1->Calls Tryz.prog 123#[.string p,.int .i64 i,.int .i64 d]w fun e w'=>e=.returned(.int .i64(f i))/\w'=w
def PceC(p:ByteArray)(d:Nat)(f:Int->Int):Prop:=∀(i:Nat)(w:World),i<=p.size+1->Calls Tryz.prog 115#[.string p,.int .i64 i,.int .i64 d]w fun e w'=>e=.returned(.int .i64(f i))/\w'=w
theorem z8m(p:ByteArray)(k d:Nat)(hp:p.size<=80000)(hd:d+k=6)(ih:∀k',k=k'+1->PatC p(d+1)(zpK p k')):AtmC p d(Q3v(zgK p k)p):=by
  intro i w hi;by_cases h1:i<p.size
  · have hb:=z1z h1
    have jk:p[i].toNat<256:=p[i].toNat_lt;have j7:¬(p.size:Int)<=(i:Int):=by omega
    have jh:(i:Int)<(p.size:Int):=by omega
    have ZP:=hid(fun w=>y9p p[i].toNat w(by omega));unfold Q3v;unfold Q2t;rw[hb];by_cases q46:p[i].toNat=46
    · have kk:((p[i].toNat:Int)==46)=true:=by simp[q46]
      rw[if_neg(by omega),if_pos(by omega)];dsimp only;rw[x9o];rw[show Q03(p[i].toNat:Int)=false from by rw[q46];decide]at ZP;clear hb q46;go_enter Tryz.func123,Tryz.ntmps123
      go_wp2_with(first
        |(go_at_call 127;refine(ZP.out _).mono ?_;rintro e w'⟨rfl,hw⟩;rw[hw];clear hw))
      go_ret;exact⟨rfl,rfl⟩
    have ji:((p[i].toNat:Int)==46)=false:=by simp;omega
    by_cases qpl:Q03(p[i].toNat:Int)=true
    · have jf:p[i].toNat≠40:=fun e=>by rw[e]at qpl;revert qpl;decide
      have je:p[i].toNat≠91:=fun e=>by rw[e]at qpl;revert qpl;decide
      have jj:p[i].toNat≠92:=fun e=>by rw[e]at qpl;revert qpl;decide
      rw[if_neg(by omega),if_neg(by omega),if_neg(by omega),if_neg(by omega),if_neg(by rw[qpl];simp)];dsimp only;rw[x9o];rw[qpl]at ZP;clear hb qpl;go_enter Tryz.func123,Tryz.ntmps123
      go_wp2_with(first
        |(go_at_call 127;refine(ZP.out _).mono ?_;rintro e w'⟨rfl,hw⟩;rw[hw];clear hw))
      go_ret;exact⟨rfl,rfl⟩
    have j0:Q03(p[i].toNat:Int)=false:=by simpa using qpl
    rw[j0]at ZP;clear qpl;by_cases q92:p[i].toNat=92
    · have j6:((p[i].toNat:Int)==92)=true:=by simp[q92]
      rw[if_neg(by omega),if_neg(by omega),if_neg(by omega),if_pos(by omega)];dsimp only;rw[y18];by_cases h3:i+1<p.size
      · have j1:atB p((i:Int)+1)=p[i+1].toNat:=by rw[← z1z h3];rfl
        have j9:p[i+1].toNat<256:=p[i+1].toNat_lt;have jl:(i:Int)+1<(p.size:Int):=by omega
        have jd:((i:Int)+1).toNat=i+1:=by omega
        rw[j1];have ZM:=hid(fun w=>z50 p[i+1].toNat w(by omega));generalize mkF(p[i+1].toNat:Int)=m at ZM ⊢;obtain⟨v,ok⟩:=m;dsimp only at ZM ⊢;clear hb j1 j0 q92;cases ok
        · rw[if_neg(by simp)]
          dsimp only;rw[x35];go_enter Tryz.func123,Tryz.ntmps123
          go_wp2_with(first
            |(go_at_call 127;refine(ZP.out _).mono ?_;rintro e w'⟨rfl,hw⟩;rw[hw];clear hw)
            |(go_at_call 128;refine(ZM.out _).mono ?_;rintro e w'⟨rfl,hw⟩;rw[hw];clear hw))
          go_ret;exact⟨rfl,rfl⟩
        rw[if_pos rfl];dsimp only;rw[x9o,show(i:Int)+1+1=(i:Int)+2 by omega];go_enter Tryz.func123,Tryz.ntmps123
        go_wp2_with(first
          |(go_at_call 127;refine(ZP.out _).mono ?_;rintro e w'⟨rfl,hw⟩;rw[hw];clear hw)
          |(go_at_call 128;refine(ZM.out _).mono ?_;rintro e w'⟨rfl,hw⟩;rw[hw];clear hw))
        go_ret;exact⟨rfl,rfl⟩
      have jc:¬(i:Int)+1<(p.size:Int):=by omega
      have j1:atB p((i:Int)+1)=-1:=z19(by omega);rw[j1,show mkF(-1)=(-1,false)from by decide];dsimp only;rw[if_neg(by simp)];dsimp only;rw[x35];clear hb j1 j0 q92;go_enter Tryz.func123,Tryz.ntmps123
      go_wp2_with(first
        |(go_at_call 127;refine(ZP.out _).mono ?_;rintro e w'⟨rfl,hw⟩;rw[hw];clear hw))
      go_ret;exact⟨rfl,rfl⟩
    have j6:((p[i].toNat:Int)==92)=false:=by simp;omega
    by_cases q91:p[i].toNat=91
    · have j5:((p[i].toNat:Int)==91)=true:=by simp[q91]
      rw[if_neg(by omega),if_neg(by omega),if_pos(by omega)];have ZC:=hid(fun w=>x0h p i w(by omega)h1);generalize okI(rBr p((i:Int)+1)).2.2(rBr p((i:Int)+1)).2.1=v at ZC ⊢;clear hb j0 q91;go_enter Tryz.func123,Tryz.ntmps123
      go_wp2_with(first
        |(go_at_call 127;refine(ZP.out _).mono ?_;rintro e w'⟨rfl,hw⟩;rw[hw];clear hw)
        |(go_at_call 129;refine(ZC.out _).mono ?_;rintro e w'⟨rfl,hw⟩;rw[hw];clear hw))
      go_ret;exact⟨rfl,rfl⟩
    have j5:((p[i].toNat:Int)==91)=false:=by simp;omega
    by_cases q40:p[i].toNat=40
    · have j4:((p[i].toNat:Int)==40)=true:=by simp[q40]
      rw[if_pos(by omega)];cases k with
      |zero =>
        show Calls _ _ _ _(fun e w'=>e=.returned(.int .i64(-1))/\w'=w);have ja:¬(d:Int)<6:=by omega
        clear hb j0 ih q40;go_enter Tryz.func123,Tryz.ntmps123
        go_wp2_with(first
          |(go_at_call 127;refine(ZP.out _).mono ?_;rintro e w'⟨rfl,hw⟩;rw[hw];clear hw))
        go_ret;exact⟨rfl,rfl⟩
      |succ k' =>
        have ja:(d:Int)<6:=by omega
        have jg:d<=6:=by omega
        have PT:=hid(fun w=>ih k' rfl(i+1)w(by omega));have ei:((i+1:Nat):Int)=(i:Int)+1:=by omega
        have ed:((d+1:Nat):Int)=(d:Int)+1:=by omega
        rw[ei,ed]at PT;show Calls _ _ _ _(fun e w'=>e=.returned(.int .i64(zGrp(zpK p k')p i))/\w'=w);unfold zGrp;generalize zpK p k'((i:Int)+1)=v at PT ⊢;clear hb j0 ih q40;by_cases hv:0<=v
        · obtain⟨j,rfl⟩:∃j:Nat,v=j:=⟨v.toNat,by omega⟩
          by_cases hj:j<p.size
          · have j2:=z1z hj
            have jb:p[j].toNat<256:=p[j].toNat_lt;have j3:(j:Int)<(p.size:Int):=by omega
            rw[j2];by_cases q41:p[j].toNat=41
            · have j8:((p[j].toNat:Int)==41)=true:=by simp[q41]
              rw[if_pos⟨hv,by omega⟩];clear j2 q41;go_enter Tryz.func123,Tryz.ntmps123
              go_wp2_with(first
                |(go_at_call 127;refine(ZP.out _).mono ?_;rintro e w'⟨rfl,hw⟩;rw[hw];clear hw)
                |(go_at_call 88;refine(PT.out _).mono ?_;rintro e w'⟨rfl,hw⟩;rw[hw];clear hw))
              go_ret;exact⟨rfl,rfl⟩
            have j8:((p[j].toNat:Int)==41)=false:=by simp;omega
            rw[if_neg(by omega)];clear j2;go_enter Tryz.func123,Tryz.ntmps123
            go_wp2_with(first
              |(go_at_call 127;refine(ZP.out _).mono ?_;rintro e w'⟨rfl,hw⟩;rw[hw];clear hw)
              |(go_at_call 88;refine(PT.out _).mono ?_;rintro e w'⟨rfl,hw⟩;rw[hw];clear hw))
            go_ret;exact⟨rfl,rfl⟩
          have j3:¬(j:Int)<(p.size:Int):=by omega
          rw[z19(by omega),if_neg(by omega)];go_enter Tryz.func123,Tryz.ntmps123
          go_wp2_with(first
            |(go_at_call 127;refine(ZP.out _).mono ?_;rintro e w'⟨rfl,hw⟩;rw[hw];clear hw)
            |(go_at_call 88;refine(PT.out _).mono ?_;rintro e w'⟨rfl,hw⟩;rw[hw];clear hw))
          go_ret;exact⟨rfl,rfl⟩
        rw[if_neg(fun e=>hv e.1)];go_enter Tryz.func123,Tryz.ntmps123
        go_wp2_with(first
          |(go_at_call 127;refine(ZP.out _).mono ?_;rintro e w'⟨rfl,hw⟩;rw[hw];clear hw)
          |(go_at_call 88;refine(PT.out _).mono ?_;rintro e w'⟨rfl,hw⟩;rw[hw];clear hw))
        go_ret;exact⟨rfl,rfl⟩
    have j4:((p[i].toNat:Int)==40)=false:=by simp;omega
    rw[if_neg(by omega),if_neg(by omega),if_neg(by omega),if_neg(by omega),if_pos j0];dsimp only;rw[x35];clear hb j0 ih;go_enter Tryz.func123,Tryz.ntmps123
    go_wp2_with(first
      |(go_at_call 127;refine(ZP.out _).mono ?_;rintro e w'⟨rfl,hw⟩;rw[hw];clear hw))
    go_ret;exact⟨rfl,rfl⟩
  have j7:(p.size:Int)<=(i:Int):=by omega
  have hE:Q3v(zgK p k)p i=-1:=by
    have hb:atB p(i:Nat)=-1:=z19(by omega);unfold Q3v Q2t;rw[hb,if_neg(by decide),if_neg(by decide),if_neg(by decide),if_neg(by decide),if_pos(by decide)];exact x35 _
  rw[hE];clear hE ih;go_enter Tryz.func123,Tryz.ntmps123
  go_wp2;go_ret;exact⟨rfl,rfl⟩
def Fwd(p:ByteArray)(f:Int->Int):Prop:=∀x:Int,0<=x->f x=-1∨(x<f x/\f x<=p.size)
theorem y5x(p:ByteArray)(k:Nat):Fwd p(Q3v(zgK p k)p):=by
  intro x h0;by_cases h1:x<=p.size
  · have h:=z7e(p:=p)k h0
    unfold Q7g at h;cases hk:(Q3q(lgK p k)p x).ok
    · left;rw[h,hk];rfl
    right;have g:=z2p p k x h0 h1 hk;rw[h,hk];exact g
  left;have hb:atB p x=-1:=z19(by omega);unfold Q3v Q2t;rw[hb,if_neg(by decide),if_neg(by decide),if_neg(by decide),if_neg(by decide),if_pos(by decide)];exact x35 _
theorem z8v(p:ByteArray):∀(f:Nat)(x:Int),x<=p.size->x<=Q5c p f x/\Q5c p f x<=p.size
  |0,x,h=>⟨Int.le_refl _,h⟩
  |f+1,x,h=>by
    rw[z51];split
    · rename_i c
      have:=z0q(s:=p)(i:=x)(z9j c.2);have:=z8v p f(x+1)(by omega);omega
    omega
theorem y59(p:ByteArray)(f:Nat):Q5c p f(-1)=-1:=by
  cases f with
  |zero=>rfl
  |succ f=>rw[z51,if_neg(by omega)]
theorem y9u(p:ByteArray)(k:Nat):Fwd p(Q4i(Q3v(zgK p k)p)p):=by
  intro x h0;unfold Q4i;rcases y5x p k x h0 with h|h
  · left;rw[h];exact y59 p _
  right;have:=z8v p(p.size+5)(Q3v(zgK p k)p x)h.2;omega
theorem z6t(p:ByteArray)(k d:Nat)(hp:p.size<=80000)(hA:AtmC p d(Q3v(zgK p k)p)):PceC p d(Q4i(Q3v(zgK p k)p)p):=by
  intro i w hi;have AT:=hid(fun w=>hA i w hi);have hf:=y5x p k i(by omega);unfold Q4i;generalize Q3v(zgK p k)p i=a at AT hf ⊢;have j0:-1<=a:=by omega
  have j2:a<=p.size:=by omega
  have ZS:=hid(fun(c:Int)(w:World)=>y6i c w);generalize hV:Q5c p(p.size+5)a=V;have HV:=hid hV;clear hV hA hf;go_enter Tryz.func115,Tryz.ntmps115
  go_wp2_with(first
    |(go_at_call 123;refine(AT.out _).mono ?_;rintro e w'⟨rfl,hw⟩;rw[hw];clear hw))
  go_loopw [7](fun x7 wr=>∃(y:Int)(F:Nat),x7=.int .i64 y/\-1<=y/\y<=p.size/\(p.size:Int)+2<=F+y/\Q5c p F y=V/\wr=w)
      (fun x _=>(100000-intOf x).toNat)
  case atStart=>exact⟨a,p.size+5,rfl,j0,j2,by omega,HV.out,rfl⟩
  obtain⟨y,F,rfl,hy1,hy2,hF,hrec,rfl⟩:=hrel;obtain⟨F,rfl⟩:∃k,F=k+1:=⟨F-1,by omega⟩;rw[z51]at hrec;clear HV;by_cases h0:0<=y
  · obtain⟨j,rfl⟩:∃j:Nat,y=j:=⟨y.toNat,by omega⟩
    by_cases hj:j<p.size
    · have hb:=z1z hj
      have j3:p[j].toNat<256:=p[j].toNat_lt;have j1:(j:Int)<(p.size:Int):=by omega
      rw[hb]at hrec;have ZX:=hid(fun w=>ZS.out(p[j].toNat:Int)w);generalize Q1y(p[j].toNat:Int)=mk at ZX hrec;clear hb;cases mk
      · rw[if_neg(by simp)]at hrec
        have HR:=hid hrec;clear hrec;go_wp2_with(first
          |(go_at_call 124;refine(ZX.out _).mono ?_;rintro e w'⟨rfl,hw⟩;rw[hw];clear hw))
        go_ret;exact⟨by rw[← HR.out];rfl,rfl⟩
      rw[if_pos⟨h0,rfl⟩]at hrec;have HR:=hid hrec;clear hrec;go_wp2_with(first
        |(go_at_call 124;refine(ZX.out _).mono ?_;rintro e w'⟨rfl,hw⟩;rw[hw];clear hw))
      go_roundw
      case rel=>exact⟨(j:Int)+1,F,rfl,by omega,by omega,by omega,HR.out,by first|rfl|trivial⟩
      simp[intOf];omega
    have j1:¬(j:Int)<(p.size:Int):=by omega
    rw[z19(by omega),if_neg(by intro q;exact absurd q.2(by decide))]at hrec;have HR:=hid hrec;clear hrec;go_wp2;go_ret;exact⟨by rw[← HR.out];rfl,rfl⟩
  rw[if_neg(fun q=>h0 q.1)]at hrec;have HR:=hid hrec;clear hrec;go_wp2;go_ret;exact⟨by rw[← HR.out];rfl,rfl⟩
theorem z7f(p:ByteArray)(k d:Nat)(hp:p.size<=80000)(hP:PceC p d(Q4i(Q3v(zgK p k)p)p)):PatC p d(zpK p k):=by
  intro i w hi;have PC:=hid hP;have FW:=hid(y9u p k);show Calls _ _ _ _(fun e w'=>e=.returned(.int .i64(zPat(Q4i(Q3v(zgK p k)p)p)p i))/\w'=w);generalize Q4i(Q3v(zgK p k)p)p=pc at PC FW ⊢;have PI:=hid(fun w=>PC.out i w hi);have hf:=FW.out i(by omega);unfold zPat
  generalize pc i=a at PI hf ⊢;have j1:-1<=a:=by omega
  have j2:a<=p.size:=by omega
  generalize hV:Q9g pc p(p.size+5)a=V;have HV:=hid hV;clear hV hP hf;go_enter Tryz.func88,Tryz.ntmps88
  go_wp2_with(first
    |(go_at_call 115;refine(PI.out _).mono ?_;rintro e w'⟨rfl,hw⟩;rw[hw];clear hw))
  go_loopw [1,7,8](fun x1 _ _ wr=>∃(y:Int)(F:Nat),x1=.int .i64 y/\-1<=y/\y<=p.size/\(p.size:Int)+2<=F+y/\Q9g pc p F y=V/\wr=w)
      (fun x _ _ _=>(100000-intOf x).toNat)
  case atStart=>exact⟨a,p.size+5,rfl,j1,j2,by omega,HV.out,rfl⟩
  obtain⟨y,F,rfl,hy1,hy2,hF,hrec,rfl⟩:=hrel;obtain⟨F,rfl⟩:∃k,F=k+1:=⟨F-1,by omega⟩;rw[z8o]at hrec;clear HV PI;by_cases h0:0<=y
  · obtain⟨j,rfl⟩:∃j:Nat,y=j:=⟨y.toNat,by omega⟩
    by_cases hj:j<p.size
    · have hb:=z1z hj
      have j3:p[j].toNat<256:=p[j].toNat_lt;have j0:(j:Int)<(p.size:Int):=by omega
      rw[if_pos⟨h0,j0⟩]at hrec;by_cases q:p[j].toNat=124
      · have kq:((p[j].toNat:Int)==124)=true:=by simp[q]
        have ez:zJ p(j:Nat)=(j:Int)+1:=by unfold zJ;rw[hb,if_pos(by omega)]
        rw[ez]at hrec;have PJ:=hid(fun w=>PC.out(j+1)w(by omega));have hf:=FW.out((j:Int)+1)(by omega);have ej:((j+1:Nat):Int)=(j:Int)+1:=by omega
        rw[ej]at PJ;generalize pc((j:Int)+1)=v at PJ hf hrec;clear hb q PC FW ez;by_cases hv:v<0
        · rw[if_pos hv]at hrec
          have HR:=hid hrec;clear hrec;go_wp2_with(first
            |(go_at_call 115;refine(PJ.out _).mono ?_;rintro e w'⟨rfl,hw⟩;rw[hw];clear hw))
          go_ret;exact⟨by rw[← HR.out];rfl,rfl⟩
        rw[if_neg hv]at hrec;have HR:=hid hrec;clear hrec;go_wp2_with(first
          |(go_at_call 115;refine(PJ.out _).mono ?_;rintro e w'⟨rfl,hw⟩;rw[hw];clear hw))
        go_roundw
        case rel=>exact⟨v,F,rfl,by omega,by omega,by omega,HR.out,by first|rfl|trivial⟩
        simp[intOf];omega
      have kq:((p[j].toNat:Int)==124)=false:=by simp;omega
      have ez:zJ p(j:Nat)=(j:Int):=by unfold zJ;rw[hb,if_neg(by omega)]
      rw[ez]at hrec;have PJ:=hid(fun w=>PC.out j w(by omega));have hf:=FW.out(j:Int)(by omega);generalize pc(j:Int)=v at PJ hf hrec;clear hb q PC FW ez;by_cases hv:v<0
      · rw[if_pos hv]at hrec
        have HR:=hid hrec;clear hrec;go_wp2_with(first
          |(go_at_call 115;refine(PJ.out _).mono ?_;rintro e w'⟨rfl,hw⟩;rw[hw];clear hw))
        go_ret;exact⟨by rw[← HR.out];rfl,rfl⟩
      rw[if_neg hv]at hrec;have HR:=hid hrec;clear hrec;go_wp2_with(first
        |(go_at_call 115;refine(PJ.out _).mono ?_;rintro e w'⟨rfl,hw⟩;rw[hw];clear hw))
      go_roundw
      case rel=>exact⟨v,F,rfl,by omega,by omega,by omega,HR.out,by first|rfl|trivial⟩
      simp[intOf];omega
    have j0:¬(j:Int)<(p.size:Int):=by omega
    rw[if_neg(fun q=>j0 q.2)]at hrec;have HR:=hid hrec;clear hrec;go_wp2;go_ret;exact⟨by rw[← HR.out];rfl,rfl⟩
  rw[if_neg(fun q=>h0 q.1)]at hrec;have HR:=hid hrec;clear hrec;go_wp2;go_ret;exact⟨by rw[← HR.out];rfl,rfl⟩
theorem y2q(p:ByteArray)(hp:p.size<=80000):∀(k d:Nat),d+k=6->PatC p d(zpK p k)
  |0,d,h=>z7f p 0 d hp(z6t p 0 d hp(z8m p 0 d hp h(fun k' e=>by omega)))
  | k + 1,d,h=>z7f p(k+1)d hp(z6t p(k+1)d hp(z8m p(k+1)d hp h(fun k' e=>by
      have:k'=k:=by omega
      subst this;exact y2q p hp k'(d+1)(by omega))))
end Go.Proofs.YtcpceafmlgaodaaGreat
