import Derived.Test.YtbdpfmalabgmbaaGreatRf2
namespace Go.Proofs.YtbdpfmalabgmbaaGreat
open Go.RowKit
set_option maxRecDepth 99999
set_option maxHeartbeats 0
set_option linter.all false
section
variable {s:ByteArray}{a p:Int->LR}{i:Int}
theorem y6k{g:Int->LR}(h:(Q3m g s i).ok=true):W0m (atB s i)=true:=by
  unfold Q3m at h;by_cases c:atB s i=40
  · rw[c];decide
  rw[qAa c]at h;by_cases c2:(Q2r s i).2.2=false
  · rw[qAb c2]at h;cases h
  unfold Q2r at c2;by_cases d1:atB s i=46
  · rw[d1];decide
  rw[qAa d1]at c2;by_cases d2:atB s i=91
  · rw[d2];decide
  rw[qAa d2]at c2;by_cases d3:atB s i=92
  · rw[d3];decide
  rw[qAa d3]at c2;by_cases d4:Q02 (atB s i)=false
  · rw[qAb d4]at c2;exact absurd rfl c2
  unfold W0m;have:Q02 (atB s i)=true:=by simpa using d4
  rw[this];simp
theorem y2v(h:(Q1u a s i).ok=true):(a i).ok=true:=by
  cases e:(a i).ok
  · unfold Q1u at h;rw[z9k s _ _ e,e]at h;cases h
  rfl
theorem x18(h:(Q00 p s i).ok=true):(p i).ok=true:=by
  cases e:(p i).ok
  · unfold Q00 at h;rw[z1z p s _ _ e,e]at h;cases h
  rfl
theorem x2d(h:(Q25 p s i).ok=true):(p i).ok=true:=by
  cases e:(p i).ok
  · unfold Q25 at h;rw[z10 p s _ _ e,e]at h;cases h
  rfl
theorem z8y:∀(f:Nat) (x:Int) (b:Bool) (L L':Q03),(Q04 p s f ⟨x,b,L⟩).next=(Q04 p s f ⟨x,b,L'⟩).next/\(Q04 p s f ⟨x,b,L⟩).ok=(Q04 p s f ⟨x,b,L'⟩).ok
  |0,x,b,L,L'=>⟨rfl,rfl⟩
  |f+1,x,b,L,L'=>by
    unfold Q04;dsimp only;by_cases c:(b&&(atB s x==124))=true
    · rw[qAb c,qAb c]
      cases e:(p (x+1)).ok
      · have q1:∀L,(Q10 ⟨x,b,L⟩ (p (x+1)))=⟨(p (x+1)).next,false,noL⟩:=fun L=>by unfold Q10;rw[e];rfl
        rw[q1,q1];exact⟨rfl,rfl⟩
      have q1:∀L,(Q10 ⟨x,b,L⟩ (p (x+1)))=⟨(p (x+1)).next,true,Q03.alt L (p (x+1)).lang⟩:=fun L=>by unfold Q10;rw[qAb e]
      rw[q1,q1];exact z8y f _ _ _ _
    rw[qAa c,qAa c];exact⟨rfl,rfl⟩
end
def Q3w(g:Int->Int)(p:ByteArray)(i:Int):Int:=if atB p i=40 then g i else okI (Q2r p i).2.2 (Q2r p i).2.1
def Q5h(p:ByteArray):Nat->Int->Int
  |0,x=>x
  |f+1,x=>if 0<=x/\Q1t (atB p x)=true then Q5h p f (x+1) else x
def Q4i(a:Int->Int)(p:ByteArray)(i:Int):Int:=Q5h p (p.size+5) (a i)
def zJ(p:ByteArray)(x:Int):Int:=if atB p x=124 then x+1 else x
def Q9m(pc:Int->Int)(p:ByteArray):Nat->Int->Int
  |0,x=>x
  |f+1,x=>if 0<=x/\x<p.size then(if pc (zJ p x)<0 then x else Q9m pc p f (pc (zJ p x))) else x
def zPat(pc:Int->Int)(p:ByteArray)(i:Int):Int:=Q9m pc p (p.size+5) (pc i)
def zGrp(pt:Int->Int)(p:ByteArray)(i:Int):Int:=if 0<=pt (i+1)/\atB p (pt (i+1))=41 then pt (i+1)+1 else -1
def zgK(p:ByteArray):Nat->Int->Int
  |0=>fun _=>-1
  |k+1=>zGrp (zPat (Q4i (Q3w (zgK p k) p) p) p) p
def zpK(p:ByteArray)(k:Nat):Int->Int:=zPat (Q4i (Q3w (zgK p k) p) p) p
theorem y0p(pc:Int->Int)(p:ByteArray)(f:Nat)(x:Int):Q9m pc p (f+1) x=if 0<=x/\x<p.size then(if pc (zJ p x)<0 then x else Q9m pc p f (pc (zJ p x))) else x:=rfl
theorem z6x(p:ByteArray)(f:Nat)(x:Int):Q5h p (f+1) x=if 0<=x/\Q1t (atB p x)=true then Q5h p f (x+1) else x:=rfl
def Q7h(v:Int)(r:LR):Prop:=v=okI r.ok r.next
section
variable {p:ByteArray}
theorem y54{g:Int->Int}{l:Int->LR}{i:Int}(h:atB p i=40->Q7h (g i) (l i)):Q7h (Q3w g p i) (Q3m l p i):=by
  unfold Q7h Q3w Q3m;by_cases c:atB p i=40
  · rw[qAb c,qAb c];exact h c
  rw[qAa c,qAa c];by_cases c2:(Q2r p i).2.2=false
  · rw[qAb c2,c2]
  have c3:(Q2r p i).2.2=true:=by simpa using c2
  rw[qAa c2,c3]
theorem y0r:∀(f:Nat) (r:LR),(r.ok=true->0<=r.next)->Q7h (Q5h p f (okI r.ok r.next)) (Q2g p f r)
  |0,r,_=>rfl
  |f+1,r,h0=>by
    rw[z6x,z4a];cases hk:r.ok
    · rw[qAa (fun q=>absurd q.1 (show ¬(0:Int)<=-1 by decide)),qAa (by simp)]
      unfold Q7h;rw[hk]
    have hn:=h0 hk;have e:okI true r.next=r.next:=rfl;rw[e];by_cases c:Q1t (atB p r.next)=true
    · rw[qAb ⟨hn,c⟩,qAb (by rw[c];rfl)]
      exact y0r f ⟨r.next+1,true,Q03.rep (atB p r.next) r.lang⟩ (fun _=>by dsimp only;omega)
    rw[qAa (fun q=>c q.2),qAa (by simpa using c)];unfold Q7h;rw[hk];rfl
theorem y17{a:Int->Int}{l:Int->LR}{i:Int}(h:Q7h (a i) (l i))(h0:(l i).ok=true->0<=(l i).next):Q7h (Q4i a p i) (Q1u l p i):=by
  unfold Q4i Q1u;unfold Q7h at h;rw[h];exact y0r _ _ h0
structure SaysP(p:ByteArray)(v:Int)(r:LR):Prop where
  good:r.ok=true->v=r.next
  bad:r.ok=false->v<0∨(0<=v/\v<p.size/\(atB p v=124∨W0m (atB p v)=true))
theorem x2c{B:Int->LR}{f:Nat}{r r':LR}(h1:r.next=r'.next)(h2:r.ok=r'.ok):(Q04 B p f r).next=(Q04 B p f r').next/\(Q04 B p f r).ok=(Q04 B p f r').ok:=by
  obtain⟨a,b,c⟩:=r;obtain⟨a',b',c'⟩:=r';dsimp only at h1 h2;subst h1 h2;exact z8y f a b c c'
theorem x5u{pc:Int->Int}{P:Int->LR}(hP:∀x:Int,0<=x->x<=p.size->Q7h (pc x) (P x))(hg:Q3z p P)(hbeg:∀x,(P x).ok=true->W0m (atB p x)=true) :
    ∀(m:Nat) (x:Int) (L:Q03) (fb fc f:Nat),(p.size:Int)<=x+m->0<=x->x<=p.size->Q1t (atB p x)=false->(p.size:Int)+2<=fb+x->(p.size:Int)+2<=fc+x->(p.size:Int)+2<=f+x ->
      (∀y:Int,0<=y->y<=p.size->(P y).ok=true->Q1t (atB p (P y).next)=false) ->
      SaysP p (Q9m pc p f x) (Q04 (Q00 P p) p fc (Q1o P p fb ⟨x,true,L⟩)):=by
  intro m;induction m with
  |zero =>
    intro x L fb fc f hm h0 h1 j8 j6 j7 hf j2;have hx:x=p.size:=by omega
    have hb:atB p x=-1:=by unfold atB;rw[qFm (by omega)]
    obtain⟨fb,rfl⟩:∃k,fb=k+1:=⟨fb-1,by omega⟩;obtain⟨fc,rfl⟩:∃k,fc=k+1:=⟨fc-1,by omega⟩;obtain⟨f,rfl⟩:∃k,f=k+1:=⟨f-1,by omega⟩;rw[z2m,qAa (show ¬(true&&Q2v p x)=true by rw[z2j,hb];decide),z2x,qAa (show ¬(true&&(atB p x==124))=true by rw[hb];decide),y0p,qAa (by omega)];exact⟨fun _=>rfl,fun e=>by(cases e)⟩
  |succ m ih =>
    intro x L fb fc f hm h0 h1 j8 j6 j7 hf j2;by_cases j3:x<p.size
    · obtain⟨fb,rfl⟩:∃k,fb=k+1:=⟨fb-1,by omega⟩
      obtain⟨fc,rfl⟩:∃k,fc=k+1:=⟨fc-1,by omega⟩;obtain⟨f,rfl⟩:∃k,f=k+1:=⟨f-1,by omega⟩;rw[y0p,qAb ⟨h0,j3⟩];by_cases cb:W0m (atB p x)=true
      · have j5:atB p x≠124:=fun e=>by rw[e]at cb;revert cb;decide
        have ej:zJ p x=x:=by unfold zJ;rw[qAa j5]
        rw[ej];have hs:=hP x h0 h1;unfold Q7h at hs;rw[z2m,qAb (show(true&&Q2v p x)=true by rw[z2j,cb];rfl)];cases hk:(P x).ok
        · rw[hk]at hs
          have j1:pc x<0:=by rw[hs];exact(show(-1:Int)<0 by decide)
          have q1:Q5z ⟨x,true,L⟩ (P x)=⟨(P x).next,false,noL⟩:=by unfold Q5z;rw[hk];rfl
          rw[qAb j1,q1,z1z P p _ _ rfl,z10 _ p _ _ rfl];exact⟨fun e=>by(cases e),fun _=>.inr ⟨h0,j3,.inr cb⟩⟩
        rw[hk]at hs;have g:=hg x h0 h1 hk;have e1:pc x=(P x).next:=hs;have q1:Q5z ⟨x,true,L⟩ (P x)=⟨(P x).next,true,Q03.cat L (P x).lang⟩:=by unfold Q5z;rw[qAb hk]
        rw[qAa (by omega),q1,e1];exact ih _ _ fb (fc+1) f (by omega) (by omega) (by omega) (j2 x h0 h1 hk) (by omega) (by omega) (by omega) j2
      rw[z2m,qAa (show ¬(true&&Q2v p x)=true by rw[z2j];simpa using cb),z2x];by_cases j0:atB p x=124
      · have ej:zJ p x=x+1:=by unfold zJ;rw[qAb j0]
        rw[ej,qAb (show(true&&(atB p x==124))=true by rw[j0];rfl)];have hs:=hP (x+1) (by omega) (by omega);unfold Q7h at hs;cases hk:(P (x+1)).ok
        · rw[hk]at hs
          have j1:pc (x+1)<0:=by rw[hs];exact(show(-1:Int)<0 by decide)
          have q0:Q00 P p (x+1)=P (x+1):=by unfold Q00;exact z1z P p _ _ hk
          have q1:Q10 ⟨x,true,L⟩ (Q00 P p (x+1))=⟨(P (x+1)).next,false,noL⟩:=by rw[q0];unfold Q10;rw[hk];rfl
          rw[qAb j1,q1,z10 _ p _ _ rfl];exact⟨fun e=>by(cases e),fun _=>.inr ⟨h0,j3,.inl j0⟩⟩
        rw[hk]at hs;have g:=hg (x+1) (by omega) (by omega) hk;have e1:pc (x+1)=(P (x+1)).next:=hs;rw[qAa (by omega),e1];have j4:=ih (P (x+1)).next (P (x+1)).lang (p.size+5) fc f (by omega) (by omega) (by omega) (j2 (x+1) (by omega) (by omega) hk) (by omega) (by omega) (by omega) j2;have eb:Q00 P p (x+1)=Q1o P p (p.size+5) ⟨(P (x+1)).next,true,(P (x+1)).lang⟩:=by unfold Q00;rw[← z2r hk]
        rw[eb];generalize Q1o P p (p.size+5) ⟨(P (x+1)).next,true,(P (x+1)).lang⟩=r at j4 ⊢;have en:(Q10 ⟨x,true,L⟩ r).next=r.next/\(Q10 ⟨x,true,L⟩ r).ok=r.ok:=by
          unfold Q10;cases e:r.ok<;>simp
        obtain⟨z1,z2⟩:=x2c (B:=Q00 P p) (f:=fc) en.1 en.2;exact⟨fun e=>by rw[z1];exact j4.good (by rw[← z2];exact e),fun e=>j4.bad (by rw[← z2];exact e)⟩
      have ej:zJ p x=x:=by unfold zJ;rw[qAa j0]
      have j9:(P x).ok=false:=by
        cases e:(P x).ok
        · rfl
        exact absurd (hbeg x e) cb
      have hs:=hP x h0 h1;unfold Q7h at hs;rw[j9]at hs;have j1:pc x<0:=by rw[hs];exact(show(-1:Int)<0 by decide)
      rw[ej,qAb j1,qAa (show ¬(true&&(atB p x==124))=true by simpa using j0)];exact⟨fun _=>rfl,fun e=>by(cases e)⟩
    have hx:x=p.size:=by omega
    have hb:atB p x=-1:=by unfold atB;rw[qFm (by omega)]
    obtain⟨fb,rfl⟩:∃k,fb=k+1:=⟨fb-1,by omega⟩;obtain⟨fc,rfl⟩:∃k,fc=k+1:=⟨fc-1,by omega⟩;obtain⟨f,rfl⟩:∃k,f=k+1:=⟨f-1,by omega⟩;rw[z2m,qAa (show ¬(true&&Q2v p x)=true by rw[z2j,hb];decide),z2x,qAa (show ¬(true&&(atB p x==124))=true by rw[hb];decide),y0p,qAa (by omega)];exact⟨fun _=>rfl,fun e=>by(cases e)⟩
theorem z9z:∀(f:Nat) (x:Int) (L:Q03),x<=p.size->(p.size:Int)+2<=f+x->Q1t (atB p (Q2g p f ⟨x,true,L⟩).next)=false
  |0,x,L,h1,h2=>by omega
  |f+1,x,L,h1,h2=>by
    rw[z4a];dsimp only;rw[qBm];by_cases c:Q1t (atB p x)=true
    · rw[qAb c]
      have:=z0r (s:=p) (i:=x) (z9u c);exact z9z f _ _ (by omega) (by omega)
    rw[qAa c];simpa using c
theorem y9y{pc:Int->Int}{a:Int->LR}(hP:∀x:Int,0<=x->x<=p.size->Q7h (pc x) (Q1u a p x))(hga:Q3z p a)(hg:Q3z p (Q1u a p))(hbeg:∀x,(Q1u a p x).ok=true->W0m (atB p x)=true){i:Int}(h0:0<=i)(h1:i<=p.size) :
    SaysP p (zPat pc p i) (Q25 (Q00 (Q1u a p) p) p i):=by
  have j0:∀y:Int,0<=y->y<=p.size->(Q1u a p y).ok=true->Q1t (atB p (Q1u a p y).next)=false:=fun y y0 y1 hy=>by
    have ha:=y2v hy;have g:=hga y y0 y1 ha;unfold Q1u;rw[z2r ha];exact z9z _ _ _ (by omega) (by omega)
  have hs:=hP i h0 h1;unfold Q7h at hs;unfold zPat Q25;cases hk:(Q1u a p i).ok
  · rw[hk]at hs
    have e1:pc i=-1:=hs;have q0:Q00 (Q1u a p) p i=Q1u a p i:=by unfold Q00;exact z1z _ p _ _ hk
    rw[q0,z10 _ p _ _ hk,e1];show SaysP p (Q9m pc p (p.size+4+1) (-1)) _;rw[y0p,qAa (by omega)];exact⟨fun e=>by rw[hk]at e;(cases e),fun _=>.inl (by decide)⟩
  rw[hk]at hs;have e1:pc i=(Q1u a p i).next:=hs;have g:=hg i h0 h1 hk;have eb:Q00 (Q1u a p) p i=Q1o (Q1u a p) p (p.size+5) ⟨(Q1u a p i).next,true,(Q1u a p i).lang⟩:=by unfold Q00;rw[← z2r hk]
  rw[eb,e1];exact x5u hP hg hbeg p.size _ _ _ _ _ (by omega) (by omega) (by omega) (j0 i h0 h1 hk) (by omega) (by omega) (by omega) j0
theorem x8k{pt:Int->Int}{c:Int->LR}{i:Int}(h:SaysP p (pt (i+1)) (c (i+1)))(h0:(c (i+1)).ok=true->0<=(c (i+1)).next):Q7h (zGrp pt p i) (Q6h c p i):=by
  unfold Q7h zGrp Q6h;cases hk:(c (i+1)).ok
  · rw[qAb rfl]
    rw[qAa (fun q=>by
      rcases h.bad hk with b|⟨_,_,b⟩
      · omega
      rw[q.2]at b;revert b;decide)]
    rfl
  have e1:=h.good hk;have e2:=h0 hk;rw[e1];have e3:¬(true=false):=by simp
  rw[qAa e3];by_cases c2:atB p (c (i+1)).next=41
  · rw[qAb ⟨e2,c2⟩,qAa (by rw[c2];simp)]
    rfl
  rw[qAa (fun q=>c2 q.2),qAb c2];rfl
theorem z3e{k:Nat}{x:Int}(h:(Q1u (Q3m (lgK p k) p) p x).ok=true):W0m (atB p x)=true:=y6k (y2v h)
theorem x5z:∀(k:Nat) (i:Int),0<=i->atB p i=40->Q7h (zgK p k i) (lgK p k i)
  |0,i,_,_=>rfl
  |k+1,i,h0,h40=>by
    have hi:=z0r (s:=p) (i:=i) (by omega);have ha:∀x:Int,0<=x->x<=p.size->Q7h (Q3w (zgK p k) p x) (Q3m (lgK p k) p x):=fun x x0 _=>y54 (fun h=>x5z k x x0 h);have j0:∀x:Int,0<=x->x<=p.size->Q7h (Q4i (Q3w (zgK p k) p) p x) (Q1u (Q3m (lgK p k) p) p x):=fun x x0 x1=>y17 (ha x x0 x1) (fun h=>by have:=z2y p k x x0 x1 h;omega);exact x8k (y9y j0 (z2y p k) (z6l p k) (fun x h=>z3e h) (by omega) (by omega)) (fun h=>by have:=y4t p k (i+1) (by omega) (by omega) h;show 0<=(Q61 p k (i+1)).next;omega)
theorem z7l(k:Nat){x:Int}(x0:0<=x):Q7h (Q3w (zgK p k) p x) (Q3m (lgK p k) p x):=y54 (fun h=>x5z k x x0 h)
theorem z56(k:Nat){x:Int}(x0:0<=x)(x1:x<=p.size):Q7h (Q4i (Q3w (zgK p k) p) p x) (Q1u (Q3m (lgK p k) p) p x):=y17 (z7l k x0) (fun h=>by have:=z2y p k x x0 x1 h;omega)
theorem x53(k:Nat){i:Int}(h0:0<=i)(h1:i<=p.size):SaysP p (zpK p k i) (Q61 p k i):=y9y (fun x x0 x1=>z56 k x0 x1) (z2y p k) (z6l p k) (fun x h=>z3e h) h0 h1
end
theorem z1u{p:ByteArray}{i:Nat}(h:i<p.size):atB p (i:Nat)=p[i].toNat:=by unfold atB;rw[qEt ⟨by omega,by simpa using h⟩];simp
theorem z2c{p:ByteArray}{i:Int}(h:p.size<=i):atB p i=-1:=by unfold atB;rw[qFm (by omega)]
theorem v0w(x:Int):okI true x=x:=rfl
theorem x4a(x:Int):okI false x=-1:=rfl
def PatC(p:ByteArray)(d:Nat)(f:Int->Int):Prop:=∀(i:Nat) (w:World),i<=p.size+1->Calls Tryz.prog 105 #[.string p,.int .i64 i,.int .i64 d] w fun e w'=>e=.returned (.int .i64 (f i))/\w'=w
def AtmC(p:ByteArray)(d:Nat)(f:Int->Int):Prop:=∀(i:Nat) (w:World),i<=p.size+1->Calls Tryz.prog 126 #[.string p,.int .i64 i,.int .i64 d] w fun e w'=>e=.returned (.int .i64 (f i))/\w'=w
def PceC(p:ByteArray)(d:Nat)(f:Int->Int):Prop:=∀(i:Nat) (w:World),i<=p.size+1->Calls Tryz.prog 112 #[.string p,.int .i64 i,.int .i64 d] w fun e w'=>e=.returned (.int .i64 (f i))/\w'=w
theorem y0t(p:ByteArray)(k d:Nat)(hp:p.size<=80000)(hd:d+k=6)(ih:∀k',k=k'+1->PatC p (d+1) (zpK p k')):AtmC p d (Q3w (zgK p k) p):=by
  intro i w hi;by_cases h1:i<p.size
  · have hb:=z1u h1
    have jm:p[i].toNat<256:=p[i].toNat_lt;have j9:¬(p.size:Int)<=(i:Int):=by omega
    have ji:(i:Int)<(p.size:Int):=by omega
    have ZP:=hid (fun w=>x1q p[i].toNat w (by omega));unfold Q3w;unfold Q2r;rw[hb];by_cases j5:p[i].toNat=46
    · have kk:((p[i].toNat:Int)==46)=true:=by simp[j5]
      rw[qAa (by omega),qAb (by omega)];dsimp only;rw[v0w];rw[show Q02 (p[i].toNat:Int)=false from by rw[j5];decide]at ZP;clear hb j5;go_enter Tryz.func126,Tryz.ntmps126
      go_wp2_with (first
        |(go_at_call 132;refine csm (ZP.out _) ?_))
      go_ret;exact⟨rfl,rfl⟩
    have jo:((p[i].toNat:Int)==46)=false:=by simp;omega
    by_cases j1:Q02 (p[i].toNat:Int)=true
    · have jp:p[i].toNat≠40:=fun e=>by rw[e]at j1;revert j1;decide
      have jq:p[i].toNat≠91:=fun e=>by rw[e]at j1;revert j1;decide
      have jr:p[i].toNat≠92:=fun e=>by rw[e]at j1;revert j1;decide
      rw[qAa (by omega),qAa (by omega),qAa (by omega),qAa (by omega),qAa (by rw[j1];simp)];dsimp only;rw[v0w];rw[j1]at ZP;clear hb j1;go_enter Tryz.func126,Tryz.ntmps126
      go_wp2_with (first
        |(go_at_call 132;refine csm (ZP.out _) ?_))
      go_ret;exact⟨rfl,rfl⟩
    have j0:Q02 (p[i].toNat:Int)=false:=by simpa using j1
    rw[j0]at ZP;clear j1;by_cases j6:p[i].toNat=92
    · have jh:((p[i].toNat:Int)==92)=true:=by simp[j6]
      rw[qAa (by omega),qAa (by omega),qAa (by omega),qAb (by omega)];dsimp only;rw[y2s];by_cases h3:i+1<p.size
      · have j2:atB p ((i:Int)+1)=p[i+1].toNat:=by rw[← z1u h3];rfl
        have ja:p[i+1].toNat<256:=p[i+1].toNat_lt;have jk:(i:Int)+1<(p.size:Int):=by omega
        have jl:((i:Int)+1).toNat=i+1:=by omega
        rw[j2];have ZM:=hid (fun w=>z57 p[i+1].toNat w (by omega));generalize mkF (p[i+1].toNat:Int)=m at ZM ⊢;obtain⟨v,ok⟩:=m;dsimp only at ZM ⊢;clear hb j2 j0 j6;cases ok
        · rw[qAa (by simp)]
          dsimp only;rw[x4a];go_enter Tryz.func126,Tryz.ntmps126
          go_wp2_with (first
            |(go_at_call 132;refine csm (ZP.out _) ?_)
            |(go_at_call 133;refine csm (ZM.out _) ?_))
          go_ret;exact⟨rfl,rfl⟩
        rw[qAb rfl];dsimp only;rw[v0w,show(i:Int)+1+1=(i:Int)+2 by omega];go_enter Tryz.func126,Tryz.ntmps126
        go_wp2_with (first
          |(go_at_call 132;refine csm (ZP.out _) ?_)
          |(go_at_call 133;refine csm (ZM.out _) ?_))
        go_ret;exact⟨rfl,rfl⟩
      have jj:¬(i:Int)+1<(p.size:Int):=by omega
      have j2:atB p ((i:Int)+1)=-1:=z2c (by omega);rw[j2,show mkF (-1)=(-1,false) from by decide];dsimp only;rw[qAa (by simp)];dsimp only;rw[x4a];clear hb j2 j0 j6;go_enter Tryz.func126,Tryz.ntmps126
      go_wp2_with (first
        |(go_at_call 132;refine csm (ZP.out _) ?_))
      go_ret;exact⟨rfl,rfl⟩
    have jh:((p[i].toNat:Int)==92)=false:=by simp;omega
    by_cases j8:p[i].toNat=91
    · have jg:((p[i].toNat:Int)==91)=true:=by simp[j8]
      rw[qAa (by omega),qAa (by omega),qAb (by omega)];have ZC:=hid (fun w=>x1k p i w (by omega) h1);generalize okI (rBr p ((i:Int)+1)).2.2 (rBr p ((i:Int)+1)).2.1=v at ZC ⊢;clear hb j0 j8;go_enter Tryz.func126,Tryz.ntmps126
      go_wp2_with (first
        |(go_at_call 132;refine csm (ZP.out _) ?_)
        |(go_at_call 134;refine csm (ZC.out _) ?_))
      go_ret;exact⟨rfl,rfl⟩
    have jg:((p[i].toNat:Int)==91)=false:=by simp;omega
    by_cases j4:p[i].toNat=40
    · have je:((p[i].toNat:Int)==40)=true:=by simp[j4]
      rw[qAb (by omega)];cases k with
      |zero =>
        show Calls _ _ _ _ (fun e w'=>e=.returned (.int .i64 (-1))/\w'=w);have jc:¬(d:Int)<6:=by omega
        clear hb j0 ih j4;go_enter Tryz.func126,Tryz.ntmps126
        go_wp2_with (first
          |(go_at_call 132;refine csm (ZP.out _) ?_))
        go_ret;exact⟨rfl,rfl⟩
      |succ k' =>
        have jc:(d:Int)<6:=by omega
        have jn:d<=6:=by omega
        have PT:=hid (fun w=>ih k' rfl (i+1) w (by omega));have ei:((i+1:Nat):Int)=(i:Int)+1:=by omega
        have ed:((d+1:Nat):Int)=(d:Int)+1:=by omega
        rw[ei,ed]at PT;show Calls _ _ _ _ (fun e w'=>e=.returned (.int .i64 (zGrp (zpK p k') p i))/\w'=w);unfold zGrp;generalize zpK p k' ((i:Int)+1)=v at PT ⊢;clear hb j0 ih j4;by_cases hv:0<=v
        · obtain⟨j,rfl⟩:∃j:Nat,v=j:=⟨v.toNat,by omega⟩
          by_cases hj:j<p.size
          · have j3:=z1u hj
            have jb:p[j].toNat<256:=p[j].toNat_lt;have jd:(j:Int)<(p.size:Int):=by omega
            rw[j3];by_cases j7:p[j].toNat=41
            · have jf:((p[j].toNat:Int)==41)=true:=by simp[j7]
              rw[qAb ⟨hv,by omega⟩];clear j3 j7;go_enter Tryz.func126,Tryz.ntmps126
              go_wp2_with (first
                |(go_at_call 132;refine csm (ZP.out _) ?_)
                |(go_at_call 105;refine csm (PT.out _) ?_))
              go_ret;exact⟨rfl,rfl⟩
            have jf:((p[j].toNat:Int)==41)=false:=by simp;omega
            rw[qAa (by omega)];clear j3;go_enter Tryz.func126,Tryz.ntmps126
            go_wp2_with (first
              |(go_at_call 132;refine csm (ZP.out _) ?_)
              |(go_at_call 105;refine csm (PT.out _) ?_))
            go_ret;exact⟨rfl,rfl⟩
          have jd:¬(j:Int)<(p.size:Int):=by omega
          rw[z2c (by omega),qAa (by omega)];go_enter Tryz.func126,Tryz.ntmps126
          go_wp2_with (first
            |(go_at_call 132;refine csm (ZP.out _) ?_)
            |(go_at_call 105;refine csm (PT.out _) ?_))
          go_ret;exact⟨rfl,rfl⟩
        rw[qAa (fun e=>hv e.1)];go_enter Tryz.func126,Tryz.ntmps126
        go_wp2_with (first
          |(go_at_call 132;refine csm (ZP.out _) ?_)
          |(go_at_call 105;refine csm (PT.out _) ?_))
        go_ret;exact⟨rfl,rfl⟩
    have je:((p[i].toNat:Int)==40)=false:=by simp;omega
    rw[qAa (by omega),qAa (by omega),qAa (by omega),qAa (by omega),qAb j0];dsimp only;rw[x4a];clear hb j0 ih;go_enter Tryz.func126,Tryz.ntmps126
    go_wp2_with (first
      |(go_at_call 132;refine csm (ZP.out _) ?_))
    go_ret;exact⟨rfl,rfl⟩
  have j9:(p.size:Int)<=(i:Int):=by omega
  have hE:Q3w (zgK p k) p i=-1:=by
    have hb:atB p (i:Nat)=-1:=z2c (by omega);unfold Q3w Q2r;rw[hb,qAa (by decide),qAa (by decide),qAa (by decide),qAa (by decide),qAb (by decide)];exact x4a _
  rw[hE];clear hE ih;go_enter Tryz.func126,Tryz.ntmps126
  go_wp2;go_ret;exact⟨rfl,rfl⟩
def Fwd(p:ByteArray)(f:Int->Int):Prop:=∀x:Int,0<=x->f x=-1∨(x<f x/\f x<=p.size)
theorem y59(p:ByteArray)(k:Nat):Fwd p (Q3w (zgK p k) p):=by
  intro x h0;by_cases h1:x<=p.size
  · have h:=z7l (p:=p) k h0
    unfold Q7h at h;cases hk:(Q3m (lgK p k) p x).ok
    · left;rw[h,hk];rfl
    right;have g:=z2y p k x h0 h1 hk;rw[h,hk];exact g
  left;have hb:atB p x=-1:=z2c (by omega);unfold Q3w Q2r;rw[hb,qAa (by decide),qAa (by decide),qAa (by decide),qAa (by decide),qAb (by decide)];exact x4a _
theorem y0q(p:ByteArray):∀(f:Nat) (x:Int),x<=p.size->x<=Q5h p f x/\Q5h p f x<=p.size
  |0,x,h=>⟨Int.le_refl _,h⟩
  |f+1,x,h=>by
    rw[z6x];split
    · rename_i c
      have:=z0r (s:=p) (i:=x) (z9u c.2);have:=y0q p f (x+1) (by omega);omega
    omega
theorem y7x(p:ByteArray)(f:Nat):Q5h p f (-1)=-1:=by
  cases f with
  |zero=>rfl
  |succ f=>rw[z6x,qAa (by omega)]
theorem x1p(p:ByteArray)(k:Nat):Fwd p (Q4i (Q3w (zgK p k) p) p):=by
  intro x h0;unfold Q4i;rcases y59 p k x h0 with h|h
  · left;rw[h];exact y7x p _
  right;have:=y0q p (p.size+5) (Q3w (zgK p k) p x) h.2;omega
theorem z7n(p:ByteArray)(k d:Nat)(hp:p.size<=80000)(hA:AtmC p d (Q3w (zgK p k) p)):PceC p d (Q4i (Q3w (zgK p k) p) p):=by
  intro i w hi;have AT:=hid (fun w=>hA i w hi);have hf:=y59 p k i (by omega);unfold Q4i;generalize Q3w (zgK p k) p i=a at AT hf ⊢;have j1:-1<=a:=by omega
  have j2:a<=p.size:=by omega
  have ZS:=hid (fun(c:Int) (w:World)=>y74 c w);generalize hV:Q5h p (p.size+5) a=V;have HV:=hid hV;clear hV hA hf;go_enter Tryz.func112,Tryz.ntmps112
  go_wp2_with (first
    |(go_at_call 126;refine csm (AT.out _) ?_))
  go_loopw [7] (fun x7 wr=>∃(y:Int) (F:Nat),x7=.int .i64 y/\-1<=y/\y<=p.size/\(p.size:Int)+2<=F+y/\Q5h p F y=V/\wr=w)
      (fun x _=>(100000-intOf x).toNat)
  case atStart=>exact⟨a,p.size+5,rfl,j1,j2,by omega,HV.out,rfl⟩
  obtain⟨y,F,rfl,j5,j6,hF,j0,rfl⟩:=hrel;obtain⟨F,rfl⟩:∃k,F=k+1:=⟨F-1,by omega⟩;rw[z6x]at j0;clear HV;by_cases h0:0<=y
  · obtain⟨j,rfl⟩:∃j:Nat,y=j:=⟨y.toNat,by omega⟩
    by_cases hj:j<p.size
    · have hb:=z1u hj
      have j4:p[j].toNat<256:=p[j].toNat_lt;have j3:(j:Int)<(p.size:Int):=by omega
      rw[hb]at j0;have ZX:=hid (fun w=>ZS.out (p[j].toNat:Int) w);generalize Q1t (p[j].toNat:Int)=mk at ZX j0;clear hb;cases mk
      · rw[qAa (by simp)]at j0
        have HR:=hid j0;clear j0;go_wp2_with (first
          |(go_at_call 127;refine csm (ZX.out _) ?_))
        go_ret;exact⟨by rw[← HR.out];rfl,rfl⟩
      rw[qAb ⟨h0,rfl⟩]at j0;have HR:=hid j0;clear j0;go_wp2_with (first
        |(go_at_call 127;refine csm (ZX.out _) ?_))
      go_roundw
      case rel=>exact⟨(j:Int)+1,F,rfl,by omega,by omega,by omega,HR.out,by first|rfl|trivial⟩
      simp[intOf];omega
    have j3:¬(j:Int)<(p.size:Int):=by omega
    rw[z2c (by omega),qAa (by intro q;exact absurd q.2 (by decide))]at j0;have HR:=hid j0;clear j0;go_wp2;go_ret;exact⟨by rw[← HR.out];rfl,rfl⟩
  rw[qAa (fun q=>h0 q.1)]at j0;have HR:=hid j0;clear j0;go_wp2;go_ret;exact⟨by rw[← HR.out];rfl,rfl⟩
theorem z76(p:ByteArray)(k d:Nat)(hp:p.size<=80000) (hP:PceC p d (Q4i (Q3w (zgK p k) p) p)):PatC p d (zpK p k):=by
  intro i w hi;have PC:=hid hP;have FW:=hid (x1p p k);show Calls _ _ _ _ (fun e w'=>e=.returned (.int .i64 (zPat (Q4i (Q3w (zgK p k) p) p) p i))/\w'=w);generalize Q4i (Q3w (zgK p k) p) p=pc at PC FW ⊢;have PI:=hid (fun w=>PC.out i w hi);have hf:=FW.out i (by omega);unfold zPat
  generalize pc i=a at PI hf ⊢;have j2:-1<=a:=by omega
  have j3:a<=p.size:=by omega
  generalize hV:Q9m pc p (p.size+5) a=V;have HV:=hid hV;clear hV hP hf;go_enter Tryz.func105,Tryz.ntmps105
  go_wp2_with (first
    |(go_at_call 112;refine csm (PI.out _) ?_))
  go_loopw [1,7,8] (fun x1 _ _ wr=>∃(y:Int) (F:Nat),x1=.int .i64 y/\-1<=y/\y<=p.size/\(p.size:Int)+2<=F+y/\Q9m pc p F y=V/\wr=w)
      (fun x _ _ _=>(100000-intOf x).toNat)
  case atStart=>exact⟨a,p.size+5,rfl,j2,j3,by omega,HV.out,rfl⟩
  obtain⟨y,F,rfl,j5,j6,hF,j0,rfl⟩:=hrel;obtain⟨F,rfl⟩:∃k,F=k+1:=⟨F-1,by omega⟩;rw[y0p]at j0;clear HV PI;by_cases h0:0<=y
  · obtain⟨j,rfl⟩:∃j:Nat,y=j:=⟨y.toNat,by omega⟩
    by_cases hj:j<p.size
    · have hb:=z1u hj
      have j4:p[j].toNat<256:=p[j].toNat_lt;have j1:(j:Int)<(p.size:Int):=by omega
      rw[qAb ⟨h0,j1⟩]at j0;by_cases q:p[j].toNat=124
      · have kq:((p[j].toNat:Int)==124)=true:=by simp[q]
        have ez:zJ p (j:Nat)=(j:Int)+1:=by unfold zJ;rw[hb,qAb (by omega)]
        rw[ez]at j0;have PJ:=hid (fun w=>PC.out (j+1) w (by omega));have hf:=FW.out ((j:Int)+1) (by omega);have ej:((j+1:Nat):Int)=(j:Int)+1:=by omega
        rw[ej]at PJ;generalize pc ((j:Int)+1)=v at PJ hf j0;clear hb q PC FW ez;by_cases hv:v<0
        · rw[qAb hv]at j0
          have HR:=hid j0;clear j0;go_wp2_with (first
            |(go_at_call 112;refine csm (PJ.out _) ?_))
          go_ret;exact⟨by rw[← HR.out];rfl,rfl⟩
        rw[qAa hv]at j0;have HR:=hid j0;clear j0;go_wp2_with (first
          |(go_at_call 112;refine csm (PJ.out _) ?_))
        go_roundw
        case rel=>exact⟨v,F,rfl,by omega,by omega,by omega,HR.out,by first|rfl|trivial⟩
        simp[intOf];omega
      have kq:((p[j].toNat:Int)==124)=false:=by simp;omega
      have ez:zJ p (j:Nat)=(j:Int):=by unfold zJ;rw[hb,qAa (by omega)]
      rw[ez]at j0;have PJ:=hid (fun w=>PC.out j w (by omega));have hf:=FW.out (j:Int) (by omega);generalize pc (j:Int)=v at PJ hf j0;clear hb q PC FW ez;by_cases hv:v<0
      · rw[qAb hv]at j0
        have HR:=hid j0;clear j0;go_wp2_with (first
          |(go_at_call 112;refine csm (PJ.out _) ?_))
        go_ret;exact⟨by rw[← HR.out];rfl,rfl⟩
      rw[qAa hv]at j0;have HR:=hid j0;clear j0;go_wp2_with (first
        |(go_at_call 112;refine csm (PJ.out _) ?_))
      go_roundw
      case rel=>exact⟨v,F,rfl,by omega,by omega,by omega,HR.out,by first|rfl|trivial⟩
      simp[intOf];omega
    have j1:¬(j:Int)<(p.size:Int):=by omega
    rw[qAa (fun q=>j1 q.2)]at j0;have HR:=hid j0;clear j0;go_wp2;go_ret;exact⟨by rw[← HR.out];rfl,rfl⟩
  rw[qAa (fun q=>h0 q.1)]at j0;have HR:=hid j0;clear j0;go_wp2;go_ret;exact⟨by rw[← HR.out];rfl,rfl⟩
theorem y3t(p:ByteArray)(hp:p.size<=80000):∀(k d:Nat),d+k=6->PatC p d (zpK p k)
  |0,d,h=>z76 p 0 d hp (z7n p 0 d hp (y0t p 0 d hp h (fun k' e=>by omega)))
  | k + 1,d,h=>z76 p (k+1) d hp (z7n p (k+1) d hp (y0t p (k+1) d hp h (fun k' e=>by
      have:k'=k:=by omega
      subst this;exact y3t p hp k' (d+1) (by omega))))
def Q6s(s:ByteArray):Nat->Int->Nat
  |0,_=>0
  |f+1,x=>if Q0m (atB s x)=true then Q6s s f (x+1)+1 else 0
def Q4e(s:ByteArray)(i:Int):Nat:=Q6s s (s.size+2) i
theorem y7w(s:ByteArray)(f:Nat)(x:Int):Q6s s (f+1) x=if Q0m (atB s x)=true then Q6s s f (x+1)+1 else 0:=rfl
theorem y3a{c:Int}(h:Q0m c=true):c≠-1:=by intro e;rw[e]at h;revert h;decide
theorem z8n(s:ByteArray):∀(f:Nat) (x:Int),0<=x->x<=s.size->x+Q6s s f x<=s.size
  |0,x,_,h=>by simp[Q6s];exact h
  |f+1,x,h0,h=>by
    rw[y7w];split
    · rename_i c
      have:=z0r (s:=s) (i:=x) (y3a c);have:=z8n s f (x+1) (by omega) (by omega);omega
    simp;exact h
theorem z2n(s:ByteArray)(i:Nat)(w:World)(hs:s.size<=80000)(hi:i<=s.size+1) :
    Calls Tryz.prog 104 #[.string s,.int .i64 i] w fun e w'=>e=.returned (.int .i64 (Q4e s i:Nat))/\w'=w:=by
  have ZS:=hid (fun(c:Int) (w:World)=>y18 c w);unfold Q4e;generalize hV:Q6s s (s.size+2) i=V;have HV:=hid hV;clear hV;go_enter Tryz.func104,Tryz.ntmps104
  go_wp2;go_loopw [5] (fun x5 wr=>∃(n F:Nat),x5=.int .i64 n/\i+n<=s.size+1/\s.size+2<=F+i+n/\n+Q6s s F ((i:Int)+n)=V/\wr=w)
      (fun x _=>200000-(intOf x).toNat)
  case atStart=>exact⟨0,s.size+2,rfl,by omega,by omega,by rw[← HV.out];simp,rfl⟩
  obtain⟨n,F,rfl,hn,hF,j0,rfl⟩:=hrel;obtain⟨F,rfl⟩:∃k,F=k+1:=⟨F-1,by omega⟩;rw[y7w]at j0;clear HV;by_cases hj:i+n<s.size
  · have hb:atB s ((i:Int)+n)=s[i+n].toNat:=by rw[← z1u hj];congr 1
    have j3:s[i+n].toNat<256:=s[i+n].toNat_lt;have j1:(i:Int)+(n:Int)<(s.size:Int):=by omega
    have j2:((i:Int)+(n:Int)).toNat=i+n:=by omega
    rw[hb]at j0;have ZX:=hid (fun w=>ZS.out (s[i+n].toNat:Int) w);generalize Q0m (s[i+n].toNat:Int)=mk at ZX j0;clear hb;cases mk
    · rw[qAa (by simp)]at j0
      have HR:Hid (n=V):=by unfold Hid;omega
      clear j0;go_wp2_with (first
        |(go_at_call 124;refine csm (ZX.out _) ?_))
      go_ret;exact⟨by rw[← HR.out];rfl,rfl⟩
    rw[qAb rfl]at j0;have HR:Hid (n+1+Q6s s F ((i:Int)+((n+1:Nat):Int))=V):=by
      unfold Hid;rw[show(i:Int)+((n+1:Nat):Int)=(i:Int)+n+1 by omega];omega
    clear j0;go_wp2_with (first
      |(go_at_call 124;refine csm (ZX.out _) ?_))
    go_roundw
    case rel=>exact⟨n+1,F,by go_num,by omega,by omega,HR.out,by first|rfl|trivial⟩
    simp[intOf];omega
  have j1:¬(i:Int)+(n:Int)<(s.size:Int):=by omega
  rw[z2c (by omega),qAa (by decide)]at j0;have HR:Hid (n=V):=by unfold Hid;omega
  clear j0;go_wp2;go_ret;exact⟨by rw[← HR.out];rfl,rfl⟩
def Q5v(s:ByteArray)(i:Int):Int :=
  if(s.size:Int)<=i then -1
  else if Q1a (atB s i)=true then(if 8<1+(Q4e s (i+1):Int) then -1 else i+1+Q4e s (i+1))
  else(if(Q4e s i:Int)=0∨8<(Q4e s i:Int) then -1 else i+Q4e s i)
theorem z58(s:ByteArray)(i:Nat)(w:World)(hs:s.size<=80000)(hi:i<=100000) :
    Calls Tryz.prog 106 #[.string s,.int .i64 i] w fun e w'=>e=.returned (.int .i64 (Q5v s i))/\w'=w:=by
  unfold Q5v;by_cases h1:i<s.size
  · have hb:=z1u h1
    have j4:s[i].toNat<256:=s[i].toNat_lt;have j2:¬(s.size:Int)<=(i:Int):=by omega
    have j3:(i:Int)<(s.size:Int):=by omega
    have ZG:=hid (fun w=>z7m (s[i].toNat:Int) w);rw[qAa j2,hb];generalize Q1a (s[i].toNat:Int)=cp at ZG ⊢;clear hb;cases cp
    · rw[qAa (by simp)]
      have ZL:=hid (fun w=>z2n s i w hs (by omega));have j1:=z8n s (s.size+2) i (by omega) (by omega);have j0:(i:Int)+(Q4e s i:Nat)<=s.size:=j1;clear j1;generalize Q4e s (i:Nat)=n at ZL j0 ⊢;by_cases q:n=0
      · subst q
        rw[qAb (.inl rfl)];go_enter Tryz.func106,Tryz.ntmps106
        go_wp2_with (first
          |(go_at_call 74;refine csm (ZG.out _) ?_)
          |(go_at_call 104;refine csm (ZL.out _) ?_))
        go_ret;exact⟨rfl,rfl⟩
      have k1:(((i:Int)+(n:Int))==(i:Int))=false:=by simp;omega
      have k2:¬(i:Int)+(n:Int)=(i:Int):=by omega
      have k3:(i:Int)+(n:Int)-(i:Int)=(n:Int):=by omega
      by_cases q8:8<n
      · have k8:(8:Int)<(n:Int):=by omega
        rw[qAb (.inr k8)];go_enter Tryz.func106,Tryz.ntmps106
        go_wp2_with (first
          |(go_at_call 74;refine csm (ZG.out _) ?_)
          |(go_at_call 104;refine csm (ZL.out _) ?_))
        go_ret;exact⟨rfl,rfl⟩
      have k8:¬(8:Int)<(n:Int):=by omega
      rw[qAa (by omega)];go_enter Tryz.func106,Tryz.ntmps106
      go_wp2_with (first
        |(go_at_call 74;refine csm (ZG.out _) ?_)
        |(go_at_call 104;refine csm (ZL.out _) ?_))
      go_ret;exact⟨rfl,rfl⟩
    rw[qAb rfl];have ZL:=hid (fun w=>z2n s (i+1) w hs (by omega));have ei:((i+1:Nat):Int)=(i:Int)+1:=by omega
    rw[ei]at ZL;have j1:=z8n s (s.size+2) ((i:Int)+1) (by omega) (by omega);have j0:(i:Int)+1+(Q4e s ((i:Int)+1):Nat)<=s.size:=j1;clear j1;generalize Q4e s ((i:Int)+1)=n at ZL j0 ⊢;have k1:(((i:Int)+1+(n:Int))==(i:Int))=false:=by simp;omega
    have k2:¬(i:Int)+1+(n:Int)=(i:Int):=by omega
    have k3:(i:Int)+1+(n:Int)-(i:Int)=1+(n:Int):=by omega
    by_cases q8:8<1+n
    · have k8:(8:Int)<1+(n:Int):=by omega
      rw[qAb k8];go_enter Tryz.func106,Tryz.ntmps106
      go_wp2_with (first
        |(go_at_call 74;refine csm (ZG.out _) ?_)
        |(go_at_call 104;refine csm (ZL.out _) ?_))
      go_ret;exact⟨rfl,rfl⟩
    have k8:¬(8:Int)<1+(n:Int):=by omega
    rw[qAa k8];go_enter Tryz.func106,Tryz.ntmps106
    go_wp2_with (first
      |(go_at_call 74;refine csm (ZG.out _) ?_)
      |(go_at_call 104;refine csm (ZL.out _) ?_))
    go_ret;exact⟨rfl,rfl⟩
  have j2:(s.size:Int)<=(i:Int):=by omega
  rw[qAb j2];go_enter Tryz.func106,Tryz.ntmps106
  go_wp2;go_ret;exact⟨rfl,rfl⟩
def pre4:ByteArray:=⟨#[97,61,120,40]⟩
def post5:ByteArray:=⟨#[41,10,83,58,10]⟩
def specX(b:ByteArray):ByteArray:=pre4++b++post5
section
variable (b:ByteArray)
end
theorem v1d{s:ByteArray}{i:Int}(h:(Q1r s i).ok=true):(Q61 s 6 i).ok=true/\(Q1r s i).next=(Q61 s 6 i).next:=by
  have hk:=y80 s 6 i [];exact⟨by rw[← h];exact hk.ok.symm,hk.next⟩
section
variable {b p q:ByteArray}{L M:Q03}
end
def openT:ByteArray:=⟨#[40]⟩
def closeT:ByteArray:=⟨#[41]⟩
def eitherT(p q:ByteArray):ByteArray:=openT++p++⟨#[41,124,40]⟩++q++closeT
def bothT(p q:ByteArray):ByteArray:=openT++p++⟨#[41,40]⟩++q++closeT
def markT(m:UInt8)(p:ByteArray):ByteArray:=openT++p++⟨#[41,m]⟩
section
variable {p q r:ByteArray}{L M:Q03}
end
theorem x9u{s:ByteArray}{n:Nat}(h:n<s.size):atB s (n:Nat)=s[n].toNat:=by
  unfold atB;rw[qEt ⟨by omega,by simpa using h⟩];simp
theorem z8t(s:ByteArray)(i:Nat):∀k,i+k<=s.size->Q1n s i k=(List.range k).map fun j:Nat=>(atB s (i+j:Nat)).toNat
  |0,_=>rfl
  |k+1,h=>by
    have hk:i+k<s.size:=by omega
    rw[Q1n,z8t s i k (by omega),List.range_succ,qBp,qEt hk];congr 1;have:=x9u hk;simp only[qDl,List.map_nil];rw[this];simp
def xT:ByteArray:=⟨#[120]⟩
def mF(b t:ByteArray):Bool:=(matchF (specX b) 0 (xT++t)).1
def eF(b t:ByteArray):Int:=(matchF (specX b) 0 (xT++t)).2
def splitF(p q t:ByteArray)(n:Nat):Bool:=(List.range (t.size+1)).any fun i=>decide (n<=i)&&(mF p (t.extract 0 i)&&mF q (t.extract i t.size))
section
variable {p q t:ByteArray}{L M:Q03}
structure Joins(p q t:ByteArray):Prop where
  either:mF (eitherT p q) t=(mF p t||mF q t)
  both:mF (bothT p q) t=splitF p q t 0
  many:mF (markT 42 p) t=(decide (t.size=0)||splitF p (markT 42 p) t 1)
  once:mF (markT 43 p) t=splitF p (markT 42 p) t 0
  maybe:mF (markT 63 p) t=(mF p t||decide (t.size=0))
end
def Q5o(L:Q03)(t:ByteArray)(F:Nat->Prop)(j:Nat):Prop:=∃i,i<=j/\F i/\L (Q1n t i (j-i))
def On(fs:List Bool)(i:Nat):Prop:=fs[i]? = some true
structure Q6j(L:Q03)(t:ByteArray)(fs gs:List Bool):Prop where
  len:gs.length=t.size+1
  on:∀j,j<=t.size->(On gs j↔Q5o L t (On fs) j)
theorem On.lt{fs:List Bool}{i:Nat}(h:On fs i):i<fs.length:=(qS h).1
theorem z5f(t:ByteArray)(i a:Nat):∀b,Q1n t i (a+b)=Q1n t i a++Q1n t (i+a) b
  |0=>by simp[Q1n]
  |b+1=>by
    rw[← qDm,Q1n,z5f t i a b,Q1n,qAs];simp only[qDm]
theorem z3m(t:ByteArray)(i:Nat):∀k,i+k<=t.size->(Q1n t i k).length=k
  |0,_=>rfl
  |k+1,h=>by
    rw[Q1n,qEt (by omega),qP,z3m t i k (by omega)];rfl
theorem z7o{t:ByteArray}{i n:Nat}{u v:List Nat}(hn:i+n<=t.size)(h:Q1n t i n=u++v):∃a,a<=n/\u=Q1n t i a/\v=Q1n t (i+a) (n-a):=by
  have hl:=z3m t i n hn;rw[h,qP]at hl;refine⟨u.length,by omega,?_⟩;have e:=z5f t i u.length (n-u.length);rw[show u.length+(n-u.length)=n by omega,h]at e;have l1:=z3m t i u.length (by omega);exact List.append_inj e (by omega)
theorem x4u{A B:Q03}{t:ByteArray}{F:Nat->Prop}{j:Nat}(hj:j<=t.size):Q5o (Q03.cat A B) t F j↔Q5o B t (fun k=>k<=t.size/\Q5o A t F k) j:=by
  constructor
  · rintro⟨i,hi,hf,u,v,he,ha,hb⟩
    obtain⟨a,h1,h2,h3⟩:=z7o (by omega) he;refine⟨i+a,by omega,⟨by omega,i,by omega,hf,?_⟩,?_⟩
    · rw[show i+a-i=a by omega,← h2];exact ha
    rw[show j-(i+a)=j-i-a by omega,← h3];exact hb
  rintro⟨k,hk,⟨_,i,hi,hf,ha⟩,hb⟩;refine⟨i,by omega,hf,_,_,?_,ha,hb⟩;have:=z5f t i (k-i) (j-k);rw[show k-i+(j-k)=j-i by omega,show i+(k-i)=k by omega]at this;exact this
theorem x4v{A B:Q03}(h:∀w,A w↔B w){t:ByteArray}{F:Nat->Prop}{j:Nat}:Q5o A t F j↔Q5o B t F j:=by
  constructor
  · rintro⟨i,h1,h2,h3⟩;exact⟨i,h1,h2,(h _).1 h3⟩
  rintro⟨i,h1,h2,h3⟩;exact⟨i,h1,h2,(h _).2 h3⟩
theorem x0z{A:Q03}{t:ByteArray}{F G:Nat->Prop}(h:∀k,k<=t.size->(F k↔G k)){j:Nat}(hj:j<=t.size):Q5o A t F j↔Q5o A t G j:=by
  constructor
  · rintro⟨i,h1,h2,h3⟩;exact⟨i,h1,(h i (by omega)).1 h2,h3⟩
  rintro⟨i,h1,h2,h3⟩;exact⟨i,h1,(h i (by omega)).2 h2,h3⟩
theorem Q6j.cat{A B:Q03}{t:ByteArray}{fs gs hs:List Bool}(h:Q6j A t fs gs)(k:Q6j B t gs hs):Q6j (Q03.cat A B) t fs hs:=by
  refine⟨k.len,fun j hj=>?_⟩;rw[k.on j hj,x4u hj];refine x0z (fun q hq=>?_) hj;rw[h.on q hq];exact⟨fun z=>⟨hq,z⟩,fun z=>z.2⟩
theorem Q6j.iff{A B:Q03}{t:ByteArray}{fs gs:List Bool}(h:Q6j A t fs gs)(e:∀w,A w↔B w):Q6j B t fs gs :=
  ⟨h.len,fun j hj=>by rw[h.on j hj];exact x4v e⟩
structure Un(xs bs cs:List Bool):Prop where
  len:cs.length=xs.length
  on:∀j,On cs j↔On xs j∨(j<xs.length/\On bs j)
theorem Q6j.alt{A B:Q03}{t:ByteArray}{fs gs hs cs:List Bool}(h:Q6j A t fs gs)(k:Q6j B t fs hs)(u:Un gs hs cs):Q6j (Q03.alt A B) t fs cs:=by
  refine⟨u.len.trans h.len,fun j hj=>?_⟩;rw[u.on,h.on j hj,k.on j hj];have hl:=h.len;constructor
  · rintro(⟨i,h1,h2,h3⟩|⟨_,i,h1,h2,h3⟩)
    · exact⟨i,h1,h2,.inl h3⟩
    exact⟨i,h1,h2,.inr h3⟩
  rintro⟨i,h1,h2,h3|h3⟩
  · exact .inl ⟨i,h1,h2,h3⟩
  exact .inr ⟨by omega,i,h1,h2,h3⟩
theorem x2w{t:ByteArray}{fs gs:List Bool}(hl:gs.length=t.size+1)(h:∀j,¬On gs j):Q6j noL t fs gs :=
  ⟨hl,fun j hj=>⟨fun q=>(h j q).elim,fun⟨i,_,_,q⟩=>q.elim⟩⟩
def epsL:Q03:=fun w=>w=[]
def Q9q:List Q03->Q03
  | []=>epsL
  |A::As=>Q03.cat A (Q9q As)
theorem y8o{t:ByteArray}{fs:List Bool}(hl:fs.length=t.size+1):Q6j epsL t fs fs:=by
  refine⟨hl,fun j hj=>⟨fun h=>⟨j,qR _,h,by rw[qEm];rfl⟩,?_⟩⟩;rintro⟨i,h1,h2,h3⟩;have:(Q1n t i (j-i)).length=0:=by rw[show Q1n t i (j-i)=[] from h3];rfl
  rw[z3m t i (j-i) (by omega)]at this;rw[show j=i by omega];exact h2
theorem y6o(A:Q03)(w:List Nat):Q03.cat A epsL w↔A w:=by
  constructor
  · rintro⟨u,v,rfl,h1,h2⟩;rw[show v=[] from h2,qBd];exact h1
  intro h;exact⟨w,[],by simp,h,rfl⟩
theorem y32(A B C:Q03)(w:List Nat):Q03.cat (Q03.cat A B) C w↔Q03.cat A (Q03.cat B C) w:=by
  constructor
  · rintro⟨_,z,rfl,⟨u,v,rfl,h1,h2⟩,h3⟩;exact⟨u,v++z,by simp,h1,v,z,rfl,h2,h3⟩
  rintro⟨u,_,rfl,h1,v,z,rfl,h2,h3⟩;exact⟨u++v,z,by simp,⟨u,v,rfl,h1,h2⟩,h3⟩
theorem x90{A A' B B':Q03}(h:∀w,A w↔A' w)(k:∀w,B w↔B' w)(w:List Nat):Q03.cat A B w↔Q03.cat A' B' w:=by
  constructor
  · rintro⟨u,v,e,h1,h2⟩;exact⟨u,v,e,(h u).1 h1,(k v).1 h2⟩
  rintro⟨u,v,e,h1,h2⟩;exact⟨u,v,e,(h u).2 h1,(k v).2 h2⟩
theorem y31:∀(As:List Q03) (A:Q03) (w:List Nat),Q9q (As++[A]) w↔Q03.cat (Q9q As) A w
  | [],A,w=>by
    show Q03.cat A epsL w↔Q03.cat epsL A w;rw[y6o];constructor
    · intro h;exact⟨[],w,rfl,rfl,h⟩
    rintro⟨u,v,rfl,h1,h2⟩;rw[show u=[] from h1];exact h2
  |B::As,A,w=>by
    show Q03.cat B (Q9q (As++[A])) w↔Q03.cat (Q03.cat B (Q9q As)) A w;rw[y32];exact x90 (fun _=>Iff.rfl) (y31 As A) w
end Go.Proofs.YtbdpfmalabgmbaaGreat
