import Derived.Test.YtcpceafmlgaodaaGreatRf2
namespace Go.Proofs.YtcpceafmlgaodaaGreat
open Go.RowKit
set_option maxRecDepth 99999
set_option maxHeartbeats 0
set_option linter.all false
section
variable {s:ByteArray}{a p:Int->LR}{i:Int}
theorem y52{g:Int->LR}(h:(Q3i g s i).ok=true):Q97 (atB s i)=true:=by
  unfold Q3i at h;by_cases c:atB s i=40
  · rw[c];decide
  rw[qAa c]at h;by_cases c2:(Q2n s i).2.2=false
  · rw[qAb c2]at h;cases h
  unfold Q2n at c2;by_cases d1:atB s i=46
  · rw[d1];decide
  rw[qAa d1]at c2;by_cases d2:atB s i=91
  · rw[d2];decide
  rw[qAa d2]at c2;by_cases d3:atB s i=92
  · rw[d3];decide
  rw[qAa d3]at c2;by_cases d4:Q01 (atB s i)=false
  · rw[qAb d4]at c2;exact absurd rfl c2
  unfold Q97;have:Q01 (atB s i)=true:=by simpa using d4
  rw[this];simp
theorem y2d(h:(Q1r a s i).ok=true):(a i).ok=true:=by
  cases e:(a i).ok
  · unfold Q1r at h;rw[z87 s _ _ e,e]at h;cases h
  rfl
theorem x1i(h:(Q0x p s i).ok=true):(p i).ok=true:=by
  cases e:(p i).ok
  · unfold Q0x at h;rw[z1w p s _ _ e,e]at h;cases h
  rfl
theorem x1m(h:(Q20 p s i).ok=true):(p i).ok=true:=by
  cases e:(p i).ok
  · unfold Q20 at h;rw[z1x p s _ _ e,e]at h;cases h
  rfl
theorem z8n:∀(f:Nat) (x:Int) (b:Bool) (L L':Q02),(Q03 p s f ⟨x,b,L⟩).next=(Q03 p s f ⟨x,b,L'⟩).next/\(Q03 p s f ⟨x,b,L⟩).ok=(Q03 p s f ⟨x,b,L'⟩).ok
  |0,x,b,L,L'=>⟨rfl,rfl⟩
  |f+1,x,b,L,L'=>by
    unfold Q03;dsimp only;by_cases c:(b&&(atB s x==124))=true
    · rw[qAb c,qAb c]
      cases e:(p (x+1)).ok
      · have q1:∀L,(Q1w ⟨x,b,L⟩ (p (x+1)))=⟨(p (x+1)).next,false,noL⟩:=fun L=>by unfold Q1w;rw[e];rfl
        rw[q1,q1];exact⟨rfl,rfl⟩
      have q1:∀L,(Q1w ⟨x,b,L⟩ (p (x+1)))=⟨(p (x+1)).next,true,Q02.alt L (p (x+1)).lang⟩:=fun L=>by unfold Q1w;rw[qAb e]
      rw[q1,q1];exact z8n f _ _ _ _
    rw[qAa c,qAa c];exact⟨rfl,rfl⟩
end
def Q3r(g:Int->Int)(p:ByteArray)(i:Int):Int:=if atB p i=40 then g i else okI (Q2n p i).2.2 (Q2n p i).2.1
def Q47(p:ByteArray):Nat->Int->Int
  |0,x=>x
  |f+1,x=>if 0<=x/\Q1q (atB p x)=true then Q47 p f (x+1) else x
def Q4b(a:Int->Int)(p:ByteArray)(i:Int):Int:=Q47 p (p.size+5) (a i)
def zJ(p:ByteArray)(x:Int):Int:=if atB p x=124 then x+1 else x
def Q85(pc:Int->Int)(p:ByteArray):Nat->Int->Int
  |0,x=>x
  |f+1,x=>if 0<=x/\x<p.size then(if pc (zJ p x)<0 then x else Q85 pc p f (pc (zJ p x))) else x
def zPat(pc:Int->Int)(p:ByteArray)(i:Int):Int:=Q85 pc p (p.size+5) (pc i)
def zGrp(pt:Int->Int)(p:ByteArray)(i:Int):Int:=if 0<=pt (i+1)/\atB p (pt (i+1))=41 then pt (i+1)+1 else -1
def zgK(p:ByteArray):Nat->Int->Int
  |0=>fun _=>-1
  |k+1=>zGrp (zPat (Q4b (Q3r (zgK p k) p) p) p) p
def zpK(p:ByteArray)(k:Nat):Int->Int:=zPat (Q4b (Q3r (zgK p k) p) p) p
theorem y0a(pc:Int->Int)(p:ByteArray)(f:Nat)(x:Int):Q85 pc p (f+1) x=if 0<=x/\x<p.size then(if pc (zJ p x)<0 then x else Q85 pc p f (pc (zJ p x))) else x:=rfl
theorem z6o(p:ByteArray)(f:Nat)(x:Int):Q47 p (f+1) x=if 0<=x/\Q1q (atB p x)=true then Q47 p f (x+1) else x:=rfl
def Q64(v:Int)(r:LR):Prop:=v=okI r.ok r.next
section
variable {p:ByteArray}
theorem y5m{g:Int->Int}{l:Int->LR}{i:Int}(h:atB p i=40->Q64 (g i) (l i)):Q64 (Q3r g p i) (Q3i l p i):=by
  unfold Q64 Q3r Q3i;by_cases c:atB p i=40
  · rw[qAb c,qAb c];exact h c
  rw[qAa c,qAa c];by_cases c2:(Q2n p i).2.2=false
  · rw[qAb c2,c2]
  have c3:(Q2n p i).2.2=true:=by simpa using c2
  rw[qAa c2,c3]
theorem y0c:∀(f:Nat) (r:LR),(r.ok=true->0<=r.next)->Q64 (Q47 p f (okI r.ok r.next)) (Q2a p f r)
  |0,r,_=>rfl
  |f+1,r,h0=>by
    rw[z6o,z37];cases hk:r.ok
    · rw[qAa (fun q=>absurd q.1 (show ¬(0:Int)<=-1 by decide)),qAa (by simp)]
      unfold Q64;rw[hk]
    have hn:=h0 hk;have e:okI true r.next=r.next:=rfl;rw[e];by_cases c:Q1q (atB p r.next)=true
    · rw[qAb ⟨hn,c⟩,qAb (by rw[c];rfl)]
      exact y0c f ⟨r.next+1,true,Q02.rep (atB p r.next) r.lang⟩ (fun _=>by dsimp only;omega)
    rw[qAa (fun q=>c q.2),qAa (by simpa using c)];unfold Q64;rw[hk];rfl
theorem y1p{a:Int->Int}{l:Int->LR}{i:Int}(h:Q64 (a i) (l i))(h0:(l i).ok=true->0<=(l i).next):Q64 (Q4b a p i) (Q1r l p i):=by
  unfold Q4b Q1r;unfold Q64 at h;rw[h];exact y0c _ _ h0
structure SaysP(p:ByteArray)(v:Int)(r:LR):Prop where
  good:r.ok=true->v=r.next
  bad:r.ok=false->v<0∨(0<=v/\v<p.size/\(atB p v=124∨Q97 (atB p v)=true))
theorem x1l{B:Int->LR}{f:Nat}{r r':LR}(h1:r.next=r'.next)(h2:r.ok=r'.ok):(Q03 B p f r).next=(Q03 B p f r').next/\(Q03 B p f r).ok=(Q03 B p f r').ok:=by
  obtain⟨a,b,c⟩:=r;obtain⟨a',b',c'⟩:=r';dsimp only at h1 h2;subst h1 h2;exact z8n f a b c c'
theorem x5h{pc:Int->Int}{P:Int->LR}(hP:∀x:Int,0<=x->x<=p.size->Q64 (pc x) (P x))(hg:Q3t p P)(hbeg:∀x,(P x).ok=true->Q97 (atB p x)=true) :
    ∀(m:Nat) (x:Int) (L:Q02) (fb fc f:Nat),(p.size:Int)<=x+m->0<=x->x<=p.size->Q1q (atB p x)=false->(p.size:Int)+2<=fb+x->(p.size:Int)+2<=fc+x->(p.size:Int)+2<=f+x ->
      (∀y:Int,0<=y->y<=p.size->(P y).ok=true->Q1q (atB p (P y).next)=false) ->
      SaysP p (Q85 pc p f x) (Q03 (Q0x P p) p fc (Q1m P p fb ⟨x,true,L⟩)):=by
  intro m;induction m with
  |zero =>
    intro x L fb fc f hm h0 h1 hmk hfb hfc hf hst;have hx:x=p.size:=by omega
    have hb:atB p x=-1:=by unfold atB;rw[qEp (by omega)]
    obtain⟨fb,rfl⟩:∃k,fb=k+1:=⟨fb-1,by omega⟩;obtain⟨fc,rfl⟩:∃k,fc=k+1:=⟨fc-1,by omega⟩;obtain⟨f,rfl⟩:∃k,f=k+1:=⟨f-1,by omega⟩;rw[z2f,qAa (show ¬(true&&Q2r p x)=true by rw[z2d,hb];decide),z2q,qAa (show ¬(true&&(atB p x==124))=true by rw[hb];decide),y0a,qAa (by omega)];exact⟨fun _=>rfl,fun e=>by(cases e)⟩
  |succ m ih =>
    intro x L fb fc f hm h0 h1 hmk hfb hfc hf hst;by_cases hxs:x<p.size
    · obtain⟨fb,rfl⟩:∃k,fb=k+1:=⟨fb-1,by omega⟩
      obtain⟨fc,rfl⟩:∃k,fc=k+1:=⟨fc-1,by omega⟩;obtain⟨f,rfl⟩:∃k,f=k+1:=⟨f-1,by omega⟩;rw[y0a,qAb ⟨h0,hxs⟩];by_cases cb:Q97 (atB p x)=true
      · have j2:atB p x≠124:=fun e=>by rw[e]at cb;revert cb;decide
        have ej:zJ p x=x:=by unfold zJ;rw[qAa j2]
        rw[ej];have hs:=hP x h0 h1;unfold Q64 at hs;rw[z2f,qAb (show(true&&Q2r p x)=true by rw[z2d,cb];rfl)];cases hk:(P x).ok
        · rw[hk]at hs
          have j0:pc x<0:=by rw[hs];exact(show(-1:Int)<0 by decide)
          have q1:Q5o ⟨x,true,L⟩ (P x)=⟨(P x).next,false,noL⟩:=by unfold Q5o;rw[hk];rfl
          rw[qAb j0,q1,z1w P p _ _ rfl,z1x _ p _ _ rfl];exact⟨fun e=>by(cases e),fun _=>.inr ⟨h0,hxs,.inr cb⟩⟩
        rw[hk]at hs;have g:=hg x h0 h1 hk;have e1:pc x=(P x).next:=hs;have q1:Q5o ⟨x,true,L⟩ (P x)=⟨(P x).next,true,Q02.cat L (P x).lang⟩:=by unfold Q5o;rw[qAb hk]
        rw[qAa (by omega),q1,e1];exact ih _ _ fb (fc+1) f (by omega) (by omega) (by omega) (hst x h0 h1 hk) (by omega) (by omega) (by omega) hst
      rw[z2f,qAa (show ¬(true&&Q2r p x)=true by rw[z2d];simpa using cb),z2q];by_cases c124:atB p x=124
      · have ej:zJ p x=x+1:=by unfold zJ;rw[qAb c124]
        rw[ej,qAb (show(true&&(atB p x==124))=true by rw[c124];rfl)];have hs:=hP (x+1) (by omega) (by omega);unfold Q64 at hs;cases hk:(P (x+1)).ok
        · rw[hk]at hs
          have j0:pc (x+1)<0:=by rw[hs];exact(show(-1:Int)<0 by decide)
          have q0:Q0x P p (x+1)=P (x+1):=by unfold Q0x;exact z1w P p _ _ hk
          have q1:Q1w ⟨x,true,L⟩ (Q0x P p (x+1))=⟨(P (x+1)).next,false,noL⟩:=by rw[q0];unfold Q1w;rw[hk];rfl
          rw[qAb j0,q1,z1x _ p _ _ rfl];exact⟨fun e=>by(cases e),fun _=>.inr ⟨h0,hxs,.inl c124⟩⟩
        rw[hk]at hs;have g:=hg (x+1) (by omega) (by omega) hk;have e1:pc (x+1)=(P (x+1)).next:=hs;rw[qAa (by omega),e1];have j1:=ih (P (x+1)).next (P (x+1)).lang (p.size+5) fc f (by omega) (by omega) (by omega) (hst (x+1) (by omega) (by omega) hk) (by omega) (by omega) (by omega) hst;have eb:Q0x P p (x+1)=Q1m P p (p.size+5) ⟨(P (x+1)).next,true,(P (x+1)).lang⟩:=by unfold Q0x;rw[← z2k hk]
        rw[eb];generalize Q1m P p (p.size+5) ⟨(P (x+1)).next,true,(P (x+1)).lang⟩=r at j1 ⊢;have en:(Q1w ⟨x,true,L⟩ r).next=r.next/\(Q1w ⟨x,true,L⟩ r).ok=r.ok:=by
          unfold Q1w;cases e:r.ok<;>simp
        obtain⟨z1,z2⟩:=x1l (B:=Q0x P p) (f:=fc) en.1 en.2;exact⟨fun e=>by rw[z1];exact j1.good (by rw[← z2];exact e),fun e=>j1.bad (by rw[← z2];exact e)⟩
      have ej:zJ p x=x:=by unfold zJ;rw[qAa c124]
      have j3:(P x).ok=false:=by
        cases e:(P x).ok
        · rfl
        exact absurd (hbeg x e) cb
      have hs:=hP x h0 h1;unfold Q64 at hs;rw[j3]at hs;have j0:pc x<0:=by rw[hs];exact(show(-1:Int)<0 by decide)
      rw[ej,qAb j0,qAa (show ¬(true&&(atB p x==124))=true by simpa using c124)];exact⟨fun _=>rfl,fun e=>by(cases e)⟩
    have hx:x=p.size:=by omega
    have hb:atB p x=-1:=by unfold atB;rw[qEp (by omega)]
    obtain⟨fb,rfl⟩:∃k,fb=k+1:=⟨fb-1,by omega⟩;obtain⟨fc,rfl⟩:∃k,fc=k+1:=⟨fc-1,by omega⟩;obtain⟨f,rfl⟩:∃k,f=k+1:=⟨f-1,by omega⟩;rw[z2f,qAa (show ¬(true&&Q2r p x)=true by rw[z2d,hb];decide),z2q,qAa (show ¬(true&&(atB p x==124))=true by rw[hb];decide),y0a,qAa (by omega)];exact⟨fun _=>rfl,fun e=>by(cases e)⟩
theorem z9l:∀(f:Nat) (x:Int) (L:Q02),x<=p.size->(p.size:Int)+2<=f+x->Q1q (atB p (Q2a p f ⟨x,true,L⟩).next)=false
  |0,x,L,h1,h2=>by omega
  |f+1,x,L,h1,h2=>by
    rw[z37];dsimp only;rw[qBa];by_cases c:Q1q (atB p x)=true
    · rw[qAb c]
      have:=z0q (s:=p) (i:=x) (z9g c);exact z9l f _ _ (by omega) (by omega)
    rw[qAa c];simpa using c
theorem y9a{pc:Int->Int}{a:Int->LR}(hP:∀x:Int,0<=x->x<=p.size->Q64 (pc x) (Q1r a p x))(hga:Q3t p a)(hg:Q3t p (Q1r a p))(hbeg:∀x,(Q1r a p x).ok=true->Q97 (atB p x)=true){i:Int}(h0:0<=i)(h1:i<=p.size) :
    SaysP p (zPat pc p i) (Q20 (Q0x (Q1r a p) p) p i):=by
  have j0:∀y:Int,0<=y->y<=p.size->(Q1r a p y).ok=true->Q1q (atB p (Q1r a p y).next)=false:=fun y y0 y1 hy=>by
    have ha:=y2d hy;have g:=hga y y0 y1 ha;unfold Q1r;rw[z2k ha];exact z9l _ _ _ (by omega) (by omega)
  have hs:=hP i h0 h1;unfold Q64 at hs;unfold zPat Q20;cases hk:(Q1r a p i).ok
  · rw[hk]at hs
    have e1:pc i=-1:=hs;have q0:Q0x (Q1r a p) p i=Q1r a p i:=by unfold Q0x;exact z1w _ p _ _ hk
    rw[q0,z1x _ p _ _ hk,e1];show SaysP p (Q85 pc p (p.size+4+1) (-1)) _;rw[y0a,qAa (by omega)];exact⟨fun e=>by rw[hk]at e;(cases e),fun _=>.inl (by decide)⟩
  rw[hk]at hs;have e1:pc i=(Q1r a p i).next:=hs;have g:=hg i h0 h1 hk;have eb:Q0x (Q1r a p) p i=Q1m (Q1r a p) p (p.size+5) ⟨(Q1r a p i).next,true,(Q1r a p i).lang⟩:=by unfold Q0x;rw[← z2k hk]
  rw[eb,e1];exact x5h hP hg hbeg p.size _ _ _ _ _ (by omega) (by omega) (by omega) (j0 i h0 h1 hk) (by omega) (by omega) (by omega) j0
theorem x7z{pt:Int->Int}{c:Int->LR}{i:Int}(h:SaysP p (pt (i+1)) (c (i+1)))(h0:(c (i+1)).ok=true->0<=(c (i+1)).next):Q64 (zGrp pt p i) (Q56 c p i):=by
  unfold Q64 zGrp Q56;cases hk:(c (i+1)).ok
  · rw[qAb rfl]
    rw[qAa (fun q=>by
      rcases h.bad hk with b|⟨_,_,b⟩
      · omega
      rw[q.2]at b;revert b;decide)]
    rfl
  have e1:=h.good hk;have e2:=h0 hk;rw[e1];have e3:¬(true=false):=by simp
  rw[qAa e3];by_cases c2:atB p (c (i+1)).next=41
  · rw[qAb ⟨e2,c2⟩,qAa (by rw[c2];simp)]
    rfl
  rw[qAa (fun q=>c2 q.2),qAb c2];rfl
theorem z28{k:Nat}{x:Int}(h:(Q1r (Q3i (lgK p k) p) p x).ok=true):Q97 (atB p x)=true:=y52 (y2d h)
theorem x5l:∀(k:Nat) (i:Int),0<=i->atB p i=40->Q64 (zgK p k i) (lgK p k i)
  |0,i,_,_=>rfl
  |k+1,i,h0,h40=>by
    have hi:=z0q (s:=p) (i:=i) (by omega);have ha:∀x:Int,0<=x->x<=p.size->Q64 (Q3r (zgK p k) p x) (Q3i (lgK p k) p x):=fun x x0 _=>y5m (fun h=>x5l k x x0 h);have j0:∀x:Int,0<=x->x<=p.size->Q64 (Q4b (Q3r (zgK p k) p) p x) (Q1r (Q3i (lgK p k) p) p x):=fun x x0 x1=>y1p (ha x x0 x1) (fun h=>by have:=z2r p k x x0 x1 h;omega);exact x7z (y9a j0 (z2r p k) (z6c p k) (fun x h=>z28 h) (by omega) (by omega)) (fun h=>by have:=y4a p k (i+1) (by omega) (by omega) h;show 0<=(Q6q p k (i+1)).next;omega)
theorem z7c(k:Nat){x:Int}(x0:0<=x):Q64 (Q3r (zgK p k) p x) (Q3i (lgK p k) p x):=y5m (fun h=>x5l k x x0 h)
theorem z5y(k:Nat){x:Int}(x0:0<=x)(x1:x<=p.size):Q64 (Q4b (Q3r (zgK p k) p) p x) (Q1r (Q3i (lgK p k) p) p x):=y1p (z7c k x0) (fun h=>by have:=z2r p k x x0 x1 h;omega)
theorem x5o(k:Nat){i:Int}(h0:0<=i)(h1:i<=p.size):SaysP p (zpK p k i) (Q6q p k i):=y9a (fun x x0 x1=>z5y k x0 x1) (z2r p k) (z6c p k) (fun x h=>z28 h) h0 h1
end
theorem z1r{p:ByteArray}{i:Nat}(h:i<p.size):atB p (i:Nat)=p[i].toNat:=by unfold atB;rw[qEi ⟨by omega,by simpa using h⟩];simp
theorem z18{p:ByteArray}{i:Int}(h:p.size<=i):atB p i=-1:=by unfold atB;rw[qEp (by omega)]
theorem x95(x:Int):okI true x=x:=rfl
theorem x3r(x:Int):okI false x=-1:=rfl
def PatC(p:ByteArray)(d:Nat)(f:Int->Int):Prop:=∀(i:Nat) (w:World),i<=p.size+1->Calls Tryz.prog 88 #[.string p,.int .i64 i,.int .i64 d] w fun e w'=>e=.returned (.int .i64 (f i))/\w'=w
def AtmC(p:ByteArray)(d:Nat)(f:Int->Int):Prop:=∀(i:Nat) (w:World),i<=p.size+1->Calls Tryz.prog 123 #[.string p,.int .i64 i,.int .i64 d] w fun e w'=>e=.returned (.int .i64 (f i))/\w'=w
def PceC(p:ByteArray)(d:Nat)(f:Int->Int):Prop:=∀(i:Nat) (w:World),i<=p.size+1->Calls Tryz.prog 115 #[.string p,.int .i64 i,.int .i64 d] w fun e w'=>e=.returned (.int .i64 (f i))/\w'=w
theorem y0e(p:ByteArray)(k d:Nat)(hp:p.size<=80000)(hd:d+k=6)(ih:∀k',k=k'+1->PatC p (d+1) (zpK p k')):AtmC p d (Q3r (zgK p k) p):=by
  intro i w hi;by_cases h1:i<p.size
  · have hb:=z1r h1
    have jg:p[i].toNat<256:=p[i].toNat_lt;have j3:¬(p.size:Int)<=(i:Int):=by omega
    have jc:(i:Int)<(p.size:Int):=by omega
    have ZP:=hid (fun w=>x07 p[i].toNat w (by omega));unfold Q3r;unfold Q2n;rw[hb];by_cases q46:p[i].toNat=46
    · have kk:((p[i].toNat:Int)==46)=true:=by simp[q46]
      rw[qAa (by omega),qAb (by omega)];dsimp only;rw[x95];rw[show Q01 (p[i].toNat:Int)=false from by rw[q46];decide]at ZP;clear hb q46;go_enter Tryz.func123,Tryz.ntmps123
      go_wp2_with (first
        |(go_at_call 127;refine csm (ZP.out _) ?_))
      go_ret;exact⟨rfl,rfl⟩
    have ji:((p[i].toNat:Int)==46)=false:=by simp;omega
    by_cases qpl:Q01 (p[i].toNat:Int)=true
    · have jj:p[i].toNat≠40:=fun e=>by rw[e]at qpl;revert qpl;decide
      have jk:p[i].toNat≠91:=fun e=>by rw[e]at qpl;revert qpl;decide
      have jl:p[i].toNat≠92:=fun e=>by rw[e]at qpl;revert qpl;decide
      rw[qAa (by omega),qAa (by omega),qAa (by omega),qAa (by omega),qAa (by rw[qpl];simp)];dsimp only;rw[x95];rw[qpl]at ZP;clear hb qpl;go_enter Tryz.func123,Tryz.ntmps123
      go_wp2_with (first
        |(go_at_call 127;refine csm (ZP.out _) ?_))
      go_ret;exact⟨rfl,rfl⟩
    have j0:Q01 (p[i].toNat:Int)=false:=by simpa using qpl
    rw[j0]at ZP;clear qpl;by_cases q92:p[i].toNat=92
    · have jb:((p[i].toNat:Int)==92)=true:=by simp[q92]
      rw[qAa (by omega),qAa (by omega),qAa (by omega),qAb (by omega)];dsimp only;rw[y18];by_cases h3:i+1<p.size
      · have j1:atB p ((i:Int)+1)=p[i+1].toNat:=by rw[← z1r h3];rfl
        have j4:p[i+1].toNat<256:=p[i+1].toNat_lt;have je:(i:Int)+1<(p.size:Int):=by omega
        have jf:((i:Int)+1).toNat=i+1:=by omega
        rw[j1];have ZM:=hid (fun w=>z5z p[i+1].toNat w (by omega));generalize mkF (p[i+1].toNat:Int)=m at ZM ⊢;obtain⟨v,ok⟩:=m;dsimp only at ZM ⊢;clear hb j1 j0 q92;cases ok
        · rw[qAa (by simp)]
          dsimp only;rw[x3r];go_enter Tryz.func123,Tryz.ntmps123
          go_wp2_with (first
            |(go_at_call 127;refine csm (ZP.out _) ?_)
            |(go_at_call 128;refine csm (ZM.out _) ?_))
          go_ret;exact⟨rfl,rfl⟩
        rw[qAb rfl];dsimp only;rw[x95,show(i:Int)+1+1=(i:Int)+2 by omega];go_enter Tryz.func123,Tryz.ntmps123
        go_wp2_with (first
          |(go_at_call 127;refine csm (ZP.out _) ?_)
          |(go_at_call 128;refine csm (ZM.out _) ?_))
        go_ret;exact⟨rfl,rfl⟩
      have jd:¬(i:Int)+1<(p.size:Int):=by omega
      have j1:atB p ((i:Int)+1)=-1:=z18 (by omega);rw[j1,show mkF (-1)=(-1,false) from by decide];dsimp only;rw[qAa (by simp)];dsimp only;rw[x3r];clear hb j1 j0 q92;go_enter Tryz.func123,Tryz.ntmps123
      go_wp2_with (first
        |(go_at_call 127;refine csm (ZP.out _) ?_))
      go_ret;exact⟨rfl,rfl⟩
    have jb:((p[i].toNat:Int)==92)=false:=by simp;omega
    by_cases q91:p[i].toNat=91
    · have ja:((p[i].toNat:Int)==91)=true:=by simp[q91]
      rw[qAa (by omega),qAa (by omega),qAb (by omega)];have ZC:=hid (fun w=>x01 p i w (by omega) h1);generalize okI (rBr p ((i:Int)+1)).2.2 (rBr p ((i:Int)+1)).2.1=v at ZC ⊢;clear hb j0 q91;go_enter Tryz.func123,Tryz.ntmps123
      go_wp2_with (first
        |(go_at_call 127;refine csm (ZP.out _) ?_)
        |(go_at_call 129;refine csm (ZC.out _) ?_))
      go_ret;exact⟨rfl,rfl⟩
    have ja:((p[i].toNat:Int)==91)=false:=by simp;omega
    by_cases q40:p[i].toNat=40
    · have j8:((p[i].toNat:Int)==40)=true:=by simp[q40]
      rw[qAb (by omega)];cases k with
      |zero =>
        show Calls _ _ _ _ (fun e w'=>e=.returned (.int .i64 (-1))/\w'=w);have j6:¬(d:Int)<6:=by omega
        clear hb j0 ih q40;go_enter Tryz.func123,Tryz.ntmps123
        go_wp2_with (first
          |(go_at_call 127;refine csm (ZP.out _) ?_))
        go_ret;exact⟨rfl,rfl⟩
      |succ k' =>
        have j6:(d:Int)<6:=by omega
        have jh:d<=6:=by omega
        have PT:=hid (fun w=>ih k' rfl (i+1) w (by omega));have ei:((i+1:Nat):Int)=(i:Int)+1:=by omega
        have ed:((d+1:Nat):Int)=(d:Int)+1:=by omega
        rw[ei,ed]at PT;show Calls _ _ _ _ (fun e w'=>e=.returned (.int .i64 (zGrp (zpK p k') p i))/\w'=w);unfold zGrp;generalize zpK p k' ((i:Int)+1)=v at PT ⊢;clear hb j0 ih q40;by_cases hv:0<=v
        · obtain⟨j,rfl⟩:∃j:Nat,v=j:=⟨v.toNat,by omega⟩
          by_cases hj:j<p.size
          · have j2:=z1r hj
            have j5:p[j].toNat<256:=p[j].toNat_lt;have j7:(j:Int)<(p.size:Int):=by omega
            rw[j2];by_cases q41:p[j].toNat=41
            · have j9:((p[j].toNat:Int)==41)=true:=by simp[q41]
              rw[qAb ⟨hv,by omega⟩];clear j2 q41;go_enter Tryz.func123,Tryz.ntmps123
              go_wp2_with (first
                |(go_at_call 127;refine csm (ZP.out _) ?_)
                |(go_at_call 88;refine csm (PT.out _) ?_))
              go_ret;exact⟨rfl,rfl⟩
            have j9:((p[j].toNat:Int)==41)=false:=by simp;omega
            rw[qAa (by omega)];clear j2;go_enter Tryz.func123,Tryz.ntmps123
            go_wp2_with (first
              |(go_at_call 127;refine csm (ZP.out _) ?_)
              |(go_at_call 88;refine csm (PT.out _) ?_))
            go_ret;exact⟨rfl,rfl⟩
          have j7:¬(j:Int)<(p.size:Int):=by omega
          rw[z18 (by omega),qAa (by omega)];go_enter Tryz.func123,Tryz.ntmps123
          go_wp2_with (first
            |(go_at_call 127;refine csm (ZP.out _) ?_)
            |(go_at_call 88;refine csm (PT.out _) ?_))
          go_ret;exact⟨rfl,rfl⟩
        rw[qAa (fun e=>hv e.1)];go_enter Tryz.func123,Tryz.ntmps123
        go_wp2_with (first
          |(go_at_call 127;refine csm (ZP.out _) ?_)
          |(go_at_call 88;refine csm (PT.out _) ?_))
        go_ret;exact⟨rfl,rfl⟩
    have j8:((p[i].toNat:Int)==40)=false:=by simp;omega
    rw[qAa (by omega),qAa (by omega),qAa (by omega),qAa (by omega),qAb j0];dsimp only;rw[x3r];clear hb j0 ih;go_enter Tryz.func123,Tryz.ntmps123
    go_wp2_with (first
      |(go_at_call 127;refine csm (ZP.out _) ?_))
    go_ret;exact⟨rfl,rfl⟩
  have j3:(p.size:Int)<=(i:Int):=by omega
  have hE:Q3r (zgK p k) p i=-1:=by
    have hb:atB p (i:Nat)=-1:=z18 (by omega);unfold Q3r Q2n;rw[hb,qAa (by decide),qAa (by decide),qAa (by decide),qAa (by decide),qAb (by decide)];exact x3r _
  rw[hE];clear hE ih;go_enter Tryz.func123,Tryz.ntmps123
  go_wp2;go_ret;exact⟨rfl,rfl⟩
def Fwd(p:ByteArray)(f:Int->Int):Prop:=∀x:Int,0<=x->f x=-1∨(x<f x/\f x<=p.size)
theorem y5p(p:ByteArray)(k:Nat):Fwd p (Q3r (zgK p k) p):=by
  intro x h0;by_cases h1:x<=p.size
  · have h:=z7c (p:=p) k h0
    unfold Q64 at h;cases hk:(Q3i (lgK p k) p x).ok
    · left;rw[h,hk];rfl
    right;have g:=z2r p k x h0 h1 hk;rw[h,hk];exact g
  left;have hb:atB p x=-1:=z18 (by omega);unfold Q3r Q2n;rw[hb,qAa (by decide),qAa (by decide),qAa (by decide),qAa (by decide),qAb (by decide)];exact x3r _
theorem y0b(p:ByteArray):∀(f:Nat) (x:Int),x<=p.size->x<=Q47 p f x/\Q47 p f x<=p.size
  |0,x,h=>⟨Int.le_refl _,h⟩
  |f+1,x,h=>by
    rw[z6o];split
    · rename_i c
      have:=z0q (s:=p) (i:=x) (z9g c.2);have:=y0b p f (x+1) (by omega);omega
    omega
theorem y7g(p:ByteArray)(f:Nat):Q47 p f (-1)=-1:=by
  cases f with
  |zero=>rfl
  |succ f=>rw[z6o,qAa (by omega)]
theorem x06(p:ByteArray)(k:Nat):Fwd p (Q4b (Q3r (zgK p k) p) p):=by
  intro x h0;unfold Q4b;rcases y5p p k x h0 with h|h
  · left;rw[h];exact y7g p _
  right;have:=y0b p (p.size+5) (Q3r (zgK p k) p x) h.2;omega
theorem z7e(p:ByteArray)(k d:Nat)(hp:p.size<=80000)(hA:AtmC p d (Q3r (zgK p k) p)):PceC p d (Q4b (Q3r (zgK p k) p) p):=by
  intro i w hi;have AT:=hid (fun w=>hA i w hi);have hf:=y5p p k i (by omega);unfold Q4b;generalize Q3r (zgK p k) p i=a at AT hf ⊢;have j0:-1<=a:=by omega
  have j1:a<=p.size:=by omega
  have ZS:=hid (fun(c:Int) (w:World)=>y7m c w);generalize hV:Q47 p (p.size+5) a=V;have HV:=hid hV;clear hV hA hf;go_enter Tryz.func115,Tryz.ntmps115
  go_wp2_with (first
    |(go_at_call 123;refine csm (AT.out _) ?_))
  go_loopw [7] (fun x7 wr=>∃(y:Int) (F:Nat),x7=.int .i64 y/\-1<=y/\y<=p.size/\(p.size:Int)+2<=F+y/\Q47 p F y=V/\wr=w)
      (fun x _=>(100000-intOf x).toNat)
  case atStart=>exact⟨a,p.size+5,rfl,j0,j1,by omega,HV.out,rfl⟩
  obtain⟨y,F,rfl,hy1,hy2,hF,hrec,rfl⟩:=hrel;obtain⟨F,rfl⟩:∃k,F=k+1:=⟨F-1,by omega⟩;rw[z6o]at hrec;clear HV;by_cases h0:0<=y
  · obtain⟨j,rfl⟩:∃j:Nat,y=j:=⟨y.toNat,by omega⟩
    by_cases hj:j<p.size
    · have hb:=z1r hj
      have j3:p[j].toNat<256:=p[j].toNat_lt;have j2:(j:Int)<(p.size:Int):=by omega
      rw[hb]at hrec;have ZX:=hid (fun w=>ZS.out (p[j].toNat:Int) w);generalize Q1q (p[j].toNat:Int)=mk at ZX hrec;clear hb;cases mk
      · rw[qAa (by simp)]at hrec
        have HR:=hid hrec;clear hrec;go_wp2_with (first
          |(go_at_call 124;refine csm (ZX.out _) ?_))
        go_ret;exact⟨by rw[← HR.out];rfl,rfl⟩
      rw[qAb ⟨h0,rfl⟩]at hrec;have HR:=hid hrec;clear hrec;go_wp2_with (first
        |(go_at_call 124;refine csm (ZX.out _) ?_))
      go_roundw
      case rel=>exact⟨(j:Int)+1,F,rfl,by omega,by omega,by omega,HR.out,by first|rfl|trivial⟩
      simp[intOf];omega
    have j2:¬(j:Int)<(p.size:Int):=by omega
    rw[z18 (by omega),qAa (by intro q;exact absurd q.2 (by decide))]at hrec;have HR:=hid hrec;clear hrec;go_wp2;go_ret;exact⟨by rw[← HR.out];rfl,rfl⟩
  rw[qAa (fun q=>h0 q.1)]at hrec;have HR:=hid hrec;clear hrec;go_wp2;go_ret;exact⟨by rw[← HR.out];rfl,rfl⟩
theorem z7w(p:ByteArray)(k d:Nat)(hp:p.size<=80000) (hP:PceC p d (Q4b (Q3r (zgK p k) p) p)):PatC p d (zpK p k):=by
  intro i w hi;have PC:=hid hP;have FW:=hid (x06 p k);show Calls _ _ _ _ (fun e w'=>e=.returned (.int .i64 (zPat (Q4b (Q3r (zgK p k) p) p) p i))/\w'=w);generalize Q4b (Q3r (zgK p k) p) p=pc at PC FW ⊢;have PI:=hid (fun w=>PC.out i w hi);have hf:=FW.out i (by omega);unfold zPat
  generalize pc i=a at PI hf ⊢;have j1:-1<=a:=by omega
  have j2:a<=p.size:=by omega
  generalize hV:Q85 pc p (p.size+5) a=V;have HV:=hid hV;clear hV hP hf;go_enter Tryz.func88,Tryz.ntmps88
  go_wp2_with (first
    |(go_at_call 115;refine csm (PI.out _) ?_))
  go_loopw [1,7,8] (fun x1 _ _ wr=>∃(y:Int) (F:Nat),x1=.int .i64 y/\-1<=y/\y<=p.size/\(p.size:Int)+2<=F+y/\Q85 pc p F y=V/\wr=w)
      (fun x _ _ _=>(100000-intOf x).toNat)
  case atStart=>exact⟨a,p.size+5,rfl,j1,j2,by omega,HV.out,rfl⟩
  obtain⟨y,F,rfl,hy1,hy2,hF,hrec,rfl⟩:=hrel;obtain⟨F,rfl⟩:∃k,F=k+1:=⟨F-1,by omega⟩;rw[y0a]at hrec;clear HV PI;by_cases h0:0<=y
  · obtain⟨j,rfl⟩:∃j:Nat,y=j:=⟨y.toNat,by omega⟩
    by_cases hj:j<p.size
    · have hb:=z1r hj
      have j3:p[j].toNat<256:=p[j].toNat_lt;have j0:(j:Int)<(p.size:Int):=by omega
      rw[qAb ⟨h0,j0⟩]at hrec;by_cases q:p[j].toNat=124
      · have kq:((p[j].toNat:Int)==124)=true:=by simp[q]
        have ez:zJ p (j:Nat)=(j:Int)+1:=by unfold zJ;rw[hb,qAb (by omega)]
        rw[ez]at hrec;have PJ:=hid (fun w=>PC.out (j+1) w (by omega));have hf:=FW.out ((j:Int)+1) (by omega);have ej:((j+1:Nat):Int)=(j:Int)+1:=by omega
        rw[ej]at PJ;generalize pc ((j:Int)+1)=v at PJ hf hrec;clear hb q PC FW ez;by_cases hv:v<0
        · rw[qAb hv]at hrec
          have HR:=hid hrec;clear hrec;go_wp2_with (first
            |(go_at_call 115;refine csm (PJ.out _) ?_))
          go_ret;exact⟨by rw[← HR.out];rfl,rfl⟩
        rw[qAa hv]at hrec;have HR:=hid hrec;clear hrec;go_wp2_with (first
          |(go_at_call 115;refine csm (PJ.out _) ?_))
        go_roundw
        case rel=>exact⟨v,F,rfl,by omega,by omega,by omega,HR.out,by first|rfl|trivial⟩
        simp[intOf];omega
      have kq:((p[j].toNat:Int)==124)=false:=by simp;omega
      have ez:zJ p (j:Nat)=(j:Int):=by unfold zJ;rw[hb,qAa (by omega)]
      rw[ez]at hrec;have PJ:=hid (fun w=>PC.out j w (by omega));have hf:=FW.out (j:Int) (by omega);generalize pc (j:Int)=v at PJ hf hrec;clear hb q PC FW ez;by_cases hv:v<0
      · rw[qAb hv]at hrec
        have HR:=hid hrec;clear hrec;go_wp2_with (first
          |(go_at_call 115;refine csm (PJ.out _) ?_))
        go_ret;exact⟨by rw[← HR.out];rfl,rfl⟩
      rw[qAa hv]at hrec;have HR:=hid hrec;clear hrec;go_wp2_with (first
        |(go_at_call 115;refine csm (PJ.out _) ?_))
      go_roundw
      case rel=>exact⟨v,F,rfl,by omega,by omega,by omega,HR.out,by first|rfl|trivial⟩
      simp[intOf];omega
    have j0:¬(j:Int)<(p.size:Int):=by omega
    rw[qAa (fun q=>j0 q.2)]at hrec;have HR:=hid hrec;clear hrec;go_wp2;go_ret;exact⟨by rw[← HR.out];rfl,rfl⟩
  rw[qAa (fun q=>h0 q.1)]at hrec;have HR:=hid hrec;clear hrec;go_wp2;go_ret;exact⟨by rw[← HR.out];rfl,rfl⟩
theorem y3b(p:ByteArray)(hp:p.size<=80000):∀(k d:Nat),d+k=6->PatC p d (zpK p k)
  |0,d,h=>z7w p 0 d hp (z7e p 0 d hp (y0e p 0 d hp h (fun k' e=>by omega)))
  | k + 1,d,h=>z7w p (k+1) d hp (z7e p (k+1) d hp (y0e p (k+1) d hp h (fun k' e=>by
      have:k'=k:=by omega
      subst this;exact y3b p hp k' (d+1) (by omega))))
def Q6i(s:ByteArray):Nat->Int->Nat
  |0,_=>0
  |f+1,x=>if Q0l (atB s x)=true then Q6i s f (x+1)+1 else 0
def Q37(s:ByteArray)(i:Int):Nat:=Q6i s (s.size+2) i
theorem y7e(s:ByteArray)(f:Nat)(x:Int):Q6i s (f+1) x=if Q0l (atB s x)=true then Q6i s f (x+1)+1 else 0:=rfl
theorem y2s{c:Int}(h:Q0l c=true):c≠-1:=by intro e;rw[e]at h;revert h;decide
theorem z8d(s:ByteArray):∀(f:Nat) (x:Int),0<=x->x<=s.size->x+Q6i s f x<=s.size
  |0,x,_,h=>by simp[Q6i];exact h
  |f+1,x,h0,h=>by
    rw[y7e];split
    · rename_i c
      have:=z0q (s:=s) (i:=x) (y2s c);have:=z8d s f (x+1) (by omega) (by omega);omega
    simp;exact h
theorem z2g(s:ByteArray)(i:Nat)(w:World)(hs:s.size<=80000)(hi:i<=s.size+1) :
    Calls Tryz.prog 87 #[.string s,.int .i64 i] w fun e w'=>e=.returned (.int .i64 (Q37 s i:Nat))/\w'=w:=by
  have ZS:=hid (fun(c:Int) (w:World)=>y1q c w);unfold Q37;generalize hV:Q6i s (s.size+2) i=V;have HV:=hid hV;clear hV;go_enter Tryz.func87,Tryz.ntmps87
  go_wp2;go_loopw [5] (fun x5 wr=>∃(n F:Nat),x5=.int .i64 n/\i+n<=s.size+1/\s.size+2<=F+i+n/\n+Q6i s F ((i:Int)+n)=V/\wr=w)
      (fun x _=>200000-(intOf x).toNat)
  case atStart=>exact⟨0,s.size+2,rfl,by omega,by omega,by rw[← HV.out];simp,rfl⟩
  obtain⟨n,F,rfl,hn,hF,hrec,rfl⟩:=hrel;obtain⟨F,rfl⟩:∃k,F=k+1:=⟨F-1,by omega⟩;rw[y7e]at hrec;clear HV;by_cases hj:i+n<s.size
  · have hb:atB s ((i:Int)+n)=s[i+n].toNat:=by rw[← z1r hj];congr 1
    have j2:s[i+n].toNat<256:=s[i+n].toNat_lt;have j0:(i:Int)+(n:Int)<(s.size:Int):=by omega
    have j1:((i:Int)+(n:Int)).toNat=i+n:=by omega
    rw[hb]at hrec;have ZX:=hid (fun w=>ZS.out (s[i+n].toNat:Int) w);generalize Q0l (s[i+n].toNat:Int)=mk at ZX hrec;clear hb;cases mk
    · rw[qAa (by simp)]at hrec
      have HR:Hid (n=V):=by unfold Hid;omega
      clear hrec;go_wp2_with (first
        |(go_at_call 114;refine csm (ZX.out _) ?_))
      go_ret;exact⟨by rw[← HR.out];rfl,rfl⟩
    rw[qAb rfl]at hrec;have HR:Hid (n+1+Q6i s F ((i:Int)+((n+1:Nat):Int))=V):=by
      unfold Hid;rw[show(i:Int)+((n+1:Nat):Int)=(i:Int)+n+1 by omega];omega
    clear hrec;go_wp2_with (first
      |(go_at_call 114;refine csm (ZX.out _) ?_))
    go_roundw
    case rel=>exact⟨n+1,F,by go_num,by omega,by omega,HR.out,by first|rfl|trivial⟩
    simp[intOf];omega
  have j0:¬(i:Int)+(n:Int)<(s.size:Int):=by omega
  rw[z18 (by omega),qAa (by decide)]at hrec;have HR:Hid (n=V):=by unfold Hid;omega
  clear hrec;go_wp2;go_ret;exact⟨by rw[← HR.out];rfl,rfl⟩
def Q5k(s:ByteArray)(i:Int):Int :=
  if(s.size:Int)<=i then -1
  else if Q1a (atB s i)=true then(if 8<1+(Q37 s (i+1):Int) then -1 else i+1+Q37 s (i+1))
  else(if(Q37 s i:Int)=0∨8<(Q37 s i:Int) then -1 else i+Q37 s i)
theorem z50(s:ByteArray)(i:Nat)(w:World)(hs:s.size<=80000)(hi:i<=100000) :
    Calls Tryz.prog 89 #[.string s,.int .i64 i] w fun e w'=>e=.returned (.int .i64 (Q5k s i))/\w'=w:=by
  unfold Q5k;by_cases h1:i<s.size
  · have hb:=z1r h1
    have j4:s[i].toNat<256:=s[i].toNat_lt;have j2:¬(s.size:Int)<=(i:Int):=by omega
    have j3:(i:Int)<(s.size:Int):=by omega
    have ZG:=hid (fun w=>z7d (s[i].toNat:Int) w);rw[qAa j2,hb];generalize Q1a (s[i].toNat:Int)=cp at ZG ⊢;clear hb;cases cp
    · rw[qAa (by simp)]
      have ZL:=hid (fun w=>z2g s i w hs (by omega));have j1:=z8d s (s.size+2) i (by omega) (by omega);have j0:(i:Int)+(Q37 s i:Nat)<=s.size:=j1;clear j1;generalize Q37 s (i:Nat)=n at ZL j0 ⊢;by_cases q:n=0
      · subst q
        rw[qAb (.inl rfl)];go_enter Tryz.func89,Tryz.ntmps89
        go_wp2_with (first
          |(go_at_call 64;refine csm (ZG.out _) ?_)
          |(go_at_call 87;refine csm (ZL.out _) ?_))
        go_ret;exact⟨rfl,rfl⟩
      have k1:(((i:Int)+(n:Int))==(i:Int))=false:=by simp;omega
      have k2:¬(i:Int)+(n:Int)=(i:Int):=by omega
      have k3:(i:Int)+(n:Int)-(i:Int)=(n:Int):=by omega
      by_cases q8:8<n
      · have k8:(8:Int)<(n:Int):=by omega
        rw[qAb (.inr k8)];go_enter Tryz.func89,Tryz.ntmps89
        go_wp2_with (first
          |(go_at_call 64;refine csm (ZG.out _) ?_)
          |(go_at_call 87;refine csm (ZL.out _) ?_))
        go_ret;exact⟨rfl,rfl⟩
      have k8:¬(8:Int)<(n:Int):=by omega
      rw[qAa (by omega)];go_enter Tryz.func89,Tryz.ntmps89
      go_wp2_with (first
        |(go_at_call 64;refine csm (ZG.out _) ?_)
        |(go_at_call 87;refine csm (ZL.out _) ?_))
      go_ret;exact⟨rfl,rfl⟩
    rw[qAb rfl];have ZL:=hid (fun w=>z2g s (i+1) w hs (by omega));have ei:((i+1:Nat):Int)=(i:Int)+1:=by omega
    rw[ei]at ZL;have j1:=z8d s (s.size+2) ((i:Int)+1) (by omega) (by omega);have j0:(i:Int)+1+(Q37 s ((i:Int)+1):Nat)<=s.size:=j1;clear j1;generalize Q37 s ((i:Int)+1)=n at ZL j0 ⊢;have k1:(((i:Int)+1+(n:Int))==(i:Int))=false:=by simp;omega
    have k2:¬(i:Int)+1+(n:Int)=(i:Int):=by omega
    have k3:(i:Int)+1+(n:Int)-(i:Int)=1+(n:Int):=by omega
    by_cases q8:8<1+n
    · have k8:(8:Int)<1+(n:Int):=by omega
      rw[qAb k8];go_enter Tryz.func89,Tryz.ntmps89
      go_wp2_with (first
        |(go_at_call 64;refine csm (ZG.out _) ?_)
        |(go_at_call 87;refine csm (ZL.out _) ?_))
      go_ret;exact⟨rfl,rfl⟩
    have k8:¬(8:Int)<1+(n:Int):=by omega
    rw[qAa k8];go_enter Tryz.func89,Tryz.ntmps89
    go_wp2_with (first
      |(go_at_call 64;refine csm (ZG.out _) ?_)
      |(go_at_call 87;refine csm (ZL.out _) ?_))
    go_ret;exact⟨rfl,rfl⟩
  have j2:(s.size:Int)<=(i:Int):=by omega
  rw[qAb j2];go_enter Tryz.func89,Tryz.ntmps89
  go_wp2;go_ret;exact⟨rfl,rfl⟩
def pre4:ByteArray:=⟨#[97,61,120,40]⟩
def post5:ByteArray:=⟨#[41,10,83,58,10]⟩
def specX(b:ByteArray):ByteArray:=pre4++b++post5
section
variable (b:ByteArray)
end
theorem v0m{s:ByteArray}{i:Int}(h:(Q1o s i).ok=true):(Q6q s 6 i).ok=true/\(Q1o s i).next=(Q6q s 6 i).next:=by
  have hk:=y8d s 6 i [];exact⟨by rw[← h];exact hk.ok.symm,hk.next⟩
section
variable {b p q:ByteArray}{L M:Q02}
end
def openT:ByteArray:=⟨#[40]⟩
def closeT:ByteArray:=⟨#[41]⟩
def eitherT(p q:ByteArray):ByteArray:=openT++p++⟨#[41,124,40]⟩++q++closeT
def bothT(p q:ByteArray):ByteArray:=openT++p++⟨#[41,40]⟩++q++closeT
def markT(m:UInt8)(p:ByteArray):ByteArray:=openT++p++⟨#[41,m]⟩
section
variable {p q r:ByteArray}{L M:Q02}
end
def xT:ByteArray:=⟨#[120]⟩
def mF(b t:ByteArray):Bool:=(matchF (specX b) 0 (xT++t)).1
def eF(b t:ByteArray):Int:=(matchF (specX b) 0 (xT++t)).2
def splitF(p q t:ByteArray)(n:Nat):Bool:=(List.range (t.size+1)).any fun i=>decide (n<=i)&&(mF p (t.extract 0 i)&&mF q (t.extract i t.size))
section
variable {p q t:ByteArray}{L M:Q02}
structure Joins(p q t:ByteArray):Prop where
  either:mF (eitherT p q) t=(mF p t||mF q t)
  both:mF (bothT p q) t=splitF p q t 0
  many:mF (markT 42 p) t=(decide (t.size=0)||splitF p (markT 42 p) t 1)
  once:mF (markT 43 p) t=splitF p (markT 42 p) t 0
  maybe:mF (markT 63 p) t=(mF p t||decide (t.size=0))
end
def Q5d(L:Q02)(t:ByteArray)(F:Nat->Prop)(j:Nat):Prop:=∃i,i<=j/\F i/\L (Q10 t i (j-i))
def On(fs:List Bool)(i:Nat):Prop:=fs[i]? = some true
structure Q58(L:Q02)(t:ByteArray)(fs gs:List Bool):Prop where
  len:gs.length=t.size+1
  on:∀j,j<=t.size->(On gs j↔Q5d L t (On fs) j)
theorem On.lt{fs:List Bool}{i:Nat}(h:On fs i):i<fs.length:=(qS h).1
theorem z5b(t:ByteArray)(i a:Nat):∀b,Q10 t i (a+b)=Q10 t i a++Q10 t (i+a) b
  |0=>by simp[Q10]
  |b+1=>by
    rw[← qCm,Q10,z5b t i a b,Q10,qAh];simp only[qCm]
theorem z3g(t:ByteArray)(i:Nat):∀k,i+k<=t.size->(Q10 t i k).length=k
  |0,_=>rfl
  |k+1,h=>by
    rw[Q10,qEi (by omega),qP,z3g t i k (by omega)];rfl
theorem z7f{t:ByteArray}{i n:Nat}{u v:List Nat}(hn:i+n<=t.size)(h:Q10 t i n=u++v):∃a,a<=n/\u=Q10 t i a/\v=Q10 t (i+a) (n-a):=by
  have hl:=z3g t i n hn;rw[h,qP]at hl;refine⟨u.length,by omega,?_⟩;have e:=z5b t i u.length (n-u.length);rw[show u.length+(n-u.length)=n by omega,h]at e;have l1:=z3g t i u.length (by omega);exact List.append_inj e (by omega)
theorem x4i{A B:Q02}{t:ByteArray}{F:Nat->Prop}{j:Nat}(hj:j<=t.size):Q5d (Q02.cat A B) t F j↔Q5d B t (fun k=>k<=t.size/\Q5d A t F k) j:=by
  constructor
  · rintro⟨i,hi,hf,u,v,he,ha,hb⟩
    obtain⟨a,h1,h2,h3⟩:=z7f (by omega) he;refine⟨i+a,by omega,⟨by omega,i,by omega,hf,?_⟩,?_⟩
    · rw[show i+a-i=a by omega,← h2];exact ha
    rw[show j-(i+a)=j-i-a by omega,← h3];exact hb
  rintro⟨k,hk,⟨_,i,hi,hf,ha⟩,hb⟩;refine⟨i,by omega,hf,_,_,?_,ha,hb⟩;have:=z5b t i (k-i) (j-k);rw[show k-i+(j-k)=j-i by omega,show i+(k-i)=k by omega]at this;exact this
theorem x4j{A B:Q02}(h:∀w,A w↔B w){t:ByteArray}{F:Nat->Prop}{j:Nat}:Q5d A t F j↔Q5d B t F j:=by
  constructor
  · rintro⟨i,h1,h2,h3⟩;exact⟨i,h1,h2,(h _).1 h3⟩
  rintro⟨i,h1,h2,h3⟩;exact⟨i,h1,h2,(h _).2 h3⟩
theorem x0f{A:Q02}{t:ByteArray}{F G:Nat->Prop}(h:∀k,k<=t.size->(F k↔G k)){j:Nat}(hj:j<=t.size):Q5d A t F j↔Q5d A t G j:=by
  constructor
  · rintro⟨i,h1,h2,h3⟩;exact⟨i,h1,(h i (by omega)).1 h2,h3⟩
  rintro⟨i,h1,h2,h3⟩;exact⟨i,h1,(h i (by omega)).2 h2,h3⟩
theorem Q58.cat{A B:Q02}{t:ByteArray}{fs gs hs:List Bool}(h:Q58 A t fs gs)(k:Q58 B t gs hs):Q58 (Q02.cat A B) t fs hs:=by
  refine⟨k.len,fun j hj=>?_⟩;rw[k.on j hj,x4i hj];refine x0f (fun q hq=>?_) hj;rw[h.on q hq];exact⟨fun z=>⟨hq,z⟩,fun z=>z.2⟩
theorem Q58.iff{A B:Q02}{t:ByteArray}{fs gs:List Bool}(h:Q58 A t fs gs)(e:∀w,A w↔B w):Q58 B t fs gs :=
  ⟨h.len,fun j hj=>by rw[h.on j hj];exact x4j e⟩
structure Un(xs bs cs:List Bool):Prop where
  len:cs.length=xs.length
  on:∀j,On cs j↔On xs j∨(j<xs.length/\On bs j)
theorem Q58.alt{A B:Q02}{t:ByteArray}{fs gs hs cs:List Bool}(h:Q58 A t fs gs)(k:Q58 B t fs hs)(u:Un gs hs cs):Q58 (Q02.alt A B) t fs cs:=by
  refine⟨u.len.trans h.len,fun j hj=>?_⟩;rw[u.on,h.on j hj,k.on j hj];have hl:=h.len;constructor
  · rintro(⟨i,h1,h2,h3⟩|⟨_,i,h1,h2,h3⟩)
    · exact⟨i,h1,h2,.inl h3⟩
    exact⟨i,h1,h2,.inr h3⟩
  rintro⟨i,h1,h2,h3|h3⟩
  · exact .inl ⟨i,h1,h2,h3⟩
  exact .inr ⟨by omega,i,h1,h2,h3⟩
theorem x2e{t:ByteArray}{fs gs:List Bool}(hl:gs.length=t.size+1)(h:∀j,¬On gs j):Q58 noL t fs gs :=
  ⟨hl,fun j hj=>⟨fun q=>(h j q).elim,fun⟨i,_,_,q⟩=>q.elim⟩⟩
def epsL:Q02:=fun w=>w=[]
def Q9a:List Q02->Q02
  | []=>epsL
  |A::As=>Q02.cat A (Q9a As)
theorem y73{t:ByteArray}{fs:List Bool}(hl:fs.length=t.size+1):Q58 epsL t fs fs:=by
  refine⟨hl,fun j hj=>⟨fun h=>⟨j,qR _,h,by rw[qCu];rfl⟩,?_⟩⟩;rintro⟨i,h1,h2,h3⟩;have:(Q10 t i (j-i)).length=0:=by rw[show Q10 t i (j-i)=[] from h3];rfl
  rw[z3g t i (j-i) (by omega)]at this;rw[show j=i by omega];exact h2
theorem y55(A:Q02)(w:List Nat):Q02.cat A epsL w↔A w:=by
  constructor
  · rintro⟨u,v,rfl,h1,h2⟩;rw[show v=[] from h2,qAt];exact h1
  intro h;exact⟨w,[],by simp,h,rfl⟩
theorem y3l(A B C:Q02)(w:List Nat):Q02.cat (Q02.cat A B) C w↔Q02.cat A (Q02.cat B C) w:=by
  constructor
  · rintro⟨_,z,rfl,⟨u,v,rfl,h1,h2⟩,h3⟩;exact⟨u,v++z,by simp,h1,v,z,rfl,h2,h3⟩
  rintro⟨u,_,rfl,h1,v,z,rfl,h2,h3⟩;exact⟨u++v,z,by simp,⟨u,v,rfl,h1,h2⟩,h3⟩
theorem x9b{A A' B B':Q02}(h:∀w,A w↔A' w)(k:∀w,B w↔B' w)(w:List Nat):Q02.cat A B w↔Q02.cat A' B' w:=by
  constructor
  · rintro⟨u,v,e,h1,h2⟩;exact⟨u,v,e,(h u).1 h1,(k v).1 h2⟩
  rintro⟨u,v,e,h1,h2⟩;exact⟨u,v,e,(h u).2 h1,(k v).2 h2⟩
theorem y3k:∀(As:List Q02) (A:Q02) (w:List Nat),Q9a (As++[A]) w↔Q02.cat (Q9a As) A w
  | [],A,w=>by
    show Q02.cat A epsL w↔Q02.cat epsL A w;rw[y55];constructor
    · intro h;exact⟨[],w,rfl,rfl,h⟩
    rintro⟨u,v,rfl,h1,h2⟩;rw[show u=[] from h1];exact h2
  |B::As,A,w=>by
    show Q02.cat B (Q9a (As++[A])) w↔Q02.cat (Q02.cat B (Q9a As)) A w;rw[y3l];exact x9b (fun _=>Iff.rfl) (y3k As A) w
end Go.Proofs.YtcpceafmlgaodaaGreat
