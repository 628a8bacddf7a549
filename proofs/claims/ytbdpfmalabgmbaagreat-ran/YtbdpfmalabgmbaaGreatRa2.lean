import Derived.Test.YtbdpfmalabgmbaaGreatGt1
namespace Go.Proofs.YtbdpfmalabgmbaaGreat
open Go.RowKit
set_option linter.all false
structure FoI(hs1:List Hd)(QO:Int->Nat->Prop)(hs:List Hd):Prop where
 ok:∀x∈hs,x.ok
 kn:Q0o Hd.nul hs1 hs
 kf:Q0o Hd.fi hs1 hs
 kr:Q0o Hd.rch hs1 hs
 ku:Q0o Hd.fru hs1 hs
 o:∀X t,hO hs X t=true->QO X t
theorem x80{hs hs':List Hd}(h:Q0o Hd.nul hs hs'):hN hs'=hN hs:=funext fun X=>h X
theorem x8z{hs hs':List Hd}(h:Q0o Hd.fi hs hs'):hF hs'=hF hs:=funext fun X=>funext fun t=>by unfold hF;rw[h X]
theorem foSS{QO:Int->Nat->Prop}{R H:Nat}(hR:R<=8){hs1:List Hd}(ph:Int)(syms:List Sy)(hv:∀s∈syms,0<=s.num/\s.num<(if s.isH then(H:Int) else R))
  (hq:∀a s b,syms=a++s::b->s.isH=true->∀t,(Q3y (hN hs1) (fun X=>hF hs1 X t) t b=true∨(b.all (Q4c (hN hs1))=true/\QO ph t))->QO s.num t) :
  ∀(l a:List Sy) (hs:List Hd) (g:Bool),syms=a++l->FoI hs1 QO hs->FoI hs1 QO (Q2z ph l hs g).1
 | [],a,hs,g,e,h=>h
 |s::l,a,hs,g,e,h=>by
  unfold Q2z;split
  ·exact foSS hR ph syms hv hq l (a++[s]) hs g (by rw[e];simp) h
  rename_i c;have c':s.isH=true:=by simpa using c
  refine foSS hR ph syms hv hq l (a++[s]) _ _ (by rw[e];simp) ?_;have j0:=h.ok;have j1:=z3j j0 ph l;refine⟨y7f j0 _ ⟨(z0k j0 s.num).fi,z04 (z0k j0 s.num).fo j1⟩,?_,?_,?_,?_,?_⟩
  ·intro n;rw[z1d];split
   ·rename_i q;rw[q.1];exact h.kn s.num
   exact h.kn n
  ·intro n;rw[z1d];split
   ·rename_i q;rw[q.1];exact h.kf s.num
   exact h.kf n
  ·intro n;rw[z1d];split
   ·rename_i q;rw[q.1];exact h.kr s.num
   exact h.kr n
  ·intro n;rw[z1d];split
   ·rename_i q;rw[q.1];exact h.ku s.num
   exact h.ku n
  intro X t ht;unfold hO at ht;rw[z1d]at ht;split at ht
  ·rename_i q;rw[q.1];unfold Q5t at ht;dsimp only at ht;rw[z3q (by rw[(z0k j0 _).fo,j1])]at ht;simp only[qAt]at ht;rcases ht with ht|ht
   ·exact h.o _ t ht
   rw[z89 j0 hR t ph l (fun x hx=>hv x (by rw[e];simp[hx])),x80 h.kn,x8z h.kf]at ht;simp only[qAt,qAd]at ht;refine hq a s l e c' t ?_;rcases ht with ht|ht
   ·exact .inl ht
   exact .inr ⟨ht.1,h.o _ t ht.2⟩
  exact h.o X t ht
theorem foSL{ps:List Pr}{R H:Nat}(hT:Q1d ps R H)(hR:R<=8){QO:Int->Nat->Prop}{hs1:List Hd}
  (hq:∀p∈ps,∀a s b,p.syms=a++s::b->s.isH=true->∀t,(Q3y (hN hs1) (fun X=>hF hs1 X t) t b=true∨(b.all (Q4c (hN hs1))=true/\QO p.head t))->QO s.num t) :
  ∀(l:List Pr) (hs:List Hd) (g:Bool),(∀p∈l,p∈ps)->FoI hs1 QO hs->FoI hs1 QO (Q5l l hs g).1
 | [],_,_,_,h=>h
 |p::l,hs,g,hl,h=>foSL hT hR hq l _ _ (fun q hq=>hl q (by simp[hq])) (foSS hR p.head p.syms (hT.sy p (hl p (by simp))) (hq p (hl p (by simp))) p.syms [] hs g rfl h)
theorem rcRS{QR:Int->Prop}:∀(l:List Sy) (hs:List Hd) (g:Bool),(∀s∈l,s.isH=true->QR s.num)->(∀X,(Q1k hs X).rch=true->QR X)->∀X,(Q1k (Q3j l hs g).1 X).rch=true->QR X
 | [],hs,g,_,h=>h
 |s::l,hs,g,hq,h=>by
  unfold Q3j;split
  ·exact rcRS l hs g (fun x hx=>hq x (by simp[hx])) h
  rename_i c;refine rcRS l _ _ (fun x hx=>hq x (by simp[hx])) ?_;intro X hX;rw[z1d]at hX;split at hX
  ·rename_i e;rw[e.1];exact hq s (by simp) (by simpa using c)
  exact h X hX
theorem rcRL{ps:List Pr}{QR:Int->Prop}(hq:∀p∈ps,QR p.head->∀s∈p.syms,s.isH=true->QR s.num):∀(l:List Pr) (hs:List Hd) (g:Bool),(∀p∈l,p∈ps)->(∀X,(Q1k hs X).rch=true->QR X)->∀X,(Q1k (Q3o l hs g).1 X).rch=true->QR X
 | [],_,_,_,h=>h
 |p::l,hs,g,hl,h=>by
  unfold Q3o;split
  ·exact rcRL hq l hs g (fun q hq=>hl q (by simp[hq])) h
  rename_i c;exact rcRL hq l _ _ (fun q hq=>hl q (by simp[hq])) (rcRS p.syms hs g (hq p (hl p (by simp)) (h _ (by simpa using c))) h)
theorem fuFL{ps:List Pr}{QU:Int->Prop}(hq:∀p∈ps,(∀s∈p.syms,s.isH=true->QU s.num)->QU p.head):∀(l:List Pr) (hs:List Hd) (g:Bool),(∀p∈l,p∈ps)->(∀X,(Q1k hs X).fru=true->QU X)->∀X,(Q1k (Q48 l hs g).1 X).fru=true->QU X
 | [],_,_,_,h=>h
 |p::l,hs,g,hl,h=>by
  unfold Q48;refine fuFL hq l _ _ (fun q hq=>hl q (by simp[hq])) ?_;intro X hX;unfold Q4t at hX;rw[z1d]at hX;split at hX
  ·rename_i e;dsimp only at hX;rw[qAt]at hX;rw[e.1];rcases hX with hX|hX
   ·exact h _ hX
   refine hq p (hl p (by simp)) (fun s hs1 hs2=>h _ ?_);unfold Q45 at hX;rw[qAy]at hX;have:=hX s hs1;unfold fruB at this;rw[hs2]at this;simpa using this
  exact h X hX
theorem x57{ps:List Pr}{R H:Nat}(hT:Q1d ps R H)(hR:R<=8){QO:Int->Nat->Prop}{QR QU:Int->Prop}
  (q0:QO 0 R) (qo:∀p∈ps,∀a s b,p.syms=a++s::b->s.isH=true->∀t,(Q3y (hN (Q33 ps (Q0z R H))) (fun X=>hF (Q33 ps (Q0z R H)) X t) t b=true∨(b.all (Q4c (hN (Q33 ps (Q0z R H))))=true/\QO p.head t))->QO s.num t)
  (qr0:QR 0) (qr:∀p∈ps,QR p.head->∀s∈p.syms,s.isH=true->QR s.num) (qu:∀p∈ps,(∀s∈p.syms,s.isH=true->QU s.num)->QU p.head) :
  (∀X t,hO (Q33 ps (Q0z R H)) X t=true->QO X t)/\(∀X,(Q1k (Q33 ps (Q0z R H)) X).rch=true->QR X)/\(∀X,(Q1k (Q33 ps (Q0z R H)) X).fru=true->QU X):=by
 have jh:=z8d (R:Int) H;have hz:∀n,(Q1k (Q0z (R:Int) H) n).fru=false/\((Q1k (Q0z (R:Int) H) n).rch=true->n=0)/\(∀t,(Q1k (Q0z (R:Int) H) n).fo.getD t false=true->n=0/\t=R):=fun n=>by
  rw[z37];split
  ·rename_i e;unfold Q5e;split
   ·rename_i e0;refine⟨rfl,fun _=>by omega,fun t ht=>?_⟩;dsimp only at ht;rw[y0o rfl (by omega) (by omega),z4u]at ht;simp at ht;omega
   refine⟨rfl,fun q=>(by cases q),fun t ht=>?_⟩;have:zeroHd.fo=zero9:=rfl;rw[this,z4u]at ht;cases ht
  refine⟨rfl,fun q=>(by cases q),fun t ht=>?_⟩;have:zeroHd.fo=zero9:=rfl;rw[this,z4u]at ht;cases ht
 obtain⟨⟨j6,j8,j4⟩,j1,_,_⟩:=z1o (z22 ps) (I:=fun hs=>Q0o Hd.rch (Q0z (R:Int) H) hs/\Q0o Hd.fru (Q0z (R:Int) H) hs/\Q0o Hd.fo (Q0z (R:Int) H) hs)
  (fun hs _ h=>⟨h.1.trans (z1v (fun _ _ _=>rfl) ps hs false),h.2.1.trans (z1v (fun _ _ _=>rfl) ps hs false),h.2.2.trans (z1v (fun _ _ _=>rfl) ps hs false)⟩) jh ⟨Q0o.refl _ _,Q0o.refl _ _,Q0o.refl _ _⟩
 have j0:Q33 ps (Q0z (R:Int) H)=Q47 (Q73 ps) (Q47 (Q64 ps) (Q47 (Q5q ps) (Q47 (Q8h ps) (Q0z (R:Int) H)))):=rfl;generalize hq1:Q47 (Q8h ps) (Q0z (R:Int) H)=hs1 at j6 j8 j4 j1 j0;-- what later steps keep
 have k2:=z1o (z2h ps) (I:=fun hs=>Q0o Hd.nul hs1 hs/\Q0o Hd.fi hs1 hs) (fun hs _ h=>⟨h.1.trans (z1e (fun _ _=>rfl) ps hs false),h.2.trans (z1e (fun _ _=>rfl) ps hs false)⟩) j1 ⟨Q0o.refl _ _,Q0o.refl _ _⟩;obtain⟨⟨jd,jb⟩,j9,_,_⟩:=k2;obtain⟨⟨je,jc,jf,jg⟩,ja,_,_⟩:=z1o (z2g ps) (I:=fun hs=>Q0o Hd.nul (Q47 (Q5q ps) hs1) hs/\Q0o Hd.fi (Q47 (Q5q ps) hs1) hs/\Q0o Hd.fo (Q47 (Q5q ps) hs1) hs/\Q0o Hd.fru (Q47 (Q5q ps) hs1) hs) (fun hs _ h=>⟨h.1.trans (z0y (fun _ _=>rfl) ps hs false),h.2.1.trans (z0y (fun _ _=>rfl) ps hs false),h.2.2.1.trans (z0y (fun _ _=>rfl) ps hs false),h.2.2.2.trans (z0y (fun _ _=>rfl) ps hs false)⟩) j9 ⟨Q0o.refl _ _,Q0o.refl _ _,Q0o.refl _ _,Q0o.refl _ _⟩;obtain⟨⟨j3,j2,j5,j7⟩,ji,_,_⟩:=z1o (z2i ps) (I:=fun hs=>Q0o Hd.nul (Q47 (Q64 ps) (Q47 (Q5q ps) hs1)) hs/\Q0o Hd.fi (Q47 (Q64 ps) (Q47 (Q5q ps) hs1)) hs/\Q0o Hd.fo (Q47 (Q64 ps) (Q47 (Q5q ps) hs1)) hs/\Q0o Hd.rch (Q47 (Q64 ps) (Q47 (Q5q ps) hs1)) hs) (fun hs _ h=>⟨h.1.trans (z02 (fun _ _=>rfl) ps hs false),h.2.1.trans (z02 (fun _ _=>rfl) ps hs false),h.2.2.1.trans (z02 (fun _ _=>rfl) ps hs false),h.2.2.2.trans (z02 (fun _ _=>rfl) ps hs false)⟩) ja ⟨Q0o.refl _ _,Q0o.refl _ _,Q0o.refl _ _,Q0o.refl _ _⟩;rw[← j0]at j3 j2 j5 j7 ji;have eN:hN (Q33 ps (Q0z (R:Int) H))=hN hs1:=x80 ((jd.trans je).trans j3);have eF:hF (Q33 ps (Q0z (R:Int) H))=hF hs1:=x8z ((jb.trans jc).trans j2);rw[eN,eF]at qo;have i1:FoI hs1 QO hs1:=⟨j1,Q0o.refl _ _,Q0o.refl _ _,Q0o.refl _ _,Q0o.refl _ _,fun X t h=>by
  unfold hO at h;rw[j4 X]at h;obtain⟨e1,e2⟩:=(hz X).2.2 t h;rw[e1,e2];exact q0⟩
 obtain⟨i2,_,_,_⟩:=z1o (z2h ps) (I:=FoI hs1 QO) (fun hs _ h=>foSL hT hR qo ps hs false (fun _ hp=>hp) h) j1 i1;have r2:∀X,(Q1k (Q47 (Q5q ps) hs1) X).rch=true->QR X:=fun X h=>by
  rw[i2.kr X,j6 X]at h;rw[(hz X).2.1 h];exact qr0
 obtain⟨r3,_,_,_⟩:=z1o (z2g ps) (I:=fun hs=>∀X,(Q1k hs X).rch=true->QR X) (fun hs _ h=>rcRL qr ps hs false (fun _ hp=>hp) h) j9 r2;have u3:∀X,(Q1k (Q47 (Q64 ps) (Q47 (Q5q ps) hs1)) X).fru=true->QU X:=fun X h=>by
  rw[jg X,i2.ku X,j8 X,(hz X).1]at h;cases h
 obtain⟨u4,_,_,_⟩:=z1o (z2i ps) (I:=fun hs=>∀X,(Q1k hs X).fru=true->QU X) (fun hs _ h=>fuFL qu ps hs false (fun _ hp=>hp) h) ja u3;rw[← j0]at u4;refine⟨fun X t h=>i2.o X t ?_,fun X h=>r3 X ?_,u4⟩
 ·unfold hO at h ⊢;rw[j5 X,jf X]at h;exact h
 rw[j7 X]at h;exact h
def Q0w(R:Nat)(s:Sy):Int:=if s.isH then(R:Int)+1+s.num else s.num
def Pth(r:Int->Int->Prop):Nat->Int->Int->Prop
 |0,i,j=>r i j
 |n+1,i,j=>∃k,r i k/\Pth r n k j
def TC(r:Int->Int->Prop)(i j:Int):Prop:=∃n,Pth r n i j
section
variable {r:Int->Int->Prop}
theorem TC.one{i j:Int}(h:r i j):TC r i j:=⟨0,h⟩
theorem TC.cons{i k j:Int}(h:r i k)(h2:TC r k j):TC r i j:=by
 obtain⟨n,h2⟩:=h2;exact⟨n+1,k,h,h2⟩
theorem y46:∀(n m:Nat) (i k j:Int),Pth r n i k->Pth r m k j->Pth r (n+m+1) i j
 |0,m,i,k,j,h,h2=>by
  rw[qBy];exact⟨k,h,h2⟩
 |n+1,m,i,k,j,⟨x,h1,h2⟩,h3=>by
  have:=y46 n m x k j h2 h3;rw[show n+1+m+1=(n+m+1)+1 by omega];exact⟨x,h1,this⟩
theorem TC.trans{i k j:Int}(h:TC r i k)(h2:TC r k j):TC r i j:=by
 obtain⟨n,h⟩:=h;obtain⟨m,h2⟩:=h2;exact⟨_,y46 n m i k j h h2⟩
theorem TC.snoc{i k j:Int}(h:TC r i k)(h2:r k j):TC r i j:=h.trans (TC.one h2)
theorem TC.ind{Q:Int->Prop}(hq:∀i j,Q i->r i j->Q j){i j:Int}(h:TC r i j)(hi:Q i):Q j:=by
 obtain⟨n,h⟩:=h;induction n generalizing i with
 |zero=>exact hq i j hi h
 |succ n ih =>
  obtain⟨k,h1,h2⟩:=h;exact ih (hq i k hi h1) h2
end
section
variable (ps:List Pr) (R:Nat) (N:Int->Bool) (F:Int->Nat->Bool)
def Ld(c e:Int):Prop:=∃p∈ps,c=(R:Int)+1+p.head/\∃a s b,p.syms=a++s::b/\a.all (Q4c N)=true/\e=Q0w R s
def Ls(A B:Int):Prop:=∃p∈ps,p.head=A/\∃a s b,p.syms=a++s::b/\s.isH=true/\s.num=B/\b.all (Q4c N)=true
def Rc(A B:Int):Prop:=∃p∈ps,p.head=A/\∃s∈p.syms,s.isH=true/\s.num=B
def Nx(A:Int)(t:Nat):Prop:=(A=0/\t=R)∨∃p∈ps,∃a s b,p.syms=a++s::b/\s.isH=true/\s.num=A/\Q3y N (fun X=>F X t) t b=true
def Fo(A:Int)(t:Nat):Prop:=Nx ps R N F A t∨∃h,TC (Ls ps N) h A/\Nx ps R N F h t
def US:Nat->Int->Bool
 |0,_=>false
 |n+1,X=>ps.any fun p=>p.head==X&&p.syms.all fun s=>!s.isH||US n s.num
end
section
variable {ps:List Pr}{R H:Nat}{N:Int->Bool}{F:Int->Nat->Bool}
theorem v17(t:Nat):∀(n:Nat) (X:Int),FS ps N t n X=true->TC (Ld ps R N) ((R:Int)+1+X) t
 |0,X,h=>by cases h
 |n+1,X,h=>by
  unfold FS at h;rw[qBb]at h;obtain⟨p,hp,h⟩:=h;rw[qAd,qBi]at h;obtain⟨h1,h2⟩:=h;obtain⟨a,s,b,e,ha,hs⟩:=z1s h2;have st:Ld ps R N ((R:Int)+1+X) (Q0w R s):=⟨p,hp,by rw[h1],a,s,b,e,ha,rfl⟩;cases hb:s.isH
  ·rw[hb,qAa (by simp),qBi]at hs;refine TC.one ?_;have:Q0w R s=t:=by unfold Q0w;rw[hb,qAa (by simp)];exact hs
   rw[this]at st;exact st
  rw[hb,qAb rfl]at hs;have:Q0w R s=(R:Int)+1+s.num:=by unfold Q0w;rw[hb,qAb rfl]
  rw[this]at st;exact TC.cons st (v17 t n s.num hs)
theorem v2v(hT:Q1d ps R H){t:Nat}(ht:t<R):∀(n:Nat) (X:Int),Pth (Ld ps R N) n ((R:Int)+1+X) t->FS ps N t (n+1) X=true
 |0,X,h=>by
  obtain⟨p,hp,e1,a,s,b,e2,ha,e3⟩:=h;have hv:=hT.sy p hp s (by rw[e2];simp);unfold Q0w at e3;cases hb:s.isH
  ·rw[hb,qAa (by simp)]at e3;unfold FS;rw[qBb];refine⟨p,hp,?_⟩;rw[qAd,qBi];refine⟨by omega,?_⟩;rw[e2];exact z28 s b (by rw[hb,qAa (by simp),qBi];exact e3.symm) a ha
  rw[hb,qAb rfl]at e3;omega
 |n+1,X,⟨k,h1,h2⟩=>by
  obtain⟨p,hp,e1,a,s,b,e2,ha,e3⟩:=h1;have hv:=hT.sy p hp s (by rw[e2];simp);unfold Q0w at e3;cases hb:s.isH
  ·exfalso;rw[hb,qAa (by simp)]at e3 hv;have hq:∃q∈ps,k=(R:Int)+1+q.head:=by
    cases n with
    |zero=>obtain⟨q,hq,e,_⟩:=h2;exact⟨q,hq,e⟩
    |succ n=>obtain⟨_,⟨q,hq,e,_⟩,_⟩:=h2;exact⟨q,hq,e⟩
   obtain⟨q,hq,e⟩:=hq;have:=hT.hd q hq;omega
  rw[hb,qAb rfl]at e3;rw[e3]at h2;have ih:=v2v hT ht n s.num h2;unfold FS;rw[qBb];refine⟨p,hp,?_⟩;rw[qAd,qBi];refine⟨by omega,?_⟩;rw[e2];exact z28 s b (by rw[hb,qAb rfl];exact ih) a ha
theorem x8w(hT:Q1d ps R H){t:Nat}(ht:t<R){X:Int}(h0:0<=X)(h1:X<H):FS ps N t H X=true↔TC (Ld ps R N) ((R:Int)+1+X) t :=
 ⟨v17 t H X,fun⟨n,h⟩=>x8r hT N t (n+1) X h0 h1 (v2v hT ht n X h)⟩
theorem x9y(hT:Q1d ps R H){t:Nat}(ht:t<R){l:List Sy}(hv:∀s∈l,0<=s.num/\s.num<(if s.isH then(H:Int) else R)) :
  Q3y N (fun X=>FS ps N t H X) t l=true↔∃a s b,l=a++s::b/\a.all (Q4c N)=true/\(Q0w R s=t∨TC (Ld ps R N) (Q0w R s) t):=by
 constructor
 ·intro h;obtain⟨a,s,b,e,ha,hs⟩:=z1s h;have j0:=hv s (by rw[e];simp);refine⟨a,s,b,e,ha,?_⟩;unfold Q0w;cases hb:s.isH
  ·rw[hb,qAa (by simp),qBi]at hs;left;rw[qAa (by simp)];exact hs
  rw[hb,qAb rfl]at hs j0;right;rw[qAb rfl];exact(x8w hT ht j0.1 j0.2).1 hs
 rintro⟨a,s,b,e,ha,hs⟩;have j0:=hv s (by rw[e];simp);rw[e];refine z28 s b ?_ a ha;unfold Q0w at hs;cases hb:s.isH
 ·rw[hb,qAa (by simp)]at hs j0;rw[qAa (by simp),qBi];rcases hs with hs|⟨n,hs⟩
  ·exact hs
  exfalso;have hq:∃q∈ps,s.num=(R:Int)+1+q.head:=by
   cases n with
   |zero=>obtain⟨q,hq,e,_⟩:=hs;exact⟨q,hq,e⟩
   |succ n=>obtain⟨_,⟨q,hq,e,_⟩,_⟩:=hs;exact⟨q,hq,e⟩
  obtain⟨q,hq,e⟩:=hq;have:=hT.hd q hq;omega
 rw[hb,qAb rfl]at hs j0;rw[qAb rfl];rcases hs with hs|hs
 ·omega
 exact(x8w hT ht j0.1 j0.2).2 hs
structure SetsAre(ps:List Pr)(R H:Nat)(hs:List Hd):Prop where
 n:∀X,hN hs X=NS ps H X
 f:∀X t,hF hs X t=FS ps (NS ps H) t H X
 o:∀X t,hO hs X t=true↔Fo ps R (NS ps H) (fun X t=>FS ps (NS ps H) t H X) X t
 r:∀X,(Q1k hs X).rch=true↔X=0∨TC (Rc ps) 0 X
 u:∀X,(Q1k hs X).fru=true↔∃n,US ps n X=true
theorem v2i(hs:List Hd)(hS:Q90 ps R H hs):∀(n:Nat) (X:Int),NS ps n X=true->hN hs X=true
 |0,X,h=>by cases h
 |n+1,X,h=>by
  unfold NS at h;rw[qBb]at h;obtain⟨p,hp,h⟩:=h;rw[qAd,qBi]at h;obtain⟨h1,h2⟩:=h;rw[← h1];refine hS.clN p hp ?_;rw[z4h,qAy];rw[qAy]at h2;intro s j0;have:=h2 s j0;rw[qAd]at this;unfold Q4c;rw[qAd];exact⟨this.1,v2i hs hS n _ this.2⟩
theorem v15(hT:Q1d ps R H)(hR:R<=8)(hs:List Hd)(hS:Q90 ps R H hs)(hn:hN hs=N)(t:Nat):∀(n:Nat) (X:Int),FS ps N t n X=true->hF hs X t=true
 |0,X,h=>by cases h
 |n+1,X,h=>by
  unfold FS at h;rw[qBb]at h;obtain⟨p,hp,h⟩:=h;rw[qAd,qBi]at h;obtain⟨h1,h2⟩:=h;rw[← h1];refine hS.clF p hp t ?_;rw[z61 hS.ok hR t p.syms zero9 rfl (hT.sy p hp),z4u,qDj,hn];exact z33 (fun Y hY=>v15 hT hR hs hS hn t n Y hY) _ h2
theorem y7u:∀(n:Nat) (X:Int),US ps n X=true->US ps (n+1) X=true
 |0,X,h=>by cases h
 |n+1,X,h=>by
  unfold US at h ⊢;rw[qBb]at h ⊢;obtain⟨p,hp,h⟩:=h;refine⟨p,hp,?_⟩;rw[qAd,qAy]at h ⊢;refine⟨h.1,fun s hs=>?_⟩;have:=h.2 s hs;rw[qAt]at this ⊢;rcases this with q|q
  ·exact .inl q
  exact .inr (y7u n _ q)
theorem v22{n m:Nat}(h:n<=m){X:Int}(hx:US ps n X=true):US ps m X=true:=by
 obtain⟨k,rfl⟩:∃k,m=n+k:=⟨m-n,by omega⟩;clear h;induction k with
 |zero=>exact hx
 |succ k ih=>exact y7u _ _ ih
theorem v20(l:List Sy)(h:∀s∈l,s.isH=true->∃n,US ps n s.num=true):∃n,(l.all fun s=>!s.isH||US ps n s.num)=true:=by
 induction l with
 |nil=>exact⟨0,rfl⟩
 |cons s l ih =>
  obtain⟨n,hn⟩:=ih (fun x hx=>h x (by simp[hx]));rw[qAy]at hn;cases hb:s.isH
  ·refine⟨n,?_⟩;rw[qDv,hb];simp only[Bool.not_false,Bool.true_or,qBm];rw[qAy];exact hn
  obtain⟨m,hm⟩:=h s (by simp) hb;refine⟨max n m,?_⟩;rw[qDv,qAd,qAy];refine⟨by rw[v22 (Nat.le_max_right n m) hm];simp,fun x hx=>?_⟩;have:=hn x hx;rw[qAt]at this ⊢;rcases this with q|q
  ·exact .inl q
  exact .inr (v22 (Nat.le_max_left n m) q)
theorem v21(hs:List Hd)(hS:Q90 ps R H hs):∀(n:Nat) (X:Int),US ps n X=true->(Q1k hs X).fru=true
 |0,X,h=>by cases h
 |n+1,X,h=>by
  unfold US at h;rw[qBb]at h;obtain⟨p,hp,h⟩:=h;rw[qAd,qBi]at h;obtain⟨h1,h2⟩:=h;rw[← h1];refine hS.clU p hp ?_;unfold Q45;rw[qAy]at h2 ⊢;intro s j0;have:=h2 s j0;unfold fruB;rw[qAt]at this ⊢;rcases this with q|q
  ·exact .inl q
  exact .inr (v21 hs hS n _ q)
theorem x71(hT:Q1d ps R H)(hR:R<=8)(hH:0<H):SetsAre ps R H (Q33 ps (Q0z R H)):=by
 have hS:=z8o hT hR;have hD:=x1v hT hR;have en:∀X,hN (Q33 ps (Q0z R H)) X=NS ps H X:=fun X=>by
  rw[qBc];exact⟨hD.n X,v2i _ hS H X⟩
 have j0:hN (Q33 ps (Q0z R H))=NS ps H:=funext en;have ef:∀X t,hF (Q33 ps (Q0z R H)) X t=FS ps (NS ps H) t H X:=fun X t=>by
  rw[qBc];exact⟨hD.f X t,v15 hT hR _ hS j0 t H X⟩
 have j1:hF (Q33 ps (Q0z R H))=fun X t=>FS ps (NS ps H) t H X:=funext fun X=>funext fun t=>ef X t;have low:=x57 hT hR (QO:=Fo ps R (NS ps H) (fun X t=>FS ps (NS ps H) t H X)) (QR:=fun X=>X=0∨TC (Rc ps) 0 X) (QU:=fun X=>∃n,US ps n X=true)
  (.inl (.inl ⟨rfl,rfl⟩)) (by
   intro p hp a s b e hs t h;rw[j0,j1]at h;rcases h with h|⟨hb,h⟩
   ·exact .inl (.inr ⟨p,hp,a,s,b,e,hs,rfl,h⟩)
   ·have st:Ls ps (NS ps H) p.head s.num:=⟨p,hp,rfl,a,s,b,e,hs,rfl,hb⟩;rcases h with h|⟨k,h1,h2⟩
    ·exact .inr ⟨p.head,TC.one st,h⟩
    exact .inr ⟨k,h1.snoc st,h2⟩) (.inl rfl) (by
   intro p hp h s hs hb;have st:Rc ps p.head s.num:=⟨p,hp,rfl,s,hs,hb,rfl⟩;right;rcases h with h|h
   ·rw[h]at st;exact TC.one st
   ·exact h.snoc st) (by
   intro p hp h;obtain⟨n,hn⟩:=v20 p.syms h;refine⟨n+1,?_⟩;unfold US;rw[qBb];exact⟨p,hp,by rw[qAd,qBi];exact⟨rfl,hn⟩⟩)
 have j2:∀p∈ps,∀a s b,p.syms=a++s::b->s.isH=true->∀t:Nat,(Q3y (NS ps H) (fun X=>FS ps (NS ps H) t H X) t b=true∨(b.all (Q4c (NS ps H))=true/\hO (Q33 ps (Q0z R H)) p.head t=true))->hO (Q33 ps (Q0z R H)) s.num t=true:=by
  intro p hp a s b e hs t h;refine hS.clS p hp a s b e hs t ?_;rw[z89 hS.ok hR t p.head b (fun x hx=>hT.sy p hp x (by rw[e];simp[hx])),j0,j1,qAt,qAd];exact h
 have j3:∀X t,Nx ps R (NS ps H) (fun X t=>FS ps (NS ps H) t H X) X t->hO (Q33 ps (Q0z R H)) X t=true:=by
  rintro X t (⟨rfl,rfl⟩|⟨p,hp,a,s,b,e,hs,rfl,hb⟩)
  ·exact hS.st2 hH
  exact j2 p hp a s b e hs t (.inl hb)
 refine⟨en,ef,fun X t=>⟨low.1 X t,?_⟩,fun X=>⟨low.2.1 X,?_⟩,fun X=>⟨low.2.2 X,fun⟨n,h⟩=>v21 _ hS n X h⟩⟩
 ·rintro(h|⟨k,h1,h2⟩)
  ·exact j3 X t h
  refine TC.ind (Q:=fun A=>hO (Q33 ps (Q0z R H)) A t=true) (fun i j hi hij=>?_) h1 (j3 k t h2);obtain⟨p,hp,e1,a,s,b,e2,hs,e3,hb⟩:=hij;rw[← e3];exact j2 p hp a s b e2 hs t (.inr ⟨hb,by rw[e1];exact hi⟩)
 rintro(rfl|h)
 ·exact hS.st1 hH
 refine TC.ind (Q:=fun A=>(Q1k (Q33 ps (Q0z R H)) A).rch=true) (fun i j hi hij=>?_) h (hS.st1 hH);obtain⟨p,hp,e1,s,hs,hb,e2⟩:=hij;rw[← e2];exact hS.clR p hp (by rw[e1];exact hi) s hs hb
end
abbrev Mat:=List (List Bool)
def atM(M:Mat)(i j:Nat):Bool:=(M.getD i []).getD j false
def Q72(M:Mat)(i j:Nat)(b:Bool):Mat:=M.set i ((M.getD i []).set j b)
structure Sq(n:Nat)(M:Mat):Prop where
 len:M.length=n
 row:∀i,i<n->(M.getD i []).length=n
theorem Sq.atM_lt{n:Nat}{M:Mat}(h:Sq n M){i j:Nat}(e:atM M i j=true):i<n/\j<n:=by
 by_cases hi:i<n
 ·refine⟨hi,?_⟩;by_cases hj:j<n
  ·exact hj
  exfalso;unfold atM at e;rw[qD (i:=j),qN (by rw[h.row i hi];omega)]at e;cases e
 exfalso;unfold atM at e;rw[qD (i:=i),qN (by rw[h.len];omega)]at e;cases e
theorem z2a{α:Type}(l:List α)(i x:Nat)(a d:α)(hi:i<l.length):(l.set i a).getD x d=if x=i then a else l.getD x d:=by
 rw[qD,qD,qCs];by_cases e:i=x
 ·rw[qAb e,qAb (by omega),qAb e.symm];rfl
 rw[qAa e,qAa (fun q=>e q.symm)]
theorem x45{n:Nat}{M:Mat}(h:Sq n M){i j:Nat}(hi:i<n)(hj:j<n)(b:Bool)(x y:Nat):atM (Q72 M i j b) x y=if x=i/\y=j then b else atM M x y:=by
 unfold atM Q72;rw[z2a _ _ _ _ _ (by rw[h.len];exact hi)];by_cases e:x=i
 ·rw[qAb e,z2a _ _ _ _ _ (by rw[h.row i hi];exact hj)];by_cases e2:y=j
  ·rw[qAb e2,qAb ⟨e,e2⟩]
  rw[qAa e2,qAa (fun q=>e2 q.2),e]
 rw[qAa e,qAa (fun q=>e q.1)]
theorem y0b{n:Nat}{M:Mat}(h:Sq n M){i j:Nat}(hi:i<n)(b:Bool):Sq n (Q72 M i j b):=by
 refine⟨by unfold Q72;rw[qBr];exact h.len,fun x hx=>?_⟩;unfold Q72;rw[z2a _ _ _ _ _ (by rw[h.len];exact hi)];split
 ·rw[qBr];exact h.row i hi
 exact h.row x hx
def wJ(k i:Nat):Nat->Nat->Mat->Mat
 |0,_,M=>M
 |f+1,j,M=>wJ k i f (j+1) (Q72 M i j (atM M i j||(atM M i k&&atM M k j)))
def wI(k n:Nat):Nat->Nat->Mat->Mat
 |0,_,M=>M
 |f+1,i,M=>wI k n f (i+1) (wJ k i n 0 M)
def wK(n:Nat):Nat->Nat->Mat->Mat
 |0,_,M=>M
 |f+1,k,M=>wK n f (k+1) (wI k n n 0 M)
def Q5j(M:Mat):Mat:=wK M.length M.length 0 M
section
variable {n:Nat}{Q:Nat->Nat->Prop}
theorem x9i(hq:∀x k y,Q x k->Q k y->Q x y){k i:Nat}(hk:k<n)(hi:i<n):∀(f j:Nat) (M:Mat),j+f<=n->Sq n M->(∀x y,atM M x y=true->Q x y) ->
  Sq n (wJ k i f j M)/\(∀x y,atM M x y=true->atM (wJ k i f j M) x y=true)/\(∀x y,atM (wJ k i f j M) x y=true->Q x y)/\(∀y,j<=y->y<j+f->atM M i k=true->atM M k y=true->atM (wJ k i f j M) i y=true)
 |0,j,M,hf,hs,h=>⟨hs,fun _ _ e=>e,h,fun y h1 h2=>by omega⟩
 |f+1,j,M,hf,hs,h=>by
  have hs':=y0b hs (j:=j) hi (atM M i j||(atM M i k&&atM M k j));have ha:=x45 hs hi (show j<n by omega) (atM M i j||(atM M i k&&atM M k j));have mono:∀x y,atM M x y=true->atM (Q72 M i j (atM M i j||(atM M i k&&atM M k j))) x y=true:=fun x y e=>by
   rw[ha x y];split
   ·rename_i q;rw[q.1,q.2]at e;rw[e];rfl
   exact e
  have j0:∀x y,atM (Q72 M i j (atM M i j||(atM M i k&&atM M k j))) x y=true->Q x y:=fun x y e=>by
   rw[ha x y]at e;split at e
   ·rename_i q;rw[q.1,q.2];rw[qAt,qAd]at e;rcases e with e|e
    ·exact h _ _ e
    exact hq i k j (h _ _ e.1) (h _ _ e.2)
   exact h x y e
  obtain⟨r1,r2,r3,r4⟩:=x9i hq hk hi f (j+1) _ (by omega) hs' j0;unfold wJ;refine⟨r1,fun x y e=>r2 x y (mono x y e),r3,fun y h1 h2 e1 e2=>?_⟩;by_cases c:y=j
  ·subst c;refine r2 i y ?_;rw[ha i y,qAb ⟨rfl,rfl⟩,e1,e2];simp
  exact r4 y (by omega) (by omega) (mono _ _ e1) (mono _ _ e2)
theorem x9h(hq:∀x k y,Q x k->Q k y->Q x y){k:Nat}(hk:k<n):∀(f i:Nat) (M:Mat),i+f<=n->Sq n M->(∀x y,atM M x y=true->Q x y) ->
  Sq n (wI k n f i M)/\(∀x y,atM M x y=true->atM (wI k n f i M) x y=true)/\(∀x y,atM (wI k n f i M) x y=true->Q x y)/\(∀x y,i<=x->x<i+f->y<n->atM M x k=true->atM M k y=true->atM (wI k n f i M) x y=true)
 |0,i,M,hf,hs,h=>⟨hs,fun _ _ e=>e,h,fun x y h1 h2=>by omega⟩
 |f+1,i,M,hf,hs,h=>by
  obtain⟨q1,q2,q3,q4⟩:=x9i hq hk (show i<n by omega) n 0 M (by omega) hs h;obtain⟨r1,r2,r3,r4⟩:=x9h hq hk f (i+1) _ (by omega) q1 q3;unfold wI;refine⟨r1,fun x y e=>r2 x y (q2 x y e),r3,fun x y h1 h2 hy e1 e2=>?_⟩;by_cases c:x=i
  ·subst c;exact r2 x y (q4 y (by omega) (by omega) e1 e2)
  exact r4 x y (by omega) (by omega) hy (q2 _ _ e1) (q2 _ _ e2)
def ViaM(r:Nat->Nat->Prop):Nat->Nat->Nat->Prop
 |0,i,j=>r i j
 |k+1,i,j=>ViaM r k i j∨(ViaM r k i k/\ViaM r k k j)
theorem z6v{r:Nat->Nat->Prop}:∀(k i x j:Nat),x<k->ViaM r k i x->ViaM r k x j->ViaM r k i j
 |0,i,x,j,hx,_,_=>by omega
 |k+1,i,x,j,hx,h1,h2=>by
  by_cases c:x=k
  ·subst c;refine .inr ⟨?_,?_⟩
   ·rcases h1 with h|h
    ·exact h
    exact h.1
   rcases h2 with h|h
   ·exact h
   exact h.2
  have hx':x<k:=by omega
  rcases h1 with h1|⟨a1,a2⟩
  ·rcases h2 with h2|⟨b1,b2⟩
   ·exact .inl (z6v k i x j hx' h1 h2)
   exact .inr ⟨z6v k i x k hx' h1 b1,b2⟩
  rcases h2 with h2|⟨b1,b2⟩
  ·exact .inr ⟨a1,z6v k k x j hx' a2 h2⟩
  exact .inr ⟨a1,b2⟩
theorem x9j(hq:∀x k y,Q x k->Q k y->Q x y){r:Nat->Nat->Prop}(hr:∀i j,r i j->i<n/\j<n):∀(f k:Nat) (M:Mat),k+f=n->Sq n M->(∀x y,atM M x y=true->Q x y)->(∀x y,x<n->y<n->ViaM r k x y->atM M x y=true) ->
  Sq n (wK n f k M)/\(∀x y,atM (wK n f k M) x y=true->Q x y)/\(∀x y,x<n->y<n->ViaM r n x y->atM (wK n f k M) x y=true)
 |0,k,M,hf,hs,h,hv=>by
  have e:k=n:=by omega
  subst e;exact⟨hs,h,hv⟩
 |f+1,k,M,hf,hs,h,hv=>by
  obtain⟨q1,q2,q3,q4⟩:=x9h hq (show k<n by omega) n 0 M (by omega) hs h;unfold wK;refine x9j hq hr f (k+1) _ (by omega) q1 q3 (fun x y hx hy j0=>?_);rcases j0 with j0|⟨a1,a2⟩
  ·exact q2 x y (hv x y hx hy j0)
  exact q4 x y (by omega) (by omega) hy (hv x k hx (by omega) a1) (hv k y (by omega) hy a2)
end
def relM(M:Mat)(i j:Int):Prop:=0<=i/\0<=j/\atM M i.toNat j.toNat=true
theorem z8v{n:Nat}{M:Mat}(h:Sq n M):Sq n (Q5j M)/\∀i j:Nat,atM (Q5j M) i j=true↔TC (relM M) i j:=by
 have hr:∀i j,(fun i j=>atM M i j=true) i j->i<n/\j<n:=fun i j e=>h.atM_lt e;obtain⟨q1,q2,q3⟩:=x9j (n:=n) (Q:=fun x y:Nat=>TC (relM M) x y) (fun x k y h1 h2=>h1.trans h2) (r:=fun i j=>atM M i j=true) hr n 0 M (by omega) h
  (fun x y e=>TC.one ⟨by omega,by omega,by simpa using e⟩) (fun x y _ _ e=>e)
 have e:Q5j M=wK n n 0 M:=by unfold Q5j;rw[h.len]
 rw[e];refine⟨q1,fun i j=>⟨q2 i j,fun ht=>?_⟩⟩;have vz:∀(k i j:Nat),atM M i j=true->ViaM (fun i j=>atM M i j=true) k i j:=fun k=>by
  induction k with
  |zero=>exact fun i j e=>e
  |succ k ih=>exact fun i j e=>.inl (ih i j e)
 have j0:∀(m:Nat) (a b:Int),Pth (relM M) m a b->0<=a/\0<=b/\a.toNat<n/\b.toNat<n/\ViaM (fun i j=>atM M i j=true) n a.toNat b.toNat:=fun m=>by
  induction m with
  |zero =>
   rintro a b⟨h1,h2,h3⟩;have:=h.atM_lt h3;exact⟨h1,h2,this.1,this.2,vz n _ _ h3⟩
  |succ m ih =>
   rintro a b⟨c,⟨h1,h2,h3⟩,h4⟩;obtain⟨g1,g2,g3,g4,g5⟩:=ih c b h4;have:=h.atM_lt h3;exact⟨h1,g2,this.1,g4,z6v n _ _ _ g3 (vz n _ _ h3) g5⟩
 obtain⟨m,hm⟩:=ht;obtain⟨g1,g2,g3,g4,g5⟩:=j0 m i j hm;simp only[qAo]at g3 g4 g5;exact q3 i j g3 g4 g5
abbrev Q1:=Int × List Int
def Q0e(R:Nat)(ps:List Pr):List Q1:=ps.map fun p=>(p.head,p.syms.map (Q0w R))
def Q6r(base:Int)(rules:Bool)(out:List Bool)(c:Int):Bool:=(decide (c-base<0)&&rules)||(decide (0<=c-base)&&out.getD (c-base).toNat false)
def W0a(base:Int)(rules:Bool)(out:List Bool):List Q1->List Bool->List Bool
 | [],next=>next
 |x::r,next=>W0a base rules out r (next.set x.1.toNat (next.getD x.1.toNat false||x.2.all (Q6r base rules out)))
def derN(base:Int)(rules:Bool)(q:List Q1):Nat->List Bool->List Bool
 |0,out=>out
 |n+1,out=>derN base rules q n (W0a base rules out q out)
def Q4q(base:Int)(rules:Bool)(q:List Q1)(H:Nat):List Bool:=derN base rules q H (List.replicate H false)
def Q4b(base:Int)(null:List Bool)(l:List Int):Bool:=l.all fun c=>decide (0<=c-base)&&null.getD (c-base).toNat false
section
variable {ps:List Pr}{R H:Nat}
theorem z1r{s:Sy}(hb:s.isH=true):Q0w R s-((R:Int)+1)=s.num:=by unfold Q0w;rw[hb,qAb rfl];omega
theorem z35{s:Sy}(hb:s.isH=false):Q0w R s=s.num:=by unfold Q0w;rw[hb,qAa (by simp)]
theorem y8h(base:Int)(rules:Bool)(out:List Bool):∀(q:List Q1) (next:List Bool),(W0a base rules out q next).length=next.length
 | [],_=>rfl
 |x::r,next=>by unfold W0a;rw[y8h base rules out r,qBr]
theorem x2k(base:Int)(rules:Bool)(out:List Bool)(h:Nat):∀(q:List Q1) (next:List Bool),(∀x∈q,0<=x.1/\x.1<next.length) ->
  (W0a base rules out q next).getD h false=(next.getD h false||q.any fun x=>x.1==(h:Int)&&x.2.all (Q6r base rules out))
 | [],next,_=>by simp[W0a]
 |x::r,next,hq=>by
  have hx:=hq x (by simp);unfold W0a;rw[x2k base rules out h r _ (fun y hy=>by rw[qBr];exact hq y (by simp[hy])),z2a _ _ _ _ _ (by omega),List.any_cons];by_cases e:h=x.1.toNat
  ·rw[qAb e];have e2:(x.1==(h:Int))=true:=by rw[qBi];omega
   rw[e2,e,qBm,Bool.or_assoc]
  rw[qAa e];have e2:(x.1==(h:Int))=false:=by rw[beq_eq_false_iff_ne];omega
  rw[e2,qDh,qDj]
theorem v1v{out:List Bool}{rules:Bool}{s:Sy}(hv:0<=s.num/\s.num<(if s.isH then(H:Int) else R)):Q6r ((R:Int)+1) rules out (Q0w R s)=if s.isH then out.getD s.num.toNat false else rules:=by
 unfold Q6r;cases hb:s.isH
 ·rw[hb,qAa (by simp)]at hv;rw[z35 hb,qAa (by simp),qCj (by omega),qCa (by omega)];simp
 rw[z1r hb,qAb rfl,qCa (by omega),qCj (by omega)];simp
theorem y8e(hT:Q1d ps R H):∀x∈Q0e R ps,0<=x.1/\x.1<H:=by
 intro x hx;unfold Q0e at hx;rw[qBj]at hx;obtain⟨p,hp,rfl⟩:=hx;exact hT.hd p hp
theorem y6t(hT:Q1d ps R H){rules:Bool}{D:Nat->Int->Bool}(hm:∀n X,D n X=true->D (n+1) X=true)
  (hD:∀n X,D (n+1) X=ps.any fun p=>p.head==X&&p.syms.all fun s=>if s.isH then D n s.num else rules):∀(n m:Nat) (out:List Bool),out.length=H->(∀h:Nat,h<H->out.getD h false=D m h) ->
  (derN ((R:Int)+1) rules (Q0e R ps) n out).length=H/\∀h:Nat,h<H->(derN ((R:Int)+1) rules (Q0e R ps) n out).getD h false=D (m+n) h
 |0,m,out,hl,h=>⟨hl,h⟩
 |n+1,m,out,hl,h=>by
  unfold derN;have:=y6t hT hm hD n (m+1) (W0a ((R:Int)+1) rules out (Q0e R ps) out) (by rw[y8h];exact hl) (fun k hk=>by
   rw[x2k _ _ _ _ _ _ (by rw[hl];exact y8e hT),h k hk,hD];have e:(Q0e R ps).any (fun x=>x.1==(k:Int)&&x.2.all (Q6r ((R:Int)+1) rules out))=ps.any fun p=>p.head==(k:Int)&&p.syms.all fun s=>if s.isH then D m s.num else rules:=by
    unfold Q0e;rw[List.any_map];refine z32 (fun p hp=>?_);dsimp only[Function.comp];congr 1;rw[List.all_map];refine z31 (fun s hs=>?_);dsimp only[Function.comp];have hv:=hT.sy p hp s hs;rw[v1v hv];cases hb:s.isH
    ·simp
    rw[hb,qAb rfl]at hv;rw[qAb rfl,qAb rfl,h s.num.toNat (by omega),show((s.num.toNat:Nat):Int)=s.num by omega]
   rw[e,← hD];cases c:D m (k:Int)
   ·simp
   rw[hm m _ c];simp)
  rw[show m+(n+1)=m+1+n by omega];exact this
theorem z83(hT:Q1d ps R H):(Q4q ((R:Int)+1) false (Q0e R ps) H).length=H/\∀h:Nat,h<H->(Q4q ((R:Int)+1) false (Q0e R ps) H).getD h false=NS ps H h:=by
 have:=y6t hT (rules:=false) (D:=NS ps) (y6i ps) (fun n X=>by
  rw[NS];refine z32 (fun p hp=>?_);congr 1;refine z31 (fun s hs=>?_);cases s.isH<;>simp) H 0 (List.replicate H false) (by simp) (fun h hh=>by rw[qD];simp[hh,NS])
 rw[qBy]at this;exact this
theorem x6f(hT:Q1d ps R H):(Q4q ((R:Int)+1) true (Q0e R ps) H).length=H/\∀h:Nat,h<H->(Q4q ((R:Int)+1) true (Q0e R ps) H).getD h false=US ps H h:=by
 have:=y6t hT (rules:=true) (D:=US ps) y7u (fun n X=>by
  rw[US];refine z32 (fun p hp=>?_);congr 1;refine z31 (fun s hs=>?_);cases s.isH<;>simp) H 0 (List.replicate H false) (by simp) (fun h hh=>by rw[qD];simp[hh,US])
 rw[qBy]at this;exact this
structure Q7g(ps:List Pr)(H:Nat)(null:List Bool):Prop where
 len:null.length=H
 at':∀h:Nat,h<H->null.getD h false=NS ps H h
theorem y2u{null:List Bool}(hn:Q7g ps H null){l:List Sy}(hv:∀s∈l,0<=s.num/\s.num<(if s.isH then(H:Int) else R)):Q4b ((R:Int)+1) null (l.map (Q0w R))=l.all (Q4c (NS ps H)):=by
 unfold Q4b;rw[List.all_map];refine z31 (fun s hs=>?_);dsimp only[Function.comp];have h:=hv s hs;unfold Q4c;cases hb:s.isH
 ·rw[hb,qAa (by simp)]at h;rw[z35 hb,qCa (by omega)];simp
 rw[hb,qAb rfl]at h;rw[z1r hb,qCj (by omega),hn.at' s.num.toNat (by omega),show((s.num.toNat:Nat):Int)=s.num by omega]
end
def Q4g(ns:List Q0q)(o:Option Nat)(a b:Nat):Prop :=
 ∃x,ns[a]? = some x/\b<ns.length/\match o with
  |none=>x.reads=false/\((b:Int)=x.next∨(b:Int)=x.other)
  |some c=>x.reads=true/\Q5y x.set c=true/\(b:Int)=x.next
def Run(ns:List Q0q):List (Option Nat)->Nat->Nat->Prop
 | [],a,b=>a=b
 |o::r,a,b=>∃m,Q4g ns o a m/\Run ns r m b
def Q2n(ns:List Q0q)(a:Nat)(w:List Nat)(b:Nat):Prop:=∃r,Run ns r a b/\r.filterMap id=w
theorem Run.append{ns:List Q0q}:∀{r q:List (Option Nat)}{a b c:Nat},Run ns r a b->Run ns q b c->Run ns (r++q) a c
 | [],_,_,_,_,h,k=>by cases h;exact k
 |_::_,_,_,_,_,⟨m,h1,h2⟩,k=>⟨m,h1,h2.append k⟩
theorem Run.split{ns:List Q0q}:∀{r q:List (Option Nat)}{a c:Nat},Run ns (r++q) a c->∃b,Run ns r a b/\Run ns q b c
 | [],_,a,_,h=>⟨a,rfl,h⟩
 |_::_,_,_,_,⟨m,h1,h2⟩=>by
  obtain⟨b,k1,k2⟩:=h2.split;exact⟨b,⟨m,h1,k1⟩,k2⟩
theorem Q2n.refl(ns:List Q0q)(a:Nat):Q2n ns a [] a:=⟨[],rfl,rfl⟩
theorem Q2n.trans{ns:List Q0q}{a b c:Nat}{u v:List Nat}(h:Q2n ns a u b)(k:Q2n ns b v c):Q2n ns a (u++v) c:=by
 obtain⟨r,h1,h2⟩:=h;obtain⟨q,k1,k2⟩:=k;exact⟨r++q,h1.append k1,by rw[List.filterMap_append,h2,k2]⟩
theorem Q2n.eps{ns:List Q0q}{a b:Nat}(h:Q4g ns none a b):Q2n ns a [] b:=⟨[none],⟨b,h,rfl⟩,rfl⟩
theorem Q2n.byte{ns:List Q0q}{a b c:Nat}(h:Q4g ns (some c) a b):Q2n ns a [c] b:=⟨[some c],⟨b,h,rfl⟩,rfl⟩
theorem z9v{n:Nat}{l:List Nat}{m:Int}{x:Nat}(hl:∀y∈l,y<n):x∈Q1f n l m↔x∈l∨(x<n/\(x:Int)=m):=by
 unfold Q1f;split
 ·rename_i h;rw[qU,qM];constructor
  ·rintro(h1|rfl)
   ·exact .inl h1
   exact .inr ⟨by omega,by omega⟩
  rintro(h1|⟨_,h1⟩)
  ·exact .inl h1
  exact .inr (by omega)
 rename_i h;constructor
 ·exact .inl
 rintro(h1|⟨h1,h2⟩)
 ·exact h1
 rcases Classical.em (m.toNat∈l)with q|q
 ·rwa [show m.toNat=x by omega]at q
 exact absurd ⟨by omega,by omega,q⟩ h
theorem y39(n:Nat)(l:List Nat)(m:Int):∃t,Q1f n l m=l++t:=by
 unfold Q1f;split
 ·exact⟨_,rfl⟩
 exact⟨[],by simp⟩
theorem z5d(ns:List Q0q):∀(f i:Nat) (l:List Nat),l.Nodup->(∀x∈l,x<ns.length)->ns.length+1<=f+i->i<=l.length ->
  (∀j (hj:j<l.length),j<i->∀b,Q4g ns none l[j] b->b∈l) ->
  (∀x∈l,x∈Q28 ns f i l)/\(∀x∈Q28 ns f i l,x<ns.length)/\(∀x∈Q28 ns f i l,∃a∈l,Q2n ns a [] x)/\(∀x∈Q28 ns f i l,∀b,Q4g ns none x b->b∈Q28 ns f i l)
 |0,i,l,hd,hl,hf,hi,hc=>by
  have h1:l.length<=ns.length:=z4d hd hl;omega
 |f+1,i,l,hd,hl,hf,hi,hc=>by
  unfold Q28;by_cases h:i<l.length
  ·rw[qEt h];have j0:l[i]<ns.length:=hl _ (qG h);rw[qE j0];simp only[];by_cases hr:ns[l[i]].reads=true
   ·rw[qAb hr];refine z5d ns f (i+1) l hd hl (by omega) (by omega) (fun j hj hji b hs=>?_);by_cases e:j=i
    ·subst e;obtain⟨x,hx,_,j4,_⟩:=hs;rw[qE j0]at hx;have:ns[l[j]]=x:=by simpa using hx
     rw[this]at hr;rw[hr]at j4;cases j4
    exact hc j hj (by omega) b hs
   rw[qAa hr];have j3:ns[l[i]].reads=false:=by simpa using hr
   have j2:=z36 ns[l[i]].next hl;have j5:=z36 ns[l[i]].other j2;obtain⟨t1,e1⟩:=y39 ns.length l ns[l[i]].next;obtain⟨t2,e2⟩:=y39 ns.length (Q1f ns.length l ns[l[i]].next) ns[l[i]].other;have ee:Q1f ns.length (Q1f ns.length l ns[l[i]].next) ns[l[i]].other=l++(t1++t2):=by rw[e2,e1,qAs]
   have hm:∀x,x∈Q1f ns.length (Q1f ns.length l ns[l[i]].next) ns[l[i]].other↔x∈l∨Q4g ns none l[i] x:=fun x=>by
    rw[z9v j2,z9v hl];constructor
    ·rintro((q|⟨q1,q2⟩)|⟨q1,q2⟩)
     ·exact .inl q
     ·exact .inr ⟨_,qE j0,q1,j3,.inl q2⟩
     exact .inr ⟨_,qE j0,q1,j3,.inr q2⟩
    rintro(q|⟨y,q1,q2,q3,q4⟩)
    ·exact .inl (.inl q)
    rw[qE j0]at q1;have:ns[l[i]]=y:=by simpa using q1
    subst this;rcases q4 with q4|q4
    ·exact .inl (.inr ⟨q2,q4⟩)
    exact .inr ⟨q2,q4⟩
   obtain⟨r1,r2,r3,r4⟩:=z5d ns f (i+1) _ (z29 _ (z29 _ hd)) j5 (by omega) (by rw[ee];simp;omega) (fun j hj hji b hs=>by
    have j1:j<l.length:=by omega
    have ej:(Q1f ns.length (Q1f ns.length l ns[l[i]].next) ns[l[i]].other)[j]=l[j]:=by simp only[ee];rw[List.getElem_append_left j1]
    rw[ej]at hs;rw[hm];by_cases e:j=i
    ·subst e;exact .inr hs
    exact .inl (hc j j1 (by omega) b hs))
   refine⟨fun x hx=>r1 x ((hm x).2 (.inl hx)),r2,fun x hx=>?_,r4⟩;obtain⟨a,ha,hp⟩:=r3 x hx;rcases(hm a).1 ha with q|q
   ·exact⟨a,q,hp⟩
   exact⟨l[i],qG h,by simpa using(Q2n.eps q).trans hp⟩
  rw[qFm h];exact⟨fun x hx=>hx,hl,fun x hx=>⟨x,hx,Q2n.refl ns x⟩,fun x hx b hs=>by
   obtain⟨j,hj,rfl⟩:=qBf hx;exact hc j hj (by omega) b hs⟩
theorem y0e{ns:List Q0q}{l:List Nat}(hd:l.Nodup)(hl:∀x∈l,x<ns.length)(b:Nat):b∈Q11 ns l↔∃a∈l,Q2n ns a [] b:=by
 obtain⟨h1,h2,h3,h4⟩:=z5d ns (ns.length+1) 0 l hd hl (by omega) (by omega) (fun j hj h=>by omega);refine⟨h3 b,fun⟨a,ha,r,hr,he⟩=>?_⟩;have go:∀(r:List (Option Nat)) (a:Nat),a∈Q11 ns l->Run ns r a b->r.filterMap id=[]->b∈Q11 ns l:=by
  intro r;induction r with
  |nil=>intro a ha hr _;cases hr;exact ha
  |cons o r ih =>
   intro a ha hr he;obtain⟨m,k1,k2⟩:=hr;cases o with
   |none=>exact ih m (h4 a ha m k1) k2 (by simpa using he)
   |some c=>simp at he
 exact go r a (h1 a ha) hr he
theorem y5v{ns:List Q0q}{c:Nat}:∀(l acc:List Nat),(∀x∈acc,x<ns.length)->∀b,b∈Q5g ns c l acc↔b∈acc∨∃a∈l,Q4g ns (some c) a b
 | [],acc,_,b=>by simp[Q5g]
 |m::l,acc,ha,b=>by
  unfold Q5g;rw[List.foldl_cons];have hlt:∀x∈Q3u ns c acc m,x<ns.length:=by
   unfold Q3u;split
   ·split
    ·exact z36 _ ha
    exact ha
   exact ha
  have ih:=y5v (ns:=ns) (c:=c) l (Q3u ns c acc m) hlt b;unfold Q5g at ih;rw[ih];have j0:b∈Q3u ns c acc m↔b∈acc∨Q4g ns (some c) m b:=by
   unfold Q3u Q4g;cases hq:ns[m]? with
   |none=>simp
   |some nd =>
    simp only[qO];split
    ·rename_i h;rw[qAd]at h;rw[z9v ha];constructor
     ·rintro(q|⟨q1,q2⟩)
      ·exact .inl q
      exact .inr ⟨nd,rfl,q1,h.1,h.2,q2⟩
     rintro(q|⟨x,rfl,q1,_,_,q2⟩)
     ·exact .inl q
     exact .inr ⟨q1,q2⟩
    rename_i h;constructor
    ·exact .inl
    rintro(q|⟨x,rfl,q1,q3,q4,q2⟩)
    ·exact q
    exact absurd (by rw[q3,q4];rfl) h
  rw[j0];simp only[qBu,exists_eq_or_imp];exact or_assoc
theorem y9l{ns:List Q0q}{c:Nat}:∀(l acc:List Nat),acc.Nodup->(∀x∈acc,x<ns.length)->(Q5g ns c l acc).Nodup/\∀x∈Q5g ns c l acc,x<ns.length
 | [],acc,h1,h2=>⟨h1,h2⟩
 |m::l,acc,h1,h2=>by
  unfold Q5g;rw[List.foldl_cons];refine y9l l (Q3u ns c acc m) ?_ ?_
  ·unfold Q3u;split
   ·split
    ·exact z29 _ h1
    exact h1
   exact h1
  unfold Q3u;split
  ·split
   ·exact z36 _ h2
   exact h2
  exact h2
theorem x8t(ns:List Q0q)(st:Int)(s:ByteArray)(i:Nat):∀k,(crK ns st s i k).Nodup/\∀x∈crK ns st s i k,x<ns.length
 |0=>by
  unfold crK;exact⟨z29 _ List.nodup_nil,z36 _ (by simp)⟩
 |k+1=>by
  unfold crK Q6a;split
  ·exact y9l _ _ List.nodup_nil (by simp)
  simp
def Q1n(s:ByteArray)(i:Nat):Nat->List Nat
 |0=>[]
 |k+1=>Q1n s i k++(if h:i+k<s.size then [s[i+k].toNat] else [])
theorem Q2n.snoc{ns:List Q0q}{a b:Nat}{u:List Nat}{c:Nat}:Q2n ns a (u++[c]) b↔∃p m,Q2n ns a u p/\Q4g ns (some c) p m/\Q2n ns m [] b:=by
 constructor
 ·rintro⟨r,h1,h2⟩;rw[List.filterMap_eq_append_iff]at h2;obtain⟨r1,r2,rfl,e1,e2⟩:=h2;rw[List.filterMap_eq_cons_iff]at e2;obtain⟨q1,o,q2,rfl,k1,k2,k3⟩:=e2;obtain⟨x,j2,j3⟩:=h1.split;obtain⟨y,j4,j5⟩:=j3.split;obtain⟨m,j0,j1⟩:=j5;have ho:o=some c:=k2;subst ho;refine⟨y,m,⟨r1++q1,j2.append j4,?_⟩,j0,⟨q2,j1,k3⟩⟩;rw[List.filterMap_append,e1];have:q1.filterMap id=[]:=by
   rw[List.filterMap_eq_nil_iff];exact k1
  rw[this,qBd]
 rintro⟨p,m,h1,h2,h3⟩;have:=(h1.trans (Q2n.byte h2)).trans h3;simpa using this
theorem y8f{ns:List Q0q}{a:Nat}(ha:a<ns.length)(s:ByteArray)(i:Nat):∀k,i+k<=s.size->∀b,b∈Q11 ns (crK ns (a:Int) s i k)↔Q2n ns a (Q1n s i k) b
 |0,_,b=>by
  obtain⟨h1,h2⟩:=x8t ns (a:Int) s i 0;rw[y0e h1 h2];have e:crK ns (a:Int) s i 0=[a]:=by
   unfold crK Q1f;rw[qAb ⟨by omega,by omega,by simp⟩];simp
  rw[e];simp[Q1n]
 |k+1,hk,b=>by
  obtain⟨h1,h2⟩:=x8t ns (a:Int) s i (k+1);rw[y0e h1 h2];have j0:i+k<s.size:=by omega
  have ih:=y8f ha s i k (by omega);have e:Q1n s i (k+1)=Q1n s i k++[s[i+k].toNat]:=by
   show Q1n s i k++_=_;rw[qEt j0]
  rw[e,Q2n.snoc];have hm:∀m,m∈crK ns (a:Int) s i (k+1)↔∃p,Q2n ns a (Q1n s i k) p/\Q4g ns (some s[i+k].toNat) p m:=fun m=>by
   show m∈Q6a ns s (i+k) (Q11 ns (crK ns (a:Int) s i k))↔_;unfold Q6a;rw[qEt j0,y5v _ _ (by simp)];simp only[qEi,false_or];constructor
   ·rintro⟨p,q1,q2⟩;exact⟨p,(ih p).1 q1,q2⟩
   rintro⟨p,q1,q2⟩;exact⟨p,(ih p).2 q1,q2⟩
  constructor
  ·rintro⟨m,q1,q2⟩;obtain⟨p,q3,q4⟩:=(hm m).1 q1;exact⟨p,m,q3,q4,q2⟩
  rintro⟨p,m,q3,q4,q2⟩;exact⟨m,(hm m).2 ⟨p,q3,q4⟩,q2⟩
theorem x1u{ns:List Q0q}{a e:Nat}(ha:a<ns.length)(he:e<ns.length)(s:ByteArray)(i k:Nat)(hk:i+k<=s.size):Q8w ns (a:Int) (e:Int) s i k=true↔Q2n ns a (Q1n s i k) e:=by
 rw[← y8f ha s i k hk];unfold Q8w Q7k;simp[he]
theorem Run.stay{ns ns':List Q0q}{S:Nat->Prop}(h:∀x,S x->∀o y,Q4g ns' o x y->Q4g ns o x y/\S y):∀(r:List (Option Nat)) (x z:Nat),S x->Run ns' r x z->Run ns r x z/\S z
 | [],x,z,hx,hr=>by cases hr;exact⟨rfl,hx⟩
 |o::r,x,z,hx,⟨m,h1,h2⟩=>by
  obtain⟨k1,k2⟩:=h x hx o m h1;obtain⟨k3,k4⟩:=Run.stay h r m z k2 h2;exact⟨⟨m,k1,k3⟩,k4⟩
theorem Q2n.stay{ns ns':List Q0q}{S:Nat->Prop}(h:∀x,S x->∀o y,Q4g ns' o x y->Q4g ns o x y/\S y){x z:Nat}{w:List Nat}(hx:S x)(hp:Q2n ns' x w z):Q2n ns x w z/\S z:=by
 obtain⟨r,h1,h2⟩:=hp;obtain⟨k1,k2⟩:=Run.stay h r x z hx h1;exact⟨⟨r,k1,h2⟩,k2⟩
theorem Run.exit{ns ns':List Q0q}{S:Nat->Prop}{e:Nat}(h:∀x,S x->x≠e->∀o y,Q4g ns' o x y->Q4g ns o x y/\S y)(he:∀o y,Q4g ns' o e y->o=none) :
  ∀(r:List (Option Nat)) (x z:Nat),S x->¬S z->Run ns' r x z->∃r1 t r2,r=r1++none::r2/\Run ns r1 x e/\Q4g ns' none e t/\Run ns' r2 t z
 | [],x,z,hx,hz,hr=>by cases hr;exact absurd hx hz
 |o::r,x,z,hx,hz,⟨m,h1,h2⟩=>by
  by_cases q:x=e
  ·subst q;have ho:=he o m h1;subst ho;exact⟨[],m,r,rfl,rfl,h1,h2⟩
  obtain⟨k1,k2⟩:=h x hx q o m h1;obtain⟨r1,t,r2,e1,e2,e3,e4⟩:=Run.exit h he r m z k2 hz h2;exact⟨o::r1,t,r2,by rw[e1];rfl,⟨m,k1,e2⟩,e3,e4⟩
theorem Q2n.exit{ns ns':List Q0q}{S:Nat->Prop}{e:Nat}(h:∀x,S x->x≠e->∀o y,Q4g ns' o x y->Q4g ns o x y/\S y)(he:∀o y,Q4g ns' o e y->o=none){x z:Nat}{w:List Nat}(hx:S x)(hz:¬S z)(hp:Q2n ns' x w z) :
  ∃u v t,w=u++v/\Q2n ns x u e/\Q4g ns' none e t/\Q2n ns' t v z:=by
 obtain⟨r,h1,h2⟩:=hp;obtain⟨r1,t,r2,e1,e2,e3,e4⟩:=Run.exit h he r x z hx hz h1;refine⟨r1.filterMap id,r2.filterMap id,t,?_,⟨r1,e2,rfl⟩,e3,⟨r2,e4,rfl⟩⟩;rw[← h2,e1,List.filterMap_append];rfl
theorem Q2n.mono{ns ns':List Q0q}{S:Nat->Prop}(h:∀x,S x->∀o y,Q4g ns o x y->Q4g ns' o x y/\S y){x z:Nat}{w:List Nat}(hx:S x)(hp:Q2n ns x w z):Q2n ns' x w z :=
 (Q2n.stay h hx hp).1
abbrev Q03:=List Nat->Prop
def Q03.cat(A B:Q03):Q03:=fun w=>∃u v,w=u++v/\A u/\B v
def Q03.alt(A B:Q03):Q03:=fun w=>A w∨B w
def Q03.byte(P:Nat->Prop):Q03:=fun w=>∃c,P c/\w=[c]
structure Frg(ns:List Q0q)(lo hi a e:Nat)(L:Q03):Prop where
 bd:hi<=ns.length
 ia:lo<=a/\a<hi
 ie:lo<=e/\e<hi
 en:ns[e]? = some plainNode
 nb:∀x,lo<=x->x<hi->∀nd,ns[x]? = some nd->(nd.next=-1∨(lo:Int)<=nd.next/\nd.next<hi)/\(nd.other=-1∨(lo:Int)<=nd.other/\nd.other<hi)
 lg:∀w,Q2n ns a w e↔L w
theorem Frg.cl{ns:List Q0q}{lo hi a e:Nat}{L:Q03}(h:Frg ns lo hi a e L)(x:Nat)(h1:lo<=x)(h2:x<hi)(o:Option Nat)(y:Nat)(st:Q4g ns o x y):lo<=y/\y<hi:=by
 obtain⟨nd,q1,q2,q3⟩:=st;obtain⟨n1,n2⟩:=h.nb x h1 h2 nd q1;cases o with
 |none=>rcases q3.2 with q|q<;>omega
 |some c=>have:=q3.2.2;omega
theorem Frg.keep{ns ns':List Q0q}{lo hi a e:Nat}{L:Q03}(h:Frg ns lo hi a e L)(hl:hi<=ns'.length)(hk:∀x,lo<=x->x<hi->ns'[x]? = ns[x]?):Frg ns' lo hi a e L:=by
 have s1:∀x,(lo<=x/\x<hi)->∀o y,Q4g ns' o x y->Q4g ns o x y/\(lo<=y/\y<hi):=fun x hx o y ⟨nd,q1,q2,q3⟩=>by
  rw[hk x hx.1 hx.2]at q1;obtain⟨n1,n2⟩:=h.nb x hx.1 hx.2 nd q1;have hy:y<hi:=by
   cases o with
   |none=>rcases q3.2 with q|q<;>omega
   |some c=>have:=q3.2.2;omega
  have st:Q4g ns o x y:=⟨nd,q1,by have:=h.bd;omega,q3⟩;exact⟨st,h.cl x hx.1 hx.2 o y st⟩
 have s2:∀x,(lo<=x/\x<hi)->∀o y,Q4g ns o x y->Q4g ns' o x y/\(lo<=y/\y<hi):=fun x hx o y st=>by
  have hy:=h.cl x hx.1 hx.2 o y st;obtain⟨nd,q1,q2,q3⟩:=st;exact⟨⟨nd,by rw[hk x hx.1 hx.2];exact q1,by omega,q3⟩,hy⟩
 refine⟨hl,h.ia,h.ie,by rw[hk e h.ie.1 h.ie.2];exact h.en,fun x h1 h2 nd q=>h.nb x h1 h2 nd (by rw[← hk x h1 h2];exact q),fun w=>?_⟩;rw[← h.lg w];exact⟨fun q=>(Q2n.stay s1 h.ia q).1,fun q=>(Q2n.stay s2 h.ia q).1⟩
end Go.Proofs.YtbdpfmalabgmbaaGreat
