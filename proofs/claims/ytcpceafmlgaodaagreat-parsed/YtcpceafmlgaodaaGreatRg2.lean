import Derived.Test.YtcpceafmlgaodaaGreatRf4
import Derived.Deep.DeepCutAuto
namespace Go.Proofs.YtcpceafmlgaodaaGreat
open Go.RowKit
set_option maxRecDepth 99999
set_option maxHeartbeats 0
set_option linter.all false
structure ZLn where
 rule:Bool
 skip:Bool
 name:ByteArray
 pat:ByteArray
 syms:List ByteArray
 places:List Int
def Q43(s:ByteArray):Nat->Int->List ByteArray->List Int->Option (List ByteArray × List Int)
 |0,_,_,_=>none
 |f+1,i,a,b =>
  if i<s.size then
   if atB s i=32 then
    if Q5k s (i+1)<0 then none
    else Q43 s f (Q5k s (i+1)) (a++[s.extract (i+1).toNat (Q5k s (i+1)).toNat]) (b++[i+1])
   else none
  else some (a,b)
theorem z6q(s:ByteArray)(f:Nat)(i:Int)(a:List ByteArray)(b:List Int):Q43 s (f+1) i a b=if i<s.size then
   if atB s i=32 then
    if Q5k s (i+1)<0 then none
    else Q43 s f (Q5k s (i+1)) (a++[s.extract (i+1).toNat (Q5k s (i+1)).toNat]) (b++[i+1])
   else none
  else some (a,b):=rfl
def Q48(s:ByteArray)(n:Nat):Bool:=decide (n<=8)&&decide (n<s.size)&&(atB s n==61||atB s n==126)
def Q4u(s:ByteArray):Option ZLn :=
 if 0<Q37 s 0 then
  if Q48 s (Q37 s 0)=true/\zpK s 6 ((Q37 s 0:Nat)+1)=s.size then some ⟨true,atB s (Q37 s 0)==126,s.extract 0 (Q37 s 0),s.extract (Q37 s 0+1) s.size,[],[]⟩ else none
 else if 0<=Q5k s 0/\atB s (Q5k s 0)=58 then
  (Q43 s (s.size+5) (Q5k s 0+1) [] []).map (fun l=>⟨false,false,s.extract 0 (Q5k s 0).toNat,⟨#[]⟩,l.1,l.2⟩)
 else none
def Q9n(s:ByteArray)(ds:List Wd)(ns:List ByteArray):Prop :=
 ds.length=ns.length/\∀(k:Nat) (d:Wd) (n:ByteArray),ds[k]? = some d->ns[k]? = some n->∃j m:Nat,WordAt s j m d/\j+m<=s.size/\n=s.extract j (j+m)
structure ZRel(s:ByteArray)(i:Nat)(x:Ln)(z:ZLn):Prop where
 rule:z.rule=Q07 x
 skip:z.skip=x.skip
 place:x.front.place=i
 name:∃m,WordAt s i m x.front/\i+m<=s.size/\z.name=s.extract i (i+m)
 pat:z.rule=true->∃L,Q6q z.pat 6 0=⟨z.pat.size,true,L⟩/\z.pat.size<=s.size/\∀t,Q5t x t=true↔L (bytesOf t)
 syms:Q9n s x.syms z.syms
 places:z.places=x.syms.map (fun d:Wd=>d.place-(i:Int))
 nos:z.rule=true->z.syms=[]
 noskip:z.rule=false->z.skip=false
section
variable {s:ByteArray}{a e:Nat}
theorem y0k(he:e<=s.size){x:Nat}:Q3a s (a+x:Nat) (s.extract a e) (x:Nat) (e-a-x):=fun j hj=>by
 rw[z02 he (by omega) (by omega)];congr 1;omega
theorem y51(he:e<=s.size){x:Nat}:Q3a (s.extract a e) (x:Nat) s (a+x:Nat) (e-a-x):=fun j hj=>by
 rw[z02 he (by omega) (by omega)];congr 1;omega
theorem x5i(he:e<s.size)(h10:atB s (e:Nat)=10):∀{p:Nat}{ds:List Wd}{ns:List ByteArray},PN s p ds ns e->a<=p->∀(f:Nat) (A:List ByteArray) (B:List Int),e+2<=f+p ->
  Q43 (s.extract a e) f ((p-a:Nat):Int) A B=some (A++ns,B++ds.map (fun d:Wd=>d.place-(a:Int))):=by
 have j6:=z10 (s:=s) (a:=a) (e:=e) (by omega);intro p ds ns h;refine PN.ind (q:=e) (M:=fun p ds ns=>a<=p->∀(f:Nat) (A:List ByteArray) (B:List Int),e+2<=f+p->Q43 (s.extract a e) f ((p-a:Nat):Int) A B=some (A++ns,B++ds.map (fun d:Wd=>d.place-(a:Int)))) ?_ ?_ ds p ns h
 ·intro hp f A B hf;obtain⟨f,rfl⟩:∃k,f=k+1:=⟨f-1,by omega⟩;rw[z6q,qAa (by omega)];simp
 intro p m d ds ns h32 hw hle h ih hp f A B hf;have j4:=h.le;have j3:=hw.pos;obtain⟨f,rfl⟩:∃k,f=k+1:=⟨f-1,by omega⟩;have j0:Q0l (atB s (((p+1:Nat):Int)+m))=false:=by
  rcases h.next with q|q
  ·rw[show((p+1:Nat):Int)+m=(e:Nat) by omega,h10];decide
  rw[show((p+1:Nat):Int)+m=((p+1+m:Nat):Int) by omega,q];decide
 have wd:=hw.wordy j0;rw[show((p+1:Nat):Int)=a+(((p-a:Nat):Int)+1) by omega]at wd;have wu:=y1l he h10 (by omega) wd (by omega);have zs:=x5j (by omega) wu;have j1:atB (s.extract a e) ((p-a:Nat):Int)=32:=by
  rw[z02 (by omega) (by omega) (by omega),show(a:Int)+((p-a:Nat):Int)=(p:Nat) by omega];exact h32
 have j2:((p-a:Nat):Int)<((s.extract a e).size:Int):=by omega
 rw[z6q,qAb j2,qAb j1,zs,qAa (by omega)];have en:((p-a:Nat):Int)+1+m=((p+1+m-a:Nat):Int):=by omega
 rw[en,ih (by omega) f _ _ (by omega)];have ex:(s.extract a e).extract (((p-a:Nat):Int)+1).toNat (((p+1+m-a:Nat):Int)).toNat=s.extract (p+1) (p+1+m):=by
  rw[y1w s a e _ _ (by omega) (by omega)];congr 1<;>omega
 have j5:=hw.place;rw[ex];simp only[qAh,List.singleton_append,qCl,qO,Prod.mk.injEq,List.append_cancel_left_eq,qAu,and_true,true_and];omega
theorem x4e(he:e<s.size)(h10:atB s (e:Nat)=10)(d:Wd):∀(g f:Nat) (x:Nat) (A:List ByteArray) (B:List Int) (S:List Wd),a+x<=e->(s.size:Int)+2<=f+(a+x)->(Q43 (s.extract a e) g (x:Nat) A B).isSome=true ->
  (Q2w s d f ((a+x:Nat):Int) S).2.2=true:=by
 have j2:=z10 (s:=s) (a:=a) (e:=e) (by omega);intro g;induction g with
 |zero=>intro f x A B S h1 h2 h3;simp[Q43]at h3
 |succ g ih =>
  intro f x A B S h1 h2 h3;obtain⟨f,rfl⟩:∃k,f=k+1:=⟨f-1,by omega⟩;rw[z6q]at h3;unfold Q2w;by_cases c1:a+x<e
  ·have j1:((x:Nat):Int)<((s.extract a e).size:Int):=by omega
   rw[qAb j1]at h3;by_cases c2:atB (s.extract a e) (x:Nat)=32
   ·rw[qAb c2]at h3;rw[z02 (by omega) (by omega) (by omega)]at c2;have j0:atB s ((a+x:Nat):Int)=32:=by rw[← c2];congr 1
    rw[qAb j0];by_cases c3:Q5k (s.extract a e) ((x:Int)+1)<0
    ·rw[qAb c3]at h3;cases h3
    rw[qAa c3]at h3;obtain⟨m,hw,hm⟩:=y0d (by omega) (by omega:0<=Q5k (s.extract a e) ((x:Int)+1));obtain⟨wu,hle⟩:=y89 he h10 (by omega) hw;obtain⟨r1,r2,r3⟩:=y2k wu;have ex:((a+x:Nat):Int)+1=(a:Int)+((x:Int)+1):=by omega
    rw[ex,qAa (by rw[r1];simp),r2];have en:(a:Int)+((x:Int)+1)+m=((a+(x+1+m):Nat):Int):=by omega
    rw[en];rw[hm,show(x:Int)+1+m=((x+1+m:Nat):Int) by omega]at h3;exact ih f (x+1+m) _ _ _ (by omega) (by omega) h3
   rw[qAa c2]at h3;cases h3
  have hx:a+x=e:=by omega
  rw[hx,h10,qAa (by omega),qAa (by omega)]
theorem x41{p q:Nat}{ds:List Wd}{ns:List ByteArray}(h:PN s p ds ns q):Q9n s ds ns:=by
 refine PN.ind (q:=q) (M:=fun p ds ns=>Q9n s ds ns) ?_ ?_ ds p ns h
 ·exact⟨rfl,fun k d n h1=>by simp at h1⟩
 intro p m d ds ns h32 hw hle h ih;refine⟨by simp[ih.1],fun k d' n' h1 h2=>?_⟩;cases k with
 |zero=>simp at h1 h2;subst h1 h2;exact⟨p+1,m,hw,hle,rfl⟩
 |succ k=>simp at h1 h2;exact ih.2 k d' n' h1 h2
end
theorem x71{s:ByteArray}{i:Nat}(h:(Q2s s i).2.2=true):∃e:Nat,e<s.size/\i<e/\atB s (e:Nat)=10/\(Q2s s i).2.1=((e+1:Nat):Int)/\Q1g s i e/\∃z,Q4u (s.extract i e)=some z/\ZRel s i (Q2s s i).1 z:=by
 obtain⟨e,he,hie,h10,hnx,hL⟩:=y2i s i h;have j8:=hL.clean;refine⟨e,he,hie,h10,hnx,j8,?_⟩;have ji:=z10 (s:=s) (a:=i) (e:=e) (by omega);unfold Q2s at h ⊢;cases hw:(Q06 s i).2.2
 ·rw[qAb hw]at h;cases h
 rw[qAa (by simp[hw])]at h ⊢;obtain⟨m,hwd,hn⟩:=z8a s i hw;have jg:=hwd.in';have jb:=hwd.pos;have j6:=hwd.head;have j7:=hwd.place;unfold Q2s at hnx;rw[qAa (by simp[hw])]at hnx;generalize(Q06 s i).1=d at *;rw[hn]at h hnx ⊢;cases hh:Q14 d
 ·rw[hh]at h hnx;simp only[qF,qAp]at h hnx ⊢;unfold Q6f at h hnx ⊢;by_cases c1:atB s ((i:Int)+m)≠61/\atB s ((i:Int)+m)≠126
  ·rw[qAb c1]at h;cases h
  rw[qAa c1]at h hnx ⊢;cases c2:(Q1o s ((i:Int)+m+1)).ok
  ·rw[qAb c2]at h;cases h
  rw[qAa (by simp[c2])]at h hnx ⊢;by_cases c3:atB s (Q1o s ((i:Int)+m+1)).next=10
  ·rw[qAa (by simpa using c3)]at h hnx ⊢;have j3:atB s ((i:Int)+m)=61∨atB s ((i:Int)+m)=126:=by
    by_cases q:atB s ((i:Int)+m)=61
    ·exact .inl q
    by_cases q2:atB s ((i:Int)+m)=126
    ·exact .inr q2
    exact absurd ⟨q,q2⟩ c1
   have jh:(Q1o s ((i:Int)+m+1)).next=e:=by dsimp only at hnx;omega
   have je:Q0l (atB s i)=true:=by
    rcases hwd.first with h1|h1
    ·exact h1
    rw[← j6,hh]at h1;cases h1
   obtain⟨l1,l2⟩:=v0m c2;have j9:i+m<e:=by
    have:=z8g (s:=s) (i:=(i:Int)+m) (by rcases j3 with q|q<;>omega);have g:=y4a s 6 ((i:Int)+m+1) (by omega) (by omega) l1;omega
   have hb:atB (s.extract i e) (m:Nat)=atB s ((i:Int)+m):=z02 (by omega) (by omega) (by omega);have j1:Q37 (s.extract i e) 0=m:=y27 (by omega) (fun k hk=>by
    rw[z02 (by omega) (by omega) (by omega)];by_cases k0:k=0
    ·subst k0;simpa using je
    ·have:=hwd.rest k (by omega) hk;rw[show(i:Int)+(0+(k:Int))=(i:Int)+k by omega];exact this) (by
    rw[Int.zero_add,hb];rcases j3 with q|q<;>rw[q]<;>decide)
   have j2:=y16 s (s.extract i e) (qR 6) ((i:Int)+m+1) ((m:Int)+1) (e-i-(m+1)) (by omega) (by omega) (by omega)
    (by have:=y0k (s:=s) (a:=i) (e:=e) (by omega) (x:=m+1);intro j hj;have q:=this j hj;rw[show(i:Int)+m+1=((i+(m+1):Nat):Int) by omega,show(m:Int)+1=((m+1:Nat):Int) by omega];exact q)
    (by rw[z18 (by omega)];decide) l1 (by omega)
   have jf:((s.extract i e).size:Int)=e-i:=by omega
   have hz:Q6q (s.extract i e) 6 ((m:Int)+1)=⟨(s.extract i e).size,true,(Q6q s 6 ((i:Int)+m+1)).lang⟩:=by
    rw[z2k j2.ok,j2.lang,j2.next];congr 1;omega
   have j4:zpK (s.extract i e) 6 ((m:Int)+1)=(s.extract i e).size:=by
    have q:=(x5o (p:=s.extract i e) 6 (i:=(m:Int)+1) (by omega) (by omega)).good (by rw[hz]);rw[hz]at q;exact q
   have jd:Q48 (s.extract i e) m=true:=by
    unfold Q48;have ja:=hwd.le;rw[qBl (by omega),qBl (by omega),hb];rcases j3 with q|q<;>rw[q]<;>decide
   refine⟨⟨true,atB (s.extract i e) m==126,(s.extract i e).extract 0 m,(s.extract i e).extract (m+1) (s.extract i e).size,[],[]⟩,?_,?_⟩
   ·unfold Q4u;rw[j1,qAb (by omega),qAb ⟨jd,j4⟩]
   have ep:(s.extract i e).extract (m+1) (s.extract i e).size=s.extract (i+m+1) e:=by
    rw[y1w s i e _ _ (by omega) (by omega)];congr 1;omega
   have jj:=z10 (s:=s) (a:=i+m+1) (e:=e) (by omega);refine⟨?_,?_,j7,⟨m,hwd,by omega,?_⟩,fun _=>?_,⟨rfl,fun k d' n' q=>by simp at q⟩,rfl,fun _=>rfl,fun q=>(by cases q)⟩
   ·show true=!Q14 d;rw[hh];rfl
   ·show(atB (s.extract i e) m==126)=(atB s ((i:Int)+m)==126);rw[hb]
   ·dsimp only;rw[y1w s i e _ _ (by omega) (by omega),Nat.add_zero]
   dsimp only;rw[ep];have j0:=y16 s (s.extract (i+m+1) e) (qR 6) ((i:Int)+m+1) 0 (e-(i+m+1)) (by omega) (by omega) (by omega)
    (by have:=y0k (s:=s) (a:=i+m+1) (e:=e) (by omega) (x:=0);intro j hj;have q:=this j hj;rw[show(i:Int)+m+1=((i+m+1+0:Nat):Int) by omega,show(0:Int)=((0:Nat):Int) by omega];exact q)
    (by rw[z18 (by omega)];decide) l1 (by omega)
   refine⟨(Q6q s 6 ((i:Int)+m+1)).lang,?_,by omega,fun t=>y91 c2 d _ t⟩;rw[z2k j0.ok,j0.lang,j0.next];congr 1;omega
  rw[qAb c3]at h;cases h
 rw[hh]at h hnx;simp only[qBb]at h hnx ⊢;unfold Q6e at h hnx ⊢;by_cases c1:atB s ((i:Int)+m)=58
 ·rw[qAa (by simpa using c1)]at h hnx ⊢;have e1:(i:Int)+m+1=((i+m+1:Nat):Int):=by omega
  rw[e1]at h hnx ⊢;obtain⟨ds,ns,q,h1,h2,h3⟩:=z9o s d _ _ _ h;rw[h3]at hnx ⊢;have jc:q=e:=by dsimp only at hnx;omega
  subst jc;have ja:=h1.le;have j5:Q1a (atB s i)=true:=by rw[← j6];exact hh
  have wd:=hwd.wordy (by rw[c1];decide);have wu:=y1l (a:=i) he h10 (x:=0) (by omega) (by rw[qCs];exact wd) (by omega);have zs:=x5j (by omega) wu;rw[Int.zero_add]at zs;have hb:atB (s.extract i q) (m:Nat)=58:=by rw[z02 (by omega) (by omega) (by omega)];exact c1
  have j1:Q37 (s.extract i q) 0=0:=y27 (by omega) (fun k hk=>by omega) (by
   rw[z02 (by omega) (by omega) (by omega)];simp only[qDj,qCs];exact y5c j5)
  have j4:=x5i (a:=i) he h10 h1 (by omega) ((s.extract i q).size+5) [] [] (by omega);rw[show((i+m+1-i:Nat):Int)=(m:Int)+1 by omega]at j4;refine⟨⟨false,false,(s.extract i q).extract 0 m,⟨#[]⟩,ns,ds.map (fun d:Wd=>d.place-(i:Int))⟩,?_,?_⟩
  ·unfold Q4u;rw[j1,qAa (by omega),zs,qAb ⟨by omega,hb⟩,j4];rfl
  refine⟨?_,rfl,j7,⟨m,hwd,by omega,?_⟩,fun q=>(by cases q),?_,?_,fun q=>(by cases q),fun _=>rfl⟩
  ·show false=!Q14 d;rw[hh];rfl
  ·dsimp only;rw[y1w s i q _ _ (by omega) (by omega),Nat.add_zero]
  ·show Q9n s ([]++ds) ns;rw[qBq];exact x41 h1
  rfl
 rw[qAb (by simpa using c1)]at h;cases h
theorem x7g{s:ByteArray}{i e:Nat}(he:e<s.size)(hie:i<=e)(h10:atB s (e:Nat)=10)(h:(Q4u (s.extract i e)).isSome=true):(Q2s s i).2.2=true:=by
 have j9:=z10 (s:=s) (a:=i) (e:=e) (by omega);unfold Q4u at h;by_cases c0:0<Q37 (s.extract i e) 0
 ·rw[qAb c0]at h;obtain⟨q1,q2⟩:=z5a (s.extract i e) (x:=0) (by omega);generalize Q37 (s.extract i e) 0=n at *;by_cases c1:Q48 (s.extract i e) n=true/\zpK (s.extract i e) 6 ((n:Nat)+1)=(s.extract i e).size
  ·obtain⟨c1,c2⟩:=c1;unfold Q48 at c1;rw[qAc,qAc,qAm,qAm,qAk]at c1;obtain⟨⟨h8,hns⟩,hch⟩:=c1;have hb:atB (s.extract i e) (n:Nat)=atB s ((i:Int)+n):=z02 (by omega) (by omega) (by omega);have j2:atB s ((i:Int)+n)=61∨atB s ((i:Int)+n)=126:=by
    rw[hb]at hch;rcases hch with q|q
    ·left;simpa using q
    right;simpa using q
   have j0:∀k:Nat,k<n->Q0l (atB s ((i:Int)+k))=true:=fun k hk=>by
    have:=q1 k hk;rw[z02 (by omega) (by omega) (by omega)]at this;rw[show(i:Int)+(0+(k:Int))=(i:Int)+k by omega]at this;exact this
   have wd:Q8i s i n:=⟨by omega,h8,.inl (by have:=j0 0 (by omega);simpa using this),fun k k1 k2=>j0 k k2,by rcases j2 with q|q<;>rw[q]<;>decide⟩;obtain⟨r1,r2,r3⟩:=y2k wd;have hh:Q14 (Q06 s i).1=false:=by
    rw[r3.head];have:=j0 0 (by omega);simp only[qDj,qCs]at this;cases z:Q1a (atB s i)
    ·rfl
    rw[y5c z]at this;cases this
   have j3:(Q6q (s.extract i e) 6 ((n:Int)+1)).ok=true/\(Q6q (s.extract i e) 6 ((n:Int)+1)).next=(s.extract i e).size:=by
    have j4:=x5o (p:=s.extract i e) 6 (i:=(n:Int)+1) (by omega) (by omega);cases z:(Q6q (s.extract i e) 6 ((n:Int)+1)).ok
    ·rcases j4.bad z with b|⟨_,b,_⟩
     ·rw[c2]at b;omega
     rw[c2]at b;omega
    exact⟨rfl,by rw[← j4.good z];exact c2⟩
   have j1:=y16 (s.extract i e) s (qR 6) ((n:Int)+1) ((i:Int)+n+1) (e-i-(n+1)) (by omega) (by omega) (by omega)
    (by have:=y51 (s:=s) (a:=i) (e:=e) (by omega) (x:=n+1);intro j hj;have q:=this j hj;rw[show(i:Int)+n+1=((i+(n+1):Nat):Int) by omega,show(n:Int)+1=((n+1:Nat):Int) by omega];exact q)
    (by rw[show(i:Int)+n+1+((e-i-(n+1):Nat):Int)=(e:Nat) by omega,h10];decide) j3.1 (by omega)
   have lk:=y8d s 6 ((i:Int)+n+1) [];have j5:(Q1o s ((i:Int)+n+1)).ok=true:=by unfold Q1o;rw[lk.ok];exact j1.ok
   have j6:(Q1o s ((i:Int)+n+1)).next=(e:Nat):=by
    unfold Q1o;rw[lk.next,j1.next,j3.2];omega
   unfold Q2s;rw[qAa (by rw[r1];simp),hh,qAa (by simp),r2];unfold Q6f;rw[qAa (by rcases j2 with q|q<;>omega),qAa (by rw[j5];simp),j6,h10,qAa (by simp)]
  rw[qAa c1]at h;cases h
 rw[qAa c0]at h;obtain⟨q1,q2⟩:=z5a (s.extract i e) (x:=0) (by omega);have z0:Q37 (s.extract i e) 0=0:=by omega
 rw[z0]at q2;by_cases c1:0<=Q5k (s.extract i e) 0/\atB (s.extract i e) (Q5k (s.extract i e) 0)=58
 ·rw[qAb c1]at h;obtain⟨m,hw,hm⟩:=y0d (by omega) c1.1;obtain⟨wu,hle⟩:=y89 he h10 (by omega) hw;rw[qCs]at wu hle;obtain⟨r1,r2,r3⟩:=y2k wu;rw[Int.zero_add]at hm;rw[hm]at c1 h;have j8:=z8g (s:=s.extract i e) (i:=(m:Int)) (by omega);have hb:atB s ((i:Int)+m)=58:=by
   rw[← z02 (s:=s) (a:=i) (e:=e) (by omega) (by omega) (by omega)];exact c1.2
  have hh:Q14 (Q06 s i).1=true:=by
   rw[r3.head];have hf:=hw.first;simp only[qDj,qCs]at q2;rw[q2]at hf;rw[z02 (by omega) (by omega) (by omega),qCs]at hf;rcases hf with z|z
   ·cases z
   exact z
  unfold Q2s;rw[qAa (by rw[r1];simp),hh,qAb rfl,r2];unfold Q6e;rw[hb,qAa (by simp)];have j7:=x4e (a:=i) he h10 (Q06 s i).1 ((s.extract i e).size+5) (s.size+5) (m+1) [] [] [] (by omega) (by omega) (by
   rw[show((m+1:Nat):Int)=(m:Int)+1 by omega];simpa using h)
  rw[show(i:Int)+m+1=((i+(m+1):Nat):Int) by omega];exact j7
 rw[qAa c1]at h;cases h
theorem Q7u{P:Program}{fn:Func}{p u:Tmp}{ty:TypeId}(h:fn.results=#[.cell p ty,.tmp u])(tmps:Array Value)(w:World)(g:Nat)(t:TypeId)(cs:Array Value)(fr:Nat × Nat)(d:TypeDesc)
  (hp:tmps.getD p undef=.pointer (some ⟨g,0,none⟩)) (hg:w.heap[g]? = some (.cells cs t fr))
  (hu:P.underlying ty=some d) (hd:(match d with | .struct _ | .array _ _=>true|_=>false)=true) (hi:(P.info? ty).map (·.size)=some cs.size) :
  (results fn tmps).run P w=.ok (.tuple #[.agg cs,tmps.getD u undef]) w:=by
 have j0:tmps[p]?.getD undef=.pointer (some ⟨g,0,none⟩):=by simpa using hp
 simp[results,h,j0,asAddr,run_loadVar_row w g t ty cs fr d hg hu hd hi]
theorem z9v{P:Program}(w:World)(g:Nat)(t ty:TypeId)(old cells:Array Value)(hg:w.heap[g]? = some (.cells old t (0,0)))(hi:(P.info? ty).map (·.size)=some cells.size)(hold:old.size=cells.size)(h1:cells.all (·.oneCell')=true) :
  (Instr.storeAt ty (.pointer (some ⟨g,0,none⟩)) (.agg cells)).run P w=.ok () (w.setRow g cells):=by
 simp only[Instr.storeAt,Instr.sureAddr,Sem.run_bind,Sem.run_pure,Result.andThen_ok,run_storeVar_row w g t ty old cells hg hi hold h1]
abbrev nilS:Value:=.slice none 0 0
abbrev zlL(r k:Bool)(nm pt:ByteArray)(vs vp:Value)(a:Int):List Value:=[.bool r,.bool k,.string nm,.string pt,vs,vp,.int .i64 a]
abbrev zlA(r k:Bool)(nm pt:ByteArray)(vs vp:Value)(a:Int):Array Value:=#[.bool r,.bool k,.string nm,.string pt,vs,vp,.int .i64 a]
theorem Q52:(Tryz.prog.info? 85).map (·.size)=some 7:=by kernel_rfl
theorem z3b{r k:Bool}{nm pt:ByteArray}{vs vp:Value}{a:Int}(h1:vs.oneCell'=true)(h2:vp.oneCell'=true):(zlA r k nm pt vs vp a).all (·.oneCell')=true:=by
 refine all_oneCell_toArray (cs:=zlL r k nm pt vs vp a) ?_;intro v hv;simp only[qBc,qCt,or_false]at hv;rcases hv with rfl|rfl|rfl|rfl|rfl|rfl|rfl
 ·rfl
 ·rfl
 ·rfl
 ·rfl
 ·exact h1
 ·exact h2
 rfl
def stZ(p v:Value):Sem Unit:=Instr.storeAt 85 p v
theorem x7l(p v:Value):Instr.storeAt 85 p v=stZ p v:=rfl
structure ZLV where
 ln:ZLn
 vs:Value
 vp:Value
 pl:Int
def ZLV.cells(x:ZLV):List Value:=zlL x.ln.rule x.ln.skip x.ln.name x.ln.pat x.vs x.vp x.pl
structure ZLV.At(b:Nat)(w:World)(x:ZLV):Prop where
 syms:w.ownsRow b 9 1 x.vs x.ln.syms.length (Q9t x.ln.syms)
 places:w.ownsRow b 3 1 x.vp x.ln.places.length (Q9w x.ln.places)
def noZL:ZLn:=⟨false,false,⟨#[]⟩,⟨#[]⟩,[],[]⟩
theorem ZLV.At.fresh{b:Nat}{w w':World}{x:ZLV}(h:x.At b w)(hm:Q0a w w'):x.At b w' :=
 ⟨z0c h.syms (fun g hg=>hm.block g (h.syms.lt g hg).2 (fun x=>x)),z0c h.places (fun g hg=>hm.block g (h.places.lt g hg).2 (fun x=>x))⟩
theorem ZLV.At.kept{S:Nat->Prop}{b:Nat}{w w':World}{x:ZLV}(h:x.At b w)(hm:Mod S w w')(h1:∀k,x.vs.ownBlock=some k->¬S k)(h2:∀k,x.vp.ownBlock=some k->¬S k):x.At b w' :=
 ⟨z0c h.syms (fun g hg=>hm.block g (h.syms.lt g hg).2 (h1 g hg)),z0c h.places (fun g hg=>hm.block g (h.places.lt g hg).2 (h2 g hg))⟩
theorem ZLV.At.one{b:Nat}{w:World}{x:ZLV}(h:x.At b w):x.cells.toArray.all (·.oneCell')=true:=z3b (z6j h.syms) (z6j h.places)
def ZRet(w:World)(r:Option ZLn)(e:Ending)(w':World):Prop :=
 ∃x:ZLV,e=.returned (.tuple #[.agg x.cells.toArray,.bool r.isSome])/\x.At w.heap.size w'/\Q0a w w'/\∀z,r=some z->x.ln=z
theorem y8i(b:Nat)(w:World)(x:ZLV)(h1:x.ln.syms=[])(h2:x.ln.places=[])(h3:x.vs=nilS)(h4:x.vp=nilS):x.At b w:=by
 refine⟨?_,?_⟩
 ·rw[h1,h3];exact World.ownsRow_nil _ _ _ _
 rw[h2,h4];exact World.ownsRow_nil _ _ _ _
attribute [local go_sem ↓] x7l
theorem x03(s:ByteArray)(w:World)(hs:s.size<=70000)(n:Nat)(hn:Q37 s 0=n)(hn0:0<n)(hok:Q48 s n=true) :
  Calls Tryz.prog 60 #[.string s] w fun e w'=>e=.returned (.tuple #[.agg (zlA true (atB s n==126) (s.extract 0 n) (s.extract (n+1) s.size) (.slice none 0 0) (.slice none 0 0) 0),.bool (zpK s 6 (n+1)==(s.size:Int))])/\Q0a w w':=by
 have ZL:=hid (fun w=>z2g s 0 w (by omega) (by omega));have e0:((0:Nat):Int)=0:=rfl;rw[e0,hn]at ZL;unfold Q48 at hok;rw[qAc,qAc,qAm,qAm,qAk]at hok;obtain⟨⟨h8,hns⟩,hch⟩:=hok;have PT:=hid (fun w=>y3b s (by omega) 6 0 (by omega) (n+1) w (by omega));have en:((n+1:Nat):Int)=(n:Int)+1:=by omega
 rw[en,e0]at PT;have hb:=z1r hns;rw[hb]at hch ⊢;have j0:s[n].toNat<256:=s[n].toNat_lt;have k1:0<(n:Int):=by omega
 have k2:¬(8:Int)<(n:Int):=by omega
 have k3:¬(s.size:Int)<=(n:Int):=by omega
 have k4:(n:Int)<(s.size:Int):=by omega
 have k5:((s[n].toNat:Int) != 61&&(s[n].toNat:Int) != 126)=false:=by
  rcases hch with h|h
  ·have:(s[n].toNat:Int)=61:=by simpa using h
   rw[this];decide
  have:(s[n].toNat:Int)=126:=by simpa using h
  rw[this];decide
 generalize zpK s 6 ((n:Int)+1)=pk at PT ⊢;have hz:(w.alloc (.cells (zlA false false ⟨#[]⟩ ⟨#[]⟩ (.slice none 0 0) (.slice none 0 0) 0) 85 (0,0))).heap[w.heap.size]? = some (.cells (zlA false false ⟨#[]⟩ ⟨#[]⟩ (.slice none 0 0) (.slice none 0 0) 0) 85 (0,0)):=z0a _ _;clear hb hn;have s1:(stZ (.pointer (some ⟨w.heap.size,0,none⟩)) (.agg #[.bool true,.bool ((s[n].toNat:Int)==126),.string (s.extract 0 n),.string (s.extract (n+1) s.size),.slice none 0 0,.slice none 0 0,.int .i64 0])).run Tryz.prog (w.alloc (.cells #[.bool false,.bool false,.string ⟨#[]⟩,.string ⟨#[]⟩,.slice none 0 0,.slice none 0 0,.int .i64 0] 85 (0,0))).drew=.ok () ((w.alloc (.cells #[.bool false,.bool false,.string ⟨#[]⟩,.string ⟨#[]⟩,.slice none 0 0,.slice none 0 0,.int .i64 0] 85 (0,0))).drew.setRow w.heap.size #[.bool true,.bool ((s[n].toNat:Int)==126),.string (s.extract 0 n),.string (s.extract (n+1) s.size),.slice none 0 0,.slice none 0 0,.int .i64 0]) :=
  z9v (t:=85) (old :=  #[.bool false,.bool false,.string ⟨#[]⟩,.string ⟨#[]⟩,.slice none 0 0,.slice none 0 0,.int .i64 0]) _ _ _ _ hz Q52 rfl (z3b rfl rfl)
 by_cases q61:s[n].toNat=61
 ·have q1:((s[n].toNat:Int) != 61)=false:=by simp[q61]
  clear q61;go_enter Tryz.func60,Tryz.ntmps60
  go_upto_region 6 with(first
   |(go_at_call 87;refine csm (ZL.out _) ?_)
   |(go_at_call 88;refine csm (PT.out _) ?_))
  go_region;all_goals
   go_wp2_with fail
   refine bodyPost_ret (Q7u rfl _ _ w.heap.size 85 _ (0,0) _ rfl (setRow_heap _ _ _ _ _ _ hz) Tryz.underlying85 rfl Q52) rfl ⟨rfl,?_⟩;exact((mRf _ w).alloc _).drew.setRow (by simp) _
 have q1:((s[n].toNat:Int) != 61)=true:=by simp;omega
 have q2:((s[n].toNat:Int) != 126)=false:=by rw[q1]at k5;simpa using k5
 clear q61 k5;go_enter Tryz.func60,Tryz.ntmps60
 go_upto_region 6 with(first
  |(go_at_call 87;refine csm (ZL.out _) ?_)
  |(go_at_call 88;refine csm (PT.out _) ?_))
 go_region;all_goals
  go_wp2_with fail
  refine bodyPost_ret (Q7u rfl _ _ w.heap.size 85 _ (0,0) _ rfl (setRow_heap _ _ _ _ _ _ hz) Tryz.underlying85 rfl Q52) rfl ⟨rfl,?_⟩;exact((mRf _ w).alloc _).drew.setRow (by simp) _
end Go.Proofs.YtcpceafmlgaodaaGreat
