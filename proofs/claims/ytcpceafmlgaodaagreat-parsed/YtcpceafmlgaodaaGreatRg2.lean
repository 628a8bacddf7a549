import Derived.Test.YtcpceafmlgaodaaGreatRa6
import Derived.Deep.DeepCutAuto
namespace Go.Proofs.YtcpceafmlgaodaaGreat
open Go.RowKit
set_option maxRecDepth 99999
set_option maxHeartbeats 0
set_option linter.all false
structure ZLn where
 rule:Bool
 skip:Bool
 name:ByteArray
 pat:ByteArray
 syms:List ByteArray
 places:List Int
def Q43(s:ByteArray):Nat->Int->List ByteArray->List Int->Option (List ByteArray × List Int)
 |0,_,_,_=>none
 |f+1,i,a,b =>
  if i<s.size then
   if atB s i=32 then
    if Q5k s (i+1)<0 then none
    else Q43 s f (Q5k s (i+1)) (a++[s.extract (i+1).toNat (Q5k s (i+1)).toNat]) (b++[i+1])
   else none
  else some (a,b)
theorem z6q(s:ByteArray)(f:Nat)(i:Int)(a:List ByteArray)(b:List Int):Q43 s (f+1) i a b=if i<s.size then
   if atB s i=32 then
    if Q5k s (i+1)<0 then none
    else Q43 s f (Q5k s (i+1)) (a++[s.extract (i+1).toNat (Q5k s (i+1)).toNat]) (b++[i+1])
   else none
  else some (a,b):=rfl
def Q48(s:ByteArray)(n:Nat):Bool:=decide (n<=8)&&decide (n<s.size)&&(atB s n==61||atB s n==126)
def Q4u(s:ByteArray):Option ZLn :=
 if 0<Q37 s 0 then
  if Q48 s (Q37 s 0)=true/\zpK s 6 ((Q37 s 0:Nat)+1)=s.size then some ⟨true,atB s (Q37 s 0)==126,s.extract 0 (Q37 s 0),s.extract (Q37 s 0+1) s.size,[],[]⟩ else none
 else if 0<=Q5k s 0/\atB s (Q5k s 0)=58 then
  (Q43 s (s.size+5) (Q5k s 0+1) [] []).map (fun l=>⟨false,false,s.extract 0 (Q5k s 0).toNat,⟨#[]⟩,l.1,l.2⟩)
 else none
def Q9n(s:ByteArray)(ds:List Wd)(ns:List ByteArray):Prop :=
 ds.length=ns.length/\∀(k:Nat) (d:Wd) (n:ByteArray),ds[k]? = some d->ns[k]? = some n->∃j m:Nat,WordAt s j m d/\j+m<=s.size/\n=s.extract j (j+m)
structure ZRel(s:ByteArray)(i:Nat)(x:Ln)(z:ZLn):Prop where
 rule:z.rule=Q07 x
 skip:z.skip=x.skip
 place:x.front.place=i
 name:∃m,WordAt s i m x.front/\i+m<=s.size/\z.name=s.extract i (i+m)
 pat:z.rule=true->∃L,Q6q z.pat 6 0=⟨z.pat.size,true,L⟩/\z.pat.size<=s.size/\∀t,Q5t x t=true↔L (bytesOf t)
 syms:Q9n s x.syms z.syms
 places:z.places=x.syms.map (fun d:Wd=>d.place-(i:Int))
 nos:z.rule=true->z.syms=[]
 noskip:z.rule=false->z.skip=false
section
variable {s:ByteArray}{a e:Nat}
theorem y0k(he:e<=s.size){x:Nat}:Q3a s (a+x:Nat) (s.extract a e) (x:Nat) (e-a-x):=fun j hj=>by
 rw[z02 he (by omega) (by omega)];congr 1;omega
theorem y51(he:e<=s.size){x:Nat}:Q3a (s.extract a e) (x:Nat) s (a+x:Nat) (e-a-x):=fun j hj=>by
 rw[z02 he (by omega) (by omega)];congr 1;omega
theorem x5i(he:e<s.size)(h10:atB s (e:Nat)=10):∀{p:Nat}{ds:List Wd}{ns:List ByteArray},PN s p ds ns e->a<=p->∀(f:Nat) (A:List ByteArray) (B:List Int),e+2<=f+p ->
  Q43 (s.extract a e) f ((p-a:Nat):Int) A B=some (A++ns,B++ds.map (fun d:Wd=>d.place-(a:Int))):=by
 have j6:=z10 (s:=s) (a:=a) (e:=e) (by omega);intro p ds ns h;refine PN.ind (q:=e) (M:=fun p ds ns=>a<=p->∀(f:Nat) (A:List ByteArray) (B:List Int),e+2<=f+p->Q43 (s.extract a e) f ((p-a:Nat):Int) A B=some (A++ns,B++ds.map (fun d:Wd=>d.place-(a:Int)))) ?_ ?_ ds p ns h
 ·intro hp f A B hf;obtain⟨f,rfl⟩:∃k,f=k+1:=⟨f-1,by omega⟩;rw[z6q,qAa (by omega)];simp
 intro p m d ds ns h32 hw hle h ih hp f A B hf;have j4:=h.le;have j3:=hw.pos;obtain⟨f,rfl⟩:∃k,f=k+1:=⟨f-1,by omega⟩;have j0:Q0l (atB s (((p+1:Nat):Int)+m))=false:=by
  rcases h.next with q|q
  ·rw[show((p+1:Nat):Int)+m=(e:Nat) by omega,h10];decide
  rw[show((p+1:Nat):Int)+m=((p+1+m:Nat):Int) by omega,q];decide
 have wd:=hw.wordy j0;rw[show((p+1:Nat):Int)=a+(((p-a:Nat):Int)+1) by omega]at wd;have wu:=y1l he h10 (by omega) wd (by omega);have zs:=x5j (by omega) wu;have j1:atB (s.extract a e) ((p-a:Nat):Int)=32:=by
  rw[z02 (by omega) (by omega) (by omega),show(a:Int)+((p-a:Nat):Int)=(p:Nat) by omega];exact h32
 have j2:((p-a:Nat):Int)<((s.extract a e).size:Int):=by omega
 rw[z6q,qAb j2,qAb j1,zs,qAa (by omega)];have en:((p-a:Nat):Int)+1+m=((p+1+m-a:Nat):Int):=by omega
 rw[en,ih (by omega) f _ _ (by omega)];have ex:(s.extract a e).extract (((p-a:Nat):Int)+1).toNat (((p+1+m-a:Nat):Int)).toNat=s.extract (p+1) (p+1+m):=by
  rw[y1w s a e _ _ (by omega) (by omega)];congr 1<;>omega
 have j5:=hw.place;rw[ex];simp only[qAh,List.singleton_append,qCl,qO,Prod.mk.injEq,List.append_cancel_left_eq,qAu,and_true,true_and];omega
theorem x4e(he:e<s.size)(h10:atB s (e:Nat)=10)(d:Wd):∀(g f:Nat) (x:Nat) (A:List ByteArray) (B:List Int) (S:List Wd),a+x<=e->(s.size:Int)+2<=f+(a+x)->(Q43 (s.extract a e) g (x:Nat) A B).isSome=true ->
  (Q2w s d f ((a+x:Nat):Int) S).2.2=true:=by
 have j2:=z10 (s:=s) (a:=a) (e:=e) (by omega);intro g;induction g with
 |zero=>intro f x A B S h1 h2 h3;simp[Q43]at h3
 |succ g ih =>
  intro f x A B S h1 h2 h3;obtain⟨f,rfl⟩:∃k,f=k+1:=⟨f-1,by omega⟩;rw[z6q]at h3;unfold Q2w;by_cases c1:a+x<e
  ·have j1:((x:Nat):Int)<((s.extract a e).size:Int):=by omega
   rw[qAb j1]at h3;by_cases c2:atB (s.extract a e) (x:Nat)=32
   ·rw[qAb c2]at h3;rw[z02 (by omega) (by omega) (by omega)]at c2;have j0:atB s ((a+x:Nat):Int)=32:=by rw[← c2];congr 1
    rw[qAb j0];by_cases c3:Q5k (s.extract a e) ((x:Int)+1)<0
    ·rw[qAb c3]at h3;cases h3
    rw[qAa c3]at h3;obtain⟨m,hw,hm⟩:=y0d (by omega) (by omega:0<=Q5k (s.extract a e) ((x:Int)+1));obtain⟨wu,hle⟩:=y89 he h10 (by omega) hw;obtain⟨r1,r2,r3⟩:=y2k wu;have ex:((a+x:Nat):Int)+1=(a:Int)+((x:Int)+1):=by omega
    rw[ex,qAa (by rw[r1];simp),r2];have en:(a:Int)+((x:Int)+1)+m=((a+(x+1+m):Nat):Int):=by omega
    rw[en];rw[hm,show(x:Int)+1+m=((x+1+m:Nat):Int) by omega]at h3;exact ih f (x+1+m) _ _ _ (by omega) (by omega) h3
   rw[qAa c2]at h3;cases h3
  have hx:a+x=e:=by omega
  rw[hx,h10,qAa (by omega),qAa (by omega)]
theorem x41{p q:Nat}{ds:List Wd}{ns:List ByteArray}(h:PN s p ds ns q):Q9n s ds ns:=by
 refine PN.ind (q:=q) (M:=fun p ds ns=>Q9n s ds ns) ?_ ?_ ds p ns h
 ·exact⟨rfl,fun k d n h1=>by simp at h1⟩
 intro p m d ds ns h32 hw hle h ih;refine⟨by simp[ih.1],fun k d' n' h1 h2=>?_⟩;cases k with
 |zero=>simp at h1 h2;subst h1 h2;exact⟨p+1,m,hw,hle,rfl⟩
 |succ k=>simp at h1 h2;exact ih.2 k d' n' h1 h2
end
theorem x71{s:ByteArray}{i:Nat}(h:(Q2s s i).2.2=true):∃e:Nat,e<s.size/\i<e/\atB s (e:Nat)=10/\(Q2s s i).2.1=((e+1:Nat):Int)/\Q1g s i e/\∃z,Q4u (s.extract i e)=some z/\ZRel s i (Q2s s i).1 z:=by
 obtain⟨e,he,hie,h10,hnx,hL⟩:=y2i s i h;have j8:=hL.clean;refine⟨e,he,hie,h10,hnx,j8,?_⟩;have ji:=z10 (s:=s) (a:=i) (e:=e) (by omega);unfold Q2s at h ⊢;cases hw:(Q06 s i).2.2
 ·rw[qAb hw]at h;cases h
 rw[qAa (by simp[hw])]at h ⊢;obtain⟨m,hwd,hn⟩:=z8a s i hw;have jg:=hwd.in';have jb:=hwd.pos;have j6:=hwd.head;have j7:=hwd.place;unfold Q2s at hnx;rw[qAa (by simp[hw])]at hnx;generalize(Q06 s i).1=d at *;rw[hn]at h hnx ⊢;cases hh:Q14 d
 ·rw[hh]at h hnx;simp only[qF,qAp]at h hnx ⊢;unfold Q6f at h hnx ⊢;by_cases c1:atB s ((i:Int)+m)≠61/\atB s ((i:Int)+m)≠126
  ·rw[qAb c1]at h;cases h
  rw[qAa c1]at h hnx ⊢;cases c2:(Q1o s ((i:Int)+m+1)).ok
  ·rw[qAb c2]at h;cases h
  rw[qAa (by simp[c2])]at h hnx ⊢;by_cases c3:atB s (Q1o s ((i:Int)+m+1)).next=10
  ·rw[qAa (by simpa using c3)]at h hnx ⊢;have j3:atB s ((i:Int)+m)=61∨atB s ((i:Int)+m)=126:=by
    by_cases q:atB s ((i:Int)+m)=61
    ·exact .inl q
    by_cases q2:atB s ((i:Int)+m)=126
    ·exact .inr q2
    exact absurd ⟨q,q2⟩ c1
   have jh:(Q1o s ((i:Int)+m+1)).next=e:=by dsimp only at hnx;omega
   have je:Q0l (atB s i)=true:=by
    rcases hwd.first with h1|h1
    ·exact h1
    rw[← j6,hh]at h1;cases h1
   obtain⟨l1,l2⟩:=v0m c2;have j9:i+m<e:=by
    have:=z8g (s:=s) (i:=(i:Int)+m) (by rcases j3 with q|q<;>omega);have g:=y4a s 6 ((i:Int)+m+1) (by omega) (by omega) l1;omega
   have hb:atB (s.extract i e) (m:Nat)=atB s ((i:Int)+m):=z02 (by omega) (by omega) (by omega);have j1:Q37 (s.extract i e) 0=m:=y27 (by omega) (fun k hk=>by
    rw[z02 (by omega) (by omega) (by omega)];by_cases k0:k=0
    ·subst k0;simpa using je
    ·have:=hwd.rest k (by omega) hk;rw[show(i:Int)+(0+(k:Int))=(i:Int)+k by omega];exact this) (by
    rw[Int.zero_add,hb];rcases j3 with q|q<;>rw[q]<;>decide)
   have j2:=y16 s (s.extract i e) (qR 6) ((i:Int)+m+1) ((m:Int)+1) (e-i-(m+1)) (by omega) (by omega) (by omega)
    (by have:=y0k (s:=s) (a:=i) (e:=e) (by omega) (x:=m+1);intro j hj;have q:=this j hj;rw[show(i:Int)+m+1=((i+(m+1):Nat):Int) by omega,show(m:Int)+1=((m+1:Nat):Int) by omega];exact q)
    (by rw[z18 (by omega)];decide) l1 (by omega)
   have jf:((s.extract i e).size:Int)=e-i:=by omega
   have hz:Q6q (s.extract i e) 6 ((m:Int)+1)=⟨(s.extract i e).size,true,(Q6q s 6 ((i:Int)+m+1)).lang⟩:=by
    rw[z2k j2.ok,j2.lang,j2.next];congr 1;omega
   have j4:zpK (s.extract i e) 6 ((m:Int)+1)=(s.extract i e).size:=by
    have q:=(x5o (p:=s.extract i e) 6 (i:=(m:Int)+1) (by omega) (by omega)).good (by rw[hz]);rw[hz]at q;exact q
   have jd:Q48 (s.extract i e) m=true:=by
    unfold Q48;have ja:=hwd.le;rw[qBl (by omega),qBl (by omega),hb];rcases j3 with q|q<;>rw[q]<;>decide
   refine⟨⟨true,atB (s.extract i e) m==126,(s.extract i e).extract 0 m,(s.extract i e).extract (m+1) (s.extract i e).size,[],[]⟩,?_,?_⟩
   ·unfold Q4u;rw[j1,qAb (by omega),qAb ⟨jd,j4⟩]
   have ep:(s.extract i e).extract (m+1) (s.extract i e).size=s.extract (i+m+1) e:=by
    rw[y1w s i e _ _ (by omega) (by omega)];congr 1;omega
   have jj:=z10 (s:=s) (a:=i+m+1) (e:=e) (by omega);refine⟨?_,?_,j7,⟨m,hwd,by omega,?_⟩,fun _=>?_,⟨rfl,fun k d' n' q=>by simp at q⟩,rfl,fun _=>rfl,fun q=>(by cases q)⟩
   ·show true=!Q14 d;rw[hh];rfl
   ·show(atB (s.extract i e) m==126)=(atB s ((i:Int)+m)==126);rw[hb]
   ·dsimp only;rw[y1w s i e _ _ (by omega) (by omega),Nat.add_zero]
   dsimp only;rw[ep];have j0:=y16 s (s.extract (i+m+1) e) (qR 6) ((i:Int)+m+1) 0 (e-(i+m+1)) (by omega) (by omega) (by omega)
    (by have:=y0k (s:=s) (a:=i+m+1) (e:=e) (by omega) (x:=0);intro j hj;have q:=this j hj;rw[show(i:Int)+m+1=((i+m+1+0:Nat):Int) by omega,show(0:Int)=((0:Nat):Int) by omega];exact q)
    (by rw[z18 (by omega)];decide) l1 (by omega)
   refine⟨(Q6q s 6 ((i:Int)+m+1)).lang,?_,by omega,fun t=>y91 c2 d _ t⟩;rw[z2k j0.ok,j0.lang,j0.next];congr 1;omega
  rw[qAb c3]at h;cases h
 rw[hh]at h hnx;simp only[qBb]at h hnx ⊢;unfold Q6e at h hnx ⊢;by_cases c1:atB s ((i:Int)+m)=58
 ·rw[qAa (by simpa using c1)]at h hnx ⊢;have e1:(i:Int)+m+1=((i+m+1:Nat):Int):=by omega
  rw[e1]at h hnx ⊢;obtain⟨ds,ns,q,h1,h2,h3⟩:=z9o s d _ _ _ h;rw[h3]at hnx ⊢;have jc:q=e:=by dsimp only at hnx;omega
  subst jc;have ja:=h1.le;have j5:Q1a (atB s i)=true:=by rw[← j6];exact hh
  have wd:=hwd.wordy (by rw[c1];decide);have wu:=y1l (a:=i) he h10 (x:=0) (by omega) (by rw[qCs];exact wd) (by omega);have zs:=x5j (by omega) wu;rw[Int.zero_add]at zs;have hb:atB (s.extract i q) (m:Nat)=58:=by rw[z02 (by omega) (by omega) (by omega)];exact c1
  have j1:Q37 (s.extract i q) 0=0:=y27 (by omega) (fun k hk=>by omega) (by
   rw[z02 (by omega) (by omega) (by omega)];simp only[qDj,qCs];exact y5c j5)
  have j4:=x5i (a:=i) he h10 h1 (by omega) ((s.extract i q).size+5) [] [] (by omega);rw[show((i+m+1-i:Nat):Int)=(m:Int)+1 by omega]at j4;refine⟨⟨false,false,(s.extract i q).extract 0 m,⟨#[]⟩,ns,ds.map (fun d:Wd=>d.place-(i:Int))⟩,?_,?_⟩
  ·unfold Q4u;rw[j1,qAa (by omega),zs,qAb ⟨by omega,hb⟩,j4];rfl
  refine⟨?_,rfl,j7,⟨m,hwd,by omega,?_⟩,fun q=>(by cases q),?_,?_,fun q=>(by cases q),fun _=>rfl⟩
  ·show false=!Q14 d;rw[hh];rfl
  ·dsimp only;rw[y1w s i q _ _ (by omega) (by omega),Nat.add_zero]
  ·show Q9n s ([]++ds) ns;rw[qBq];exact x41 h1
  rfl
 rw[qAb (by simpa using c1)]at h;cases h
theorem x7g{s:ByteArray}{i e:Nat}(he:e<s.size)(hie:i<=e)(h10:atB s (e:Nat)=10)(h:(Q4u (s.extract i e)).isSome=true):(Q2s s i).2.2=true:=by
 have j9:=z10 (s:=s) (a:=i) (e:=e) (by omega);unfold Q4u at h;by_cases c0:0<Q37 (s.extract i e) 0
 ·rw[qAb c0]at h;obtain⟨q1,q2⟩:=z5a (s.extract i e) (x:=0) (by omega);generalize Q37 (s.extract i e) 0=n at *;by_cases c1:Q48 (s.extract i e) n=true/\zpK (s.extract i e) 6 ((n:Nat)+1)=(s.extract i e).size
  ·obtain⟨c1,c2⟩:=c1;unfold Q48 at c1;rw[qAc,qAc,qAm,qAm,qAk]at c1;obtain⟨⟨h8,hns⟩,hch⟩:=c1;have hb:atB (s.extract i e) (n:Nat)=atB s ((i:Int)+n):=z02 (by omega) (by omega) (by omega);have j2:atB s ((i:Int)+n)=61∨atB s ((i:Int)+n)=126:=by
    rw[hb]at hch;rcases hch with q|q
    ·left;simpa using q
    right;simpa using q
   have j0:∀k:Nat,k<n->Q0l (atB s ((i:Int)+k))=true:=fun k hk=>by
    have:=q1 k hk;rw[z02 (by omega) (by omega) (by omega)]at this;rw[show(i:Int)+(0+(k:Int))=(i:Int)+k by omega]at this;exact this
   have wd:Q8i s i n:=⟨by omega,h8,.inl (by have:=j0 0 (by omega);simpa using this),fun k k1 k2=>j0 k k2,by rcases j2 with q|q<;>rw[q]<;>decide⟩;obtain⟨r1,r2,r3⟩:=y2k wd;have hh:Q14 (Q06 s i).1=false:=by
    rw[r3.head];have:=j0 0 (by omega);simp only[qDj,qCs]at this;cases z:Q1a (atB s i)
    ·rfl
    rw[y5c z]at this;cases this
   have j3:(Q6q (s.extract i e) 6 ((n:Int)+1)).ok=true/\(Q6q (s.extract i e) 6 ((n:Int)+1)).next=(s.extract i e).size:=by
    have j4:=x5o (p:=s.extract i e) 6 (i:=(n:Int)+1) (by omega) (by omega);cases z:(Q6q (s.extract i e) 6 ((n:Int)+1)).ok
    ·rcases j4.bad z with b|⟨_,b,_⟩
     ·rw[c2]at b;omega
     rw[c2]at b;omega
    exact⟨rfl,by rw[← j4.good z];exact c2⟩
   have j1:=y16 (s.extract i e) s (qR 6) ((n:Int)+1) ((i:Int)+n+1) (e-i-(n+1)) (by omega) (by omega) (by omega)
    (by have:=y51 (s:=s) (a:=i) (e:=e) (by omega) (x:=n+1);intro j hj;have q:=this j hj;rw[show(i:Int)+n+1=((i+(n+1):Nat):Int) by omega,show(n:Int)+1=((n+1:Nat):Int) by omega];exact q)
    (by rw[show(i:Int)+n+1+((e-i-(n+1):Nat):Int)=(e:Nat) by omega,h10];decide) j3.1 (by omega)
   have lk:=y8d s 6 ((i:Int)+n+1) [];have j5:(Q1o s ((i:Int)+n+1)).ok=true:=by unfold Q1o;rw[lk.ok];exact j1.ok
   have j6:(Q1o s ((i:Int)+n+1)).next=(e:Nat):=by
    unfold Q1o;rw[lk.next,j1.next,j3.2];omega
   unfold Q2s;rw[qAa (by rw[r1];simp),hh,qAa (by simp),r2];unfold Q6f;rw[qAa (by rcases j2 with q|q<;>omega),qAa (by rw[j5];simp),j6,h10,qAa (by simp)]
  rw[qAa c1]at h;cases h
 rw[qAa c0]at h;obtain⟨q1,q2⟩:=z5a (s.extract i e) (x:=0) (by omega);have z0:Q37 (s.extract i e) 0=0:=by omega
 rw[z0]at q2;by_cases c1:0<=Q5k (s.extract i e) 0/\atB (s.extract i e) (Q5k (s.extract i e) 0)=58
 ·rw[qAb c1]at h;obtain⟨m,hw,hm⟩:=y0d (by omega) c1.1;obtain⟨wu,hle⟩:=y89 he h10 (by omega) hw;rw[qCs]at wu hle;obtain⟨r1,r2,r3⟩:=y2k wu;rw[Int.zero_add]at hm;rw[hm]at c1 h;have j8:=z8g (s:=s.extract i e) (i:=(m:Int)) (by omega);have hb:atB s ((i:Int)+m)=58:=by
   rw[← z02 (s:=s) (a:=i) (e:=e) (by omega) (by omega) (by omega)];exact c1.2
  have hh:Q14 (Q06 s i).1=true:=by
   rw[r3.head];have hf:=hw.first;simp only[qDj,qCs]at q2;rw[q2]at hf;rw[z02 (by omega) (by omega) (by omega),qCs]at hf;rcases hf with z|z
   ·cases z
   exact z
  unfold Q2s;rw[qAa (by rw[r1];simp),hh,qAb rfl,r2];unfold Q6e;rw[hb,qAa (by simp)];have j7:=x4e (a:=i) he h10 (Q06 s i).1 ((s.extract i e).size+5) (s.size+5) (m+1) [] [] [] (by omega) (by omega) (by
   rw[show((m+1:Nat):Int)=(m:Int)+1 by omega];simpa using h)
  rw[show(i:Int)+m+1=((i+(m+1):Nat):Int) by omega];exact j7
 rw[qAa c1]at h;cases h
theorem Q7u{P:Program}{fn:Func}{p u:Tmp}{ty:TypeId}(h:fn.results=#[.cell p ty,.tmp u])(tmps:Array Value)(w:World)(g:Nat)(t:TypeId)(cs:Array Value)(fr:Nat × Nat)(d:TypeDesc)
  (hp:tmps.getD p undef=.pointer (some ⟨g,0,none⟩)) (hg:w.heap[g]? = some (.cells cs t fr))
  (hu:P.underlying ty=some d) (hd:(match d with | .struct _ | .array _ _=>true|_=>false)=true) (hi:(P.info? ty).map (·.size)=some cs.size) :
  (results fn tmps).run P w=.ok (.tuple #[.agg cs,tmps.getD u undef]) w:=by
 have j0:tmps[p]?.getD undef=.pointer (some ⟨g,0,none⟩):=by simpa using hp
 simp[results,h,j0,asAddr,run_loadVar_row w g t ty cs fr d hg hu hd hi]
theorem z9v{P:Program}(w:World)(g:Nat)(t ty:TypeId)(old cells:Array Value)(hg:w.heap[g]? = some (.cells old t (0,0)))(hi:(P.info? ty).map (·.size)=some cells.size)(hold:old.size=cells.size)(h1:cells.all (·.oneCell')=true) :
  (Instr.storeAt ty (.pointer (some ⟨g,0,none⟩)) (.agg cells)).run P w=.ok () (w.setRow g cells):=by
 simp only[Instr.storeAt,Instr.sureAddr,Sem.run_bind,Sem.run_pure,Result.andThen_ok,run_storeVar_row w g t ty old cells hg hi hold h1]
abbrev nilS:Value:=.slice none 0 0
abbrev zlL(r k:Bool)(nm pt:ByteArray)(vs vp:Value)(a:Int):List Value:=[.bool r,.bool k,.string nm,.string pt,vs,vp,.int .i64 a]
abbrev zlA(r k:Bool)(nm pt:ByteArray)(vs vp:Value)(a:Int):Array Value:=#[.bool r,.bool k,.string nm,.string pt,vs,vp,.int .i64 a]
theorem Q52:(Tryz.prog.info? 85).map (·.size)=some 7:=by kernel_rfl
theorem z3b{r k:Bool}{nm pt:ByteArray}{vs vp:Value}{a:Int}(h1:vs.oneCell'=true)(h2:vp.oneCell'=true):(zlA r k nm pt vs vp a).all (·.oneCell')=true:=by
 refine all_oneCell_toArray (cs:=zlL r k nm pt vs vp a) ?_;intro v hv;simp only[qBc,qCt,or_false]at hv;rcases hv with rfl|rfl|rfl|rfl|rfl|rfl|rfl
 ·rfl
 ·rfl
 ·rfl
 ·rfl
 ·exact h1
 ·exact h2
 rfl
def stZ(p v:Value):Sem Unit:=Instr.storeAt 85 p v
theorem x7l(p v:Value):Instr.storeAt 85 p v=stZ p v:=rfl
structure ZLV where
 ln:ZLn
 vs:Value
 vp:Value
 pl:Int
def ZLV.cells(x:ZLV):List Value:=zlL x.ln.rule x.ln.skip x.ln.name x.ln.pat x.vs x.vp x.pl
structure ZLV.At(b:Nat)(w:World)(x:ZLV):Prop where
 syms:w.ownsRow b 9 1 x.vs x.ln.syms.length (Q9t x.ln.syms)
 places:w.ownsRow b 3 1 x.vp x.ln.places.length (Q9w x.ln.places)
def noZL:ZLn:=⟨false,false,⟨#[]⟩,⟨#[]⟩,[],[]⟩
theorem ZLV.At.fresh{b:Nat}{w w':World}{x:ZLV}(h:x.At b w)(hm:Q0a w w'):x.At b w' :=
 ⟨z0c h.syms (fun g hg=>hm.block g (h.syms.lt g hg).2 (fun x=>x)),z0c h.places (fun g hg=>hm.block g (h.places.lt g hg).2 (fun x=>x))⟩
theorem ZLV.At.kept{S:Nat->Prop}{b:Nat}{w w':World}{x:ZLV}(h:x.At b w)(hm:Mod S w w')(h1:∀k,x.vs.ownBlock=some k->¬S k)(h2:∀k,x.vp.ownBlock=some k->¬S k):x.At b w' :=
 ⟨z0c h.syms (fun g hg=>hm.block g (h.syms.lt g hg).2 (h1 g hg)),z0c h.places (fun g hg=>hm.block g (h.places.lt g hg).2 (h2 g hg))⟩
theorem ZLV.At.one{b:Nat}{w:World}{x:ZLV}(h:x.At b w):x.cells.toArray.all (·.oneCell')=true:=z3b (z6j h.syms) (z6j h.places)
def ZRet(w:World)(r:Option ZLn)(e:Ending)(w':World):Prop :=
 ∃x:ZLV,e=.returned (.tuple #[.agg x.cells.toArray,.bool r.isSome])/\x.At w.heap.size w'/\Q0a w w'/\∀z,r=some z->x.ln=z
theorem y8i(b:Nat)(w:World)(x:ZLV)(h1:x.ln.syms=[])(h2:x.ln.places=[])(h3:x.vs=nilS)(h4:x.vp=nilS):x.At b w:=by
 refine⟨?_,?_⟩
 ·rw[h1,h3];exact World.ownsRow_nil _ _ _ _
 rw[h2,h4];exact World.ownsRow_nil _ _ _ _
attribute [local go_sem ↓] x7l
theorem x03(s:ByteArray)(w:World)(hs:s.size<=70000)(n:Nat)(hn:Q37 s 0=n)(hn0:0<n)(hok:Q48 s n=true) :
  Calls Tryz.prog 60 #[.string s] w fun e w'=>e=.returned (.tuple #[.agg (zlA true (atB s n==126) (s.extract 0 n) (s.extract (n+1) s.size) (.slice none 0 0) (.slice none 0 0) 0),.bool (zpK s 6 (n+1)==(s.size:Int))])/\Q0a w w':=by
 have ZL:=hid (fun w=>z2g s 0 w (by omega) (by omega));have e0:((0:Nat):Int)=0:=rfl;rw[e0,hn]at ZL;unfold Q48 at hok;rw[qAc,qAc,qAm,qAm,qAk]at hok;obtain⟨⟨h8,hns⟩,hch⟩:=hok;have PT:=hid (fun w=>y3b s (by omega) 6 0 (by omega) (n+1) w (by omega));have en:((n+1:Nat):Int)=(n:Int)+1:=by omega
 rw[en,e0]at PT;have hb:=z1r hns;rw[hb]at hch ⊢;have j0:s[n].toNat<256:=s[n].toNat_lt;have k1:0<(n:Int):=by omega
 have k2:¬(8:Int)<(n:Int):=by omega
 have k3:¬(s.size:Int)<=(n:Int):=by omega
 have k4:(n:Int)<(s.size:Int):=by omega
 have k5:((s[n].toNat:Int) != 61&&(s[n].toNat:Int) != 126)=false:=by
  rcases hch with h|h
  ·have:(s[n].toNat:Int)=61:=by simpa using h
   rw[this];decide
  have:(s[n].toNat:Int)=126:=by simpa using h
  rw[this];decide
 generalize zpK s 6 ((n:Int)+1)=pk at PT ⊢;have hz:(w.alloc (.cells (zlA false false ⟨#[]⟩ ⟨#[]⟩ (.slice none 0 0) (.slice none 0 0) 0) 85 (0,0))).heap[w.heap.size]? = some (.cells (zlA false false ⟨#[]⟩ ⟨#[]⟩ (.slice none 0 0) (.slice none 0 0) 0) 85 (0,0)):=z0a _ _;clear hb hn;have s1:(stZ (.pointer (some ⟨w.heap.size,0,none⟩)) (.agg #[.bool true,.bool ((s[n].toNat:Int)==126),.string (s.extract 0 n),.string (s.extract (n+1) s.size),.slice none 0 0,.slice none 0 0,.int .i64 0])).run Tryz.prog (w.alloc (.cells #[.bool false,.bool false,.string ⟨#[]⟩,.string ⟨#[]⟩,.slice none 0 0,.slice none 0 0,.int .i64 0] 85 (0,0))).drew=.ok () ((w.alloc (.cells #[.bool false,.bool false,.string ⟨#[]⟩,.string ⟨#[]⟩,.slice none 0 0,.slice none 0 0,.int .i64 0] 85 (0,0))).drew.setRow w.heap.size #[.bool true,.bool ((s[n].toNat:Int)==126),.string (s.extract 0 n),.string (s.extract (n+1) s.size),.slice none 0 0,.slice none 0 0,.int .i64 0]) :=
  z9v (t:=85) (old :=  #[.bool false,.bool false,.string ⟨#[]⟩,.string ⟨#[]⟩,.slice none 0 0,.slice none 0 0,.int .i64 0]) _ _ _ _ hz Q52 rfl (z3b rfl rfl)
 by_cases q61:s[n].toNat=61
 ·have q1:((s[n].toNat:Int) != 61)=false:=by simp[q61]
  clear q61;go_enter Tryz.func60,Tryz.ntmps60
  go_upto_region 6 with(first
   |(go_at_call 87;refine csm (ZL.out _) ?_)
   |(go_at_call 88;refine csm (PT.out _) ?_))
  go_region;all_goals
   go_wp2_with fail
   refine bodyPost_ret (Q7u rfl _ _ w.heap.size 85 _ (0,0) _ rfl (setRow_heap _ _ _ _ _ _ hz) Tryz.underlying85 rfl Q52) rfl ⟨rfl,?_⟩;exact((mRf _ w).alloc _).drew.setRow (by simp) _
 have q1:((s[n].toNat:Int) != 61)=true:=by simp;omega
 have q2:((s[n].toNat:Int) != 126)=false:=by rw[q1]at k5;simpa using k5
 clear q61 k5;go_enter Tryz.func60,Tryz.ntmps60
 go_upto_region 6 with(first
  |(go_at_call 87;refine csm (ZL.out _) ?_)
  |(go_at_call 88;refine csm (PT.out _) ?_))
 go_region;all_goals
  go_wp2_with fail
  refine bodyPost_ret (Q7u rfl _ _ w.heap.size 85 _ (0,0) _ rfl (setRow_heap _ _ _ _ _ _ hz) Tryz.underlying85 rfl Q52) rfl ⟨rfl,?_⟩;exact((mRf _ w).alloc _).drew.setRow (by simp) _
theorem y5w(s:ByteArray)(w:World)(hs:s.size<=70000)(n:Nat)(hn:Q37 s 0=n)(hn0:0<n)(hok:Q48 s n=false) :
  Calls Tryz.prog 60 #[.string s] w fun e w'=>e=.returned (.tuple #[.agg (zlA false false ⟨#[]⟩ ⟨#[]⟩ (.slice none 0 0) (.slice none 0 0) 0),.bool false])/\Q0a w w':=by
 have ZL:=hid (fun w=>z2g s 0 w (by omega) (by omega));have e0:((0:Nat):Int)=0:=rfl;rw[e0,hn]at ZL;have j1:=z8d s (s.size+2) 0 (by omega) (by omega);have j0:((Q37 s 0:Nat):Int)<=s.size:=by have h:0+((Q37 s 0:Nat):Int)<=s.size:=j1;omega
 rw[hn]at j0;have hz:(w.alloc (.cells (zlA false false ⟨#[]⟩ ⟨#[]⟩ (.slice none 0 0) (.slice none 0 0) 0) 85 (0,0))).heap[w.heap.size]? = some (.cells (zlA false false ⟨#[]⟩ ⟨#[]⟩ (.slice none 0 0) (.slice none 0 0) 0) 85 (0,0)):=z0a _ _;have HZ:=hid hz;clear hz j1 hn;have k1:0<(n:Int):=by omega
 unfold Q48 at hok;by_cases h8:8<n
 ·have k2:(8:Int)<(n:Int):=by omega
  clear hok;go_enter Tryz.func60,Tryz.ntmps60
  go_wp2_with (first
   |(go_at_call 87;refine csm (ZL.out _) ?_)
   |(refine wpList_store_row rfl 85 _ _ rfl w.heap.size _ rfl rfl _ _ HZ.out Q52 rfl (z3b rfl rfl) ?_))
  refine bodyPost_ret (Q7u rfl _ _ w.heap.size 85 _ (0,0) _ rfl (setRow_heap _ _ _ _ _ _ HZ.out) Tryz.underlying85 rfl Q52) rfl ⟨rfl,?_⟩;exact((mRf _ w).alloc _).setRow (by simp) _
 have k2:¬(8:Int)<(n:Int):=by omega
 by_cases hns:n<s.size
 ·have hb:=z1r hns;rw[hb,qBl (by omega),qBl hns]at hok;simp only[qBa,qBm]at hok;obtain⟨c1,c2⟩:=hok;have q1:((s[n].toNat:Int) != 61)=true:=by simpa using c1
  have q2:((s[n].toNat:Int) != 126)=true:=by simpa using c2
  have j2:s[n].toNat<256:=s[n].toNat_lt;have k3:¬(s.size:Int)<=(n:Int):=by omega
  have k4:(n:Int)<(s.size:Int):=by omega
  clear hb c1 c2;go_enter Tryz.func60,Tryz.ntmps60
  go_wp2_with (first
   |(go_at_call 87;refine csm (ZL.out _) ?_)
   |(refine wpList_store_row rfl 85 _ _ rfl w.heap.size _ rfl rfl _ _ HZ.out Q52 rfl (z3b rfl rfl) ?_))
  refine bodyPost_ret (Q7u rfl _ _ w.heap.size 85 _ (0,0) _ rfl (setRow_heap _ _ _ _ _ _ HZ.out) Tryz.underlying85 rfl Q52) rfl ⟨rfl,?_⟩;exact((mRf _ w).alloc _).setRow (by simp) _
 have k3:(s.size:Int)<=(n:Int):=by omega
 clear hok;go_enter Tryz.func60,Tryz.ntmps60
 go_wp2_with (first
  |(go_at_call 87;refine csm (ZL.out _) ?_)
  |(refine wpList_store_row rfl 85 _ _ rfl w.heap.size _ rfl rfl _ _ HZ.out Q52 rfl (z3b rfl rfl) ?_))
 refine bodyPost_ret (Q7u rfl _ _ w.heap.size 85 _ (0,0) _ rfl (setRow_heap _ _ _ _ _ _ HZ.out) Tryz.underlying85 rfl Q52) rfl ⟨rfl,?_⟩;exact((mRf _ w).alloc _).setRow (by simp) _
theorem y7h(s:ByteArray){i:Int}(h0:0<=i):Q5k s i=-1∨(i<Q5k s i/\Q5k s i<=s.size):=by
 by_cases h:0<=Q5k s i
 ·right;obtain⟨m,hw,hm⟩:=y0d h0 h;have hp:=hw.pos;have j0:atB s (i+((m-1:Nat):Int))≠-1:=by
   by_cases m1:m-1=0
   ·rw[m1];intro q;have:=hw.first;simp only[qDj,qCs]at q;rw[q]at this;revert this;decide
   exact y2s (hw.rest (m-1) (by omega) (by omega))
  have:=z0q j0;omega
 left;unfold Q5k at h ⊢;split
 ·rfl
 rename_i c0;rw[qAa c0]at h;split
 ·rename_i c1;rw[qAb c1]at h;split
  ·rfl
  rename_i c2;rw[qAa c2]at h;omega
 rename_i c1;rw[qAa c1]at h;split
 ·rfl
 rename_i c2;rw[qAa c2]at h;omega
theorem y5v(s:ByteArray)(w:World)(hs:s.size<=70000)(hn:Q37 s 0=0)(hok:¬(0<=Q5k s 0/\atB s (Q5k s 0)=58)) :
  Calls Tryz.prog 60 #[.string s] w fun e w'=>e=.returned (.tuple #[.agg (zlA false false ⟨#[]⟩ ⟨#[]⟩ (.slice none 0 0) (.slice none 0 0) 0),.bool false])/\Q0a w w':=by
 have ZL:=hid (fun w=>z2g s 0 w (by omega) (by omega));have ZY:=hid (fun w=>z50 s 0 w (by omega) (by omega));have e0:((0:Nat):Int)=0:=rfl;rw[e0,hn]at ZL;rw[e0]at ZL ZY;have j0:=y7h s (i:=0) (by omega);have hz:(w.alloc (.cells (zlA false false ⟨#[]⟩ ⟨#[]⟩ (.slice none 0 0) (.slice none 0 0) 0) 85 (0,0))).heap[w.heap.size]? = some (.cells (zlA false false ⟨#[]⟩ ⟨#[]⟩ (.slice none 0 0) (.slice none 0 0) 0) 85 (0,0)):=z0a _ _;have HZ:=hid hz;clear hz hn;generalize Q5k s 0=y at ZY j0 hok;by_cases y0:y<0
 ·clear hok j0;go_enter Tryz.func60,Tryz.ntmps60
  go_wp2_with (first
   |(go_at_call 87;refine csm (ZL.out _) ?_)
   |(go_at_call 89;refine csm (ZY.out _) ?_)
   |(refine wpList_store_row rfl 85 _ _ rfl w.heap.size _ rfl rfl _ _ HZ.out Q52 rfl (z3b rfl rfl) ?_))
  refine bodyPost_ret (Q7u rfl _ _ w.heap.size 85 _ (0,0) _ rfl (setRow_heap _ _ _ _ _ _ HZ.out) Tryz.underlying85 rfl Q52) rfl ⟨rfl,?_⟩;exact((mRf _ w).alloc _).setRow (by simp) _
 obtain⟨j,rfl⟩:∃j:Nat,y=j:=⟨y.toNat,by omega⟩;by_cases hj:j<s.size
 ·have hb:=z1r hj;rw[hb]at hok;have q1:((s[j].toNat:Int) != 58)=true:=by
   have:¬(s[j].toNat:Int)=58:=fun q=>hok ⟨by omega,q⟩;simpa using this
  have j1:s[j].toNat<256:=s[j].toNat_lt;have k3:¬(s.size:Int)<=(j:Int):=by omega
  have k4:(j:Int)<(s.size:Int):=by omega
  clear hb hok j0;go_enter Tryz.func60,Tryz.ntmps60
  go_wp2_with (first
   |(go_at_call 87;refine csm (ZL.out _) ?_)
   |(go_at_call 89;refine csm (ZY.out _) ?_)
   |(refine wpList_store_row rfl 85 _ _ rfl w.heap.size _ rfl rfl _ _ HZ.out Q52 rfl (z3b rfl rfl) ?_))
  refine bodyPost_ret (Q7u rfl _ _ w.heap.size 85 _ (0,0) _ rfl (setRow_heap _ _ _ _ _ _ HZ.out) Tryz.underlying85 rfl Q52) rfl ⟨rfl,?_⟩;exact((mRf _ w).alloc _).setRow (by simp) _
 have k3:(s.size:Int)<=(j:Int):=by omega
 clear hok j0;go_enter Tryz.func60,Tryz.ntmps60
 go_wp2_with (first
  |(go_at_call 87;refine csm (ZL.out _) ?_)
  |(go_at_call 89;refine csm (ZY.out _) ?_)
  |(refine wpList_store_row rfl 85 _ _ rfl w.heap.size _ rfl rfl _ _ HZ.out Q52 rfl (z3b rfl rfl) ?_))
 refine bodyPost_ret (Q7u rfl _ _ w.heap.size 85 _ (0,0) _ rfl (setRow_heap _ _ _ _ _ _ HZ.out) Tryz.underlying85 rfl Q52) rfl ⟨rfl,?_⟩;exact((mRf _ w).alloc _).setRow (by simp) _
structure LnM(w wr:World)(nm:ByteArray)(a:List ByteArray)(b:List Int)(vs vp:Value):Prop where
 fresh:Q0a w wr
 res:wr.heap[w.heap.size]? = some (.cells (zlA false false ⟨#[]⟩ ⟨#[]⟩ (.slice none 0 0) (.slice none 0 0) 0) 85 (0,0))
 loc:wr.heap[w.heap.size+1]? = some (.cells (zlA false false nm ⟨#[]⟩ vs vp 0) 85 (0,0))
 os:wr.ownsRow (w.heap.size+2) 9 1 vs a.length (Q9t a)
 op:wr.ownsRow (w.heap.size+2) 3 1 vp b.length (Q9w b)
 dis:∀k,vs.ownBlock=some k->vp.ownBlock=some k->False
section
variable {w wr W w1:World}{nm:ByteArray}{a:List ByteArray}{b:List Int}{vs vp v':Value}
theorem LnM.blk(h:LnM w wr nm a b vs vp)(hW:Q0a wr W){v:Value}(hv:v=vs∨v=vp)(hg:W.grownBy w1 v.ownBlock) :
  w1.heap[w.heap.size]? = some (.cells (zlA false false ⟨#[]⟩ ⟨#[]⟩ (.slice none 0 0) (.slice none 0 0) 0) 85 (0,0))/\w1.heap[w.heap.size+1]? = some (.cells (zlA false false nm ⟨#[]⟩ vs vp 0) 85 (0,0)):=by
 have h1:=hW.at h.res (fun x=>x);have h2:=hW.at h.loc (fun x=>x);have j0:∀k,v.ownBlock=some k->w.heap.size+2<=k:=by
  intro k hk;rcases hv with rfl|rfl
  ·exact(h.os.lt k hk).1
  exact(h.op.lt k hk).1
 exact⟨by rw[hg.block _ (z0j h1) (fun e=>by have:=j0 _ e.symm;omega)];exact h1,by rw[hg.block _ (z0j h2) (fun e=>by have:=j0 _ e.symm;omega)];exact h2⟩
theorem LnM.addS{x:ByteArray}(h:LnM w wr nm a b vs vp)(hW:Q0a wr W)(hown:w1.ownsRow (w.heap.size+2) 9 1 v' (a.length+1) (Q9t a++[.string x]))(hg:W.grownBy w1 vs.ownBlock)
  (hb:∀k,v'.ownBlock=some k->vs.ownBlock=some k∨W.heap.size<=k):LnM w (w1.setCell ⟨w.heap.size+1,4,none⟩ v') nm (a++[x]) b v' vp:=by
 obtain⟨k1,k2⟩:=h.blk hW (.inl rfl) hg;have hl:=hown.lt;refine⟨?_,?_,?_,?_,?_,?_⟩
 ·exact((h.fresh.trans hW).grown hg (fun k hk hlt=>by have:=h.os.lt k hk;omega)).setCell (fun q=>by dsimp only at q;omega) _
 ·exact z0i k1 (by simp)
 ·rw[zhs k2];rfl
 ·rw[qP,qAf];have e1:=qBf (f:=Value.string) (l₁:=a) (l₂:=[x]);rw[qCf]at e1;show World.ownsRow _ _ _ _ _ _ (List.map _ _);rw[e1];exact z0c hown (fun g hg'=>by rw[Proofs.YtcpceafmlgaodaaGreat.heap_setCell_other _ (by have:=hl g hg';simp;omega)])
 ·refine z0c h.op (fun g hg'=>?_);have l2:=h.op.lt g hg';rw[Proofs.YtcpceafmlgaodaaGreat.heap_setCell_other _ (by simp;omega),hg.block g (by have:=hW.size;omega) (fun e=>h.dis g e.symm hg'),hW.block g l2.2 (fun x=>x)]
 intro k q1 q2;rcases hb k q1 with q|q
 ·exact h.dis k q q2
 have:=h.op.lt k q2;have:=hW.size;omega
theorem LnM.addP{x:Int}(h:LnM w wr nm a b vs vp)(hW:Q0a wr W)(hown:w1.ownsRow (w.heap.size+2) 3 1 v' (b.length+1) (Q9w b++[.int .i64 x]))(hg:W.grownBy w1 vp.ownBlock)
  (hb:∀k,v'.ownBlock=some k->vp.ownBlock=some k∨W.heap.size<=k):LnM w (w1.setCell ⟨w.heap.size+1,5,none⟩ v') nm a (b++[x]) vs v':=by
 obtain⟨k1,k2⟩:=h.blk hW (.inr rfl) hg;have hl:=hown.lt;refine⟨?_,?_,?_,?_,?_,?_⟩
 ·exact((h.fresh.trans hW).grown hg (fun k hk hlt=>by have:=h.op.lt k hk;omega)).setCell (fun q=>by dsimp only at q;omega) _
 ·exact z0i k1 (by simp)
 ·rw[zhs k2];rfl
 ·refine z0c h.os (fun g hg'=>?_);have l2:=h.os.lt g hg';rw[Proofs.YtcpceafmlgaodaaGreat.heap_setCell_other _ (by simp;omega),hg.block g (by have:=hW.size;omega) (fun e=>h.dis g hg' e.symm),hW.block g l2.2 (fun x=>x)]
 ·rw[qP,qAf];have e1:=qBf (f:=Value.int .i64) (l₁:=b) (l₂:=[x]);rw[qCf]at e1;show World.ownsRow _ _ _ _ _ _ (List.map _ _);rw[e1];exact z0c hown (fun g hg'=>by rw[Proofs.YtcpceafmlgaodaaGreat.heap_setCell_other _ (by have:=hl g hg';simp;omega)])
 intro k q1 q2;rcases hb k q2 with q|q
 ·exact h.dis k q1 q
 have:=h.os.lt k q1;have:=hW.size;omega
theorem LnM.ret{ok:Bool}{r:Option ZLn}(h:LnM w wr nm a b vs vp)(hr:r.isSome=ok)(hz:∀z,r=some z->z=⟨false,false,nm,⟨#[]⟩,a,b⟩){e:Ending}{w':World}(hf:w'=wr.setRow w.heap.size (zlA false false nm ⟨#[]⟩ vs vp 0))(he:e=.returned (.tuple #[.agg (zlA false false nm ⟨#[]⟩ vs vp 0),.bool ok])):ZRet w r e w':=by
 subst hf;refine⟨⟨⟨false,false,nm,⟨#[]⟩,a,b⟩,vs,vp,0⟩,by rw[hr];exact he,⟨?_,?_⟩,h.fresh.setRow (by simp) _,fun z q=>(hz z q).symm⟩
 ·exact z0f (z0c h.os (fun g hg=>setRow_other _ _ _ _ (by have:=h.os.lt g hg;omega))) (by omega)
 exact z0f (z0c h.op (fun g hg=>setRow_other _ _ _ _ (by have:=h.op.lt g hg;omega))) (by omega)
end
attribute [local go_sem ↓] z13
theorem x02(s:ByteArray)(w:World)(hs:s.size<=70000)(hn:Q37 s 0=0)(hok:0<=Q5k s 0/\atB s (Q5k s 0)=58) :
  Calls Tryz.prog 60 #[.string s] w fun e w'=>ZRet w ((Q43 s (s.size+5) (Q5k s 0+1) [] []).map (fun l=>⟨false,false,s.extract 0 (Q5k s 0).toNat,⟨#[]⟩,l.1,l.2⟩)) e w':=by
 have ZL:=hid (fun w=>z2g s 0 w (by omega) (by omega));have ZY:=hid (fun w=>z50 s 0 w (by omega) (by omega));have ZS:=hid (fun(i:Nat) (w:World) (hi:i<=s.size)=>z50 s (i+1) w (by omega) (by omega));have e0:((0:Nat):Int)=0:=rfl;rw[e0,hn]at ZL;rw[e0]at ZL ZY;clear e0;have j7:=y7h s (i:=0) (by omega);have BD:=hid (fun(i:Nat)=>y7h s (i:=((i+1:Nat):Int)) (by omega));obtain⟨i0,hi0,hz0,hz1,hz2⟩:=Q8j;obtain⟨i1,hi1,hy0,hy1,hy2⟩:=Q6o;have hz:∀o:Obj,((w.alloc (.cells (zlA false false ⟨#[]⟩ ⟨#[]⟩ (.slice none 0 0) (.slice none 0 0) 0) 85 (0,0))).alloc o).heap[w.heap.size]? = some (.cells (zlA false false ⟨#[]⟩ ⟨#[]⟩ (.slice none 0 0) (.slice none 0 0) 0) 85 (0,0)):=fun o=>heap_alloc2_old _ _ _;have HZ:=hid hz;clear hz hn;generalize Q5k s 0=y at ZY j7 hok;obtain⟨y0,y58⟩:=hok;obtain⟨j,rfl⟩:∃j:Nat,y=j:=⟨y.toNat,by omega⟩;have hj:j<s.size:=by
  have:=z0q (s:=s) (i:=(j:Int)) (by omega);omega
 have hb:=z1r hj;rw[hb]at y58;have q1:((s[j].toNat:Int) != 58)=false:=by simp[y58]
 have ja:s[j].toNat<256:=s[j].toNat_lt;have k3:¬(s.size:Int)<=(j:Int):=by omega
 have k4:(j:Int)<(s.size:Int):=by omega
 have k5:decide (s.size<=j)=false:=by simpa using hj
 have k6:decide ((j:Int)<0)=false:=by simp
 have ej:((j:Int)).toNat=j:=by omega
 rw[ej];generalize hnm:s.extract 0 j=nm;have j5:=hid hnm;generalize hR:Q43 s (s.size+5) ((j:Int)+1) [] []=R;have HR:=hid hR;clear hb j7 y58 hR hnm ej;go_enter Tryz.func60,Tryz.ntmps60
 go_wp2_with (first
  |(go_at_call 87;refine csm (ZL.out _) ?_)
  |(go_at_call 89;refine csm (ZY.out _) ?_)
  |(refine z0e rfl 85 _ _ rfl (w.alloc (.cells (zlA false false ⟨#[]⟩ ⟨#[]⟩ (.slice none 0 0) (.slice none 0 0) 0) 85 (0,0))) _ _ _ rfl rfl rfl Q52 rfl (z3b rfl rfl) ?_))
 go_loopw [6,8] (fun x6 _ wr=>∃(f i:Nat) (a:List ByteArray) (b:List Int) (vs vp:Value),x6=.int .i64 i/\Q43 s f i a b=R/\s.size+2<=f+i/\i<=s.size/\a.length<=i/\b.length<=i/\LnM w wr nm a b vs vp)
   (fun x _ _=>80000-(intOf x).toNat)
 case atStart =>
  refine⟨s.size+5,j+1,[],[],.slice none 0 0,.slice none 0 0,by go_num,HR.out,by omega,by omega,by simp,by simp,?_⟩;rw[j5.out];exact⟨((mRf _ w).alloc _).alloc _,HZ.out _,heap_alloc2_new _ _ _,World.ownsRow_nil _ _ _ _,World.ownsRow_nil _ _ _ _,fun k q=>by simp[Value.ownBlock]at q⟩
 obtain⟨f,i,a,b,vs,vp,rfl,hR,hfu,hi,hal,hbl2,hM⟩:=hrel;clear HR j5 HZ q1;obtain⟨f,rfl⟩:∃g,f=g+1:=⟨f-1,by omega⟩;rw[z6q]at hR;have HM:=hid hM;obtain⟨as_,cs_,hvs⟩:=z0d hM.os;obtain⟨ap_,cp_,hvp⟩:=z0d hM.op;have j8:=Q0b hM.loc 4;have jg:=Q0g hM.loc 4;have jh:=hM.fresh.size;have jd:=z0j hM.loc;clear hM;subst hvs hvp;simp at j8;by_cases hi2:i<s.size
 ·have hb:=z1r hi2;have ja:s[i].toNat<256:=s[i].toNat_lt;have k4:(i:Int)<(s.size:Int):=by omega
  rw[qAb k4,hb]at hR;clear hb;by_cases c32:(s[i].toNat:Int)=32
  ·rw[qAb c32]at hR;have q1:((s[i].toNat:Int) != 32)=false:=by simp[c32]
   have ZX:=hid (fun w=>ZS.out i w hi);have bd:=BD.out i;have ei:((i+1:Nat):Int)=(i:Int)+1:=by omega
   rw[ei]at ZX bd;clear ei;generalize Q5k s ((i:Int)+1)=y at ZX bd hR;clear c32;by_cases y0:y<0
   ·rw[qAb y0]at hR;have j0:=hid hR;clear hR bd;go_wp2_with (first
     |(go_at_call 89;refine csm (ZX.out _) ?_)
     |(refine wpList_load_row rfl 85 _ rfl (w.heap.size+1) rfl _ _ _ _ HM.loc Tryz.underlying85 rfl Q52 ?_)
     |(refine wpList_store_row rfl 85 _ _ rfl w.heap.size _ rfl rfl _ _ HM.res Q52 rfl (z3b rfl rfl) ?_))
    refine bodyPost_ret (Q7u rfl _ _ w.heap.size 85 _ (0,0) _ rfl (setRow_heap _ _ _ _ _ _ HM.res) Tryz.underlying85 rfl Q52) rfl ?_;rw[← j0.out];exact HM.ret (ok:=false) rfl (fun z q=>by cases q) rfl rfl
   obtain⟨n,rfl⟩:∃n:Nat,y=n:=⟨y.toNat,by omega⟩;rw[qAa y0]at hR;have e1:((i:Int)+1).toNat=i+1:=by omega
   have e2:((n:Int)).toNat=n:=by omega
   rw[e1,e2]at hR;have b1:i+1<n:=by omega
   have b2:n<=s.size:=by omega
   have j0:=hid hR;clear hR bd e1 e2;have b3:(i:Int)+1<=(n:Int):=by omega
   have b4:(n:Int)<=(s.size:Int):=by omega
   go_upto_region 18 with(first
    |(go_at_call 89;refine csm (ZX.out _) ?_))
   obtain⟨v',w2,hrun,hown,hgrow,hblk⟩:=z2y (P:=Tryz.prog) (wr.alloc (.cells #[.string (s.extract (i+1) n)] 9)).drew (w.heap.size+2) 51 51 9 i0 _ 1 16 Tryz.underlying51 hi0 hz0 hz1 hz2 rfl (by decide) (.slice as_ a.length cs_) a.length (Q9t a) (HM.os.alloc _) ⟨wr.heap.size,0,none⟩ 1 1 [.string (s.extract (i+1) n)] rfl (z0l rfl) (by intro u hu;simp at hu;subst hu;rfl) (by unfold maxLen;omega) (by omega) (by simp[World.drew];omega);obtain⟨a',cap',hv'⟩:=z0d hown;have j3:=HM.blk (((mRf _ wr).alloc _).drew) (.inl rfl) hgrow;have jb:w2.cell? ⟨w.heap.size+1,4,none⟩=some (.slice as_ a.length cs_):=(Q0b j3.2 4);have jc:=Q0g j3.2 4;have j6:=hid hown;have j4:=hid hgrow;clear hown hgrow j3;subst hv';go_region;all_goals
    have M1:=HM.addS (x:=s.extract (i+1) n) (((mRf _ wr).alloc _).drew) j6.out j4.out hblk;generalize hWW:w2.setCell _ _=W1 at M1 ⊢;have j1:=hid M1;have k1:=Q0b M1.loc 5;have k2:=Q0g M1.loc 5;have je:=z0j M1.loc;have jf:=M1.fresh.size;clear hWW j6 j4 hblk jb jc hrun M1 HM j8 jg;simp at k1;go_wp2_with (first
     |(at_builtin;refine z0g _ rfl _ _ 22 rfl (w.heap.size+2) 3 i1 _ 1 8 Tryz.underlying22 hi1 hy0 hy1 hy2 rfl (by decide) (.slice ap_ b.length cp_) b.length (Q9w b) rfl (j1.op.alloc _) ⟨W1.heap.size,0,none⟩ 1 1 [.int .i64 ((i:Int)+1)] rfl rfl (z0l rfl) (by intro u hu;simp at hu;subst hu;rfl) (by unfold maxLen;omega) (by omega) (by simp;omega) ?_;intro v9 w4 hown hgrow hblk;obtain⟨a9,c9,hv9⟩:=z0d hown;have j2:=(j1.blk ((mRf _ W1).alloc _) (.inr rfl) hgrow).2;have k6:w4.cell? ⟨w.heap.size+1,5,none⟩=some (.slice ap_ b.length cp_):=Q0b j2 5;have k7:=Q0g j2 5;have M2:=j1.addP (x:=(i:Int)+1) ((mRf _ W1).alloc _) hown hgrow (by simpa using hblk);have j9:=hid M2;clear hown hgrow hblk M2 j2;subst hv9))
    go_roundw
    case rel =>
     refine⟨f,n,_,_,_,_,rfl,j0.out,by omega,by omega,?_,?_,j9.out⟩
     ·simp;omega
     simp;omega
    simp[intOf];omega
  rw[qAa c32]at hR;have q1:((s[i].toNat:Int) != 32)=true:=by simpa using c32
  have j0:=hid hR;clear hR c32;go_wp2_with (first
   |(refine wpList_load_row rfl 85 _ rfl (w.heap.size+1) rfl _ _ _ _ HM.loc Tryz.underlying85 rfl Q52 ?_)
   |(refine wpList_store_row rfl 85 _ _ rfl w.heap.size _ rfl rfl _ _ HM.res Q52 rfl (z3b rfl rfl) ?_))
  refine bodyPost_ret (Q7u rfl _ _ w.heap.size 85 _ (0,0) _ rfl (setRow_heap _ _ _ _ _ _ HM.res) Tryz.underlying85 rfl Q52) rfl ?_;rw[← j0.out];exact HM.ret (ok:=false) rfl (fun z q=>by cases q) rfl rfl
 have k4:¬(i:Int)<(s.size:Int):=by omega
 rw[qAa k4]at hR;have j0:=hid hR;clear hR;go_wp2_with (first
  |(refine wpList_load_row rfl 85 _ rfl (w.heap.size+1) rfl _ _ _ _ HM.loc Tryz.underlying85 rfl Q52 ?_)
  |(refine wpList_store_row rfl 85 _ _ rfl w.heap.size _ rfl rfl _ _ HM.res Q52 rfl (z3b rfl rfl) ?_))
 refine bodyPost_ret (Q7u rfl _ _ w.heap.size 85 _ (0,0) _ rfl (setRow_heap _ _ _ _ _ _ HM.res) Tryz.underlying85 rfl Q52) rfl ?_;rw[← j0.out];exact HM.ret (ok:=true) rfl (fun z q=>by simpa using q.symm) rfl rfl
theorem y5u(s:ByteArray)(w:World)(hs:s.size<=70000):Calls Tryz.prog 60 #[.string s] w fun e w'=>ZRet w (Q4u s) e w':=by
 unfold Q4u;by_cases c0:0<Q37 s 0
 ·rw[qAb c0];cases hok:Q48 s (Q37 s 0)
  ·refine(y5w s w hs _ rfl c0 hok).mono ?_;rintro e w'⟨rfl,hf⟩;rw[qAa (by simp)];exact⟨⟨noZL,nilS,nilS,0⟩,rfl,y8i _ _ _ rfl rfl rfl rfl,hf,fun z q=>by cases q⟩
  refine(x03 s w hs _ rfl c0 hok).mono ?_;rintro e w'⟨rfl,hf⟩;by_cases c1:zpK s 6 ((Q37 s 0:Nat)+1)=s.size
  ·rw[qAb ⟨rfl,c1⟩,c1];refine⟨⟨⟨true,atB s (Q37 s 0)==126,s.extract 0 (Q37 s 0),s.extract (Q37 s 0+1) s.size,[],[]⟩,nilS,nilS,0⟩,?_,y8i _ _ _ rfl rfl rfl rfl,hf,fun z q=>by simpa using q⟩;simp[ZLV.cells]
  rw[qAa (fun q=>c1 q.2)];refine⟨⟨⟨true,atB s (Q37 s 0)==126,s.extract 0 (Q37 s 0),s.extract (Q37 s 0+1) s.size,[],[]⟩,nilS,nilS,0⟩,?_,y8i _ _ _ rfl rfl rfl rfl,hf,fun z q=>by cases q⟩;have:(zpK s 6 ((Q37 s 0:Nat)+1)==(s.size:Int))=false:=by simpa using c1
  rw[this];simp[ZLV.cells]
 rw[qAa c0];by_cases c1:0<=Q5k s 0/\atB s (Q5k s 0)=58
 ·rw[qAb c1];exact x02 s w hs (by omega) c1
 rw[qAa c1];refine(y5v s w hs (by omega) c1).mono ?_;rintro e w'⟨rfl,hf⟩;exact⟨⟨noZL,nilS,nilS,0⟩,rfl,y8i _ _ _ rfl rfl rfl rfl,hf,fun z q=>by cases q⟩
end Go.Proofs.YtcpceafmlgaodaaGreat
