import Derived.Test.YtcpceafmlgaodaaGreatRa7
import Derived.Deep.DeepCutAuto
namespace Go.Proofs.YtcpceafmlgaodaaGreat
open Go.RowKit
set_option maxRecDepth 100000
set_option maxHeartbeats 16000000
set_option linter.unusedVariables false
set_option linter.unusedSimpArgs false
structure ZLn where
 rule:Bool
 skip:Bool
 name:ByteArray
 pat:ByteArray
 syms:List ByteArray
 places:List Int
def Q45(s:ByteArray):Nat->Int->List ByteArray->List Int->Option(List ByteArray × List Int)
 |0,_,_,_=>none
 |f+1,i,a,b =>
  if i<s.size then
   if atB s i=32 then
    if Q5t s(i+1)<0 then none
    else Q45 s f(Q5t s(i+1))(a++[s.extract(i+1).toNat(Q5t s(i+1)).toNat])(b++[i+1])
   else none
  else some(a,b)
theorem z6g(s:ByteArray)(f:Nat)(i:Int)(a:List ByteArray)(b:List Int):Q45 s(f+1)i a b=if i<s.size then
   if atB s i=32 then
    if Q5t s(i+1)<0 then none
    else Q45 s f(Q5t s(i+1))(a++[s.extract(i+1).toNat(Q5t s(i+1)).toNat])(b++[i+1])
   else none
  else some(a,b):=rfl
def Q5f(s:ByteArray)(n:Nat):Bool:=decide(n<=8)&&decide(n<s.size)&&(atB s n==61||atB s n==126)
def Q40(s:ByteArray):Option ZLn :=
 if 0<Q4c s 0 then
  if Q5f s(Q4c s 0)=true/\zpK s 6((Q4c s 0:Nat)+1)=s.size then some⟨true,atB s(Q4c s 0)==126,s.extract 0(Q4c s 0),s.extract(Q4c s 0+1)s.size,[],[]⟩else none
 else if 0<=Q5t s 0/\atB s(Q5t s 0)=58 then
  (Q45 s(s.size+5)(Q5t s 0+1) [] []).map(fun l=>⟨false,false,s.extract 0(Q5t s 0).toNat,⟨#[]⟩,l.1,l.2⟩)
 else none
def Q9s(s:ByteArray)(ds:List Wd)(ns:List ByteArray):Prop :=
 ds.length=ns.length/\∀(k:Nat)(d:Wd)(n:ByteArray),ds[k]? = some d->ns[k]? = some n->∃j m:Nat,Q10 s j m d/\j+m<=s.size/\n=s.extract j(j+m)
structure ZRel(s:ByteArray)(i:Nat)(x:Ln)(z:ZLn):Prop where
 rule:z.rule=Q1g x
 skip:z.skip=x.skip
 place:x.front.place=i
 name:∃m,Q10 s i m x.front/\i+m<=s.size/\z.name=s.extract i(i+m)
 pat:z.rule=true->∃L,Q61 z.pat 6 0=⟨z.pat.size,true,L⟩/\z.pat.size<=s.size/\∀t,Q53 x t=true↔L(bytesOf t)
 syms:Q9s s x.syms z.syms
 places:z.places=x.syms.map(fun d:Wd=>d.place-(i:Int))
 nos:z.rule=true->z.syms=[]
 noskip:z.rule=false->z.skip=false
section
variable{s:ByteArray}{a e:Nat}
theorem y0l(he:e<=s.size){x:Nat}:Q3h s(a+x:Nat)(s.extract a e)(x:Nat)(e-a-x):=fun j hj=>by
 rw[z03 he(by omega)(by omega)];congr 1;omega
theorem y56(he:e<=s.size){x:Nat}:Q3h(s.extract a e)(x:Nat)s(a+x:Nat)(e-a-x):=fun j hj=>by
 rw[z03 he(by omega)(by omega)];congr 1;omega
theorem x2s(he:e<s.size)(h10:atB s(e:Nat)=10):∀{p:Nat}{ds:List Wd}{ns:List ByteArray},PN s p ds ns e->a<=p->∀(f:Nat)(A:List ByteArray)(B:List Int),e+2<=f+p ->
  Q45(s.extract a e)f((p-a:Nat):Int)A B=some(A++ns,B++ds.map(fun d:Wd=>d.place-(a:Int))):=by
 have j6:=z1w(s:=s)(a:=a)(e:=e)(by omega);intro p ds ns h;refine PN.ind(q:=e)(M:=fun p ds ns=>a<=p->∀(f:Nat)(A:List ByteArray)(B:List Int),e+2<=f+p->Q45(s.extract a e)f((p-a:Nat):Int)A B=some(A++ns,B++ds.map(fun d:Wd=>d.place-(a:Int))))?_ ?_ ds p ns h
 ·intro hp f A B hf;obtain⟨f,rfl⟩:∃k,f=k+1:=⟨f-1,by omega⟩;rw[z6g,if_neg(by omega)];simp
 intro p m d ds ns h32 hw hle h ih hp f A B hf;have j4:=h.le;have j2:=hw.pos;obtain⟨f,rfl⟩:∃k,f=k+1:=⟨f-1,by omega⟩;have j0:Q0n(atB s(((p+1:Nat):Int)+m))=false:=by
  rcases h.next with q|q
  ·rw[show((p+1:Nat):Int)+m=(e:Nat)by omega,h10];decide
  rw[show((p+1:Nat):Int)+m=((p+1+m:Nat):Int)by omega,q];decide
 have wd:=hw.wordy j0;rw[show((p+1:Nat):Int)=a+(((p-a:Nat):Int)+1)by omega]at wd;have wu:=y1k he h10(by omega)wd(by omega);have zs:=x1n(by omega)wu;have j1:atB(s.extract a e)((p-a:Nat):Int)=32:=by
  rw[z03(by omega)(by omega)(by omega),show(a:Int)+((p-a:Nat):Int)=(p:Nat)by omega];exact h32
 have j3:((p-a:Nat):Int)<((s.extract a e).size:Int):=by omega
 rw[z6g,if_pos j3,if_pos j1,zs,if_neg(by omega)];have en:((p-a:Nat):Int)+1+m=((p+1+m-a:Nat):Int):=by omega
 rw[en,ih(by omega)f _ _(by omega)];have ex:(s.extract a e).extract(((p-a:Nat):Int)+1).toNat(((p+1+m-a:Nat):Int)).toNat=s.extract(p+1)(p+1+m):=by
  rw[y3a s a e _ _(by omega)(by omega)];congr 1<;>omega
 have j5:=hw.place;rw[ex];simp only[List.append_assoc,List.singleton_append,List.map_cons,Option.some.injEq,Prod.mk.injEq,List.append_cancel_left_eq,List.cons.injEq,and_true,true_and];omega
theorem x2e(he:e<s.size)(h10:atB s(e:Nat)=10)(d:Wd):∀(g f:Nat)(x:Nat)(A:List ByteArray)(B:List Int)(S:List Wd),a+x<=e->(s.size:Int)+2<=f+(a+x)->(Q45(s.extract a e)g(x:Nat)A B).isSome=true ->
  (Q21 s d f((a+x:Nat):Int)S).2.2=true:=by
 have j2:=z1w(s:=s)(a:=a)(e:=e)(by omega);intro g;induction g with
 |zero=>intro f x A B S h1 h2 h3;simp[Q45]at h3
 |succ g ih =>
  intro f x A B S h1 h2 h3;obtain⟨f,rfl⟩:∃k,f=k+1:=⟨f-1,by omega⟩;rw[z6g]at h3;unfold Q21;by_cases c1:a+x<e
  ·have j1:((x:Nat):Int)<((s.extract a e).size:Int):=by omega
   rw[if_pos j1]at h3;by_cases c2:atB(s.extract a e)(x:Nat)=32
   ·rw[if_pos c2]at h3;rw[z03(by omega)(by omega)(by omega)]at c2;have j0:atB s((a+x:Nat):Int)=32:=by rw[← c2];congr 1
    rw[if_pos j0];by_cases c3:Q5t(s.extract a e)((x:Int)+1)<0
    ·rw[if_pos c3]at h3;cases h3
    rw[if_neg c3]at h3;obtain⟨m,hw,hm⟩:=z97(by omega)(by omega:0<=Q5t(s.extract a e)((x:Int)+1));obtain⟨wu,hle⟩:=y8m he h10(by omega)hw;obtain⟨r1,r2,r3⟩:=y2w wu;have ex:((a+x:Nat):Int)+1=(a:Int)+((x:Int)+1):=by omega
    rw[ex,if_neg(by rw[r1];simp),r2];have en:(a:Int)+((x:Int)+1)+m=((a+(x+1+m):Nat):Int):=by omega
    rw[en];rw[hm,show(x:Int)+1+m=((x+1+m:Nat):Int)by omega]at h3;exact ih f(x+1+m)_ _ _(by omega)(by omega)h3
   rw[if_neg c2]at h3;cases h3
  have hx:a+x=e:=by omega
  rw[hx,h10,if_neg(by omega),if_neg(by omega)]
theorem x2o{p q:Nat}{ds:List Wd}{ns:List ByteArray}(h:PN s p ds ns q):Q9s s ds ns:=by
 refine PN.ind(q:=q)(M:=fun p ds ns=>Q9s s ds ns)?_ ?_ ds p ns h
 ·exact⟨rfl,fun k d n h1=>by simp at h1⟩
 intro p m d ds ns h32 hw hle h ih;refine⟨by simp[ih.1],fun k d' n' h1 h2=>?_⟩;cases k with
 |zero=>simp at h1 h2;subst h1 h2;exact⟨p+1,m,hw,hle,rfl⟩
 |succ k=>simp at h1 h2;exact ih.2 k d' n' h1 h2
end
theorem x67{s:ByteArray}{i:Nat}(h:(Q2x s i).2.2=true):∃e:Nat,e<s.size/\i<e/\atB s(e:Nat)=10/\(Q2x s i).2.1=((e+1:Nat):Int)/\Q1j s i e/\∃z,Q40(s.extract i e)=some z/\ZRel s i(Q2x s i).1 z:=by
 obtain⟨e,he,hie,h10,hnx,hL⟩:=y2y s i h;have je:=hL.clean;refine⟨e,he,hie,h10,hnx,je,?_⟩;have jj:=z1w(s:=s)(a:=i)(e:=e)(by omega);unfold Q2x at h ⊢;cases hw:(Q09 s i).2.2
 ·rw[if_pos hw]at h;cases h
 rw[if_neg(by simp[hw])]at h ⊢;obtain⟨m,hwd,hn⟩:=z7z s i hw;have ji:=hwd.in';have j8:=hwd.pos;have j7:=hwd.head;have j6:=hwd.place;unfold Q2x at hnx;rw[if_neg(by simp[hw])]at hnx;generalize(Q09 s i).1=d at *;rw[hn]at h hnx ⊢;cases hh:Q3m d
 ·rw[hh]at h hnx;simp only[Bool.false_eq_true,if_false]at h hnx ⊢;unfold Q6r at h hnx ⊢;by_cases c1:atB s((i:Int)+m)≠61/\atB s((i:Int)+m)≠126
  ·rw[if_pos c1]at h;cases h
  rw[if_neg c1]at h hnx ⊢;cases c2:(Q1s s((i:Int)+m+1)).ok
  ·rw[if_pos c2]at h;cases h
  rw[if_neg(by simp[c2])]at h hnx ⊢;by_cases c3:atB s(Q1s s((i:Int)+m+1)).next=10
  ·rw[if_neg(by simpa using c3)]at h hnx ⊢;have j1:atB s((i:Int)+m)=61∨atB s((i:Int)+m)=126:=by
    by_cases q:atB s((i:Int)+m)=61
    ·exact .inl q
    by_cases q2:atB s((i:Int)+m)=126
    ·exact .inr q2
    exact absurd⟨q,q2⟩c1
   have jg:(Q1s s((i:Int)+m+1)).next=e:=by dsimp only at hnx;omega
   have jf:Q0n(atB s i)=true:=by
    rcases hwd.first with h1|h1
    ·exact h1
    rw[← j7,hh]at h1;cases h1
   obtain⟨l1,l2⟩:=x89 c2;have jb:i+m<e:=by
    have:=z9v(s:=s)(i:=(i:Int)+m)(by rcases j1 with q|q<;>omega);have g:=y38 s 6((i:Int)+m+1)(by omega)(by omega)l1;omega
   have hb:atB(s.extract i e)(m:Nat)=atB s((i:Int)+m):=z03(by omega)(by omega)(by omega);have j2:Q4c(s.extract i e)0=m:=y2p(by omega)(fun k hk=>by
    rw[z03(by omega)(by omega)(by omega)];by_cases k0:k=0
    ·subst k0;simpa using jf
    ·have:=hwd.rest k(by omega)hk;rw[show(i:Int)+(0+(k:Int))=(i:Int)+k by omega];exact this)(by
    rw[Int.zero_add,hb];rcases j1 with q|q<;>rw[q]<;>decide)
   have j3:=y1u s(s.extract i e)(qR 6)((i:Int)+m+1)((m:Int)+1)(e-i-(m+1))(by omega)(by omega)(by omega)
    (by have:=y0l(s:=s)(a:=i)(e:=e)(by omega)(x:=m+1);intro j hj;have q:=this j hj;rw[show(i:Int)+m+1=((i+(m+1):Nat):Int)by omega,show(m:Int)+1=((m+1:Nat):Int)by omega];exact q)
    (by rw[z19(by omega)];decide)l1(by omega)
   have ja:((s.extract i e).size:Int)=e-i:=by omega
   have hz:Q61(s.extract i e)6((m:Int)+1)=⟨(s.extract i e).size,true,(Q61 s 6((i:Int)+m+1)).lang⟩:=by
    rw[z2n j3.ok,j3.lang,j3.next];congr 1;omega
   have j4:zpK(s.extract i e)6((m:Int)+1)=(s.extract i e).size:=by
    have q:=(x2i(p:=s.extract i e)6(i:=(m:Int)+1)(by omega)(by omega)).good(by rw[hz]);rw[hz]at q;exact q
   have j9:Q5f(s.extract i e)m=true:=by
    unfold Q5f;have jd:=hwd.le;rw[decide_eq_true(by omega),decide_eq_true(by omega),hb];rcases j1 with q|q<;>rw[q]<;>decide
   refine⟨⟨true,atB(s.extract i e)m==126,(s.extract i e).extract 0 m,(s.extract i e).extract(m+1)(s.extract i e).size,[],[]⟩,?_,?_⟩
   ·unfold Q40;rw[j2,if_pos(by omega),if_pos⟨j9,j4⟩]
   have ep:(s.extract i e).extract(m+1)(s.extract i e).size=s.extract(i+m+1)e:=by
    rw[y3a s i e _ _(by omega)(by omega)];congr 1;omega
   have jh:=z1w(s:=s)(a:=i+m+1)(e:=e)(by omega);refine⟨?_,?_,j6,⟨m,hwd,by omega,?_⟩,fun _=>?_,⟨rfl,fun k d' n' q=>by simp at q⟩,rfl,fun _=>rfl,fun q=>(by cases q)⟩
   ·show true=!headB d;rw[hh];rfl
   ·show(atB(s.extract i e)m==126)=(atB s((i:Int)+m)==126);rw[hb]
   ·dsimp only;rw[y3a s i e _ _(by omega)(by omega),Nat.add_zero]
   dsimp only;rw[ep];have j0:=y1u s(s.extract(i+m+1)e)(qR 6)((i:Int)+m+1)0(e-(i+m+1))(by omega)(by omega)(by omega)
    (by have:=y0l(s:=s)(a:=i+m+1)(e:=e)(by omega)(x:=0);intro j hj;have q:=this j hj;rw[show(i:Int)+m+1=((i+m+1+0:Nat):Int)by omega,show(0:Int)=((0:Nat):Int)by omega];exact q)
    (by rw[z19(by omega)];decide)l1(by omega)
   refine⟨(Q61 s 6((i:Int)+m+1)).lang,?_,by omega,fun t=>x08 c2 d _ t⟩;rw[z2n j0.ok,j0.lang,j0.next];congr 1;omega
  rw[if_pos c3]at h;cases h
 rw[hh]at h hnx;simp only[if_true]at h hnx ⊢;unfold Q6h at h hnx ⊢;by_cases c1:atB s((i:Int)+m)=58
 ·rw[if_neg(by simpa using c1)]at h hnx ⊢;have e1:(i:Int)+m+1=((i+m+1:Nat):Int):=by omega
  rw[e1]at h hnx ⊢;obtain⟨ds,ns,q,h1,h2,h3⟩:=z9w s d _ _ _ h;rw[h3]at hnx ⊢;have jc:q=e:=by dsimp only at hnx;omega
  subst jc;have jd:=h1.le;have j5:Q1n(atB s i)=true:=by rw[← j7];exact hh
  have wd:=hwd.wordy(by rw[c1];decide);have wu:=y1k(a:=i)he h10(x:=0)(by omega)(by rw[Int.add_zero];exact wd)(by omega);have zs:=x1n(by omega)wu;rw[Int.zero_add]at zs;have hb:atB(s.extract i q)(m:Nat)=58:=by rw[z03(by omega)(by omega)(by omega)];exact c1
  have j2:Q4c(s.extract i q)0=0:=y2p(by omega)(fun k hk=>by omega)(by
   rw[z03(by omega)(by omega)(by omega)];simp only[Int.natCast_zero,Int.add_zero];exact y3g j5)
  have j4:=x2s(a:=i)he h10 h1(by omega)((s.extract i q).size+5) [] [](by omega);rw[show((i+m+1-i:Nat):Int)=(m:Int)+1 by omega]at j4;refine⟨⟨false,false,(s.extract i q).extract 0 m,⟨#[]⟩,ns,ds.map(fun d:Wd=>d.place-(i:Int))⟩,?_,?_⟩
  ·unfold Q40;rw[j2,if_neg(by omega),zs,if_pos⟨by omega,hb⟩,j4];rfl
  refine⟨?_,rfl,j6,⟨m,hwd,by omega,?_⟩,fun q=>(by cases q),?_,?_,fun q=>(by cases q),fun _=>rfl⟩
  ·show false=!headB d;rw[hh];rfl
  ·dsimp only;rw[y3a s i q _ _(by omega)(by omega),Nat.add_zero]
  ·show Q9s s([]++ds)ns;rw[List.nil_append];exact x2o h1
  rfl
 rw[if_pos(by simpa using c1)]at h;cases h
theorem x5q{s:ByteArray}{i e:Nat}(he:e<s.size)(hie:i<=e)(h10:atB s(e:Nat)=10)(h:(Q40(s.extract i e)).isSome=true):(Q2x s i).2.2=true:=by
 have j8:=z1w(s:=s)(a:=i)(e:=e)(by omega);unfold Q40 at h;by_cases c0:0<Q4c(s.extract i e)0
 ·rw[if_pos c0]at h;obtain⟨q1,q2⟩:=z4x(s.extract i e)(x:=0)(by omega);generalize Q4c(s.extract i e)0=n at *;by_cases c1:Q5f(s.extract i e)n=true/\zpK(s.extract i e)6((n:Nat)+1)=(s.extract i e).size
  ·obtain⟨c1,c2⟩:=c1;unfold Q5f at c1;rw[Bool.and_eq_true,Bool.and_eq_true,decide_eq_true_eq,decide_eq_true_eq,Bool.or_eq_true]at c1;obtain⟨⟨h8,hns⟩,hch⟩:=c1;have hb:atB(s.extract i e)(n:Nat)=atB s((i:Int)+n):=z03(by omega)(by omega)(by omega);have j2:atB s((i:Int)+n)=61∨atB s((i:Int)+n)=126:=by
    rw[hb]at hch;rcases hch with q|q
    ·left;simpa using q
    right;simpa using q
   have j0:∀k:Nat,k<n->Q0n(atB s((i:Int)+k))=true:=fun k hk=>by
    have:=q1 k hk;rw[z03(by omega)(by omega)(by omega)]at this;rw[show(i:Int)+(0+(k:Int))=(i:Int)+k by omega]at this;exact this
   have wd:Q8r s i n:=⟨by omega,h8,.inl(by have:=j0 0(by omega);simpa using this),fun k k1 k2=>j0 k k2,by rcases j2 with q|q<;>rw[q]<;>decide⟩;obtain⟨r1,r2,r3⟩:=y2w wd;have hh:Q3m(Q09 s i).1=false:=by
    rw[r3.head];have:=j0 0(by omega);simp only[Int.natCast_zero,Int.add_zero]at this;cases z:Q1n(atB s i)
    ·rfl
    rw[y3g z]at this;cases this
   have j4:(Q61(s.extract i e)6((n:Int)+1)).ok=true/\(Q61(s.extract i e)6((n:Int)+1)).next=(s.extract i e).size:=by
    have j3:=x2i(p:=s.extract i e)6(i:=(n:Int)+1)(by omega)(by omega);cases z:(Q61(s.extract i e)6((n:Int)+1)).ok
    ·rcases j3.bad z with b|⟨_,b,_⟩
     ·rw[c2]at b;omega
     rw[c2]at b;omega
    exact⟨rfl,by rw[← j3.good z];exact c2⟩
   have j1:=y1u(s.extract i e)s(qR 6)((n:Int)+1)((i:Int)+n+1)(e-i-(n+1))(by omega)(by omega)(by omega)
    (by have:=y56(s:=s)(a:=i)(e:=e)(by omega)(x:=n+1);intro j hj;have q:=this j hj;rw[show(i:Int)+n+1=((i+(n+1):Nat):Int)by omega,show(n:Int)+1=((n+1:Nat):Int)by omega];exact q)
    (by rw[show(i:Int)+n+1+((e-i-(n+1):Nat):Int)=(e:Nat)by omega,h10];decide)j4.1(by omega)
   have lk:=y72 s 6((i:Int)+n+1) [];have j5:(Q1s s((i:Int)+n+1)).ok=true:=by unfold Q1s;rw[lk.ok];exact j1.ok
   have j6:(Q1s s((i:Int)+n+1)).next=(e:Nat):=by
    unfold Q1s;rw[lk.next,j1.next,j4.2];omega
   unfold Q2x;rw[if_neg(by rw[r1];simp),hh,if_neg(by simp),r2];unfold Q6r;rw[if_neg(by rcases j2 with q|q<;>omega),if_neg(by rw[j5];simp),j6,h10,if_neg(by simp)]
  rw[if_neg c1]at h;cases h
 rw[if_neg c0]at h;obtain⟨q1,q2⟩:=z4x(s.extract i e)(x:=0)(by omega);have z0:Q4c(s.extract i e)0=0:=by omega
 rw[z0]at q2;by_cases c1:0<=Q5t(s.extract i e)0/\atB(s.extract i e)(Q5t(s.extract i e)0)=58
 ·rw[if_pos c1]at h;obtain⟨m,hw,hm⟩:=z97(by omega)c1.1;obtain⟨wu,hle⟩:=y8m he h10(by omega)hw;rw[Int.add_zero]at wu hle;obtain⟨r1,r2,r3⟩:=y2w wu;rw[Int.zero_add]at hm;rw[hm]at c1 h;have j9:=z9v(s:=s.extract i e)(i:=(m:Int))(by omega);have hb:atB s((i:Int)+m)=58:=by
   rw[← z03(s:=s)(a:=i)(e:=e)(by omega)(by omega)(by omega)];exact c1.2
  have hh:Q3m(Q09 s i).1=true:=by
   rw[r3.head];have hf:=hw.first;simp only[Int.natCast_zero,Int.add_zero]at q2;rw[q2]at hf;rw[z03(by omega)(by omega)(by omega),Int.add_zero]at hf;rcases hf with z|z
   ·cases z
   exact z
  unfold Q2x;rw[if_neg(by rw[r1];simp),hh,if_pos rfl,r2];unfold Q6h;rw[hb,if_neg(by simp)];have j7:=x2e(a:=i)he h10(Q09 s i).1((s.extract i e).size+5)(s.size+5)(m+1) [] [] [](by omega)(by omega)(by
   rw[show((m+1:Nat):Int)=(m:Int)+1 by omega];simpa using h)
  rw[show(i:Int)+m+1=((i+(m+1):Nat):Int)by omega];exact j7
 rw[if_neg c1]at h;cases h
theorem Q7z{P:Program}{fn:Func}{p u:Tmp}{ty:TypeId}(h:fn.results=#[.cell p ty,.tmp u])(tmps:Array Value)(w:World)(g:Nat)(t:TypeId)(cs:Array Value)(fr:Nat × Nat)(d:TypeDesc)
  (hp:tmps.getD p undef=.pointer(some⟨g,0,none⟩))(hg:w.heap[g]? = some(.cells cs t fr))
  (hu:P.underlying ty=some d)(hd:(match d with | .struct _ | .array _ _=>true|_=>false)=true)(hi:(P.info? ty).map(·.size)=some cs.size) :
  (results fn tmps).run P w=.ok(.tuple#[.agg cs,tmps.getD u undef])w:=by
 have j0:tmps[p]?.getD undef=.pointer(some⟨g,0,none⟩):=by simpa using hp
 simp[results,h,j0,asAddr,run_loadVar_row w g t ty cs fr d hg hu hd hi]
theorem z9z{P:Program}(w:World)(g:Nat)(t ty:TypeId)(old cells:Array Value)(hg:w.heap[g]? = some(.cells old t(0,0)))(hi:(P.info? ty).map(·.size)=some cells.size)(hold:old.size=cells.size)(h1:cells.all(·.oneCell')=true) :
  (Instr.storeAt ty(.pointer(some⟨g,0,none⟩))(.agg cells)).run P w=.ok()(w.setRow g cells):=by
 simp only[Instr.storeAt,Instr.sureAddr,Sem.run_bind,Sem.run_pure,Result.andThen_ok,run_storeVar_row w g t ty old cells hg hi hold h1]
abbrev nilS:Value:=.slice none 0 0
abbrev zlL(r k:Bool)(nm pt:ByteArray)(vs vp:Value)(a:Int):List Value:=[.bool r,.bool k,.string nm,.string pt,vs,vp,.int .i64 a]
abbrev zlA(r k:Bool)(nm pt:ByteArray)(vs vp:Value)(a:Int):Array Value:=#[.bool r,.bool k,.string nm,.string pt,vs,vp,.int .i64 a]
theorem Q6b:(Tryz.prog.info? 85).map(·.size)=some 7:=by kernel_rfl
theorem z3b{r k:Bool}{nm pt:ByteArray}{vs vp:Value}{a:Int}(h1:vs.oneCell'=true)(h2:vp.oneCell'=true):(zlA r k nm pt vs vp a).all(·.oneCell')=true:=by
 refine all_oneCell_toArray(cs:=zlL r k nm pt vs vp a)?_;intro v hv;simp only[List.mem_cons,List.not_mem_nil,or_false]at hv;rcases hv with rfl|rfl|rfl|rfl|rfl|rfl|rfl
 ·rfl
 ·rfl
 ·rfl
 ·rfl
 ·exact h1
 ·exact h2
 rfl
def stZ(p v:Value):Sem Unit:=Instr.storeAt 85 p v
theorem x51(p v:Value):Instr.storeAt 85 p v=stZ p v:=rfl
structure ZLV where
 ln:ZLn
 vs:Value
 vp:Value
 pl:Int
def ZLV.cells(x:ZLV):List Value:=zlL x.ln.rule x.ln.skip x.ln.name x.ln.pat x.vs x.vp x.pl
structure ZLV.At(b:Nat)(w:World)(x:ZLV):Prop where
 syms:w.ownsRow b 9 1 x.vs x.ln.syms.length(Q9z x.ln.syms)
 places:w.ownsRow b 3 1 x.vp x.ln.places.length(W0b x.ln.places)
def noZL:ZLn:=⟨false,false,⟨#[]⟩,⟨#[]⟩,[],[]⟩
theorem ZLV.At.fresh{b:Nat}{w w':World}{x:ZLV}(h:x.At b w)(hm:Q0a w w'):x.At b w' :=
 ⟨z0c h.syms(fun g hg=>hm.block g(h.syms.lt g hg).2(fun x=>x)),z0c h.places(fun g hg=>hm.block g(h.places.lt g hg).2(fun x=>x))⟩
theorem ZLV.At.kept{S:Nat->Prop}{b:Nat}{w w':World}{x:ZLV}(h:x.At b w)(hm:Mod S w w')(h1:∀k,x.vs.ownBlock=some k->¬S k)(h2:∀k,x.vp.ownBlock=some k->¬S k):x.At b w' :=
 ⟨z0c h.syms(fun g hg=>hm.block g(h.syms.lt g hg).2(h1 g hg)),z0c h.places(fun g hg=>hm.block g(h.places.lt g hg).2(h2 g hg))⟩
theorem ZLV.At.one{b:Nat}{w:World}{x:ZLV}(h:x.At b w):x.cells.toArray.all(·.oneCell')=true:=z3b(z55 h.syms)(z55 h.places)
def ZRet(w:World)(r:Option ZLn)(e:Ending)(w':World):Prop :=
 ∃x:ZLV,e=.returned(.tuple#[.agg x.cells.toArray,.bool r.isSome])/\x.At w.heap.size w'/\Q0a w w'/\∀z,r=some z->x.ln=z
theorem y8z(b:Nat)(w:World)(x:ZLV)(h1:x.ln.syms=[])(h2:x.ln.places=[])(h3:x.vs=nilS)(h4:x.vp=nilS):x.At b w:=by
 refine⟨?_,?_⟩
 ·rw[h1,h3];exact World.ownsRow_nil _ _ _ _
 rw[h2,h4];exact World.ownsRow_nil _ _ _ _
attribute [local go_sem ↓] x51
theorem x0b(s:ByteArray)(w:World)(hs:s.size<=70000)(n:Nat)(hn:Q4c s 0=n)(hn0:0<n)(hok:Q5f s n=true) :
  Calls Tryz.prog 60#[.string s]w fun e w'=>e=.returned(.tuple#[.agg(zlA true(atB s n==126)(s.extract 0 n)(s.extract(n+1)s.size)(.slice none 0 0)(.slice none 0 0)0),.bool(zpK s 6(n+1)==(s.size:Int))])/\Q0a w w':=by
 have ZL:=hid(fun w=>z2g s 0 w(by omega)(by omega));have e0:((0:Nat):Int)=0:=rfl;rw[e0,hn]at ZL;unfold Q5f at hok;rw[Bool.and_eq_true,Bool.and_eq_true,decide_eq_true_eq,decide_eq_true_eq,Bool.or_eq_true]at hok;obtain⟨⟨h8,hns⟩,hch⟩:=hok;have PT:=hid(fun w=>y2q s(by omega)6 0(by omega)(n+1)w(by omega));have en:((n+1:Nat):Int)=(n:Int)+1:=by omega
 rw[en,e0]at PT;have hb:=z1z hns;rw[hb]at hch ⊢;have j0:s[n].toNat<256:=s[n].toNat_lt;have k1:0<(n:Int):=by omega
 have k2:¬(8:Int)<(n:Int):=by omega
 have k3:¬(s.size:Int)<=(n:Int):=by omega
 have k4:(n:Int)<(s.size:Int):=by omega
 have k5:((s[n].toNat:Int) != 61&&(s[n].toNat:Int) != 126)=false:=by
  rcases hch with h|h
  ·have:(s[n].toNat:Int)=61:=by simpa using h
   rw[this];decide
  have:(s[n].toNat:Int)=126:=by simpa using h
  rw[this];decide
 generalize zpK s 6((n:Int)+1)=pk at PT ⊢;have hz:(w.alloc(.cells(zlA false false⟨#[]⟩⟨#[]⟩(.slice none 0 0)(.slice none 0 0)0)85(0,0))).heap[w.heap.size]? = some(.cells(zlA false false⟨#[]⟩⟨#[]⟩(.slice none 0 0)(.slice none 0 0)0)85(0,0)):=z0a _ _;clear hb hn;have s1:(stZ(.pointer(some⟨w.heap.size,0,none⟩))(.agg#[.bool true,.bool((s[n].toNat:Int)==126),.string(s.extract 0 n),.string(s.extract(n+1)s.size),.slice none 0 0,.slice none 0 0,.int .i64 0])).run Tryz.prog(w.alloc(.cells#[.bool false,.bool false,.string⟨#[]⟩,.string⟨#[]⟩,.slice none 0 0,.slice none 0 0,.int .i64 0]85(0,0))).drew=.ok()((w.alloc(.cells#[.bool false,.bool false,.string⟨#[]⟩,.string⟨#[]⟩,.slice none 0 0,.slice none 0 0,.int .i64 0]85(0,0))).drew.setRow w.heap.size#[.bool true,.bool((s[n].toNat:Int)==126),.string(s.extract 0 n),.string(s.extract(n+1)s.size),.slice none 0 0,.slice none 0 0,.int .i64 0]) :=
  z9z(t:=85)(old :=  #[.bool false,.bool false,.string⟨#[]⟩,.string⟨#[]⟩,.slice none 0 0,.slice none 0 0,.int .i64 0])_ _ _ _ hz Q6b rfl(z3b rfl rfl)
 by_cases q61:s[n].toNat=61
 ·have q1:((s[n].toNat:Int) != 61)=false:=by simp[q61]
  clear q61;go_enter Tryz.func60,Tryz.ntmps60
  go_upto_region 6 with(first
   |(go_at_call 87;refine(ZL.out _).mono ?_;rintro e w'⟨rfl,hw⟩;rw[hw];clear hw)
   |(go_at_call 88;refine(PT.out _).mono ?_;rintro e w'⟨rfl,hw⟩;rw[hw];clear hw))
  go_region;all_goals
   go_wp2_with fail
   refine bodyPost_ret(Q7z rfl _ _ w.heap.size 85 _(0,0)_ rfl(setRow_heap _ _ _ _ _ _ hz)Tryz.underlying85 rfl Q6b)rfl⟨rfl,?_⟩;exact((mRf _ w).alloc _).drew.setRow(by simp)_
 have q1:((s[n].toNat:Int) != 61)=true:=by simp;omega
 have q2:((s[n].toNat:Int) != 126)=false:=by rw[q1]at k5;simpa using k5
 clear q61 k5;go_enter Tryz.func60,Tryz.ntmps60
 go_upto_region 6 with(first
  |(go_at_call 87;refine(ZL.out _).mono ?_;rintro e w'⟨rfl,hw⟩;rw[hw];clear hw)
  |(go_at_call 88;refine(PT.out _).mono ?_;rintro e w'⟨rfl,hw⟩;rw[hw];clear hw))
 go_region;all_goals
  go_wp2_with fail
  refine bodyPost_ret(Q7z rfl _ _ w.heap.size 85 _(0,0)_ rfl(setRow_heap _ _ _ _ _ _ hz)Tryz.underlying85 rfl Q6b)rfl⟨rfl,?_⟩;exact((mRf _ w).alloc _).drew.setRow(by simp)_
theorem y5a(s:ByteArray)(w:World)(hs:s.size<=70000)(n:Nat)(hn:Q4c s 0=n)(hn0:0<n)(hok:Q5f s n=false) :
  Calls Tryz.prog 60#[.string s]w fun e w'=>e=.returned(.tuple#[.agg(zlA false false⟨#[]⟩⟨#[]⟩(.slice none 0 0)(.slice none 0 0)0),.bool false])/\Q0a w w':=by
 have ZL:=hid(fun w=>z2g s 0 w(by omega)(by omega));have e0:((0:Nat):Int)=0:=rfl;rw[e0,hn]at ZL;have j1:=z78 s(s.size+2)0(by omega)(by omega);have j0:((Q4c s 0:Nat):Int)<=s.size:=by have h:0+((Q4c s 0:Nat):Int)<=s.size:=j1;omega
 rw[hn]at j0;have hz:(w.alloc(.cells(zlA false false⟨#[]⟩⟨#[]⟩(.slice none 0 0)(.slice none 0 0)0)85(0,0))).heap[w.heap.size]? = some(.cells(zlA false false⟨#[]⟩⟨#[]⟩(.slice none 0 0)(.slice none 0 0)0)85(0,0)):=z0a _ _;have HZ:=hid hz;clear hz j1 hn;have k1:0<(n:Int):=by omega
 unfold Q5f at hok;by_cases h8:8<n
 ·have k2:(8:Int)<(n:Int):=by omega
  clear hok;go_enter Tryz.func60,Tryz.ntmps60
  go_wp2_with(first
   |(go_at_call 87;refine(ZL.out _).mono ?_;rintro e w'⟨rfl,hw⟩;rw[hw];clear hw)
   |(refine wpList_store_row rfl 85 _ _ rfl w.heap.size _ rfl rfl _ _ HZ.out Q6b rfl(z3b rfl rfl)?_))
  refine bodyPost_ret(Q7z rfl _ _ w.heap.size 85 _(0,0)_ rfl(setRow_heap _ _ _ _ _ _ HZ.out)Tryz.underlying85 rfl Q6b)rfl⟨rfl,?_⟩;exact((mRf _ w).alloc _).setRow(by simp)_
 have k2:¬(8:Int)<(n:Int):=by omega
 by_cases hns:n<s.size
 ·have hb:=z1z hns;rw[hb,decide_eq_true(by omega),decide_eq_true hns]at hok;simp only[Bool.true_and,Bool.or_eq_false_iff]at hok;obtain⟨c1,c2⟩:=hok;have q1:((s[n].toNat:Int) != 61)=true:=by simpa using c1
  have q2:((s[n].toNat:Int) != 126)=true:=by simpa using c2
  have j2:s[n].toNat<256:=s[n].toNat_lt;have k3:¬(s.size:Int)<=(n:Int):=by omega
  have k4:(n:Int)<(s.size:Int):=by omega
  clear hb c1 c2;go_enter Tryz.func60,Tryz.ntmps60
  go_wp2_with(first
   |(go_at_call 87;refine(ZL.out _).mono ?_;rintro e w'⟨rfl,hw⟩;rw[hw];clear hw)
   |(refine wpList_store_row rfl 85 _ _ rfl w.heap.size _ rfl rfl _ _ HZ.out Q6b rfl(z3b rfl rfl)?_))
  refine bodyPost_ret(Q7z rfl _ _ w.heap.size 85 _(0,0)_ rfl(setRow_heap _ _ _ _ _ _ HZ.out)Tryz.underlying85 rfl Q6b)rfl⟨rfl,?_⟩;exact((mRf _ w).alloc _).setRow(by simp)_
 have k3:(s.size:Int)<=(n:Int):=by omega
 clear hok;go_enter Tryz.func60,Tryz.ntmps60
 go_wp2_with(first
  |(go_at_call 87;refine(ZL.out _).mono ?_;rintro e w'⟨rfl,hw⟩;rw[hw];clear hw)
  |(refine wpList_store_row rfl 85 _ _ rfl w.heap.size _ rfl rfl _ _ HZ.out Q6b rfl(z3b rfl rfl)?_))
 refine bodyPost_ret(Q7z rfl _ _ w.heap.size 85 _(0,0)_ rfl(setRow_heap _ _ _ _ _ _ HZ.out)Tryz.underlying85 rfl Q6b)rfl⟨rfl,?_⟩;exact((mRf _ w).alloc _).setRow(by simp)_
theorem y62(s:ByteArray){i:Int}(h0:0<=i):Q5t s i=-1∨(i<Q5t s i/\Q5t s i<=s.size):=by
 by_cases h:0<=Q5t s i
 ·right;obtain⟨m,hw,hm⟩:=z97 h0 h;have hp:=hw.pos;have j0:atB s(i+((m-1:Nat):Int))≠-1:=by
   by_cases m1:m-1=0
   ·rw[m1];intro q;have:=hw.first;simp only[Int.natCast_zero,Int.add_zero]at q;rw[q]at this;revert this;decide
   exact y17(hw.rest(m-1)(by omega)(by omega))
  have:=z0q j0;omega
 left;unfold Q5t at h ⊢;split
 ·rfl
 rename_i c0;rw[if_neg c0]at h;split
 ·rename_i c1;rw[if_pos c1]at h;split
  ·rfl
  rename_i c2;rw[if_neg c2]at h;omega
 rename_i c1;rw[if_neg c1]at h;split
 ·rfl
 rename_i c2;rw[if_neg c2]at h;omega
theorem y5k(s:ByteArray)(w:World)(hs:s.size<=70000)(hn:Q4c s 0=0)(hok:¬(0<=Q5t s 0/\atB s(Q5t s 0)=58)) :
  Calls Tryz.prog 60#[.string s]w fun e w'=>e=.returned(.tuple#[.agg(zlA false false⟨#[]⟩⟨#[]⟩(.slice none 0 0)(.slice none 0 0)0),.bool false])/\Q0a w w':=by
 have ZL:=hid(fun w=>z2g s 0 w(by omega)(by omega));have ZY:=hid(fun w=>z5q s 0 w(by omega)(by omega));have e0:((0:Nat):Int)=0:=rfl;rw[e0,hn]at ZL;rw[e0]at ZL ZY;have j0:=y62 s(i:=0)(by omega);have hz:(w.alloc(.cells(zlA false false⟨#[]⟩⟨#[]⟩(.slice none 0 0)(.slice none 0 0)0)85(0,0))).heap[w.heap.size]? = some(.cells(zlA false false⟨#[]⟩⟨#[]⟩(.slice none 0 0)(.slice none 0 0)0)85(0,0)):=z0a _ _;have HZ:=hid hz;clear hz hn;generalize Q5t s 0=y at ZY j0 hok;by_cases y0:y<0
 ·clear hok j0;go_enter Tryz.func60,Tryz.ntmps60
  go_wp2_with(first
   |(go_at_call 87;refine(ZL.out _).mono ?_;rintro e w'⟨rfl,hw⟩;rw[hw];clear hw)
   |(go_at_call 89;refine(ZY.out _).mono ?_;rintro e w'⟨rfl,hw⟩;rw[hw];clear hw)
   |(refine wpList_store_row rfl 85 _ _ rfl w.heap.size _ rfl rfl _ _ HZ.out Q6b rfl(z3b rfl rfl)?_))
  refine bodyPost_ret(Q7z rfl _ _ w.heap.size 85 _(0,0)_ rfl(setRow_heap _ _ _ _ _ _ HZ.out)Tryz.underlying85 rfl Q6b)rfl⟨rfl,?_⟩;exact((mRf _ w).alloc _).setRow(by simp)_
 obtain⟨j,rfl⟩:∃j:Nat,y=j:=⟨y.toNat,by omega⟩;by_cases hj:j<s.size
 ·have hb:=z1z hj;rw[hb]at hok;have q1:((s[j].toNat:Int) != 58)=true:=by
   have:¬(s[j].toNat:Int)=58:=fun q=>hok⟨by omega,q⟩;simpa using this
  have j1:s[j].toNat<256:=s[j].toNat_lt;have k3:¬(s.size:Int)<=(j:Int):=by omega
  have k4:(j:Int)<(s.size:Int):=by omega
  clear hb hok j0;go_enter Tryz.func60,Tryz.ntmps60
  go_wp2_with(first
   |(go_at_call 87;refine(ZL.out _).mono ?_;rintro e w'⟨rfl,hw⟩;rw[hw];clear hw)
   |(go_at_call 89;refine(ZY.out _).mono ?_;rintro e w'⟨rfl,hw⟩;rw[hw];clear hw)
   |(refine wpList_store_row rfl 85 _ _ rfl w.heap.size _ rfl rfl _ _ HZ.out Q6b rfl(z3b rfl rfl)?_))
  refine bodyPost_ret(Q7z rfl _ _ w.heap.size 85 _(0,0)_ rfl(setRow_heap _ _ _ _ _ _ HZ.out)Tryz.underlying85 rfl Q6b)rfl⟨rfl,?_⟩;exact((mRf _ w).alloc _).setRow(by simp)_
 have k3:(s.size:Int)<=(j:Int):=by omega
 clear hok j0;go_enter Tryz.func60,Tryz.ntmps60
 go_wp2_with(first
  |(go_at_call 87;refine(ZL.out _).mono ?_;rintro e w'⟨rfl,hw⟩;rw[hw];clear hw)
  |(go_at_call 89;refine(ZY.out _).mono ?_;rintro e w'⟨rfl,hw⟩;rw[hw];clear hw)
  |(refine wpList_store_row rfl 85 _ _ rfl w.heap.size _ rfl rfl _ _ HZ.out Q6b rfl(z3b rfl rfl)?_))
 refine bodyPost_ret(Q7z rfl _ _ w.heap.size 85 _(0,0)_ rfl(setRow_heap _ _ _ _ _ _ HZ.out)Tryz.underlying85 rfl Q6b)rfl⟨rfl,?_⟩;exact((mRf _ w).alloc _).setRow(by simp)_
end Go.Proofs.YtcpceafmlgaodaaGreat
