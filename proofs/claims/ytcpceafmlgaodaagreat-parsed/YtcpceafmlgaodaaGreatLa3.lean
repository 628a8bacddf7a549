import Derived.Test.YtcpceafmlgaodaaGreatRa3
namespace Go.Proofs.YtcpceafmlgaodaaGreat
open Go.RowKit
set_option linter.unusedVariables false
set_option linter.unusedSimpArgs false
theorem Run.stay{ns ns':List Q0p}{S:Nat->Prop}(h:∀x,S x->∀o y,Q4k ns' o x y->Q4k ns o x y/\S y):∀(r:List(Option Nat))(x z:Nat),S x->Run ns' r x z->Run ns r x z/\S z
 | [],x,z,hx,hr=>by cases hr;exact⟨rfl,hx⟩
 |o::r,x,z,hx,⟨m,h1,h2⟩=>by
  obtain⟨k1,k2⟩:=h x hx o m h1;obtain⟨k3,k4⟩:=Run.stay h r m z k2 h2;exact⟨⟨m,k1,k3⟩,k4⟩
theorem Q2s.stay{ns ns':List Q0p}{S:Nat->Prop}(h:∀x,S x->∀o y,Q4k ns' o x y->Q4k ns o x y/\S y){x z:Nat}{w:List Nat}(hx:S x)(hp:Q2s ns' x w z):Q2s ns x w z/\S z:=by
 obtain⟨r,h1,h2⟩:=hp;obtain⟨k1,k2⟩:=Run.stay h r x z hx h1;exact⟨⟨r,k1,h2⟩,k2⟩
theorem Run.exit{ns ns':List Q0p}{S:Nat->Prop}{e:Nat}(h:∀x,S x->x≠e->∀o y,Q4k ns' o x y->Q4k ns o x y/\S y)(he:∀o y,Q4k ns' o e y->o=none) :
  ∀(r:List(Option Nat))(x z:Nat),S x->¬S z->Run ns' r x z->∃r1 t r2,r=r1++none::r2/\Run ns r1 x e/\Q4k ns' none e t/\Run ns' r2 t z
 | [],x,z,hx,hz,hr=>by cases hr;exact absurd hx hz
 |o::r,x,z,hx,hz,⟨m,h1,h2⟩=>by
  by_cases q:x=e
  ·subst q;have ho:=he o m h1;subst ho;exact⟨[],m,r,rfl,rfl,h1,h2⟩
  obtain⟨k1,k2⟩:=h x hx q o m h1;obtain⟨r1,t,r2,e1,e2,e3,e4⟩:=Run.exit h he r m z k2 hz h2;exact⟨o::r1,t,r2,by rw[e1];rfl,⟨m,k1,e2⟩,e3,e4⟩
theorem Q2s.exit{ns ns':List Q0p}{S:Nat->Prop}{e:Nat}(h:∀x,S x->x≠e->∀o y,Q4k ns' o x y->Q4k ns o x y/\S y)(he:∀o y,Q4k ns' o e y->o=none){x z:Nat}{w:List Nat}(hx:S x)(hz:¬S z)(hp:Q2s ns' x w z) :
  ∃u v t,w=u++v/\Q2s ns x u e/\Q4k ns' none e t/\Q2s ns' t v z:=by
 obtain⟨r,h1,h2⟩:=hp;obtain⟨r1,t,r2,e1,e2,e3,e4⟩:=Run.exit h he r x z hx hz h1;refine⟨r1.filterMap id,r2.filterMap id,t,?_,⟨r1,e2,rfl⟩,e3,⟨r2,e4,rfl⟩⟩;rw[← h2,e1,List.filterMap_append];rfl
theorem Q2s.mono{ns ns':List Q0p}{S:Nat->Prop}(h:∀x,S x->∀o y,Q4k ns o x y->Q4k ns' o x y/\S y){x z:Nat}{w:List Nat}(hx:S x)(hp:Q2s ns x w z):Q2s ns' x w z :=
 (Q2s.stay h hx hp).1
abbrev Q04:=List Nat->Prop
def Q04.cat(A B:Q04):Q04:=fun w=>∃u v,w=u++v/\A u/\B v
def Q04.alt(A B:Q04):Q04:=fun w=>A w∨B w
def Q04.byte(P:Nat->Prop):Q04:=fun w=>∃c,P c/\w=[c]
structure Frg(ns:List Q0p)(lo hi a e:Nat)(L:Q04):Prop where
 bd:hi<=ns.length
 ia:lo<=a/\a<hi
 ie:lo<=e/\e<hi
 en:ns[e]? = some Q0f
 nb:∀x,lo<=x->x<hi->∀nd,ns[x]? = some nd->(nd.next=-1∨(lo:Int)<=nd.next/\nd.next<hi)/\(nd.other=-1∨(lo:Int)<=nd.other/\nd.other<hi)
 lg:∀w,Q2s ns a w e↔L w
theorem Frg.cl{ns:List Q0p}{lo hi a e:Nat}{L:Q04}(h:Frg ns lo hi a e L)(x:Nat)(h1:lo<=x)(h2:x<hi)(o:Option Nat)(y:Nat)(st:Q4k ns o x y):lo<=y/\y<hi:=by
 obtain⟨nd,q1,q2,q3⟩:=st;obtain⟨n1,n2⟩:=h.nb x h1 h2 nd q1;cases o with
 |none=>rcases q3.2 with q|q<;>omega
 |some c=>have:=q3.2.2;omega
theorem Frg.keep{ns ns':List Q0p}{lo hi a e:Nat}{L:Q04}(h:Frg ns lo hi a e L)(hl:hi<=ns'.length)(hk:∀x,lo<=x->x<hi->ns'[x]? = ns[x]?):Frg ns' lo hi a e L:=by
 have s1:∀x,(lo<=x/\x<hi)->∀o y,Q4k ns' o x y->Q4k ns o x y/\(lo<=y/\y<hi):=fun x hx o y⟨nd,q1,q2,q3⟩=>by
  rw[hk x hx.1 hx.2]at q1;obtain⟨n1,n2⟩:=h.nb x hx.1 hx.2 nd q1;have hy:y<hi:=by
   cases o with
   |none=>rcases q3.2 with q|q<;>omega
   |some c=>have:=q3.2.2;omega
  have st:Q4k ns o x y:=⟨nd,q1,by have:=h.bd;omega,q3⟩;exact⟨st,h.cl x hx.1 hx.2 o y st⟩
 have s2:∀x,(lo<=x/\x<hi)->∀o y,Q4k ns o x y->Q4k ns' o x y/\(lo<=y/\y<hi):=fun x hx o y st=>by
  have hy:=h.cl x hx.1 hx.2 o y st;obtain⟨nd,q1,q2,q3⟩:=st;exact⟨⟨nd,by rw[hk x hx.1 hx.2];exact q1,by omega,q3⟩,hy⟩
 refine⟨hl,h.ia,h.ie,by rw[hk e h.ie.1 h.ie.2];exact h.en,fun x h1 h2 nd q=>h.nb x h1 h2 nd(by rw[← hk x h1 h2];exact q),fun w=>?_⟩;rw[← h.lg w];exact⟨fun q=>(Q2s.stay s1 h.ia q).1,fun q=>(Q2s.stay s2 h.ia q).1⟩
theorem Frg.one(ns:List Q0p)(ws:List Int):Frg(Q8y ns ws)ns.length(ns.length+2)(ns.length+1)ns.length(Q04.byte fun c=>Q5z ws c=true):=by
 have l0:(Q8y ns ws).length=ns.length+2:=by simp[Q8y]
 have g0:(Q8y ns ws)[ns.length]? = some Q0f:=by simp[Q8y]
 have g1:(Q8y ns ws)[ns.length+1]? = some(Q4n ws ns.length):=by simp[Q8y]
 have e0:∀o y,¬Q4k(Q8y ns ws)o ns.length y:=fun o y⟨nd,q1,q2,q3⟩=>by
  rw[g0]at q1;have:Q0f=nd:=by simpa using q1
  subst this;cases o with
  |none=>rcases q3.2 with q|q<;>(simp only[Q0f]at q;omega)
  |some c=>have:=q3.1;simp[Q0f]at this
 have e1:∀o y,Q4k(Q8y ns ws)o(ns.length+1)y↔∃c,o=some c/\Q5z ws c=true/\y=ns.length:=fun o y=>by
  constructor
  ·rintro⟨nd,q1,q2,q3⟩;rw[g1]at q1;have:Q4n ws ns.length=nd:=by simpa using q1
   subst this;cases o with
   |none=>have:=q3.1;simp[Q4n]at this
   |some c=>exact⟨c,rfl,q3.2.1,by have:=q3.2.2;simp only[Q4n]at this;omega⟩
  rintro⟨c,rfl,q1,rfl⟩;exact⟨_,g1,by omega,rfl,q1,rfl⟩
 refine⟨by omega,by omega,by omega,g0,fun x h1 h2 nd hx=>?_,fun w=>?_⟩
 ·rcases(show x=ns.length∨x=ns.length+1 by omega)with rfl|rfl
  ·rw[g0]at hx;have:Q0f=nd:=by simpa using hx
   subst this;exact⟨.inl rfl,.inl rfl⟩
  rw[g1]at hx;have:Q4n ws ns.length=nd:=by simpa using hx
  subst this;exact⟨.inr⟨by simp[Q4n],by simp only[Q4n];omega⟩,.inl rfl⟩
 constructor
 ·rintro⟨r,h1,h2⟩;cases r with
  |nil=>have:ns.length+1=ns.length:=h1;omega
  |cons o r =>
   obtain⟨m,k1,k2⟩:=h1;obtain⟨c,rfl,q1,rfl⟩:=(e1 o m).1 k1;cases r with
   |nil=>exact⟨c,q1,h2.symm⟩
   |cons o2 r =>
    obtain⟨m2,k3,_⟩:=k2;exact absurd k3(e0 o2 m2)
 rintro⟨c,q1,rfl⟩;exact Q2s.byte((e1 _ _).2⟨c,rfl,q1,rfl⟩)
theorem x6c{ns:List Q0p}{e b:Nat}(he:ns[e]? = some Q0f)(x:Nat):(Q1h ns(e:Int)(b:Int))[x]? = if x=e then some{Q0f with next:=(b:Int)}else ns[x]? := by
 have hl:=(qS he).1;unfold Q1h;rw[if_neg(by omega),List.getElem?_modify];by_cases q:x=e
 ·subst q;simp[he,Q0f]
 rw[if_neg q];have q2:¬(e:Int).toNat=x:=by omega
 simp only[q2,if_false];cases ns[x]?<;>rfl
theorem Frg.join{ns:List Q0p}{lo mi hi a e b f:Nat}{A B:Q04}(h:Frg ns lo mi a e A)(k:Frg ns mi hi b f B):Frg(Q1h ns(e:Int)(b:Int))lo hi a f(Q04.cat A B):=by
 have j2:=z0n ns(e:Int)(b:Int);have j0:=x6c(b:=b)h.en;have b1:=h.bd;have b2:=k.bd;have i1:=h.ia;have i2:=h.ie;have i3:=k.ia;have i4:=k.ie;have ee:(Q1h ns(e:Int)(b:Int))[e]? = some{Q0f with next:=(b:Int)}:=by rw[j0,if_pos rfl]
 have K:Frg(Q1h ns(e:Int)(b:Int))mi hi b f B:=k.keep(by omega)(fun x h1 h2=>by rw[j0,if_neg(by omega)]);have hs:∀x,x≠e->∀o y,Q4k(Q1h ns(e:Int)(b:Int))o x y↔Q4k ns o x y:=fun x hx o y=>by
  unfold Q4k;rw[j0,if_neg hx,j2]
 have j1:∀o y,Q4k(Q1h ns(e:Int)(b:Int))o e y↔o=none/\y=b:=fun o y=>by
  constructor
  ·rintro⟨nd,q1,q2,q3⟩;rw[ee]at q1;have:{Q0f with next:=(b:Int)}=nd:=by simpa using q1
   subst this;cases o with
   |none =>
    rcases q3.2 with q|q
    ·exact⟨rfl,by simp only at q;omega⟩
    simp only[Q0f]at q;omega
   |some c=>have:=q3.1;simp[Q0f]at this
  rintro⟨rfl,rfl⟩;exact⟨_,ee,by omega,rfl,.inl rfl⟩
 have ho:∀o y,¬Q4k ns o e y:=fun o y⟨nd,q1,q2,q3⟩=>by
  rw[h.en]at q1;have:Q0f=nd:=by simpa using q1
  subst this;cases o with
  |none=>rcases q3.2 with q|q<;>(simp only[Q0f]at q;omega)
  |some c=>have:=q3.1;simp[Q0f]at this
 refine⟨by omega,by omega,by omega,K.en,fun x h1 h2 nd hx=>?_,fun w=>?_⟩
 ·by_cases q:x=e
  ·subst q;rw[ee]at hx;have:{Q0f with next:=(b:Int)}=nd:=by simpa using hx
   subst this;exact⟨.inr⟨by simp only;omega,by simp only;omega⟩,.inl rfl⟩
  rw[j0,if_neg q]at hx;by_cases hm:x<mi
  ·have:=h.nb x h1 hm nd hx;omega
  have:=k.nb x(by omega)h2 nd hx;omega
 constructor
 ·intro hp;obtain⟨u,v,t,e1,e2,e3,e4⟩:=Q2s.exit(ns:=ns)(S:=fun x=>lo<=x/\x<mi)(e:=e)(fun x hx hne o y st=>⟨(hs x hne o y).1 st,h.cl x hx.1 hx.2 o y((hs x hne o y).1 st)⟩)(fun o y st=>((j1 o y).1 st).1)h.ia(by omega)hp;obtain⟨_,rfl⟩:=(j1 _ _).1 e3;exact⟨u,v,e1,(h.lg u).1 e2,(K.lg v).1 e4⟩
 rintro⟨u,v,rfl,q1,q2⟩;have p1:=(h.lg u).2 q1;have j3:Q2s(Q1h ns(e:Int)(b:Int))a u e:=Q2s.mono(ns:=ns)(S:=fun _=>True)(fun x _ o y st=>⟨(hs x(fun q=>by subst q;exact ho o y st)o y).2 st,trivial⟩)trivial p1;have:=(j3.trans(Q2s.eps((j1 none b).2⟨rfl,rfl⟩))).trans((K.lg v).2 q2);simpa using this
theorem z2l{ns:List Q0p}{e:Nat}(b:Int)(hl:e<ns.length)(x:Nat):(Q1h ns(e:Int)b)[x]? = if x=e then(ns[e]?).map(fun nd=>if nd.next=-1 then{nd with next:=b}else{nd with other:=b})else ns[x]? := by
 unfold Q1h;rw[if_neg(by omega),List.getElem?_modify];by_cases q:x=e
 ·subst q;simp
 rw[if_neg q];have q2:¬(e:Int).toNat=x:=by omega
 simp only[q2,if_false];cases ns[x]?<;>rfl
theorem Q2s.stuck{ns:List Q0p}{x z:Nat}{w:List Nat}(h:∀o y,¬Q4k ns o x y)(hp:Q2s ns x w z):w=[]/\z=x:=by
 obtain⟨r,h1,h2⟩:=hp;cases r with
 |nil=>exact⟨h2.symm,Eq.symm h1⟩
 |cons o r=>obtain⟨m,k,_⟩:=h1;exact absurd k(h o m)
theorem z4q{ns:List Q0p}{e:Nat}(h:ns[e]? = some Q0f)(o:Option Nat)(y:Nat):¬Q4k ns o e y:=fun⟨nd,q1,q2,q3⟩=>by
 rw[h]at q1;have:Q0f=nd:=by simpa using q1
 subst this;cases o with
 |none=>rcases q3.2 with q|q<;>(simp only[Q0f]at q;omega)
 |some c=>have:=q3.1;simp[Q0f]at this
theorem z15{ns:List Q0p}{x:Nat}{p q:Int}(h:ns[x]? = some⟨false,Q07,p,q⟩)(o:Option Nat)(y:Nat):Q4k ns o x y↔o=none/\y<ns.length/\((y:Int)=p∨(y:Int)=q):=by
 constructor
 ·rintro⟨nd,q1,q2,q3⟩;rw[h]at q1;have:(⟨false,Q07,p,q⟩:Q0p)=nd:=by simpa using q1
  subst this;cases o with
  |none=>exact⟨rfl,q2,q3.2⟩
  |some c=>have:=q3.1;simp at this
 rintro⟨rfl,q1,q2⟩;exact⟨_,h,q1,rfl,q2⟩
theorem Frg.out{ns ns':List Q0p}{lo hi a e:Nat}{A:Q04}(h:Frg ns lo hi a e A)(hl:ns.length<=ns'.length)(hk:∀x,lo<=x->x<hi->x≠e->ns'[x]? = ns[x]?){p q:Int}(he:ns'[e]? = some⟨false,Q07,p,q⟩) :
  (∀{w:List Nat}{z:Nat},¬(lo<=z/\z<hi)->Q2s ns' a w z->∃u v t,w=u++v/\A u/\Q4k ns' none e t/\Q2s ns' t v z)/\(∀u,A u->Q2s ns' a u e):=by
 have b1:=h.bd;have s1:∀x,(lo<=x/\x<hi)->x≠e->∀o y,Q4k ns' o x y->Q4k ns o x y/\(lo<=y/\y<hi):=fun x hx j0 o y⟨nd,q1,q2,q3⟩=>by
  rw[hk x hx.1 hx.2 j0]at q1;have n1:=h.nb x hx.1 hx.2 nd q1;have hy:y<hi:=by
   cases o with
   |none=>rcases q3.2 with q|q<;>omega
   |some c=>have:=q3.2.2;omega
  have st:Q4k ns o x y:=⟨nd,q1,by omega,q3⟩;exact⟨st,h.cl x hx.1 hx.2 o y st⟩
 refine⟨fun hz hp=>?_,fun u hu=>?_⟩
 ·obtain⟨u,v,t,e1,e2,e3,e4⟩:=Q2s.exit(ns:=ns)(S:=fun x=>lo<=x/\x<hi)(e:=e)s1(fun o y st=>((z15 he o y).1 st).1)h.ia hz hp;exact⟨u,v,t,e1,(h.lg u).1 e2,e3,e4⟩
 refine Q2s.mono(ns:=ns)(S:=fun x=>lo<=x/\x<hi)(fun x hx o y st=>?_)h.ia((h.lg u).2 hu);have hy:=h.cl x hx.1 hx.2 o y st;have j0:x≠e:=fun q=>by subst q;exact z4q h.en o y st
 obtain⟨nd,q1,q2,q3⟩:=st;exact⟨⟨nd,by rw[hk x hx.1 hx.2 j0];exact q1,by omega,q3⟩,hy⟩
theorem Q2s.head{ns:List Q0p}{x z:Nat}{w:List Nat}{p q:Int}(h:ns[x]? = some⟨false,Q07,p,q⟩)(hne:x≠z)(hp:Q2s ns x w z):∃y:Nat,((y:Int)=p∨(y:Int)=q)/\Q2s ns y w z:=by
 obtain⟨r,h1,h2⟩:=hp;cases r with
 |nil=>exact absurd h1 hne
 |cons o r =>
  obtain⟨m,k1,k2⟩:=h1;obtain⟨rfl,_,q2⟩:=(z15 h o m).1 k1;exact⟨m,q2,⟨r,k2,by simpa using h2⟩⟩
theorem y5l{ns:List Q0p}{a e b f:Nat}(he:ns[e]? = some Q0f)(hf:ns[f]? = some Q0f)(hef:e≠f) :
  (Q37 ns(a:Int)(e:Int)(b:Int)(f:Int)).length=ns.length+2 /\
  ∀x,(Q37 ns(a:Int)(e:Int)(b:Int)(f:Int))[x]? = if x=f∨x=e then some⟨false,Q07,(ns.length+1:Int),-1⟩else if x=ns.length then some⟨false,Q07,a,b⟩else if x=ns.length+1 then some Q0f else ns[x]? := by
 have le:=(qS he).1;have lf:=(qS hf).1;have l0:(Q37 ns(a:Int)(e:Int)(b:Int)(f:Int)).length=ns.length+2:=by simp[Q37,z0n]
 refine⟨l0,fun x=>?_⟩;have m0:∀x,(ns++[Q0f]++[Q0f])[x]? = if x=ns.length then some Q0f else if x=ns.length+1 then some Q0f else ns[x]? := fun x=>by
  by_cases h1:x<ns.length
  ·rw[if_neg(by omega),if_neg(by omega),List.append_assoc,List.getElem?_append_left h1]
  by_cases h2:x=ns.length
  ·subst h2;simp
  by_cases h3:x=ns.length+1
  ·subst h3;simp
  rw[if_neg h2,if_neg h3,qN(by simp;omega),qN(by omega)]
 have lm:(ns++[Q0f]++[Q0f]).length=ns.length+2:=by simp
 unfold Q37;generalize ns++[Q0f]++[Q0f]=M at m0 lm;have g1:∀x,(Q1h M(ns.length:Int)(a:Int))[x]? = if x=ns.length then some⟨false,Q07,a,-1⟩else if x=ns.length+1 then some Q0f else ns[x]? := fun x=>by
  rw[z2l _(by omega)];by_cases q:x=ns.length
  ·rw[if_pos q,if_pos q,m0,if_pos rfl];rfl
  rw[if_neg q,if_neg q,m0,if_neg q]
 have l1:(Q1h M(ns.length:Int)(a:Int)).length=ns.length+2:=by rw[z0n];exact lm
 generalize Q1h M(ns.length:Int)(a:Int)=M1 at g1 l1;have g2:∀x,(Q1h M1(ns.length:Int)(b:Int))[x]? = if x=ns.length then some⟨false,Q07,a,b⟩else if x=ns.length+1 then some Q0f else ns[x]? := fun x=>by
  rw[z2l _(by omega)];by_cases q:x=ns.length
  ·rw[if_pos q,if_pos q,g1,if_pos rfl];have h6:¬((a:Int)=-1):=by omega
   simp[h6]
  rw[if_neg q,if_neg q,g1,if_neg q]
 have l2:(Q1h M1(ns.length:Int)(b:Int)).length=ns.length+2:=by rw[z0n];exact l1
 generalize Q1h M1(ns.length:Int)(b:Int)=M2 at g2 l2;have me:M2[e]? = some Q0f:=by rw[g2,if_neg(by omega),if_neg(by omega)];exact he
 have g3:∀x,(Q1h M2(e:Int)(ns.length+1:Int))[x]? = if x=e then some⟨false,Q07,(ns.length+1:Int),-1⟩else M2[x]? := fun x=>by
  rw[z2l _(by omega),me];rfl
 have l3:(Q1h M2(e:Int)(ns.length+1:Int)).length=ns.length+2:=by rw[z0n];exact l2
 generalize Q1h M2(e:Int)(ns.length+1:Int)=M3 at g3 l3;have mf:M3[f]? = some Q0f:=by rw[g3,if_neg(fun q=>hef q.symm),g2,if_neg(by omega),if_neg(by omega)];exact hf
 rw[z2l _(by omega),mf];by_cases h1:x=f
 ·rw[if_pos h1,if_pos(.inl h1)];rfl
 rw[if_neg h1,g3];by_cases h2:x=e
 ·rw[if_pos h2,if_pos(.inr h2)]
 rw[if_neg h2,if_neg(fun q=>q.elim h1 h2),g2]
theorem Frg.either{ns:List Q0p}{lo mi a e b f:Nat}{A B:Q04}(h:Frg ns lo mi a e A)(k:Frg ns mi ns.length b f B):Frg(Q37 ns(a:Int)(e:Int)(b:Int)(f:Int))lo(ns.length+2)ns.length(ns.length+1)(Q04.alt A B):=by
 have i1:=h.ia;have i2:=h.ie;have i3:=k.ia;have i4:=k.ie;have b1:=h.bd;obtain⟨ln,hat⟩:=y5l(a:=a)(b:=b)h.en k.en(by omega);generalize Q37 ns(a:Int)(e:Int)(b:Int)(f:Int)=N at ln hat
 have gS:N[ns.length]? = some⟨false,Q07,a,b⟩:=by rw[hat,if_neg(by omega),if_pos rfl]
 have gE:N[ns.length+1]? = some Q0f:=by rw[hat,if_neg(by omega),if_neg(by omega),if_pos rfl]
 have ge:N[e]? = some⟨false,Q07,(ns.length+1:Int),-1⟩:=by rw[hat,if_pos(.inr rfl)]
 have gf:N[f]? = some⟨false,Q07,(ns.length+1:Int),-1⟩:=by rw[hat,if_pos(.inl rfl)]
 have ha:=h.out(by omega)(fun x h1 h2 h3=>by rw[hat,if_neg(by omega),if_neg(by omega),if_neg(by omega)])ge;have hb:=k.out(by omega)(fun x h1 h2 h3=>by rw[hat,if_neg(by omega),if_neg(by omega),if_neg(by omega)])gf;have fin:∀{x t:Nat}{v:List Nat},N[x]? = some⟨false,Q07,(ns.length+1:Int),-1⟩->Q4k N none x t->Q2s N t v(ns.length+1)->v=[]:=fun{x t v}g st hp=>by
  obtain⟨_,_,q⟩:=(z15 g _ _).1 st;have ht:t=ns.length+1:=by rcases q with q|q<;>omega
  subst ht;exact(Q2s.stuck(z4q gE)hp).1
 have bk:∀{x:Nat},N[x]? = some⟨false,Q07,(ns.length+1:Int),-1⟩->Q4k N none x(ns.length+1):=fun g=>(z15 g _ _).2⟨rfl,by omega,.inl(by omega)⟩;refine⟨by omega,by omega,by omega,gE,fun x h1 h2 nd hx=>?_,fun w=>?_⟩
 ·rw[hat]at hx;split at hx
  ·have:(⟨false,Q07,(ns.length+1:Int),-1⟩:Q0p)=nd:=by simpa using hx
   subst this;exact⟨.inr⟨by simp only;omega,by simp only;omega⟩,.inl rfl⟩
  split at hx
  ·have:(⟨false,Q07,a,b⟩:Q0p)=nd:=by simpa using hx
   subst this;exact⟨.inr⟨by simp only;omega,by simp only;omega⟩,.inr⟨by simp only;omega,by simp only;omega⟩⟩
  split at hx
  ·have:Q0f=nd:=by simpa using hx
   subst this;exact⟨.inl rfl,.inl rfl⟩
  by_cases hm:x<mi
  ·have:=h.nb x h1 hm nd hx;omega
  have:=k.nb x(by omega)(by omega)nd hx;omega
 constructor
 ·intro hp;obtain⟨y,q,hp2⟩:=Q2s.head gS(by omega)hp;rcases q with q|q
  ·have:y=a:=by omega
   subst this;obtain⟨u,v,t,rfl,q1,q2,q3⟩:=ha.1(by omega)hp2;have:=fin ge q2 q3;subst this;exact .inl(by simpa using q1)
  have:y=b:=by omega
  subst this;obtain⟨u,v,t,rfl,q1,q2,q3⟩:=hb.1(by omega)hp2;have:=fin gf q2 q3;subst this;exact .inr(by simpa using q1)
 rintro(q|q)
 ·have:=((Q2s.eps((z15 gS none a).2⟨rfl,by omega,.inl rfl⟩)).trans(ha.2 w q)).trans(Q2s.eps(bk ge));simpa using this
 have:=((Q2s.eps((z15 gS none b).2⟨rfl,by omega,.inr rfl⟩)).trans(hb.2 w q)).trans(Q2s.eps(bk gf));simpa using this
def Q04.rep(m:Int)(A:Q04):Q04:=fun w=>∃ws:List(List Nat),(∀u∈ws,A u)/\w=ws.flatten/\(m=43->ws≠[])/\(m=63->ws.length<=1)
theorem y3x{ns:List Q0p}{a e:Nat}(m:Int)(he:ns[e]? = some Q0f) :
  (Q19 ns(a:Int)(e:Int)m).length=ns.length+2 /\
  ∀x,(Q19 ns(a:Int)(e:Int)m)[x]? = if x=e then some⟨false,Q07,(ns.length+1:Int),if m=63 then -1 else a⟩else if x=ns.length then some⟨false,Q07,a,if m=43 then -1 else(ns.length+1:Int)⟩else if x=ns.length+1 then some Q0f else ns[x]? := by
 have le:=(qS he).1;have l0:(Q19 ns(a:Int)(e:Int)m).length=ns.length+2:=by
  unfold Q19;dsimp only;split<;>split<;>simp[z0n]
 refine⟨l0,fun x=>?_⟩;have m0:∀x,(ns++[Q0f]++[Q0f])[x]? = if x=ns.length then some Q0f else if x=ns.length+1 then some Q0f else ns[x]? := fun x=>by
  by_cases h1:x<ns.length
  ·rw[if_neg(by omega),if_neg(by omega),List.append_assoc,List.getElem?_append_left h1]
  by_cases h2:x=ns.length
  ·subst h2;simp
  by_cases h3:x=ns.length+1
  ·subst h3;simp
  rw[if_neg h2,if_neg h3,qN(by simp;omega),qN(by omega)]
 have lm:(ns++[Q0f]++[Q0f]).length=ns.length+2:=by simp
 unfold Q19;dsimp only;generalize ns++[Q0f]++[Q0f]=M at m0 lm;have g1:∀x,(Q1h M(ns.length:Int)(a:Int))[x]? = if x=ns.length then some⟨false,Q07,a,-1⟩else if x=ns.length+1 then some Q0f else ns[x]? := fun x=>by
  rw[z2l _(by omega)];by_cases q:x=ns.length
  ·rw[if_pos q,if_pos q,m0,if_pos rfl];rfl
  rw[if_neg q,if_neg q,m0,if_neg q]
 have l1:(Q1h M(ns.length:Int)(a:Int)).length=ns.length+2:=by rw[z0n];exact lm
 generalize Q1h M(ns.length:Int)(a:Int)=M1 at g1 l1;have me:M1[e]? = some Q0f:=by rw[g1,if_neg(by omega),if_neg(by omega)];exact he
 have g2:∀x,(Q1h M1(e:Int)(ns.length+1:Int))[x]? = if x=e then some⟨false,Q07,(ns.length+1:Int),-1⟩else M1[x]? := fun x=>by
  rw[z2l _(by omega),me];rfl
 have l2:(Q1h M1(e:Int)(ns.length+1:Int)).length=ns.length+2:=by rw[z0n];exact l1
 generalize Q1h M1(e:Int)(ns.length+1:Int)=M2 at g2 l2;have g3:∀x,(if m=43 then M2 else Q1h M2(ns.length:Int)(ns.length+1:Int))[x]? = if x=e then some⟨false,Q07,(ns.length+1:Int),-1⟩else if x=ns.length then some⟨false,Q07,a,if m=43 then -1 else(ns.length+1:Int)⟩else if x=ns.length+1 then some Q0f else ns[x]? := fun x=>by
  by_cases hm:m=43
  ·rw[if_pos hm,g2];by_cases q:x=e
   ·rw[if_pos q,if_pos q]
   rw[if_neg q,if_neg q,g1,if_pos hm]
  rw[if_neg hm,z2l _(by omega)];by_cases q2:x=ns.length
  ·rw[if_pos q2,if_neg(by omega),if_pos q2,g2,if_neg(by omega),g1,if_pos rfl,if_neg hm];have h6:¬((a:Int)=-1):=by omega
   simp[h6]
  rw[if_neg q2,g2];by_cases q:x=e
  ·rw[if_pos q,if_pos q]
  rw[if_neg q,if_neg q,if_neg q2,g1,if_neg q2]
 have l3:(if m=43 then M2 else Q1h M2(ns.length:Int)(ns.length+1:Int)).length=ns.length+2:=by
  split
  ·exact l2
  rw[z0n];exact l2
 generalize(if m=43 then M2 else Q1h M2(ns.length:Int)(ns.length+1:Int))=M3 at g3 l3;by_cases h6:m=63
 ·rw[if_pos h6,g3];by_cases q:x=e
  ·rw[if_pos q,if_pos q,if_pos h6]
  rw[if_neg q,if_neg q]
 rw[if_neg h6,z2l _(by omega)];by_cases q:x=e
 ·rw[if_pos q,if_pos q,g3,if_pos rfl,if_neg h6];have h7:¬(((ns.length:Int)+1)=-1):=by omega
  simp[h7]
 rw[if_neg q,if_neg q,g3,if_neg q]
theorem Frg.rep{ns:List Q0p}{lo a e:Nat}{A:Q04}(m:Int)(h:Frg ns lo ns.length a e A):Frg(Q19 ns(a:Int)(e:Int)m)lo(ns.length+2)ns.length(ns.length+1)(Q04.rep m A):=by
 have i1:=h.ia;have i2:=h.ie;obtain⟨ln,hat⟩:=y3x(a:=a)m h.en;generalize Q19 ns(a:Int)(e:Int)m=N at ln hat
 have gS:N[ns.length]? = some⟨false,Q07,a,if m=43 then -1 else(ns.length+1:Int)⟩:=by rw[hat,if_neg(by omega),if_pos rfl]
 have gE:N[ns.length+1]? = some Q0f:=by rw[hat,if_neg(by omega),if_neg(by omega),if_pos rfl]
 have ge:N[e]? = some⟨false,Q07,(ns.length+1:Int),if m=63 then -1 else a⟩:=by rw[hat,if_pos rfl]
 have j0:∀x,lo<=x->x<ns.length->x≠e->N[x]? = ns[x]? := fun x h1 h2 h3=>by rw[hat,if_neg h3,if_neg(by omega),if_neg(by omega)]
 have ha:=h.out(by omega)j0 ge;have s1:∀x,(lo<=x/\x<ns.length)->x≠e->∀o y,Q4k N o x y->Q4k ns o x y/\(lo<=y/\y<ns.length):=fun x hx hne o y⟨nd,q1,q2,q3⟩=>by
  rw[j0 x hx.1 hx.2 hne]at q1;have n1:=h.nb x hx.1 hx.2 nd q1;have hy:y<ns.length:=by
   cases o with
   |none=>rcases q3.2 with q|q<;>omega
   |some c=>have:=q3.2.2;omega
  have st:Q4k ns o x y:=⟨nd,q1,by omega,q3⟩;exact⟨st,h.cl x hx.1 hx.2 o y st⟩
 have j2:∀(n:Nat)(r:List(Option Nat)),r.length<=n->Run N r a(ns.length+1)->∃ws:List(List Nat),ws≠[]/\(∀u∈ws,A u)/\r.filterMap id=ws.flatten/\(m=63->ws.length<=1):=by
  intro n;induction n with
  |zero =>
   intro r hr hrun;have:r=[]:=List.eq_nil_of_length_eq_zero(by omega);subst this;have h2:a=ns.length+1:=hrun;omega
  |succ n ih =>
   intro r hr hrun;obtain⟨r1,t,r2,e1,e2,e3,e4⟩:=Run.exit(ns:=ns)(S:=fun x=>lo<=x/\x<ns.length)(e:=e)s1(fun o y st=>((z15 ge o y).1 st).1)r a _ h.ia(by omega)hrun;have hA:A(r1.filterMap id):=(h.lg _).1⟨r1,e2,rfl⟩;obtain⟨_,_,q⟩:=(z15 ge _ _).1 e3;have hf:r.filterMap id=r1.filterMap id++r2.filterMap id:=by rw[e1,List.filterMap_append];rfl
   rcases q with q|q
   ·have ht:t=ns.length+1:=by omega
    subst ht;have hv:=(Q2s.stuck(z4q gE)⟨r2,e4,rfl⟩).1;exact⟨[r1.filterMap id],by simp,by simpa using hA,by rw[hf,hv];simp,fun _=>by simp⟩
   by_cases h6:m=63
   ·rw[if_pos h6]at q;omega
   rw[if_neg h6]at q;have ht:t=a:=by omega
   subst ht;obtain⟨ws,w1,w2,w3,_⟩:=ih r2(by rw[e1]at hr;simp at hr;omega)e4;refine⟨r1.filterMap id::ws,by simp,?_,by rw[hf,w3];rfl,fun x=>absurd x h6⟩;intro u hu;rcases List.mem_cons.1 hu with rfl|hu
   ·exact hA
   exact w2 u hu
 have up:∀(ws:List(List Nat)),ws≠[]->(∀u∈ws,A u)->(m=63->ws.length<=1)->Q2s N a ws.flatten(ns.length+1):=by
  intro ws;induction ws with
  |nil=>intro h0;exact absurd rfl h0
  |cons u ws ih =>
   intro _ hA h6;have p1:=ha.2 u(hA u(by simp));cases ws with
   |nil =>
    have p2:Q2s N e [](ns.length+1):=Q2s.eps((z15 ge _ _).2⟨rfl,by omega,.inl(by omega)⟩);simpa using p1.trans p2
   |cons v ws =>
    have j3:¬m=63:=fun e=>by have:=h6 e;simp at this
    have p2:Q2s N e []a:=Q2s.eps((z15 ge _ _).2⟨rfl,by omega,.inr(by rw[if_neg j3])⟩);have p3:=ih(by simp)(fun x hx=>hA x(List.mem_cons_of_mem _ hx))(fun e=>absurd e j3);simpa using(p1.trans p2).trans p3
 refine⟨by omega,by omega,by omega,gE,fun x h1 h2 nd hx=>?_,fun w=>?_⟩
 ·rw[hat]at hx;split at hx
  ·have:(⟨false,Q07,(ns.length+1:Int),if m=63 then -1 else a⟩:Q0p)=nd:=by simpa using hx
   subst this;refine⟨.inr⟨by simp only;omega,by simp only;omega⟩,?_⟩;dsimp only;split
   ·exact .inl rfl
   exact .inr⟨by omega,by omega⟩
  split at hx
  ·have:(⟨false,Q07,a,if m=43 then -1 else(ns.length+1:Int)⟩:Q0p)=nd:=by simpa using hx
   subst this;refine⟨.inr⟨by simp only;omega,by simp only;omega⟩,?_⟩;dsimp only;split
   ·exact .inl rfl
   exact .inr⟨by omega,by omega⟩
  split at hx
  ·have:Q0f=nd:=by simpa using hx
   subst this;exact⟨.inl rfl,.inl rfl⟩
  have:=h.nb x h1(by omega)nd hx;omega
 constructor
 ·intro hp;obtain⟨y,q,hp2⟩:=Q2s.head gS(by omega)hp;rcases q with q|q
  ·have:y=a:=by omega
   subst this;obtain⟨r,hr,hw⟩:=hp2;obtain⟨ws,w1,w2,w3,w4⟩:=j2 _ r(qR _)hr;exact⟨ws,w2,by rw[← hw,w3],fun _=>w1,w4⟩
  by_cases j1:m=43
  ·rw[if_pos j1]at q;omega
  rw[if_neg j1]at q;have:y=ns.length+1:=by omega
  subst this;have hv:=(Q2s.stuck(z4q gE)hp2).1;exact⟨[],by simp,by rw[hv];rfl,fun e=>absurd e j1,fun _=>by simp⟩
 rintro⟨ws,w1,rfl,w3,w4⟩;by_cases h0:ws=[]
 ·subst h0;have j1:¬m=43:=fun e=>w3 e rfl;have:=Q2s.eps((z15 gS none(ns.length+1)).2⟨rfl,by omega,.inr(by rw[if_neg j1];omega)⟩);simpa using this
 have:=(Q2s.eps((z15 gS none a).2⟨rfl,by omega,.inl rfl⟩)).trans(up ws h0 w1 w4);simpa using this
structure LR where
 next:Int
 ok:Bool
 lang:Q04
def noL:Q04:=fun _=>False
def Q3q(g:Int->LR)(s:ByteArray)(i:Int):LR :=
 if atB s i=40 then g i
 else if(Q2t s i).2.2=false then⟨(Q2t s i).2.1,false,noL⟩
 else⟨(Q2t s i).2.1,true,Q04.byte fun c=>Q5z(Q2t s i).1 c=true⟩
def Q2h(s:ByteArray):Nat->LR->LR
 |0,r=>r
 |f+1,r=>if(r.ok&&Q1y(atB s r.next))=true then Q2h s f⟨r.next+1,true,Q04.rep(atB s r.next)r.lang⟩else r
def Q1u(a:Int->LR)(s:ByteArray)(i:Int):LR:=Q2h s(s.size+5)(a i)
def Q5v(r p:LR):LR:=if p.ok then⟨p.next,true,Q04.cat r.lang p.lang⟩else⟨p.next,false,noL⟩
def Q1r(p:Int->LR)(s:ByteArray):Nat->LR->LR
 |0,r=>r
 |f+1,r=>if(r.ok&&Q2w s r.next)=true then Q1r p s f(Q5v r(p r.next))else r
def Q0z(p:Int->LR)(s:ByteArray)(i:Int):LR:=Q1r p s(s.size+5)(p i)
def Q12(r p:LR):LR:=if p.ok then⟨p.next,true,Q04.alt r.lang p.lang⟩else⟨p.next,false,noL⟩
def Q05(p:Int->LR)(s:ByteArray):Nat->LR->LR
 |0,r=>r
 |f+1,r=>if(r.ok&&(atB s r.next==124))=true then Q05 p s f(Q12 r(p(r.next+1)))else r
def Q28(p:Int->LR)(s:ByteArray)(i:Int):LR:=Q05 p s(s.size+5)(p i)
def Q6d(c:Int->LR)(s:ByteArray)(i:Int):LR :=
 if(c(i+1)).ok=false then⟨(c(i+1)).next,false,noL⟩
 else if atB s(c(i+1)).next≠41 then⟨(c(i+1)).next,false,noL⟩
 else⟨(c(i+1)).next+1,true,(c(i+1)).lang⟩
def lgK(s:ByteArray):Nat->Int->LR
 |0=>fun i=>⟨i,false,noL⟩
 |k+1=>Q6d(Q28(Q0z(Q1u(Q3q(lgK s k)s)s)s)s)s
def Q61(s:ByteArray)(k:Nat):Int->LR:=Q28(Q0z(Q1u(Q3q(lgK s k)s)s)s)s
structure Lk(ns:List Q0p)(r:PR)(l:LR):Prop where
 ok:r.ok=l.ok
 next:r.next=l.next
 frg:l.ok=true->ns.length<=r.ns.length/\(∀x,x<ns.length->r.ns[x]? = ns[x]?)/\∃a e:Nat,r.st=a/\r.en=e/\Frg r.ns ns.length r.ns.length a e l.lang
def LkF(f:Int->List Q0p->PR)(l:Int->LR):Prop:=∀i ns,Lk ns(f i ns)(l i)
theorem z96{g:Int->List Q0p->PR}{l:Int->LR}{s:ByteArray}(h:LkF g l):LkF(Q5w g s)(Q3q l s):=by
 intro i ns;unfold Q5w Q3q;split
 ·exact h i ns
 split
 ·exact⟨rfl,rfl,fun e=>by cases e⟩
 have hl:(Q8y ns(Q2t s i).1).length=ns.length+2:=by simp[Q8y]
 refine⟨rfl,rfl,fun _=>⟨by dsimp only;omega,fun x hx=>?_,ns.length+1,ns.length,by dsimp only;omega,rfl,?_⟩⟩
 ·dsimp only[Q8y];rw[List.append_assoc,List.getElem?_append_left hx]
 dsimp only;rw[hl];exact Frg.one ns _
theorem y31(s:ByteArray)(ns:List Q0p):∀(f:Nat)(r:PR)(l:LR),Lk ns r l->Lk ns(Q3w s f r)(Q2h s f l)
 |0,r,l,h=>h
 |f+1,r,l,h=>by
  unfold Q3w Q2h;rw[h.ok,h.next];split
  ·rename_i hc;rw[Bool.and_eq_true]at hc;refine y31 s ns f _ _⟨rfl,rfl,fun _=>?_⟩;obtain⟨q1,q2,a,e,q3,q4,q5⟩:=h.frg hc.1;have i2:=q5.ie;obtain⟨ln,hat⟩:=y3x(a:=a)(atB s l.next)q5.en;dsimp only;rw[q3,q4];refine⟨by omega,fun x hx=>?_,r.ns.length,r.ns.length+1,rfl,by omega,?_⟩
   ·rw[hat,if_neg(by omega),if_neg(by omega),if_neg(by omega)];exact q2 x hx
   rw[ln];exact q5.rep _
  exact h
theorem z71{f:Int->List Q0p->PR}{l:Int->LR}{s:ByteArray}(h:LkF f l):LkF(Q70 f s)(Q1u l s):=fun i ns=>y31 s ns _ _ _(h i ns)
theorem v0o{ns:List Q0p}{r p:PR}{l q:LR}(h:Lk ns r l)(hok:l.ok=true)(hp:Lk r.ns p q):Lk ns(Q7j r p)(Q5v l q):=by
 unfold Q7j Q5v;rw[hp.ok];cases hq:q.ok
 ·exact⟨rfl,hp.next,fun e=>by cases e⟩
 obtain⟨q1,q2,a,e,q3,q4,q5⟩:=h.frg hok;obtain⟨p1,p2,b,f,p3,p4,p5⟩:=hp.frg hq;have i2:=q5.ie;simp only[if_true];refine⟨rfl,hp.next,fun _=>?_⟩;dsimp only;rw[q3,q4,p3,p4];have hk:=q5.keep p1(fun x _ h2=>p2 x h2);rw[z0n];refine⟨by omega,fun x hx=>?_,a,f,rfl,rfl,hk.join p5⟩;rw[z2l _(by omega),if_neg(by omega),p2 x(by omega)];exact q2 x hx
theorem y06{p:Int->List Q0p->PR}{q:Int->LR}{s:ByteArray}(hp:LkF p q)(ns:List Q0p):∀(f:Nat)(r:PR)(l:LR),Lk ns r l->Lk ns(Q2q p s f r)(Q1r q s f l)
 |0,r,l,h=>h
 |f+1,r,l,h=>by
  unfold Q2q Q1r;rw[h.ok,h.next];split
  ·rename_i hc;rw[Bool.and_eq_true]at hc;exact y06 hp ns f _ _(v0o h hc.1(hp _ _))
  exact h
theorem z9c{f:Int->List Q0p->PR}{l:Int->LR}{s:ByteArray}(h:LkF f l):LkF(Q6i f s)(Q0z l s):=fun i ns=>y06 h ns _ _ _(h i ns)
theorem x4p{ns:List Q0p}{r p:PR}{l q:LR}(h:Lk ns r l)(hok:l.ok=true)(hp:Lk r.ns p q):Lk ns(Q39 r p)(Q12 l q):=by
 unfold Q39 Q12;rw[hp.ok];cases hq:q.ok
 ·exact⟨rfl,hp.next,fun e=>by cases e⟩
 obtain⟨q1,q2,a,e,q3,q4,q5⟩:=h.frg hok;obtain⟨p1,p2,b,f,p3,p4,p5⟩:=hp.frg hq;have i2:=q5.ie;have i4:=p5.ie;simp only[if_true];refine⟨rfl,hp.next,fun _=>?_⟩;dsimp only;rw[q3,q4,p3,p4];have hk:=q5.keep p1(fun x _ h2=>p2 x h2);obtain⟨ln,hat⟩:=y5l(a:=a)(b:=b)hk.en p5.en(by omega);refine⟨by omega,fun x hx=>?_,p.ns.length,p.ns.length+1,rfl,by omega,?_⟩
 ·rw[hat,if_neg(by omega),if_neg(by omega),if_neg(by omega),p2 x(by omega)];exact q2 x hx
 rw[ln];exact hk.either p5
theorem y0p{p:Int->List Q0p->PR}{q:Int->LR}{s:ByteArray}(hp:LkF p q)(ns:List Q0p):∀(f:Nat)(r:PR)(l:LR),Lk ns r l->Lk ns(Q2r p s f r)(Q05 q s f l)
 |0,r,l,h=>h
 |f+1,r,l,h=>by
  unfold Q2r Q05;rw[h.ok,h.next];split
  ·rename_i hc;rw[Bool.and_eq_true]at hc;exact y0p hp ns f _ _(x4p h hc.1(hp _ _))
  exact h
theorem y4p{f:Int->List Q0p->PR}{l:Int->LR}{s:ByteArray}(h:LkF f l):LkF(Q6o f s)(Q28 l s):=fun i ns=>y0p h ns _ _ _(h i ns)
theorem x5r{f:Int->List Q0p->PR}{l:Int->LR}{s:ByteArray}(h:LkF f l):LkF(Q52 f s)(Q6d l s):=by
 intro i ns;have hh:=h(i+1)ns;unfold Q52 Q6d;rw[hh.ok,hh.next];split
 ·exact⟨rfl,rfl,fun e=>by cases e⟩
 rename_i h1;split
 ·exact⟨rfl,rfl,fun e=>by cases e⟩
 exact⟨rfl,rfl,fun _=>hh.frg(by simpa using h1)⟩
theorem x5c(s:ByteArray):∀k,LkF(gK s k)(lgK s k)
 |0=>fun i ns=>⟨rfl,rfl,fun e=>by cases e⟩
 |k+1=>x5r(y4p(z9c(z71(z96(x5c s k)))))
theorem y72(s:ByteArray)(k:Nat):LkF(chK s k)(Q61 s k):=y4p(z9c(z71(z96(x5c s k))))
def bytesOf(t:ByteArray):List Nat:=Q16 t 0 t.size
theorem x08{s:ByteArray}{i:Int}(hok:(Q1s s i).ok=true)(d:Wd)(sk:Bool)(t:ByteArray):Q53⟨d,sk,(Q1s s i).ns,(Q1s s i).st,(Q1s s i).en,[]⟩t=true↔(Q61 s 6 i).lang(bytesOf t):=by
 have h:=y72 s 6 i [];obtain⟨_,_,a,e,h3,h4,h5⟩:=h.frg(by rw[← h.ok];exact hok);have h3:(Q1s s i).st=a:=h3;have h4:(Q1s s i).en=e:=h4;have h5:Frg(Q1s s i).ns 0(Q1s s i).ns.length a e(Q61 s 6 i).lang:=h5;have m:=x45⟨d,sk,(Q1s s i).ns,(Q1s s i).st,(Q1s s i).en,[]⟩t 0 t.size(by omega);rw[Nat.zero_add,show t.extract 0 t.size=t from by simp]at m;rw[m];dsimp only;rw[h3,h4,x5i h5.ia.2 h5.ie.2 t 0 t.size(by omega)];exact h5.lg _
end Go.Proofs.YtcpceafmlgaodaaGreat
