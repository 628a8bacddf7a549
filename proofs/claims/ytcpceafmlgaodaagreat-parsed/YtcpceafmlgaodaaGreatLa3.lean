import Derived.Test.YtcpceafmlgaodaaGreatRa2
namespace Go.Proofs.YtcpceafmlgaodaaGreat
open Go.RowKit
set_option linter.all false
theorem Run.stay{ns ns':List Q0o}{S:Nat->Prop}(h:∀x,S x->∀o y,Q39 ns' o x y->Q39 ns o x y/\S y):∀(r:List (Option Nat)) (x z:Nat),S x->Run ns' r x z->Run ns r x z/\S z
 | [],x,z,hx,hr=>by cases hr;exact⟨rfl,hx⟩
 |o::r,x,z,hx,⟨m,h1,h2⟩=>by
  obtain⟨k1,k2⟩:=h x hx o m h1;obtain⟨k3,k4⟩:=Run.stay h r m z k2 h2;exact⟨⟨m,k1,k3⟩,k4⟩
theorem Q2j.stay{ns ns':List Q0o}{S:Nat->Prop}(h:∀x,S x->∀o y,Q39 ns' o x y->Q39 ns o x y/\S y){x z:Nat}{w:List Nat}(hx:S x)(hp:Q2j ns' x w z):Q2j ns x w z/\S z:=by
 obtain⟨r,h1,h2⟩:=hp;obtain⟨k1,k2⟩:=Run.stay h r x z hx h1;exact⟨⟨r,k1,h2⟩,k2⟩
theorem Run.exit{ns ns':List Q0o}{S:Nat->Prop}{e:Nat}(h:∀x,S x->x≠e->∀o y,Q39 ns' o x y->Q39 ns o x y/\S y)(he:∀o y,Q39 ns' o e y->o=none) :
  ∀(r:List (Option Nat)) (x z:Nat),S x->¬S z->Run ns' r x z->∃r1 t r2,r=r1++none::r2/\Run ns r1 x e/\Q39 ns' none e t/\Run ns' r2 t z
 | [],x,z,hx,hz,hr=>by cases hr;exact absurd hx hz
 |o::r,x,z,hx,hz,⟨m,h1,h2⟩=>by
  by_cases q:x=e
  ·subst q;have ho:=he o m h1;subst ho;exact⟨[],m,r,rfl,rfl,h1,h2⟩
  obtain⟨k1,k2⟩:=h x hx q o m h1;obtain⟨r1,t,r2,e1,e2,e3,e4⟩:=Run.exit h he r m z k2 hz h2;exact⟨o::r1,t,r2,by rw[e1];rfl,⟨m,k1,e2⟩,e3,e4⟩
theorem Q2j.exit{ns ns':List Q0o}{S:Nat->Prop}{e:Nat}(h:∀x,S x->x≠e->∀o y,Q39 ns' o x y->Q39 ns o x y/\S y)(he:∀o y,Q39 ns' o e y->o=none){x z:Nat}{w:List Nat}(hx:S x)(hz:¬S z)(hp:Q2j ns' x w z) :
  ∃u v t,w=u++v/\Q2j ns x u e/\Q39 ns' none e t/\Q2j ns' t v z:=by
 obtain⟨r,h1,h2⟩:=hp;obtain⟨r1,t,r2,e1,e2,e3,e4⟩:=Run.exit h he r x z hx hz h1;refine⟨r1.filterMap id,r2.filterMap id,t,?_,⟨r1,e2,rfl⟩,e3,⟨r2,e4,rfl⟩⟩;rw[← h2,e1,List.filterMap_append];rfl
theorem Q2j.mono{ns ns':List Q0o}{S:Nat->Prop}(h:∀x,S x->∀o y,Q39 ns o x y->Q39 ns' o x y/\S y){x z:Nat}{w:List Nat}(hx:S x)(hp:Q2j ns x w z):Q2j ns' x w z :=
 (Q2j.stay h hx hp).1
abbrev Q02:=List Nat->Prop
def Q02.cat(A B:Q02):Q02:=fun w=>∃u v,w=u++v/\A u/\B v
def Q02.alt(A B:Q02):Q02:=fun w=>A w∨B w
def Q02.byte(P:Nat->Prop):Q02:=fun w=>∃c,P c/\w=[c]
structure Frg(ns:List Q0o)(lo hi a e:Nat)(L:Q02):Prop where
 bd:hi<=ns.length
 ia:lo<=a/\a<hi
 ie:lo<=e/\e<hi
 en:ns[e]? = some plainNode
 nb:∀x,lo<=x->x<hi->∀nd,ns[x]? = some nd->(nd.next=-1∨(lo:Int)<=nd.next/\nd.next<hi)/\(nd.other=-1∨(lo:Int)<=nd.other/\nd.other<hi)
 lg:∀w,Q2j ns a w e↔L w
theorem Frg.cl{ns:List Q0o}{lo hi a e:Nat}{L:Q02}(h:Frg ns lo hi a e L)(x:Nat)(h1:lo<=x)(h2:x<hi)(o:Option Nat)(y:Nat)(st:Q39 ns o x y):lo<=y/\y<hi:=by
 obtain⟨nd,q1,q2,q3⟩:=st;obtain⟨n1,n2⟩:=h.nb x h1 h2 nd q1;cases o with
 |none=>rcases q3.2 with q|q<;>omega
 |some c=>have:=q3.2.2;omega
theorem Frg.keep{ns ns':List Q0o}{lo hi a e:Nat}{L:Q02}(h:Frg ns lo hi a e L)(hl:hi<=ns'.length)(hk:∀x,lo<=x->x<hi->ns'[x]? = ns[x]?):Frg ns' lo hi a e L:=by
 have s1:∀x,(lo<=x/\x<hi)->∀o y,Q39 ns' o x y->Q39 ns o x y/\(lo<=y/\y<hi):=fun x hx o y ⟨nd,q1,q2,q3⟩=>by
  rw[hk x hx.1 hx.2]at q1;obtain⟨n1,n2⟩:=h.nb x hx.1 hx.2 nd q1;have hy:y<hi:=by
   cases o with
   |none=>rcases q3.2 with q|q<;>omega
   |some c=>have:=q3.2.2;omega
  have st:Q39 ns o x y:=⟨nd,q1,by have:=h.bd;omega,q3⟩;exact⟨st,h.cl x hx.1 hx.2 o y st⟩
 have s2:∀x,(lo<=x/\x<hi)->∀o y,Q39 ns o x y->Q39 ns' o x y/\(lo<=y/\y<hi):=fun x hx o y st=>by
  have hy:=h.cl x hx.1 hx.2 o y st;obtain⟨nd,q1,q2,q3⟩:=st;exact⟨⟨nd,by rw[hk x hx.1 hx.2];exact q1,by omega,q3⟩,hy⟩
 refine⟨hl,h.ia,h.ie,by rw[hk e h.ie.1 h.ie.2];exact h.en,fun x h1 h2 nd q=>h.nb x h1 h2 nd (by rw[← hk x h1 h2];exact q),fun w=>?_⟩;rw[← h.lg w];exact⟨fun q=>(Q2j.stay s1 h.ia q).1,fun q=>(Q2j.stay s2 h.ia q).1⟩
theorem Frg.one(ns:List Q0o)(ws:List Int):Frg (Q8o ns ws) ns.length (ns.length+2) (ns.length+1) ns.length (Q02.byte fun c=>Q5n ws c=true):=by
 have l0:(Q8o ns ws).length=ns.length+2:=by simp[Q8o]
 have g0:(Q8o ns ws)[ns.length]? = some plainNode:=by simp[Q8o]
 have g1:(Q8o ns ws)[ns.length+1]? = some (Q4h ws ns.length):=by simp[Q8o]
 have e0:∀o y,¬Q39 (Q8o ns ws) o ns.length y:=fun o y ⟨nd,q1,q2,q3⟩=>by
  rw[g0]at q1;have:plainNode=nd:=by simpa using q1
  subst this;cases o with
  |none=>rcases q3.2 with q|q<;>(simp only[plainNode]at q;omega)
  |some c=>have:=q3.1;simp[plainNode]at this
 have e1:∀o y,Q39 (Q8o ns ws) o (ns.length+1) y↔∃c,o=some c/\Q5n ws c=true/\y=ns.length:=fun o y=>by
  constructor
  ·rintro⟨nd,q1,q2,q3⟩;rw[g1]at q1;have:Q4h ws ns.length=nd:=by simpa using q1
   subst this;cases o with
   |none=>have:=q3.1;simp[Q4h]at this
   |some c=>exact⟨c,rfl,q3.2.1,by have:=q3.2.2;simp only[Q4h]at this;omega⟩
  rintro⟨c,rfl,q1,rfl⟩;exact⟨_,g1,by omega,rfl,q1,rfl⟩
 refine⟨by omega,by omega,by omega,g0,fun x h1 h2 nd hx=>?_,fun w=>?_⟩
 ·rcases(show x=ns.length∨x=ns.length+1 by omega)with rfl|rfl
  ·rw[g0]at hx;have:plainNode=nd:=by simpa using hx
   subst this;exact⟨.inl rfl,.inl rfl⟩
  rw[g1]at hx;have:Q4h ws ns.length=nd:=by simpa using hx
  subst this;exact⟨.inr ⟨by simp[Q4h],by simp only[Q4h];omega⟩,.inl rfl⟩
 constructor
 ·rintro⟨r,h1,h2⟩;cases r with
  |nil=>have:ns.length+1=ns.length:=h1;omega
  |cons o r =>
   obtain⟨m,k1,k2⟩:=h1;obtain⟨c,rfl,q1,rfl⟩:=(e1 o m).1 k1;cases r with
   |nil=>exact⟨c,q1,h2.symm⟩
   |cons o2 r =>
    obtain⟨m2,k3,_⟩:=k2;exact absurd k3 (e0 o2 m2)
 rintro⟨c,q1,rfl⟩;exact Q2j.byte ((e1 _ _).2 ⟨c,rfl,q1,rfl⟩)
theorem x6g{ns:List Q0o}{e b:Nat}(he:ns[e]? = some plainNode)(x:Nat):(Q1e ns (e:Int) (b:Int))[x]? = if x=e then some {plainNode with next:=(b:Int)} else ns[x]? := by
 have hl:=(qS he).1;unfold Q1e;rw[qAa (by omega),List.getElem?_modify];by_cases q:x=e
 ·subst q;simp[he,plainNode]
 rw[qAa q];have q2:¬(e:Int).toNat=x:=by omega
 simp only[q2,qAp];cases ns[x]?<;>rfl
theorem Frg.join{ns:List Q0o}{lo mi hi a e b f:Nat}{A B:Q02}(h:Frg ns lo mi a e A)(k:Frg ns mi hi b f B):Frg (Q1e ns (e:Int) (b:Int)) lo hi a f (Q02.cat A B):=by
 have j2:=z0n ns (e:Int) (b:Int);have j0:=x6g (b:=b) h.en;have b1:=h.bd;have b2:=k.bd;have i1:=h.ia;have i2:=h.ie;have i3:=k.ia;have i4:=k.ie;have ee:(Q1e ns (e:Int) (b:Int))[e]? = some {plainNode with next:=(b:Int)}:=by rw[j0,qAb rfl]
 have K:Frg (Q1e ns (e:Int) (b:Int)) mi hi b f B:=k.keep (by omega) (fun x h1 h2=>by rw[j0,qAa (by omega)]);have hs:∀x,x≠e->∀o y,Q39 (Q1e ns (e:Int) (b:Int)) o x y↔Q39 ns o x y:=fun x hx o y=>by
  unfold Q39;rw[j0,qAa hx,j2]
 have j1:∀o y,Q39 (Q1e ns (e:Int) (b:Int)) o e y↔o=none/\y=b:=fun o y=>by
  constructor
  ·rintro⟨nd,q1,q2,q3⟩;rw[ee]at q1;have:{plainNode with next:=(b:Int)}=nd:=by simpa using q1
   subst this;cases o with
   |none =>
    rcases q3.2 with q|q
    ·exact⟨rfl,by simp only at q;omega⟩
    simp only[plainNode]at q;omega
   |some c=>have:=q3.1;simp[plainNode]at this
  rintro⟨rfl,rfl⟩;exact⟨_,ee,by omega,rfl,.inl rfl⟩
 have ho:∀o y,¬Q39 ns o e y:=fun o y ⟨nd,q1,q2,q3⟩=>by
  rw[h.en]at q1;have:plainNode=nd:=by simpa using q1
  subst this;cases o with
  |none=>rcases q3.2 with q|q<;>(simp only[plainNode]at q;omega)
  |some c=>have:=q3.1;simp[plainNode]at this
 refine⟨by omega,by omega,by omega,K.en,fun x h1 h2 nd hx=>?_,fun w=>?_⟩
 ·by_cases q:x=e
  ·subst q;rw[ee]at hx;have:{plainNode with next:=(b:Int)}=nd:=by simpa using hx
   subst this;exact⟨.inr ⟨by simp only;omega,by simp only;omega⟩,.inl rfl⟩
  rw[j0,qAa q]at hx;by_cases hm:x<mi
  ·have:=h.nb x h1 hm nd hx;omega
  have:=k.nb x (by omega) h2 nd hx;omega
 constructor
 ·intro hp;obtain⟨u,v,t,e1,e2,e3,e4⟩:=Q2j.exit (ns:=ns) (S:=fun x=>lo<=x/\x<mi) (e:=e) (fun x hx hne o y st=>⟨(hs x hne o y).1 st,h.cl x hx.1 hx.2 o y ((hs x hne o y).1 st)⟩) (fun o y st=>((j1 o y).1 st).1) h.ia (by omega) hp;obtain⟨_,rfl⟩:=(j1 _ _).1 e3;exact⟨u,v,e1,(h.lg u).1 e2,(K.lg v).1 e4⟩
 rintro⟨u,v,rfl,q1,q2⟩;have p1:=(h.lg u).2 q1;have j3:Q2j (Q1e ns (e:Int) (b:Int)) a u e:=Q2j.mono (ns:=ns) (S:=fun _=>True) (fun x _ o y st=>⟨(hs x (fun q=>by subst q;exact ho o y st) o y).2 st,trivial⟩) trivial p1;have:=(j3.trans (Q2j.eps ((j1 none b).2 ⟨rfl,rfl⟩))).trans ((K.lg v).2 q2);simpa using this
theorem z2j{ns:List Q0o}{e:Nat}(b:Int)(hl:e<ns.length)(x:Nat):(Q1e ns (e:Int) b)[x]? = if x=e then(ns[e]?).map (fun nd=>if nd.next=-1 then {nd with next:=b} else {nd with other:=b}) else ns[x]? := by
 unfold Q1e;rw[qAa (by omega),List.getElem?_modify];by_cases q:x=e
 ·subst q;simp
 rw[qAa q];have q2:¬(e:Int).toNat=x:=by omega
 simp only[q2,qAp];cases ns[x]?<;>rfl
theorem Q2j.stuck{ns:List Q0o}{x z:Nat}{w:List Nat}(h:∀o y,¬Q39 ns o x y)(hp:Q2j ns x w z):w=[]/\z=x:=by
 obtain⟨r,h1,h2⟩:=hp;cases r with
 |nil=>exact⟨h2.symm,Eq.symm h1⟩
 |cons o r=>obtain⟨m,k,_⟩:=h1;exact absurd k (h o m)
theorem z4q{ns:List Q0o}{e:Nat}(h:ns[e]? = some plainNode)(o:Option Nat)(y:Nat):¬Q39 ns o e y:=fun⟨nd,q1,q2,q3⟩=>by
 rw[h]at q1;have:plainNode=nd:=by simpa using q1
 subst this;cases o with
 |none=>rcases q3.2 with q|q<;>(simp only[plainNode]at q;omega)
 |some c=>have:=q3.1;simp[plainNode]at this
theorem z14{ns:List Q0o}{x:Nat}{p q:Int}(h:ns[x]? = some ⟨false,zero4,p,q⟩)(o:Option Nat)(y:Nat):Q39 ns o x y↔o=none/\y<ns.length/\((y:Int)=p∨(y:Int)=q):=by
 constructor
 ·rintro⟨nd,q1,q2,q3⟩;rw[h]at q1;have:(⟨false,zero4,p,q⟩:Q0o)=nd:=by simpa using q1
  subst this;cases o with
  |none=>exact⟨rfl,q2,q3.2⟩
  |some c=>have:=q3.1;simp at this
 rintro⟨rfl,q1,q2⟩;exact⟨_,h,q1,rfl,q2⟩
theorem Frg.out{ns ns':List Q0o}{lo hi a e:Nat}{A:Q02}(h:Frg ns lo hi a e A)(hl:ns.length<=ns'.length)(hk:∀x,lo<=x->x<hi->x≠e->ns'[x]? = ns[x]?){p q:Int}(he:ns'[e]? = some ⟨false,zero4,p,q⟩) :
  (∀{w:List Nat}{z:Nat},¬(lo<=z/\z<hi)->Q2j ns' a w z->∃u v t,w=u++v/\A u/\Q39 ns' none e t/\Q2j ns' t v z)/\(∀u,A u->Q2j ns' a u e):=by
 have b1:=h.bd;have s1:∀x,(lo<=x/\x<hi)->x≠e->∀o y,Q39 ns' o x y->Q39 ns o x y/\(lo<=y/\y<hi):=fun x hx j0 o y ⟨nd,q1,q2,q3⟩=>by
  rw[hk x hx.1 hx.2 j0]at q1;have n1:=h.nb x hx.1 hx.2 nd q1;have hy:y<hi:=by
   cases o with
   |none=>rcases q3.2 with q|q<;>omega
   |some c=>have:=q3.2.2;omega
  have st:Q39 ns o x y:=⟨nd,q1,by omega,q3⟩;exact⟨st,h.cl x hx.1 hx.2 o y st⟩
 refine⟨fun hz hp=>?_,fun u hu=>?_⟩
 ·obtain⟨u,v,t,e1,e2,e3,e4⟩:=Q2j.exit (ns:=ns) (S:=fun x=>lo<=x/\x<hi) (e:=e) s1 (fun o y st=>((z14 he o y).1 st).1) h.ia hz hp;exact⟨u,v,t,e1,(h.lg u).1 e2,e3,e4⟩
 refine Q2j.mono (ns:=ns) (S:=fun x=>lo<=x/\x<hi) (fun x hx o y st=>?_) h.ia ((h.lg u).2 hu);have hy:=h.cl x hx.1 hx.2 o y st;have j0:x≠e:=fun q=>by subst q;exact z4q h.en o y st
 obtain⟨nd,q1,q2,q3⟩:=st;exact⟨⟨nd,by rw[hk x hx.1 hx.2 j0];exact q1,by omega,q3⟩,hy⟩
theorem Q2j.head{ns:List Q0o}{x z:Nat}{w:List Nat}{p q:Int}(h:ns[x]? = some ⟨false,zero4,p,q⟩)(hne:x≠z)(hp:Q2j ns x w z):∃y:Nat,((y:Int)=p∨(y:Int)=q)/\Q2j ns y w z:=by
 obtain⟨r,h1,h2⟩:=hp;cases r with
 |nil=>exact absurd h1 hne
 |cons o r =>
  obtain⟨m,k1,k2⟩:=h1;obtain⟨rfl,_,q2⟩:=(z14 h o m).1 k1;exact⟨m,q2,⟨r,k2,by simpa using h2⟩⟩
theorem y3o{ns:List Q0o}{a e b f:Nat}(he:ns[e]? = some plainNode)(hf:ns[f]? = some plainNode)(hef:e≠f) :
  (Q30 ns (a:Int) (e:Int) (b:Int) (f:Int)).length=ns.length+2 /\
  ∀x,(Q30 ns (a:Int) (e:Int) (b:Int) (f:Int))[x]? = if x=f∨x=e then some ⟨false,zero4,(ns.length+1:Int),-1⟩ else if x=ns.length then some ⟨false,zero4,a,b⟩ else if x=ns.length+1 then some plainNode else ns[x]? := by
 have le:=(qS he).1;have lf:=(qS hf).1;have l0:(Q30 ns (a:Int) (e:Int) (b:Int) (f:Int)).length=ns.length+2:=by simp[Q30,z0n]
 refine⟨l0,fun x=>?_⟩;have m0:∀x,(ns++[plainNode]++[plainNode])[x]? = if x=ns.length then some plainNode else if x=ns.length+1 then some plainNode else ns[x]? := fun x=>by
  by_cases h1:x<ns.length
  ·rw[qAa (by omega),qAa (by omega),qAh,qAe h1]
  by_cases h2:x=ns.length
  ·subst h2;simp
  by_cases h3:x=ns.length+1
  ·subst h3;simp
  rw[qAa h2,qAa h3,qN (by simp;omega),qN (by omega)]
 have lm:(ns++[plainNode]++[plainNode]).length=ns.length+2:=by simp
 unfold Q30;generalize ns++[plainNode]++[plainNode]=M at m0 lm;have g1:∀x,(Q1e M (ns.length:Int) (a:Int))[x]? = if x=ns.length then some ⟨false,zero4,a,-1⟩ else if x=ns.length+1 then some plainNode else ns[x]? := fun x=>by
  rw[z2j _ (by omega)];by_cases q:x=ns.length
  ·rw[qAb q,qAb q,m0,qAb rfl];rfl
  rw[qAa q,qAa q,m0,qAa q]
 have l1:(Q1e M (ns.length:Int) (a:Int)).length=ns.length+2:=by rw[z0n];exact lm
 generalize Q1e M (ns.length:Int) (a:Int)=M1 at g1 l1;have g2:∀x,(Q1e M1 (ns.length:Int) (b:Int))[x]? = if x=ns.length then some ⟨false,zero4,a,b⟩ else if x=ns.length+1 then some plainNode else ns[x]? := fun x=>by
  rw[z2j _ (by omega)];by_cases q:x=ns.length
  ·rw[qAb q,qAb q,g1,qAb rfl];have h6:¬((a:Int)=-1):=by omega
   simp[h6]
  rw[qAa q,qAa q,g1,qAa q]
 have l2:(Q1e M1 (ns.length:Int) (b:Int)).length=ns.length+2:=by rw[z0n];exact l1
 generalize Q1e M1 (ns.length:Int) (b:Int)=M2 at g2 l2;have me:M2[e]? = some plainNode:=by rw[g2,qAa (by omega),qAa (by omega)];exact he
 have g3:∀x,(Q1e M2 (e:Int) (ns.length+1:Int))[x]? = if x=e then some ⟨false,zero4,(ns.length+1:Int),-1⟩ else M2[x]? := fun x=>by
  rw[z2j _ (by omega),me];rfl
 have l3:(Q1e M2 (e:Int) (ns.length+1:Int)).length=ns.length+2:=by rw[z0n];exact l2
 generalize Q1e M2 (e:Int) (ns.length+1:Int)=M3 at g3 l3;have mf:M3[f]? = some plainNode:=by rw[g3,qAa (fun q=>hef q.symm),g2,qAa (by omega),qAa (by omega)];exact hf
 rw[z2j _ (by omega),mf];by_cases h1:x=f
 ·rw[qAb h1,qAb (.inl h1)];rfl
 rw[qAa h1,g3];by_cases h2:x=e
 ·rw[qAb h2,qAb (.inr h2)]
 rw[qAa h2,qAa (fun q=>q.elim h1 h2),g2]
theorem Frg.either{ns:List Q0o}{lo mi a e b f:Nat}{A B:Q02}(h:Frg ns lo mi a e A)(k:Frg ns mi ns.length b f B):Frg (Q30 ns (a:Int) (e:Int) (b:Int) (f:Int)) lo (ns.length+2) ns.length (ns.length+1) (Q02.alt A B):=by
 have i1:=h.ia;have i2:=h.ie;have i3:=k.ia;have i4:=k.ie;have b1:=h.bd;obtain⟨ln,hat⟩:=y3o (a:=a) (b:=b) h.en k.en (by omega);generalize Q30 ns (a:Int) (e:Int) (b:Int) (f:Int)=N at ln hat
 have gS:N[ns.length]? = some ⟨false,zero4,a,b⟩:=by rw[hat,qAa (by omega),qAb rfl]
 have gE:N[ns.length+1]? = some plainNode:=by rw[hat,qAa (by omega),qAa (by omega),qAb rfl]
 have ge:N[e]? = some ⟨false,zero4,(ns.length+1:Int),-1⟩:=by rw[hat,qAb (.inr rfl)]
 have gf:N[f]? = some ⟨false,zero4,(ns.length+1:Int),-1⟩:=by rw[hat,qAb (.inl rfl)]
 have ha:=h.out (by omega) (fun x h1 h2 h3=>by rw[hat,qAa (by omega),qAa (by omega),qAa (by omega)]) ge;have hb:=k.out (by omega) (fun x h1 h2 h3=>by rw[hat,qAa (by omega),qAa (by omega),qAa (by omega)]) gf;have fin:∀{x t:Nat}{v:List Nat},N[x]? = some ⟨false,zero4,(ns.length+1:Int),-1⟩->Q39 N none x t->Q2j N t v (ns.length+1)->v=[]:=fun {x t v} g st hp=>by
  obtain⟨_,_,q⟩:=(z14 g _ _).1 st;have ht:t=ns.length+1:=by rcases q with q|q<;>omega
  subst ht;exact(Q2j.stuck (z4q gE) hp).1
 have bk:∀{x:Nat},N[x]? = some ⟨false,zero4,(ns.length+1:Int),-1⟩->Q39 N none x (ns.length+1):=fun g=>(z14 g _ _).2 ⟨rfl,by omega,.inl (by omega)⟩;refine⟨by omega,by omega,by omega,gE,fun x h1 h2 nd hx=>?_,fun w=>?_⟩
 ·rw[hat]at hx;split at hx
  ·have:(⟨false,zero4,(ns.length+1:Int),-1⟩:Q0o)=nd:=by simpa using hx
   subst this;exact⟨.inr ⟨by simp only;omega,by simp only;omega⟩,.inl rfl⟩
  split at hx
  ·have:(⟨false,zero4,a,b⟩:Q0o)=nd:=by simpa using hx
   subst this;exact⟨.inr ⟨by simp only;omega,by simp only;omega⟩,.inr ⟨by simp only;omega,by simp only;omega⟩⟩
  split at hx
  ·have:plainNode=nd:=by simpa using hx
   subst this;exact⟨.inl rfl,.inl rfl⟩
  by_cases hm:x<mi
  ·have:=h.nb x h1 hm nd hx;omega
  have:=k.nb x (by omega) (by omega) nd hx;omega
 constructor
 ·intro hp;obtain⟨y,q,hp2⟩:=Q2j.head gS (by omega) hp;rcases q with q|q
  ·have:y=a:=by omega
   subst this;obtain⟨u,v,t,rfl,q1,q2,q3⟩:=ha.1 (by omega) hp2;have:=fin ge q2 q3;subst this;exact .inl (by simpa using q1)
  have:y=b:=by omega
  subst this;obtain⟨u,v,t,rfl,q1,q2,q3⟩:=hb.1 (by omega) hp2;have:=fin gf q2 q3;subst this;exact .inr (by simpa using q1)
 rintro(q|q)
 ·have:=((Q2j.eps ((z14 gS none a).2 ⟨rfl,by omega,.inl rfl⟩)).trans (ha.2 w q)).trans (Q2j.eps (bk ge));simpa using this
 have:=((Q2j.eps ((z14 gS none b).2 ⟨rfl,by omega,.inr rfl⟩)).trans (hb.2 w q)).trans (Q2j.eps (bk gf));simpa using this
def Q02.rep(m:Int)(A:Q02):Q02:=fun w=>∃ws:List (List Nat),(∀u∈ws,A u)/\w=ws.flatten/\(m=43->ws≠[])/\(m=63->ws.length<=1)
theorem y47{ns:List Q0o}{a e:Nat}(m:Int)(he:ns[e]? = some plainNode) :
  (Q13 ns (a:Int) (e:Int) m).length=ns.length+2 /\
  ∀x,(Q13 ns (a:Int) (e:Int) m)[x]? = if x=e then some ⟨false,zero4,(ns.length+1:Int),if m=63 then -1 else a⟩ else if x=ns.length then some ⟨false,zero4,a,if m=43 then -1 else(ns.length+1:Int)⟩ else if x=ns.length+1 then some plainNode else ns[x]? := by
 have le:=(qS he).1;have l0:(Q13 ns (a:Int) (e:Int) m).length=ns.length+2:=by
  unfold Q13;dsimp only;split<;>split<;>simp[z0n]
 refine⟨l0,fun x=>?_⟩;have m0:∀x,(ns++[plainNode]++[plainNode])[x]? = if x=ns.length then some plainNode else if x=ns.length+1 then some plainNode else ns[x]? := fun x=>by
  by_cases h1:x<ns.length
  ·rw[qAa (by omega),qAa (by omega),qAh,qAe h1]
  by_cases h2:x=ns.length
  ·subst h2;simp
  by_cases h3:x=ns.length+1
  ·subst h3;simp
  rw[qAa h2,qAa h3,qN (by simp;omega),qN (by omega)]
 have lm:(ns++[plainNode]++[plainNode]).length=ns.length+2:=by simp
 unfold Q13;dsimp only;generalize ns++[plainNode]++[plainNode]=M at m0 lm;have g1:∀x,(Q1e M (ns.length:Int) (a:Int))[x]? = if x=ns.length then some ⟨false,zero4,a,-1⟩ else if x=ns.length+1 then some plainNode else ns[x]? := fun x=>by
  rw[z2j _ (by omega)];by_cases q:x=ns.length
  ·rw[qAb q,qAb q,m0,qAb rfl];rfl
  rw[qAa q,qAa q,m0,qAa q]
 have l1:(Q1e M (ns.length:Int) (a:Int)).length=ns.length+2:=by rw[z0n];exact lm
 generalize Q1e M (ns.length:Int) (a:Int)=M1 at g1 l1;have me:M1[e]? = some plainNode:=by rw[g1,qAa (by omega),qAa (by omega)];exact he
 have g2:∀x,(Q1e M1 (e:Int) (ns.length+1:Int))[x]? = if x=e then some ⟨false,zero4,(ns.length+1:Int),-1⟩ else M1[x]? := fun x=>by
  rw[z2j _ (by omega),me];rfl
 have l2:(Q1e M1 (e:Int) (ns.length+1:Int)).length=ns.length+2:=by rw[z0n];exact l1
 generalize Q1e M1 (e:Int) (ns.length+1:Int)=M2 at g2 l2;have g3:∀x,(if m=43 then M2 else Q1e M2 (ns.length:Int) (ns.length+1:Int))[x]? = if x=e then some ⟨false,zero4,(ns.length+1:Int),-1⟩ else if x=ns.length then some ⟨false,zero4,a,if m=43 then -1 else(ns.length+1:Int)⟩ else if x=ns.length+1 then some plainNode else ns[x]? := fun x=>by
  by_cases hm:m=43
  ·rw[qAb hm,g2];by_cases q:x=e
   ·rw[qAb q,qAb q]
   rw[qAa q,qAa q,g1,qAb hm]
  rw[qAa hm,z2j _ (by omega)];by_cases q2:x=ns.length
  ·rw[qAb q2,qAa (by omega),qAb q2,g2,qAa (by omega),g1,qAb rfl,qAa hm];have h6:¬((a:Int)=-1):=by omega
   simp[h6]
  rw[qAa q2,g2];by_cases q:x=e
  ·rw[qAb q,qAb q]
  rw[qAa q,qAa q,qAa q2,g1,qAa q2]
 have l3:(if m=43 then M2 else Q1e M2 (ns.length:Int) (ns.length+1:Int)).length=ns.length+2:=by
  split
  ·exact l2
  rw[z0n];exact l2
 generalize(if m=43 then M2 else Q1e M2 (ns.length:Int) (ns.length+1:Int))=M3 at g3 l3;by_cases h6:m=63
 ·rw[qAb h6,g3];by_cases q:x=e
  ·rw[qAb q,qAb q,qAb h6]
  rw[qAa q,qAa q]
 rw[qAa h6,z2j _ (by omega)];by_cases q:x=e
 ·rw[qAb q,qAb q,g3,qAb rfl,qAa h6];have h7:¬(((ns.length:Int)+1)=-1):=by omega
  simp[h7]
 rw[qAa q,qAa q,g3,qAa q]
theorem Frg.rep{ns:List Q0o}{lo a e:Nat}{A:Q02}(m:Int)(h:Frg ns lo ns.length a e A):Frg (Q13 ns (a:Int) (e:Int) m) lo (ns.length+2) ns.length (ns.length+1) (Q02.rep m A):=by
 have i1:=h.ia;have i2:=h.ie;obtain⟨ln,hat⟩:=y47 (a:=a) m h.en;generalize Q13 ns (a:Int) (e:Int) m=N at ln hat
 have gS:N[ns.length]? = some ⟨false,zero4,a,if m=43 then -1 else(ns.length+1:Int)⟩:=by rw[hat,qAa (by omega),qAb rfl]
 have gE:N[ns.length+1]? = some plainNode:=by rw[hat,qAa (by omega),qAa (by omega),qAb rfl]
 have ge:N[e]? = some ⟨false,zero4,(ns.length+1:Int),if m=63 then -1 else a⟩:=by rw[hat,qAb rfl]
 have j0:∀x,lo<=x->x<ns.length->x≠e->N[x]? = ns[x]? := fun x h1 h2 h3=>by rw[hat,qAa h3,qAa (by omega),qAa (by omega)]
 have ha:=h.out (by omega) j0 ge;have s1:∀x,(lo<=x/\x<ns.length)->x≠e->∀o y,Q39 N o x y->Q39 ns o x y/\(lo<=y/\y<ns.length):=fun x hx hne o y ⟨nd,q1,q2,q3⟩=>by
  rw[j0 x hx.1 hx.2 hne]at q1;have n1:=h.nb x hx.1 hx.2 nd q1;have hy:y<ns.length:=by
   cases o with
   |none=>rcases q3.2 with q|q<;>omega
   |some c=>have:=q3.2.2;omega
  have st:Q39 ns o x y:=⟨nd,q1,by omega,q3⟩;exact⟨st,h.cl x hx.1 hx.2 o y st⟩
 have j2:∀(n:Nat) (r:List (Option Nat)),r.length<=n->Run N r a (ns.length+1)->∃ws:List (List Nat),ws≠[]/\(∀u∈ws,A u)/\r.filterMap id=ws.flatten/\(m=63->ws.length<=1):=by
  intro n;induction n with
  |zero =>
   intro r hr hrun;have:r=[]:=qBs (by omega);subst this;have h2:a=ns.length+1:=hrun;omega
  |succ n ih =>
   intro r hr hrun;obtain⟨r1,t,r2,e1,e2,e3,e4⟩:=Run.exit (ns:=ns) (S:=fun x=>lo<=x/\x<ns.length) (e:=e) s1 (fun o y st=>((z14 ge o y).1 st).1) r a _ h.ia (by omega) hrun;have hA:A (r1.filterMap id):=(h.lg _).1 ⟨r1,e2,rfl⟩;obtain⟨_,_,q⟩:=(z14 ge _ _).1 e3;have hf:r.filterMap id=r1.filterMap id++r2.filterMap id:=by rw[e1,List.filterMap_append];rfl
   rcases q with q|q
   ·have ht:t=ns.length+1:=by omega
    subst ht;have hv:=(Q2j.stuck (z4q gE) ⟨r2,e4,rfl⟩).1;exact⟨[r1.filterMap id],by simp,by simpa using hA,by rw[hf,hv];simp,fun _=>by simp⟩
   by_cases h6:m=63
   ·rw[qAb h6]at q;omega
   rw[qAa h6]at q;have ht:t=a:=by omega
   subst ht;obtain⟨ws,w1,w2,w3,_⟩:=ih r2 (by rw[e1]at hr;simp at hr;omega) e4;refine⟨r1.filterMap id::ws,by simp,?_,by rw[hf,w3];rfl,fun x=>absurd x h6⟩;intro u hu;rcases qBc.1 hu with rfl|hu
   ·exact hA
   exact w2 u hu
 have up:∀(ws:List (List Nat)),ws≠[]->(∀u∈ws,A u)->(m=63->ws.length<=1)->Q2j N a ws.flatten (ns.length+1):=by
  intro ws;induction ws with
  |nil=>intro h0;exact absurd rfl h0
  |cons u ws ih =>
   intro _ hA h6;have p1:=ha.2 u (hA u (by simp));cases ws with
   |nil =>
    have p2:Q2j N e [] (ns.length+1):=Q2j.eps ((z14 ge _ _).2 ⟨rfl,by omega,.inl (by omega)⟩);simpa using p1.trans p2
   |cons v ws =>
    have j3:¬m=63:=fun e=>by have:=h6 e;simp at this
    have p2:Q2j N e [] a:=Q2j.eps ((z14 ge _ _).2 ⟨rfl,by omega,.inr (by rw[qAa j3])⟩);have p3:=ih (by simp) (fun x hx=>hA x (qDc _ hx)) (fun e=>absurd e j3);simpa using(p1.trans p2).trans p3
 refine⟨by omega,by omega,by omega,gE,fun x h1 h2 nd hx=>?_,fun w=>?_⟩
 ·rw[hat]at hx;split at hx
  ·have:(⟨false,zero4,(ns.length+1:Int),if m=63 then -1 else a⟩:Q0o)=nd:=by simpa using hx
   subst this;refine⟨.inr ⟨by simp only;omega,by simp only;omega⟩,?_⟩;dsimp only;split
   ·exact .inl rfl
   exact .inr ⟨by omega,by omega⟩
  split at hx
  ·have:(⟨false,zero4,a,if m=43 then -1 else(ns.length+1:Int)⟩:Q0o)=nd:=by simpa using hx
   subst this;refine⟨.inr ⟨by simp only;omega,by simp only;omega⟩,?_⟩;dsimp only;split
   ·exact .inl rfl
   exact .inr ⟨by omega,by omega⟩
  split at hx
  ·have:plainNode=nd:=by simpa using hx
   subst this;exact⟨.inl rfl,.inl rfl⟩
  have:=h.nb x h1 (by omega) nd hx;omega
 constructor
 ·intro hp;obtain⟨y,q,hp2⟩:=Q2j.head gS (by omega) hp;rcases q with q|q
  ·have:y=a:=by omega
   subst this;obtain⟨r,hr,hw⟩:=hp2;obtain⟨ws,w1,w2,w3,w4⟩:=j2 _ r (qR _) hr;exact⟨ws,w2,by rw[← hw,w3],fun _=>w1,w4⟩
  by_cases j1:m=43
  ·rw[qAb j1]at q;omega
  rw[qAa j1]at q;have:y=ns.length+1:=by omega
  subst this;have hv:=(Q2j.stuck (z4q gE) hp2).1;exact⟨[],by simp,by rw[hv];rfl,fun e=>absurd e j1,fun _=>by simp⟩
 rintro⟨ws,w1,rfl,w3,w4⟩;by_cases h0:ws=[]
 ·subst h0;have j1:¬m=43:=fun e=>w3 e rfl;have:=Q2j.eps ((z14 gS none (ns.length+1)).2 ⟨rfl,by omega,.inr (by rw[qAa j1];omega)⟩);simpa using this
 have:=(Q2j.eps ((z14 gS none a).2 ⟨rfl,by omega,.inl rfl⟩)).trans (up ws h0 w1 w4);simpa using this
structure LR where
 next:Int
 ok:Bool
 lang:Q02
def noL:Q02:=fun _=>False
def Q3i(g:Int->LR)(s:ByteArray)(i:Int):LR :=
 if atB s i=40 then g i
 else if(Q2n s i).2.2=false then⟨(Q2n s i).2.1,false,noL⟩
 else⟨(Q2n s i).2.1,true,Q02.byte fun c=>Q5n (Q2n s i).1 c=true⟩
def Q2a(s:ByteArray):Nat->LR->LR
 |0,r=>r
 |f+1,r=>if(r.ok&&Q1q (atB s r.next))=true then Q2a s f ⟨r.next+1,true,Q02.rep (atB s r.next) r.lang⟩ else r
def Q1r(a:Int->LR)(s:ByteArray)(i:Int):LR:=Q2a s (s.size+5) (a i)
def Q5o(r p:LR):LR:=if p.ok then⟨p.next,true,Q02.cat r.lang p.lang⟩ else⟨p.next,false,noL⟩
def Q1m(p:Int->LR)(s:ByteArray):Nat->LR->LR
 |0,r=>r
 |f+1,r=>if(r.ok&&Q2r s r.next)=true then Q1m p s f (Q5o r (p r.next)) else r
def Q0x(p:Int->LR)(s:ByteArray)(i:Int):LR:=Q1m p s (s.size+5) (p i)
def Q1w(r p:LR):LR:=if p.ok then⟨p.next,true,Q02.alt r.lang p.lang⟩ else⟨p.next,false,noL⟩
def Q03(p:Int->LR)(s:ByteArray):Nat->LR->LR
 |0,r=>r
 |f+1,r=>if(r.ok&&(atB s r.next==124))=true then Q03 p s f (Q1w r (p (r.next+1))) else r
def Q20(p:Int->LR)(s:ByteArray)(i:Int):LR:=Q03 p s (s.size+5) (p i)
def Q56(c:Int->LR)(s:ByteArray)(i:Int):LR :=
 if(c (i+1)).ok=false then⟨(c (i+1)).next,false,noL⟩
 else if atB s (c (i+1)).next≠41 then⟨(c (i+1)).next,false,noL⟩
 else⟨(c (i+1)).next+1,true,(c (i+1)).lang⟩
def lgK(s:ByteArray):Nat->Int->LR
 |0=>fun i=>⟨i,false,noL⟩
 |k+1=>Q56 (Q20 (Q0x (Q1r (Q3i (lgK s k) s) s) s) s) s
def Q6q(s:ByteArray)(k:Nat):Int->LR:=Q20 (Q0x (Q1r (Q3i (lgK s k) s) s) s) s
structure Lk(ns:List Q0o)(r:PR)(l:LR):Prop where
 ok:r.ok=l.ok
 next:r.next=l.next
 frg:l.ok=true->ns.length<=r.ns.length/\(∀x,x<ns.length->r.ns[x]? = ns[x]?)/\∃a e:Nat,r.st=a/\r.en=e/\Frg r.ns ns.length r.ns.length a e l.lang
def LkF(f:Int->List Q0o->PR)(l:Int->LR):Prop:=∀i ns,Lk ns (f i ns) (l i)
theorem z9b{g:Int->List Q0o->PR}{l:Int->LR}{s:ByteArray}(h:LkF g l):LkF (Q5p g s) (Q3i l s):=by
 intro i ns;unfold Q5p Q3i;split
 ·exact h i ns
 split
 ·exact⟨rfl,rfl,fun e=>by cases e⟩
 have hl:(Q8o ns (Q2n s i).1).length=ns.length+2:=by simp[Q8o]
 refine⟨rfl,rfl,fun _=>⟨by dsimp only;omega,fun x hx=>?_,ns.length+1,ns.length,by dsimp only;omega,rfl,?_⟩⟩
 ·dsimp only[Q8o];rw[qAh,qAe hx]
 dsimp only;rw[hl];exact Frg.one ns _
theorem y4f(s:ByteArray)(ns:List Q0o):∀(f:Nat) (r:PR) (l:LR),Lk ns r l->Lk ns (Q3o s f r) (Q2a s f l)
 |0,r,l,h=>h
 |f+1,r,l,h=>by
  unfold Q3o Q2a;rw[h.ok,h.next];split
  ·rename_i hc;rw[qAc]at hc;refine y4f s ns f _ _ ⟨rfl,rfl,fun _=>?_⟩;obtain⟨q1,q2,a,e,q3,q4,q5⟩:=h.frg hc.1;have i2:=q5.ie;obtain⟨ln,hat⟩:=y47 (a:=a) (atB s l.next) q5.en;dsimp only;rw[q3,q4];refine⟨by omega,fun x hx=>?_,r.ns.length,r.ns.length+1,rfl,by omega,?_⟩
   ·rw[hat,qAa (by omega),qAa (by omega),qAa (by omega)];exact q2 x hx
   rw[ln];exact q5.rep _
  exact h
theorem z76{f:Int->List Q0o->PR}{l:Int->LR}{s:ByteArray}(h:LkF f l):LkF (Q7n f s) (Q1r l s):=fun i ns=>y4f s ns _ _ _ (h i ns)
theorem x9x{ns:List Q0o}{r p:PR}{l q:LR}(h:Lk ns r l)(hok:l.ok=true)(hp:Lk r.ns p q):Lk ns (Q69 r p) (Q5o l q):=by
 unfold Q69 Q5o;rw[hp.ok];cases hq:q.ok
 ·exact⟨rfl,hp.next,fun e=>by cases e⟩
 obtain⟨q1,q2,a,e,q3,q4,q5⟩:=h.frg hok;obtain⟨p1,p2,b,f,p3,p4,p5⟩:=hp.frg hq;have i2:=q5.ie;simp only[qBb];refine⟨rfl,hp.next,fun _=>?_⟩;dsimp only;rw[q3,q4,p3,p4];have hk:=q5.keep p1 (fun x _ h2=>p2 x h2);rw[z0n];refine⟨by omega,fun x hx=>?_,a,f,rfl,rfl,hk.join p5⟩;rw[z2j _ (by omega),qAa (by omega),p2 x (by omega)];exact q2 x hx
theorem y01{p:Int->List Q0o->PR}{q:Int->LR}{s:ByteArray}(hp:LkF p q)(ns:List Q0o):∀(f:Nat) (r:PR) (l:LR),Lk ns r l->Lk ns (Q2k p s f r) (Q1m q s f l)
 |0,r,l,h=>h
 |f+1,r,l,h=>by
  unfold Q2k Q1m;rw[h.ok,h.next];split
  ·rename_i hc;rw[qAc]at hc;exact y01 hp ns f _ _ (x9x h hc.1 (hp _ _))
  exact h
theorem z9c{f:Int->List Q0o->PR}{l:Int->LR}{s:ByteArray}(h:LkF f l):LkF (Q6c f s) (Q0x l s):=fun i ns=>y01 h ns _ _ _ (h i ns)
theorem x3b{ns:List Q0o}{r p:PR}{l q:LR}(h:Lk ns r l)(hok:l.ok=true)(hp:Lk r.ns p q):Lk ns (Q31 r p) (Q1w l q):=by
 unfold Q31 Q1w;rw[hp.ok];cases hq:q.ok
 ·exact⟨rfl,hp.next,fun e=>by cases e⟩
 obtain⟨q1,q2,a,e,q3,q4,q5⟩:=h.frg hok;obtain⟨p1,p2,b,f,p3,p4,p5⟩:=hp.frg hq;have i2:=q5.ie;have i4:=p5.ie;simp only[qBb];refine⟨rfl,hp.next,fun _=>?_⟩;dsimp only;rw[q3,q4,p3,p4];have hk:=q5.keep p1 (fun x _ h2=>p2 x h2);obtain⟨ln,hat⟩:=y3o (a:=a) (b:=b) hk.en p5.en (by omega);refine⟨by omega,fun x hx=>?_,p.ns.length,p.ns.length+1,rfl,by omega,?_⟩
 ·rw[hat,qAa (by omega),qAa (by omega),qAa (by omega),p2 x (by omega)];exact q2 x hx
 rw[ln];exact hk.either p5
theorem y02{p:Int->List Q0o->PR}{q:Int->LR}{s:ByteArray}(hp:LkF p q)(ns:List Q0o):∀(f:Nat) (r:PR) (l:LR),Lk ns r l->Lk ns (Q2l p s f r) (Q03 q s f l)
 |0,r,l,h=>h
 |f+1,r,l,h=>by
  unfold Q2l Q03;rw[h.ok,h.next];split
  ·rename_i hc;rw[qAc]at hc;exact y02 hp ns f _ _ (x3b h hc.1 (hp _ _))
  exact h
theorem y4e{f:Int->List Q0o->PR}{l:Int->LR}{s:ByteArray}(h:LkF f l):LkF (Q6d f s) (Q20 l s):=fun i ns=>y02 h ns _ _ _ (h i ns)
theorem x6h{f:Int->List Q0o->PR}{l:Int->LR}{s:ByteArray}(h:LkF f l):LkF (Q5s f s) (Q56 l s):=by
 intro i ns;have hh:=h (i+1) ns;unfold Q5s Q56;rw[hh.ok,hh.next];split
 ·exact⟨rfl,rfl,fun e=>by cases e⟩
 rename_i h1;split
 ·exact⟨rfl,rfl,fun e=>by cases e⟩
 exact⟨rfl,rfl,fun _=>hh.frg (by simpa using h1)⟩
theorem x3c(s:ByteArray):∀k,LkF (gK s k) (lgK s k)
 |0=>fun i ns=>⟨rfl,rfl,fun e=>by cases e⟩
 |k+1=>x6h (y4e (z9c (z76 (z9b (x3c s k)))))
theorem y8d(s:ByteArray)(k:Nat):LkF (chK s k) (Q6q s k):=y4e (z9c (z76 (z9b (x3c s k))))
def bytesOf(t:ByteArray):List Nat:=Q10 t 0 t.size
theorem y91{s:ByteArray}{i:Int}(hok:(Q1o s i).ok=true)(d:Wd)(sk:Bool)(t:ByteArray):Q5t ⟨d,sk,(Q1o s i).ns,(Q1o s i).st,(Q1o s i).en,[]⟩ t=true↔(Q6q s 6 i).lang (bytesOf t):=by
 have h:=y8d s 6 i [];obtain⟨_,_,a,e,h3,h4,h5⟩:=h.frg (by rw[← h.ok];exact hok);have h3:(Q1o s i).st=a:=h3;have h4:(Q1o s i).en=e:=h4;have h5:Frg (Q1o s i).ns 0 (Q1o s i).ns.length a e (Q6q s 6 i).lang:=h5;have m:=x3i ⟨d,sk,(Q1o s i).ns,(Q1o s i).st,(Q1o s i).en,[]⟩ t 0 t.size (by omega);rw[qBi,show t.extract 0 t.size=t from by simp]at m;rw[m];dsimp only;rw[h3,h4,x1b h5.ia.2 h5.ie.2 t 0 t.size (by omega)];exact h5.lg _
def Q3a(s:ByteArray)(i:Int)(s':ByteArray)(i':Int)(n:Nat):Prop:=∀j:Nat,j<n->atB s (i+j)=atB s' (i'+j)
theorem Q3a.at0{s s':ByteArray}{i i':Int}{n:Nat}(h:Q3a s i s' i' n)(hn:0<n):atB s' i'=atB s i:=by
 have:=h 0 hn;simpa using this.symm
theorem Q3a.on{s s':ByteArray}{i i':Int}{n:Nat}(h:Q3a s i s' i' n)(k:Nat):Q3a s (i+k) s' (i'+k) (n-k):=fun j hj=>by
 have:=h (k+j) (by omega);rw[show i+(k:Int)+(j:Int)=i+((k+j:Nat):Int) by omega,show i'+(k:Int)+(j:Int)=i'+((k+j:Nat):Int) by omega];exact this
theorem Q3a.less{s s':ByteArray}{i i':Int}{n m:Nat}(h:Q3a s i s' i' n)(hm:m<=n):Q3a s i s' i' m:=fun j hj=>h j (by omega)
theorem Q3a.atK{s s':ByteArray}{i i':Int}{n:Nat}(h:Q3a s i s' i' n){x:Int}(h0:i<=x)(h1:x<i+n):atB s' (x-i+i')=atB s x:=by
 have:=h (x-i).toNat (by omega);rw[show i+((x-i).toNat:Int)=x by omega,show i'+((x-i).toNat:Int)=x-i+i' by omega]at this;exact this.symm
theorem Q3a.tail{s s':ByteArray}{i i':Int}{n:Nat}(h:Q3a s i s' i' n):Q3a s (i+1) s' (i'+1) (n-1):=h.on 1
theorem z3e(s:ByteArray)(i:Int)(f:Nat)(next:Int)(ws:List Int):Q05 s i (f+1) next ws=if next=i∨atB s next≠93 then
   if(Q0m s next).2.2.2=false then(zero4,(Q0m s next).2.2.1,false)
   else Q05 s i f (Q0m s next).2.2.1 (Q19 ws (Q0m s next).1 (Q0m s next).2.1)
  else(ws,next+1,true):=rfl
section
variable {s s':ByteArray}{i i':Int}{n:Nat}
theorem y4q(h:Q3a s i s' i' n)(h0:0<=i)(hok:(Q2g s i).2.2=true)(hn:(Q2g s i).2.1<=i+n):Q2g s' i'=((Q2g s i).1,(Q2g s i).2.1-i+i',true):=by
 have hb:=(z79 s i h0).2.2.2.2 hok;have e:=h.at0 (by omega);unfold Q2g at hok hb ⊢;rw[e];split
 ·simp;omega
 split
 ·simp;omega
 rename_i h1 h2;rw[qAa h1,qAa h2]at hok;split
 ·rename_i h3;rw[qAb h3]at hok;cases hok
 simp;omega
theorem y2h(h:Q3a s i s' i' n)(h0:0<=i)(hok:(Q1p s i).2.2=true)(hn:(Q1p s i).2.1<=i+n):Q1p s' i'=((Q1p s i).1,(Q1p s i).2.1-i+i',true):=by
 have hb:=(z4r s i h0).2.2.2.2 hok;have e:=h.at0 (by omega);unfold Q1p at hok hb hn ⊢;rw[e];split
 ·rename_i h1;rw[qAb h1]at hok hn hb;have:=y4q h.tail (by omega) hok (by omega);rw[this];simp;omega
 rename_i h1;rw[qAa h1]at hok;split
 ·rename_i h2;rw[qAb h2]at hok;cases hok
 rename_i h2;rw[qAa h2]at hok;split
 ·rename_i h3;rw[qAb h3]at hok;cases hok
 simp;omega
theorem x0d(h:Q3a s i s' i' n)(h0:0<=i)(hok:(Q0m s i).2.2.2=true)(hn:(Q0m s i).2.2.1<i+n):Q0m s' i'=((Q0m s i).1,(Q0m s i).2.1,(Q0m s i).2.2.1-i+i',true):=by
 have b1:=z4r s i h0;have b2:=z4r s ((Q1p s i).2.1+1) (by omega);unfold Q0m at hok hn ⊢;by_cases c1:(Q1p s i).2.2=false
 ·rw[qAb c1]at hok;cases hok
 have j0:(Q1p s i).2.2=true:=by simpa using c1
 have b3:=b1.2.2.2.2 j0;rw[qAa c1]at hok hn ⊢;by_cases c2:atB s (Q1p s i).2.1≠45
 ·rw[qAb c2]at hok hn ⊢;have r1:=y2h h h0 j0 (by dsimp only at hn;omega);have a1:=h.atK (x:=(Q1p s i).2.1) (by omega) hn;rw[r1];dsimp only;rw[qAa (by simp),a1,qAb c2]
 rw[qAa c2]at hok hn ⊢;by_cases c3:(Q1p s ((Q1p s i).2.1+1)).2.2=false
 ·rw[qAb c3]at hok;cases hok
 have j1:(Q1p s ((Q1p s i).2.1+1)).2.2=true:=by simpa using c3
 have b4:=b2.2.2.2.2 j1;rw[qAa c3]at hok hn ⊢;by_cases c4:(Q1p s ((Q1p s i).2.1+1)).1<(Q1p s i).1
 ·rw[qAb c4]at hok;cases hok
 rw[qAa c4]at hok hn ⊢;dsimp only at hn ⊢;have r1:=y2h h h0 j0 (by omega);have a1:=h.atK (x:=(Q1p s i).2.1) (by omega) (by omega);have hh:=h.on ((Q1p s i).2.1+1-i).toNat
 rw[show i+(((Q1p s i).2.1+1-i).toNat:Int)=(Q1p s i).2.1+1 by omega,show i'+(((Q1p s i).2.1+1-i).toNat:Int)=(Q1p s i).2.1-i+i'+1 by omega]at hh;have r2:=y2h hh (by omega) j1 (by omega);rw[r1];dsimp only;rw[qAa (by simp),a1,qAa c2,r2];dsimp only;rw[qAa (by simp),qAa c4];simp;omega
theorem y1a(h:Q3a s i s' i' n)(h0:0<=i):∀(f:Nat) (next:Int) (ws:List Int),i<=next->(Q05 s i f next ws).2.2=true->(Q05 s i f next ws).2.1<=i+n ->
  ∀f':Nat,(s'.size:Int)+2<=f'+(next-i+i')->Q05 s' i' f' (next-i+i') ws=((Q05 s i f next ws).1,(Q05 s i f next ws).2.1-i+i',true)/\next<(Q05 s i f next ws).2.1
 |0,next,ws,_,hok,_,_,_=>by cases hok
 |f+1,next,ws,hi,hok,hn,f',hf=>by
  rw[z3e s i f next ws]at hok hn ⊢;by_cases c:next=i∨atB s next≠93
  ·rw[qAb c]at hok hn ⊢;by_cases c1:(Q0m s next).2.2.2=false
   ·rw[qAb c1]at hok;cases hok
   have c1':(Q0m s next).2.2.2=true:=by simpa using c1
   have b:=(z1j s next (by omega)).2.2.2.2.2.2 c1';rw[qAa c1]at hok hn ⊢;have j0:=fun f' hf=>y1a h h0 f (Q0m s next).2.2.1 (Q19 ws (Q0m s next).1 (Q0m s next).2.1) (by omega) hok hn f' hf;have r1:=(j0 (s'.size+2+((Q0m s next).2.2.1-i+i').natAbs) (by omega)).2;have hh:=h.on (next-i).toNat
   rw[show i+((next-i).toNat:Int)=next by omega,show i'+((next-i).toNat:Int)=next-i+i' by omega]at hh;have r2:=x0d hh (by omega) c1' (by omega);have b':=(z1j s' (next-i+i') (by
    by_cases q:0<=next-i+i'
    ·exact q
    exfalso;have a0:=h.atK (x:=next) hi (by omega);have hz:atB s' (next-i+i')=-1:=by unfold atB;rw[qEp (by omega)]
    rw[hz]at a0;have j1:(Q1p s next).2.2=false:=by
     unfold Q1p;rw[← a0];simp[Q4e]
    unfold Q0m at c1';rw[qAb j1]at c1';cases c1')).2.2.2.2.2.2 (by rw[r2])
   rw[r2]at b';dsimp only at b';cases f' with
   |zero=>omega
   |succ f' =>
    rw[z3e s' i' f'];have a1:next-i+i'=i'∨atB s' (next-i+i')≠93:=by
     rcases c with c|c
     ·exact .inl (by omega)
     exact .inr (by rw[h.atK hi (by omega)];exact c)
    rw[qAb a1,r2];dsimp only;rw[qAa (by simp)];have e:(Q0m s next).2.2.1-next+(next-i+i')=(Q0m s next).2.2.1-i+i':=by omega
    rw[e];exact⟨(j0 f' (by omega)).1,by omega⟩
  rw[qAa c]at hok hn ⊢;dsimp only at hn ⊢;have c':¬next=i/\atB s next=93:=by
   by_cases q:next=i
   ·exact absurd (.inl q) c
   exact⟨q,by
    by_cases q2:atB s next=93
    ·exact q2
    exact absurd (.inr q2) c⟩
  have a1:=h.atK hi (x:=next) (by omega);have a2:=z0q (s:=s') (i:=next-i+i') (by rw[a1,c'.2];decide);cases f' with
  |zero=>omega
  |succ f' =>
   rw[z3e s' i' f'];rw[qAa (by rw[a1];intro q;rcases q with q|q;omega;exact q c'.2)];exact⟨by simp;omega,by omega⟩
theorem y4p(h:Q3a s i s' i' n)(h0:0<=i)(h0':0<=i')(hok:(Q29 s i).2.2=true)(hn:(Q29 s i).2.1<=i+n):Q29 s' i'=((Q29 s i).1,(Q29 s i).2.1-i+i',true):=by
 have:=(y1a h h0 (s.size+5) i zero4 (by omega) hok hn (s'.size+5) (by omega)).1;rw[show i-i+i'=i' by omega]at this;exact this
theorem v0j(h:Q3a s i s' i' n)(h0:0<=i)(h0':0<=i')(hs:i<=s.size)(hok:(rBr s i).2.2=true)(hn:(rBr s i).2.1<=i+n):rBr s' i'=((rBr s i).1,(rBr s i).2.1-i+i',true):=by
 have hb:=(x4a s i h0 hs).2.2 hok;have e:=h.at0 (by omega);unfold rBr at hok hn ⊢;rw[e];split
 ·rename_i h1;rw[qAb h1]at hok hn;have:=y4p h.tail (by omega) (by omega) hok (by dsimp only at hn;omega);rw[this];simp;omega
 rename_i h1;rw[qAa h1]at hok hn;exact y4p h h0 h0' hok hn
theorem x7b(h:Q3a s i s' i' n)(h0:0<=i)(h0':0<=i')(hok:(Q2n s i).2.2=true)(hn:(Q2n s i).2.1<=i+n):Q2n s' i'=((Q2n s i).1,(Q2n s i).2.1-i+i',true):=by
 have hb:=(y2j s i h0).2.2 hok;have e:=h.at0 (by omega);unfold Q2n at hok hn hb ⊢;rw[e];by_cases c1:atB s i=46
 ·rw[qAb c1,qAb c1];simp;omega
 rw[qAa c1]at hok hn hb ⊢;rw[qAa c1];by_cases c2:atB s i=91
 ·rw[qAb c2]at hok hn hb ⊢;rw[qAb c2];have:=v0j h.tail (by omega) (by omega) (by omega) hok (by omega);rw[this];simp;omega
 rw[qAa c2]at hok hn hb ⊢;rw[qAa c2];by_cases c3:atB s i=92
 ·rw[qAb c3]at hok hn hb ⊢;rw[qAb c3];have:=y4q h.tail (by omega) hok (by dsimp only at hn;omega);rw[this];simp;omega
 rw[qAa c3]at hok hn hb ⊢;rw[qAa c3];by_cases c4:Q01 (atB s i)=false
 ·rw[qAb c4]at hok;cases hok
 rw[qAa c4,qAa c4];simp;omega
end
end Go.Proofs.YtcpceafmlgaodaaGreat
