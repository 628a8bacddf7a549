import Derived.Test.YtbdpfmalabgmbaaGreatRa2
namespace Go.Proofs.YtbdpfmalabgmbaaGreat
open Go.RowKit
set_option linter.all false
theorem Frg.one(ns:List Q0q)(ws:List Int):Frg (Q84 ns ws) ns.length (ns.length+2) (ns.length+1) ns.length (Q03.byte fun c=>Q5y ws c=true):=by
 have l0:(Q84 ns ws).length=ns.length+2:=by simp[Q84]
 have g0:(Q84 ns ws)[ns.length]? = some plainNode:=by simp[Q84]
 have g1:(Q84 ns ws)[ns.length+1]? = some (Q4o ws ns.length):=by simp[Q84]
 have e0:∀o y,¬Q4g (Q84 ns ws) o ns.length y:=fun o y ⟨nd,q1,q2,q3⟩=>by
  rw[g0]at q1;have:plainNode=nd:=by simpa using q1
  subst this;cases o with
  |none=>rcases q3.2 with q|q<;>(simp only[plainNode]at q;omega)
  |some c=>have:=q3.1;simp[plainNode]at this
 have e1:∀o y,Q4g (Q84 ns ws) o (ns.length+1) y↔∃c,o=some c/\Q5y ws c=true/\y=ns.length:=fun o y=>by
  constructor
  ·rintro⟨nd,q1,q2,q3⟩;rw[g1]at q1;have:Q4o ws ns.length=nd:=by simpa using q1
   subst this;cases o with
   |none=>have:=q3.1;simp[Q4o]at this
   |some c=>exact⟨c,rfl,q3.2.1,by have:=q3.2.2;simp only[Q4o]at this;omega⟩
  rintro⟨c,rfl,q1,rfl⟩;exact⟨_,g1,by omega,rfl,q1,rfl⟩
 refine⟨by omega,by omega,by omega,g0,fun x h1 h2 nd hx=>?_,fun w=>?_⟩
 ·rcases(show x=ns.length∨x=ns.length+1 by omega)with rfl|rfl
  ·rw[g0]at hx;have:plainNode=nd:=by simpa using hx
   subst this;exact⟨.inl rfl,.inl rfl⟩
  rw[g1]at hx;have:Q4o ws ns.length=nd:=by simpa using hx
  subst this;exact⟨.inr ⟨by simp[Q4o],by simp only[Q4o];omega⟩,.inl rfl⟩
 constructor
 ·rintro⟨r,h1,h2⟩;cases r with
  |nil=>have:ns.length+1=ns.length:=h1;omega
  |cons o r =>
   obtain⟨m,k1,k2⟩:=h1;obtain⟨c,rfl,q1,rfl⟩:=(e1 o m).1 k1;cases r with
   |nil=>exact⟨c,q1,h2.symm⟩
   |cons o2 r =>
    obtain⟨m2,k3,_⟩:=k2;exact absurd k3 (e0 o2 m2)
 rintro⟨c,q1,rfl⟩;exact Q2n.byte ((e1 _ _).2 ⟨c,rfl,q1,rfl⟩)
theorem x6x{ns:List Q0q}{e b:Nat}(he:ns[e]? = some plainNode)(x:Nat):(Q1h ns (e:Int) (b:Int))[x]? = if x=e then some {plainNode with next:=(b:Int)} else ns[x]? := by
 have hl:=(qS he).1;unfold Q1h;rw[qAa (by omega),List.getElem?_modify];by_cases q:x=e
 ·subst q;simp[he,plainNode]
 rw[qAa q];have q2:¬(e:Int).toNat=x:=by omega
 simp only[q2,qAz];cases ns[x]?<;>rfl
theorem Frg.join{ns:List Q0q}{lo mi hi a e b f:Nat}{A B:Q03}(h:Frg ns lo mi a e A)(k:Frg ns mi hi b f B):Frg (Q1h ns (e:Int) (b:Int)) lo hi a f (Q03.cat A B):=by
 have j2:=z0n ns (e:Int) (b:Int);have j0:=x6x (b:=b) h.en;have b1:=h.bd;have b2:=k.bd;have i1:=h.ia;have i2:=h.ie;have i3:=k.ia;have i4:=k.ie;have ee:(Q1h ns (e:Int) (b:Int))[e]? = some {plainNode with next:=(b:Int)}:=by rw[j0,qAb rfl]
 have K:Frg (Q1h ns (e:Int) (b:Int)) mi hi b f B:=k.keep (by omega) (fun x h1 h2=>by rw[j0,qAa (by omega)]);have hs:∀x,x≠e->∀o y,Q4g (Q1h ns (e:Int) (b:Int)) o x y↔Q4g ns o x y:=fun x hx o y=>by
  unfold Q4g;rw[j0,qAa hx,j2]
 have j1:∀o y,Q4g (Q1h ns (e:Int) (b:Int)) o e y↔o=none/\y=b:=fun o y=>by
  constructor
  ·rintro⟨nd,q1,q2,q3⟩;rw[ee]at q1;have:{plainNode with next:=(b:Int)}=nd:=by simpa using q1
   subst this;cases o with
   |none =>
    rcases q3.2 with q|q
    ·exact⟨rfl,by simp only at q;omega⟩
    simp only[plainNode]at q;omega
   |some c=>have:=q3.1;simp[plainNode]at this
  rintro⟨rfl,rfl⟩;exact⟨_,ee,by omega,rfl,.inl rfl⟩
 have ho:∀o y,¬Q4g ns o e y:=fun o y ⟨nd,q1,q2,q3⟩=>by
  rw[h.en]at q1;have:plainNode=nd:=by simpa using q1
  subst this;cases o with
  |none=>rcases q3.2 with q|q<;>(simp only[plainNode]at q;omega)
  |some c=>have:=q3.1;simp[plainNode]at this
 refine⟨by omega,by omega,by omega,K.en,fun x h1 h2 nd hx=>?_,fun w=>?_⟩
 ·by_cases q:x=e
  ·subst q;rw[ee]at hx;have:{plainNode with next:=(b:Int)}=nd:=by simpa using hx
   subst this;exact⟨.inr ⟨by simp only;omega,by simp only;omega⟩,.inl rfl⟩
  rw[j0,qAa q]at hx;by_cases hm:x<mi
  ·have:=h.nb x h1 hm nd hx;omega
  have:=k.nb x (by omega) h2 nd hx;omega
 constructor
 ·intro hp;obtain⟨u,v,t,e1,e2,e3,e4⟩:=Q2n.exit (ns:=ns) (S:=fun x=>lo<=x/\x<mi) (e:=e) (fun x hx hne o y st=>⟨(hs x hne o y).1 st,h.cl x hx.1 hx.2 o y ((hs x hne o y).1 st)⟩) (fun o y st=>((j1 o y).1 st).1) h.ia (by omega) hp;obtain⟨_,rfl⟩:=(j1 _ _).1 e3;exact⟨u,v,e1,(h.lg u).1 e2,(K.lg v).1 e4⟩
 rintro⟨u,v,rfl,q1,q2⟩;have p1:=(h.lg u).2 q1;have j3:Q2n (Q1h ns (e:Int) (b:Int)) a u e:=Q2n.mono (ns:=ns) (S:=fun _=>True) (fun x _ o y st=>⟨(hs x (fun q=>by subst q;exact ho o y st) o y).2 st,trivial⟩) trivial p1;have:=(j3.trans (Q2n.eps ((j1 none b).2 ⟨rfl,rfl⟩))).trans ((K.lg v).2 q2);simpa using this
theorem z2q{ns:List Q0q}{e:Nat}(b:Int)(hl:e<ns.length)(x:Nat):(Q1h ns (e:Int) b)[x]? = if x=e then(ns[e]?).map (fun nd=>if nd.next=-1 then {nd with next:=b} else {nd with other:=b}) else ns[x]? := by
 unfold Q1h;rw[qAa (by omega),List.getElem?_modify];by_cases q:x=e
 ·subst q;simp
 rw[qAa q];have q2:¬(e:Int).toNat=x:=by omega
 simp only[q2,qAz];cases ns[x]?<;>rfl
theorem Q2n.stuck{ns:List Q0q}{x z:Nat}{w:List Nat}(h:∀o y,¬Q4g ns o x y)(hp:Q2n ns x w z):w=[]/\z=x:=by
 obtain⟨r,h1,h2⟩:=hp;cases r with
 |nil=>exact⟨h2.symm,Eq.symm h1⟩
 |cons o r=>obtain⟨m,k,_⟩:=h1;exact absurd k (h o m)
theorem z4r{ns:List Q0q}{e:Nat}(h:ns[e]? = some plainNode)(o:Option Nat)(y:Nat):¬Q4g ns o e y:=fun⟨nd,q1,q2,q3⟩=>by
 rw[h]at q1;have:plainNode=nd:=by simpa using q1
 subst this;cases o with
 |none=>rcases q3.2 with q|q<;>(simp only[plainNode]at q;omega)
 |some c=>have:=q3.1;simp[plainNode]at this
theorem z18{ns:List Q0q}{x:Nat}{p q:Int}(h:ns[x]? = some ⟨false,zero4,p,q⟩)(o:Option Nat)(y:Nat):Q4g ns o x y↔o=none/\y<ns.length/\((y:Int)=p∨(y:Int)=q):=by
 constructor
 ·rintro⟨nd,q1,q2,q3⟩;rw[h]at q1;have:(⟨false,zero4,p,q⟩:Q0q)=nd:=by simpa using q1
  subst this;cases o with
  |none=>exact⟨rfl,q2,q3.2⟩
  |some c=>have:=q3.1;simp at this
 rintro⟨rfl,q1,q2⟩;exact⟨_,h,q1,rfl,q2⟩
theorem Frg.out{ns ns':List Q0q}{lo hi a e:Nat}{A:Q03}(h:Frg ns lo hi a e A)(hl:ns.length<=ns'.length)(hk:∀x,lo<=x->x<hi->x≠e->ns'[x]? = ns[x]?){p q:Int}(he:ns'[e]? = some ⟨false,zero4,p,q⟩) :
  (∀{w:List Nat}{z:Nat},¬(lo<=z/\z<hi)->Q2n ns' a w z->∃u v t,w=u++v/\A u/\Q4g ns' none e t/\Q2n ns' t v z)/\(∀u,A u->Q2n ns' a u e):=by
 have b1:=h.bd;have s1:∀x,(lo<=x/\x<hi)->x≠e->∀o y,Q4g ns' o x y->Q4g ns o x y/\(lo<=y/\y<hi):=fun x hx j0 o y ⟨nd,q1,q2,q3⟩=>by
  rw[hk x hx.1 hx.2 j0]at q1;have n1:=h.nb x hx.1 hx.2 nd q1;have hy:y<hi:=by
   cases o with
   |none=>rcases q3.2 with q|q<;>omega
   |some c=>have:=q3.2.2;omega
  have st:Q4g ns o x y:=⟨nd,q1,by omega,q3⟩;exact⟨st,h.cl x hx.1 hx.2 o y st⟩
 refine⟨fun hz hp=>?_,fun u hu=>?_⟩
 ·obtain⟨u,v,t,e1,e2,e3,e4⟩:=Q2n.exit (ns:=ns) (S:=fun x=>lo<=x/\x<hi) (e:=e) s1 (fun o y st=>((z18 he o y).1 st).1) h.ia hz hp;exact⟨u,v,t,e1,(h.lg u).1 e2,e3,e4⟩
 refine Q2n.mono (ns:=ns) (S:=fun x=>lo<=x/\x<hi) (fun x hx o y st=>?_) h.ia ((h.lg u).2 hu);have hy:=h.cl x hx.1 hx.2 o y st;have j0:x≠e:=fun q=>by subst q;exact z4r h.en o y st
 obtain⟨nd,q1,q2,q3⟩:=st;exact⟨⟨nd,by rw[hk x hx.1 hx.2 j0];exact q1,by omega,q3⟩,hy⟩
theorem Q2n.head{ns:List Q0q}{x z:Nat}{w:List Nat}{p q:Int}(h:ns[x]? = some ⟨false,zero4,p,q⟩)(hne:x≠z)(hp:Q2n ns x w z):∃y:Nat,((y:Int)=p∨(y:Int)=q)/\Q2n ns y w z:=by
 obtain⟨r,h1,h2⟩:=hp;cases r with
 |nil=>exact absurd h1 hne
 |cons o r =>
  obtain⟨m,k1,k2⟩:=h1;obtain⟨rfl,_,q2⟩:=(z18 h o m).1 k1;exact⟨m,q2,⟨r,k2,by simpa using h2⟩⟩
theorem y35{ns:List Q0q}{a e b f:Nat}(he:ns[e]? = some plainNode)(hf:ns[f]? = some plainNode)(hef:e≠f) :
  (Q37 ns (a:Int) (e:Int) (b:Int) (f:Int)).length=ns.length+2 /\
  ∀x,(Q37 ns (a:Int) (e:Int) (b:Int) (f:Int))[x]? = if x=f∨x=e then some ⟨false,zero4,(ns.length+1:Int),-1⟩ else if x=ns.length then some ⟨false,zero4,a,b⟩ else if x=ns.length+1 then some plainNode else ns[x]? := by
 have le:=(qS he).1;have lf:=(qS hf).1;have l0:(Q37 ns (a:Int) (e:Int) (b:Int) (f:Int)).length=ns.length+2:=by simp[Q37,z0n]
 refine⟨l0,fun x=>?_⟩;have m0:∀x,(ns++[plainNode]++[plainNode])[x]? = if x=ns.length then some plainNode else if x=ns.length+1 then some plainNode else ns[x]? := fun x=>by
  by_cases h1:x<ns.length
  ·rw[qAa (by omega),qAa (by omega),qAs,qAl h1]
  by_cases h2:x=ns.length
  ·subst h2;simp
  by_cases h3:x=ns.length+1
  ·subst h3;simp
  rw[qAa h2,qAa h3,qN (by simp;omega),qN (by omega)]
 have lm:(ns++[plainNode]++[plainNode]).length=ns.length+2:=by simp
 unfold Q37;generalize ns++[plainNode]++[plainNode]=M at m0 lm;have g1:∀x,(Q1h M (ns.length:Int) (a:Int))[x]? = if x=ns.length then some ⟨false,zero4,a,-1⟩ else if x=ns.length+1 then some plainNode else ns[x]? := fun x=>by
  rw[z2q _ (by omega)];by_cases q:x=ns.length
  ·rw[qAb q,qAb q,m0,qAb rfl];rfl
  rw[qAa q,qAa q,m0,qAa q]
 have l1:(Q1h M (ns.length:Int) (a:Int)).length=ns.length+2:=by rw[z0n];exact lm
 generalize Q1h M (ns.length:Int) (a:Int)=M1 at g1 l1;have g2:∀x,(Q1h M1 (ns.length:Int) (b:Int))[x]? = if x=ns.length then some ⟨false,zero4,a,b⟩ else if x=ns.length+1 then some plainNode else ns[x]? := fun x=>by
  rw[z2q _ (by omega)];by_cases q:x=ns.length
  ·rw[qAb q,qAb q,g1,qAb rfl];have h6:¬((a:Int)=-1):=by omega
   simp[h6]
  rw[qAa q,qAa q,g1,qAa q]
 have l2:(Q1h M1 (ns.length:Int) (b:Int)).length=ns.length+2:=by rw[z0n];exact l1
 generalize Q1h M1 (ns.length:Int) (b:Int)=M2 at g2 l2;have me:M2[e]? = some plainNode:=by rw[g2,qAa (by omega),qAa (by omega)];exact he
 have g3:∀x,(Q1h M2 (e:Int) (ns.length+1:Int))[x]? = if x=e then some ⟨false,zero4,(ns.length+1:Int),-1⟩ else M2[x]? := fun x=>by
  rw[z2q _ (by omega),me];rfl
 have l3:(Q1h M2 (e:Int) (ns.length+1:Int)).length=ns.length+2:=by rw[z0n];exact l2
 generalize Q1h M2 (e:Int) (ns.length+1:Int)=M3 at g3 l3;have mf:M3[f]? = some plainNode:=by rw[g3,qAa (fun q=>hef q.symm),g2,qAa (by omega),qAa (by omega)];exact hf
 rw[z2q _ (by omega),mf];by_cases h1:x=f
 ·rw[qAb h1,qAb (.inl h1)];rfl
 rw[qAa h1,g3];by_cases h2:x=e
 ·rw[qAb h2,qAb (.inr h2)]
 rw[qAa h2,qAa (fun q=>q.elim h1 h2),g2]
theorem Frg.either{ns:List Q0q}{lo mi a e b f:Nat}{A B:Q03}(h:Frg ns lo mi a e A)(k:Frg ns mi ns.length b f B):Frg (Q37 ns (a:Int) (e:Int) (b:Int) (f:Int)) lo (ns.length+2) ns.length (ns.length+1) (Q03.alt A B):=by
 have i1:=h.ia;have i2:=h.ie;have i3:=k.ia;have i4:=k.ie;have b1:=h.bd;obtain⟨ln,j0⟩:=y35 (a:=a) (b:=b) h.en k.en (by omega);generalize Q37 ns (a:Int) (e:Int) (b:Int) (f:Int)=N at ln j0
 have gS:N[ns.length]? = some ⟨false,zero4,a,b⟩:=by rw[j0,qAa (by omega),qAb rfl]
 have gE:N[ns.length+1]? = some plainNode:=by rw[j0,qAa (by omega),qAa (by omega),qAb rfl]
 have ge:N[e]? = some ⟨false,zero4,(ns.length+1:Int),-1⟩:=by rw[j0,qAb (.inr rfl)]
 have gf:N[f]? = some ⟨false,zero4,(ns.length+1:Int),-1⟩:=by rw[j0,qAb (.inl rfl)]
 have ha:=h.out (by omega) (fun x h1 h2 h3=>by rw[j0,qAa (by omega),qAa (by omega),qAa (by omega)]) ge;have hb:=k.out (by omega) (fun x h1 h2 h3=>by rw[j0,qAa (by omega),qAa (by omega),qAa (by omega)]) gf;have fin:∀{x t:Nat}{v:List Nat},N[x]? = some ⟨false,zero4,(ns.length+1:Int),-1⟩->Q4g N none x t->Q2n N t v (ns.length+1)->v=[]:=fun {x t v} g st hp=>by
  obtain⟨_,_,q⟩:=(z18 g _ _).1 st;have ht:t=ns.length+1:=by rcases q with q|q<;>omega
  subst ht;exact(Q2n.stuck (z4r gE) hp).1
 have bk:∀{x:Nat},N[x]? = some ⟨false,zero4,(ns.length+1:Int),-1⟩->Q4g N none x (ns.length+1):=fun g=>(z18 g _ _).2 ⟨rfl,by omega,.inl (by omega)⟩;refine⟨by omega,by omega,by omega,gE,fun x h1 h2 nd hx=>?_,fun w=>?_⟩
 ·rw[j0]at hx;split at hx
  ·have:(⟨false,zero4,(ns.length+1:Int),-1⟩:Q0q)=nd:=by simpa using hx
   subst this;exact⟨.inr ⟨by simp only;omega,by simp only;omega⟩,.inl rfl⟩
  split at hx
  ·have:(⟨false,zero4,a,b⟩:Q0q)=nd:=by simpa using hx
   subst this;exact⟨.inr ⟨by simp only;omega,by simp only;omega⟩,.inr ⟨by simp only;omega,by simp only;omega⟩⟩
  split at hx
  ·have:plainNode=nd:=by simpa using hx
   subst this;exact⟨.inl rfl,.inl rfl⟩
  by_cases hm:x<mi
  ·have:=h.nb x h1 hm nd hx;omega
  have:=k.nb x (by omega) (by omega) nd hx;omega
 constructor
 ·intro hp;obtain⟨y,q,j1⟩:=Q2n.head gS (by omega) hp;rcases q with q|q
  ·have:y=a:=by omega
   subst this;obtain⟨u,v,t,rfl,q1,q2,q3⟩:=ha.1 (by omega) j1;have:=fin ge q2 q3;subst this;exact .inl (by simpa using q1)
  have:y=b:=by omega
  subst this;obtain⟨u,v,t,rfl,q1,q2,q3⟩:=hb.1 (by omega) j1;have:=fin gf q2 q3;subst this;exact .inr (by simpa using q1)
 rintro(q|q)
 ·have:=((Q2n.eps ((z18 gS none a).2 ⟨rfl,by omega,.inl rfl⟩)).trans (ha.2 w q)).trans (Q2n.eps (bk ge));simpa using this
 have:=((Q2n.eps ((z18 gS none b).2 ⟨rfl,by omega,.inr rfl⟩)).trans (hb.2 w q)).trans (Q2n.eps (bk gf));simpa using this
def Q03.rep(m:Int)(A:Q03):Q03:=fun w=>∃ws:List (List Nat),(∀u∈ws,A u)/\w=ws.flatten/\(m=43->ws≠[])/\(m=63->ws.length<=1)
theorem y5q{ns:List Q0q}{a e:Nat}(m:Int)(he:ns[e]? = some plainNode) :
  (Q17 ns (a:Int) (e:Int) m).length=ns.length+2 /\
  ∀x,(Q17 ns (a:Int) (e:Int) m)[x]? = if x=e then some ⟨false,zero4,(ns.length+1:Int),if m=63 then -1 else a⟩ else if x=ns.length then some ⟨false,zero4,a,if m=43 then -1 else(ns.length+1:Int)⟩ else if x=ns.length+1 then some plainNode else ns[x]? := by
 have le:=(qS he).1;have l0:(Q17 ns (a:Int) (e:Int) m).length=ns.length+2:=by
  unfold Q17;dsimp only;split<;>split<;>simp[z0n]
 refine⟨l0,fun x=>?_⟩;have m0:∀x,(ns++[plainNode]++[plainNode])[x]? = if x=ns.length then some plainNode else if x=ns.length+1 then some plainNode else ns[x]? := fun x=>by
  by_cases h1:x<ns.length
  ·rw[qAa (by omega),qAa (by omega),qAs,qAl h1]
  by_cases h2:x=ns.length
  ·subst h2;simp
  by_cases h3:x=ns.length+1
  ·subst h3;simp
  rw[qAa h2,qAa h3,qN (by simp;omega),qN (by omega)]
 have lm:(ns++[plainNode]++[plainNode]).length=ns.length+2:=by simp
 unfold Q17;dsimp only;generalize ns++[plainNode]++[plainNode]=M at m0 lm;have g1:∀x,(Q1h M (ns.length:Int) (a:Int))[x]? = if x=ns.length then some ⟨false,zero4,a,-1⟩ else if x=ns.length+1 then some plainNode else ns[x]? := fun x=>by
  rw[z2q _ (by omega)];by_cases q:x=ns.length
  ·rw[qAb q,qAb q,m0,qAb rfl];rfl
  rw[qAa q,qAa q,m0,qAa q]
 have l1:(Q1h M (ns.length:Int) (a:Int)).length=ns.length+2:=by rw[z0n];exact lm
 generalize Q1h M (ns.length:Int) (a:Int)=M1 at g1 l1;have me:M1[e]? = some plainNode:=by rw[g1,qAa (by omega),qAa (by omega)];exact he
 have g2:∀x,(Q1h M1 (e:Int) (ns.length+1:Int))[x]? = if x=e then some ⟨false,zero4,(ns.length+1:Int),-1⟩ else M1[x]? := fun x=>by
  rw[z2q _ (by omega),me];rfl
 have l2:(Q1h M1 (e:Int) (ns.length+1:Int)).length=ns.length+2:=by rw[z0n];exact l1
 generalize Q1h M1 (e:Int) (ns.length+1:Int)=M2 at g2 l2;have g3:∀x,(if m=43 then M2 else Q1h M2 (ns.length:Int) (ns.length+1:Int))[x]? = if x=e then some ⟨false,zero4,(ns.length+1:Int),-1⟩ else if x=ns.length then some ⟨false,zero4,a,if m=43 then -1 else(ns.length+1:Int)⟩ else if x=ns.length+1 then some plainNode else ns[x]? := fun x=>by
  by_cases hm:m=43
  ·rw[qAb hm,g2];by_cases q:x=e
   ·rw[qAb q,qAb q]
   rw[qAa q,qAa q,g1,qAb hm]
  rw[qAa hm,z2q _ (by omega)];by_cases q2:x=ns.length
  ·rw[qAb q2,qAa (by omega),qAb q2,g2,qAa (by omega),g1,qAb rfl,qAa hm];have h6:¬((a:Int)=-1):=by omega
   simp[h6]
  rw[qAa q2,g2];by_cases q:x=e
  ·rw[qAb q,qAb q]
  rw[qAa q,qAa q,qAa q2,g1,qAa q2]
 have l3:(if m=43 then M2 else Q1h M2 (ns.length:Int) (ns.length+1:Int)).length=ns.length+2:=by
  split
  ·exact l2
  rw[z0n];exact l2
 generalize(if m=43 then M2 else Q1h M2 (ns.length:Int) (ns.length+1:Int))=M3 at g3 l3;by_cases h6:m=63
 ·rw[qAb h6,g3];by_cases q:x=e
  ·rw[qAb q,qAb q,qAb h6]
  rw[qAa q,qAa q]
 rw[qAa h6,z2q _ (by omega)];by_cases q:x=e
 ·rw[qAb q,qAb q,g3,qAb rfl,qAa h6];have h7:¬(((ns.length:Int)+1)=-1):=by omega
  simp[h7]
 rw[qAa q,qAa q,g3,qAa q]
theorem Frg.rep{ns:List Q0q}{lo a e:Nat}{A:Q03}(m:Int)(h:Frg ns lo ns.length a e A):Frg (Q17 ns (a:Int) (e:Int) m) lo (ns.length+2) ns.length (ns.length+1) (Q03.rep m A):=by
 have i1:=h.ia;have i2:=h.ie;obtain⟨ln,j2⟩:=y5q (a:=a) m h.en;generalize Q17 ns (a:Int) (e:Int) m=N at ln j2
 have gS:N[ns.length]? = some ⟨false,zero4,a,if m=43 then -1 else(ns.length+1:Int)⟩:=by rw[j2,qAa (by omega),qAb rfl]
 have gE:N[ns.length+1]? = some plainNode:=by rw[j2,qAa (by omega),qAa (by omega),qAb rfl]
 have ge:N[e]? = some ⟨false,zero4,(ns.length+1:Int),if m=63 then -1 else a⟩:=by rw[j2,qAb rfl]
 have j0:∀x,lo<=x->x<ns.length->x≠e->N[x]? = ns[x]? := fun x h1 h2 h3=>by rw[j2,qAa h3,qAa (by omega),qAa (by omega)]
 have ha:=h.out (by omega) j0 ge;have s1:∀x,(lo<=x/\x<ns.length)->x≠e->∀o y,Q4g N o x y->Q4g ns o x y/\(lo<=y/\y<ns.length):=fun x hx hne o y ⟨nd,q1,q2,q3⟩=>by
  rw[j0 x hx.1 hx.2 hne]at q1;have n1:=h.nb x hx.1 hx.2 nd q1;have hy:y<ns.length:=by
   cases o with
   |none=>rcases q3.2 with q|q<;>omega
   |some c=>have:=q3.2.2;omega
  have st:Q4g ns o x y:=⟨nd,q1,by omega,q3⟩;exact⟨st,h.cl x hx.1 hx.2 o y st⟩
 have j4:∀(n:Nat) (r:List (Option Nat)),r.length<=n->Run N r a (ns.length+1)->∃ws:List (List Nat),ws≠[]/\(∀u∈ws,A u)/\r.filterMap id=ws.flatten/\(m=63->ws.length<=1):=by
  intro n;induction n with
  |zero =>
   intro r hr j1;have:r=[]:=qCm (by omega);subst this;have h2:a=ns.length+1:=j1;omega
  |succ n ih =>
   intro r hr j1;obtain⟨r1,t,r2,e1,e2,e3,e4⟩:=Run.exit (ns:=ns) (S:=fun x=>lo<=x/\x<ns.length) (e:=e) s1 (fun o y st=>((z18 ge o y).1 st).1) r a _ h.ia (by omega) j1;have hA:A (r1.filterMap id):=(h.lg _).1 ⟨r1,e2,rfl⟩;obtain⟨_,_,q⟩:=(z18 ge _ _).1 e3;have hf:r.filterMap id=r1.filterMap id++r2.filterMap id:=by rw[e1,List.filterMap_append];rfl
   rcases q with q|q
   ·have ht:t=ns.length+1:=by omega
    subst ht;have hv:=(Q2n.stuck (z4r gE) ⟨r2,e4,rfl⟩).1;exact⟨[r1.filterMap id],by simp,by simpa using hA,by rw[hf,hv];simp,fun _=>by simp⟩
   by_cases h6:m=63
   ·rw[qAb h6]at q;omega
   rw[qAa h6]at q;have ht:t=a:=by omega
   subst ht;obtain⟨ws,w1,w2,w3,_⟩:=ih r2 (by rw[e1]at hr;simp at hr;omega) e4;refine⟨r1.filterMap id::ws,by simp,?_,by rw[hf,w3];rfl,fun x=>absurd x h6⟩;intro u hu;rcases qBu.1 hu with rfl|hu
   ·exact hA
   exact w2 u hu
 have up:∀(ws:List (List Nat)),ws≠[]->(∀u∈ws,A u)->(m=63->ws.length<=1)->Q2n N a ws.flatten (ns.length+1):=by
  intro ws;induction ws with
  |nil=>intro h0;exact absurd rfl h0
  |cons u ws ih =>
   intro _ hA h6;have p1:=ha.2 u (hA u (by simp));cases ws with
   |nil =>
    have p2:Q2n N e [] (ns.length+1):=Q2n.eps ((z18 ge _ _).2 ⟨rfl,by omega,.inl (by omega)⟩);simpa using p1.trans p2
   |cons v ws =>
    have j5:¬m=63:=fun e=>by have:=h6 e;simp at this
    have p2:Q2n N e [] a:=Q2n.eps ((z18 ge _ _).2 ⟨rfl,by omega,.inr (by rw[qAa j5])⟩);have p3:=ih (by simp) (fun x hx=>hA x (qEa _ hx)) (fun e=>absurd e j5);simpa using(p1.trans p2).trans p3
 refine⟨by omega,by omega,by omega,gE,fun x h1 h2 nd hx=>?_,fun w=>?_⟩
 ·rw[j2]at hx;split at hx
  ·have:(⟨false,zero4,(ns.length+1:Int),if m=63 then -1 else a⟩:Q0q)=nd:=by simpa using hx
   subst this;refine⟨.inr ⟨by simp only;omega,by simp only;omega⟩,?_⟩;dsimp only;split
   ·exact .inl rfl
   exact .inr ⟨by omega,by omega⟩
  split at hx
  ·have:(⟨false,zero4,a,if m=43 then -1 else(ns.length+1:Int)⟩:Q0q)=nd:=by simpa using hx
   subst this;refine⟨.inr ⟨by simp only;omega,by simp only;omega⟩,?_⟩;dsimp only;split
   ·exact .inl rfl
   exact .inr ⟨by omega,by omega⟩
  split at hx
  ·have:plainNode=nd:=by simpa using hx
   subst this;exact⟨.inl rfl,.inl rfl⟩
  have:=h.nb x h1 (by omega) nd hx;omega
 constructor
 ·intro hp;obtain⟨y,q,j6⟩:=Q2n.head gS (by omega) hp;rcases q with q|q
  ·have:y=a:=by omega
   subst this;obtain⟨r,hr,hw⟩:=j6;obtain⟨ws,w1,w2,w3,w4⟩:=j4 _ r (qR _) hr;exact⟨ws,w2,by rw[← hw,w3],fun _=>w1,w4⟩
  by_cases j3:m=43
  ·rw[qAb j3]at q;omega
  rw[qAa j3]at q;have:y=ns.length+1:=by omega
  subst this;have hv:=(Q2n.stuck (z4r gE) j6).1;exact⟨[],by simp,by rw[hv];rfl,fun e=>absurd e j3,fun _=>by simp⟩
 rintro⟨ws,w1,rfl,w3,w4⟩;by_cases h0:ws=[]
 ·subst h0;have j3:¬m=43:=fun e=>w3 e rfl;have:=Q2n.eps ((z18 gS none (ns.length+1)).2 ⟨rfl,by omega,.inr (by rw[qAa j3];omega)⟩);simpa using this
 have:=(Q2n.eps ((z18 gS none a).2 ⟨rfl,by omega,.inl rfl⟩)).trans (up ws h0 w1 w4);simpa using this
structure LR where
 next:Int
 ok:Bool
 lang:Q03
def noL:Q03:=fun _=>False
def Q3m(g:Int->LR)(s:ByteArray)(i:Int):LR :=
 if atB s i=40 then g i
 else if(Q2r s i).2.2=false then⟨(Q2r s i).2.1,false,noL⟩
 else⟨(Q2r s i).2.1,true,Q03.byte fun c=>Q5y (Q2r s i).1 c=true⟩
def Q2g(s:ByteArray):Nat->LR->LR
 |0,r=>r
 |f+1,r=>if(r.ok&&Q1t (atB s r.next))=true then Q2g s f ⟨r.next+1,true,Q03.rep (atB s r.next) r.lang⟩ else r
def Q1u(a:Int->LR)(s:ByteArray)(i:Int):LR:=Q2g s (s.size+5) (a i)
def Q5z(r p:LR):LR:=if p.ok then⟨p.next,true,Q03.cat r.lang p.lang⟩ else⟨p.next,false,noL⟩
def Q1o(p:Int->LR)(s:ByteArray):Nat->LR->LR
 |0,r=>r
 |f+1,r=>if(r.ok&&Q2v s r.next)=true then Q1o p s f (Q5z r (p r.next)) else r
def Q00(p:Int->LR)(s:ByteArray)(i:Int):LR:=Q1o p s (s.size+5) (p i)
def Q10(r p:LR):LR:=if p.ok then⟨p.next,true,Q03.alt r.lang p.lang⟩ else⟨p.next,false,noL⟩
def Q04(p:Int->LR)(s:ByteArray):Nat->LR->LR
 |0,r=>r
 |f+1,r=>if(r.ok&&(atB s r.next==124))=true then Q04 p s f (Q10 r (p (r.next+1))) else r
def Q25(p:Int->LR)(s:ByteArray)(i:Int):LR:=Q04 p s (s.size+5) (p i)
def Q6h(c:Int->LR)(s:ByteArray)(i:Int):LR :=
 if(c (i+1)).ok=false then⟨(c (i+1)).next,false,noL⟩
 else if atB s (c (i+1)).next≠41 then⟨(c (i+1)).next,false,noL⟩
 else⟨(c (i+1)).next+1,true,(c (i+1)).lang⟩
def lgK(s:ByteArray):Nat->Int->LR
 |0=>fun i=>⟨i,false,noL⟩
 |k+1=>Q6h (Q25 (Q00 (Q1u (Q3m (lgK s k) s) s) s) s) s
def Q61(s:ByteArray)(k:Nat):Int->LR:=Q25 (Q00 (Q1u (Q3m (lgK s k) s) s) s) s
structure Lk(ns:List Q0q)(r:PR)(l:LR):Prop where
 ok:r.ok=l.ok
 next:r.next=l.next
 frg:l.ok=true->ns.length<=r.ns.length/\(∀x,x<ns.length->r.ns[x]? = ns[x]?)/\∃a e:Nat,r.st=a/\r.en=e/\Frg r.ns ns.length r.ns.length a e l.lang
def LkF(f:Int->List Q0q->PR)(l:Int->LR):Prop:=∀i ns,Lk ns (f i ns) (l i)
theorem z9o{g:Int->List Q0q->PR}{l:Int->LR}{s:ByteArray}(h:LkF g l):LkF (Q50 g s) (Q3m l s):=by
 intro i ns;unfold Q50 Q3m;split
 ·exact h i ns
 split
 ·exact⟨rfl,rfl,fun e=>by cases e⟩
 have hl:(Q84 ns (Q2r s i).1).length=ns.length+2:=by simp[Q84]
 refine⟨rfl,rfl,fun _=>⟨by dsimp only;omega,fun x hx=>?_,ns.length+1,ns.length,by dsimp only;omega,rfl,?_⟩⟩
 ·dsimp only[Q84];rw[qAs,qAl hx]
 dsimp only;rw[hl];exact Frg.one ns _
theorem y4x(s:ByteArray)(ns:List Q0q):∀(f:Nat) (r:PR) (l:LR),Lk ns r l->Lk ns (Q3t s f r) (Q2g s f l)
 |0,r,l,h=>h
 |f+1,r,l,h=>by
  unfold Q3t Q2g;rw[h.ok,h.next];split
  ·rename_i hc;rw[qAd]at hc;refine y4x s ns f _ _ ⟨rfl,rfl,fun _=>?_⟩;obtain⟨q1,q2,a,e,q3,q4,q5⟩:=h.frg hc.1;have i2:=q5.ie;obtain⟨ln,j0⟩:=y5q (a:=a) (atB s l.next) q5.en;dsimp only;rw[q3,q4];refine⟨by omega,fun x hx=>?_,r.ns.length,r.ns.length+1,rfl,by omega,?_⟩
   ·rw[j0,qAa (by omega),qAa (by omega),qAa (by omega)];exact q2 x hx
   rw[ln];exact q5.rep _
  exact h
theorem z8g{f:Int->List Q0q->PR}{l:Int->LR}{s:ByteArray}(h:LkF f l):LkF (Q71 f s) (Q1u l s):=fun i ns=>y4x s ns _ _ _ (h i ns)
theorem v0o{ns:List Q0q}{r p:PR}{l q:LR}(h:Lk ns r l)(hok:l.ok=true)(hp:Lk r.ns p q):Lk ns (Q7m r p) (Q5z l q):=by
 unfold Q7m Q5z;rw[hp.ok];cases hq:q.ok
 ·exact⟨rfl,hp.next,fun e=>by cases e⟩
 obtain⟨q1,q2,a,e,q3,q4,q5⟩:=h.frg hok;obtain⟨p1,p2,b,f,p3,p4,p5⟩:=hp.frg hq;have i2:=q5.ie;simp only[qBn];refine⟨rfl,hp.next,fun _=>?_⟩;dsimp only;rw[q3,q4,p3,p4];have hk:=q5.keep p1 (fun x _ h2=>p2 x h2);rw[z0n];refine⟨by omega,fun x hx=>?_,a,f,rfl,rfl,hk.join p5⟩;rw[z2q _ (by omega),qAa (by omega),p2 x (by omega)];exact q2 x hx
theorem y1k{p:Int->List Q0q->PR}{q:Int->LR}{s:ByteArray}(hp:LkF p q)(ns:List Q0q):∀(f:Nat) (r:PR) (l:LR),Lk ns r l->Lk ns (Q2o p s f r) (Q1o q s f l)
 |0,r,l,h=>h
 |f+1,r,l,h=>by
  unfold Q2o Q1o;rw[h.ok,h.next];split
  ·rename_i hc;rw[qAd]at hc;exact y1k hp ns f _ _ (v0o h hc.1 (hp _ _))
  exact h
theorem z9p{f:Int->List Q0q->PR}{l:Int->LR}{s:ByteArray}(h:LkF f l):LkF (Q6n f s) (Q00 l s):=fun i ns=>y1k h ns _ _ _ (h i ns)
theorem x3t{ns:List Q0q}{r p:PR}{l q:LR}(h:Lk ns r l)(hok:l.ok=true)(hp:Lk r.ns p q):Lk ns (Q38 r p) (Q10 l q):=by
 unfold Q38 Q10;rw[hp.ok];cases hq:q.ok
 ·exact⟨rfl,hp.next,fun e=>by cases e⟩
 obtain⟨q1,q2,a,e,q3,q4,q5⟩:=h.frg hok;obtain⟨p1,p2,b,f,p3,p4,p5⟩:=hp.frg hq;have i2:=q5.ie;have i4:=p5.ie;simp only[qBn];refine⟨rfl,hp.next,fun _=>?_⟩;dsimp only;rw[q3,q4,p3,p4];have hk:=q5.keep p1 (fun x _ h2=>p2 x h2);obtain⟨ln,j0⟩:=y35 (a:=a) (b:=b) hk.en p5.en (by omega);refine⟨by omega,fun x hx=>?_,p.ns.length,p.ns.length+1,rfl,by omega,?_⟩
 ·rw[j0,qAa (by omega),qAa (by omega),qAa (by omega),p2 x (by omega)];exact q2 x hx
 rw[ln];exact hk.either p5
theorem y1l{p:Int->List Q0q->PR}{q:Int->LR}{s:ByteArray}(hp:LkF p q)(ns:List Q0q):∀(f:Nat) (r:PR) (l:LR),Lk ns r l->Lk ns (Q2p p s f r) (Q04 q s f l)
 |0,r,l,h=>h
 |f+1,r,l,h=>by
  unfold Q2p Q04;rw[h.ok,h.next];split
  ·rename_i hc;rw[qAd]at hc;exact y1l hp ns f _ _ (x3t h hc.1 (hp _ _))
  exact h
theorem y4w{f:Int->List Q0q->PR}{l:Int->LR}{s:ByteArray}(h:LkF f l):LkF (Q6o f s) (Q25 l s):=fun i ns=>y1l h ns _ _ _ (h i ns)
theorem x6y{f:Int->List Q0q->PR}{l:Int->LR}{s:ByteArray}(h:LkF f l):LkF (Q53 f s) (Q6h l s):=by
 intro i ns;have hh:=h (i+1) ns;unfold Q53 Q6h;rw[hh.ok,hh.next];split
 ·exact⟨rfl,rfl,fun e=>by cases e⟩
 rename_i h1;split
 ·exact⟨rfl,rfl,fun e=>by cases e⟩
 exact⟨rfl,rfl,fun _=>hh.frg (by simpa using h1)⟩
theorem x3u(s:ByteArray):∀k,LkF (gK s k) (lgK s k)
 |0=>fun i ns=>⟨rfl,rfl,fun e=>by cases e⟩
 |k+1=>x6y (y4w (z9p (z8g (z9o (x3u s k)))))
theorem y80(s:ByteArray)(k:Nat):LkF (chK s k) (Q61 s k):=y4w (z9p (z8g (z9o (x3u s k))))
def Q36(t:ByteArray):List Nat:=Q1n t 0 t.size
theorem x0n{s:ByteArray}{i:Int}(hok:(Q1r s i).ok=true)(d:Wd)(sk:Bool)(t:ByteArray):Q31 ⟨d,sk,(Q1r s i).ns,(Q1r s i).st,(Q1r s i).en,[]⟩ t=true↔(Q61 s 6 i).lang (Q36 t):=by
 have h:=y80 s 6 i [];obtain⟨_,_,a,e,h3,h4,h5⟩:=h.frg (by rw[← h.ok];exact hok);have h3:(Q1r s i).st=a:=h3;have h4:(Q1r s i).en=e:=h4;have h5:Frg (Q1r s i).ns 0 (Q1r s i).ns.length a e (Q61 s 6 i).lang:=h5;have m:=y40 ⟨d,sk,(Q1r s i).ns,(Q1r s i).st,(Q1r s i).en,[]⟩ t 0 t.size (by omega);rw[qBy,show t.extract 0 t.size=t from by simp]at m;rw[m];dsimp only;rw[h3,h4,x1u h5.ia.2 h5.ie.2 t 0 t.size (by omega)];exact h5.lg _
def Q3g(s:ByteArray)(i:Int)(s':ByteArray)(i':Int)(n:Nat):Prop:=∀j:Nat,j<n->atB s (i+j)=atB s' (i'+j)
theorem Q3g.at0{s s':ByteArray}{i i':Int}{n:Nat}(h:Q3g s i s' i' n)(hn:0<n):atB s' i'=atB s i:=by
 have:=h 0 hn;simpa using this.symm
theorem Q3g.on{s s':ByteArray}{i i':Int}{n:Nat}(h:Q3g s i s' i' n)(k:Nat):Q3g s (i+k) s' (i'+k) (n-k):=fun j hj=>by
 have:=h (k+j) (by omega);rw[show i+(k:Int)+(j:Int)=i+((k+j:Nat):Int) by omega,show i'+(k:Int)+(j:Int)=i'+((k+j:Nat):Int) by omega];exact this
theorem Q3g.less{s s':ByteArray}{i i':Int}{n m:Nat}(h:Q3g s i s' i' n)(hm:m<=n):Q3g s i s' i' m:=fun j hj=>h j (by omega)
theorem Q3g.atK{s s':ByteArray}{i i':Int}{n:Nat}(h:Q3g s i s' i' n){x:Int}(h0:i<=x)(h1:x<i+n):atB s' (x-i+i')=atB s x:=by
 have:=h (x-i).toNat (by omega);rw[show i+((x-i).toNat:Int)=x by omega,show i'+((x-i).toNat:Int)=x-i+i' by omega]at this;exact this.symm
theorem Q3g.tail{s s':ByteArray}{i i':Int}{n:Nat}(h:Q3g s i s' i' n):Q3g s (i+1) s' (i'+1) (n-1):=h.on 1
theorem z3k(s:ByteArray)(i:Int)(f:Nat)(next:Int)(ws:List Int):Q06 s i (f+1) next ws=if next=i∨atB s next≠93 then
   if(Q0n s next).2.2.2=false then(zero4,(Q0n s next).2.2.1,false)
   else Q06 s i f (Q0n s next).2.2.1 (Q2d ws (Q0n s next).1 (Q0n s next).2.1)
  else(ws,next+1,true):=rfl
section
variable {s s':ByteArray}{i i':Int}{n:Nat}
theorem y49(h:Q3g s i s' i' n)(h0:0<=i)(hok:(Q2k s i).2.2=true)(hn:(Q2k s i).2.1<=i+n):Q2k s' i'=((Q2k s i).1,(Q2k s i).2.1-i+i',true):=by
 have hb:=(z8j s i h0).2.2.2.2 hok;have e:=h.at0 (by omega);unfold Q2k at hok hb ⊢;rw[e];split
 ·simp;omega
 split
 ·simp;omega
 rename_i h1 h2;rw[qAa h1,qAa h2]at hok;split
 ·rename_i h3;rw[qAb h3]at hok;cases hok
 simp;omega
theorem y2z(h:Q3g s i s' i' n)(h0:0<=i)(hok:(Q1s s i).2.2=true)(hn:(Q1s s i).2.1<=i+n):Q1s s' i'=((Q1s s i).1,(Q1s s i).2.1-i+i',true):=by
 have hb:=(z4s s i h0).2.2.2.2 hok;have e:=h.at0 (by omega);unfold Q1s at hok hb hn ⊢;rw[e];split
 ·rename_i h1;rw[qAb h1]at hok hn hb;have:=y49 h.tail (by omega) hok (by omega);rw[this];simp;omega
 rename_i h1;rw[qAa h1]at hok;split
 ·rename_i h2;rw[qAb h2]at hok;cases hok
 rename_i h2;rw[qAa h2]at hok;split
 ·rename_i h3;rw[qAb h3]at hok;cases hok
 simp;omega
theorem x0w(h:Q3g s i s' i' n)(h0:0<=i)(hok:(Q0n s i).2.2.2=true)(hn:(Q0n s i).2.2.1<i+n):Q0n s' i'=((Q0n s i).1,(Q0n s i).2.1,(Q0n s i).2.2.1-i+i',true):=by
 have b1:=z4s s i h0;have b2:=z4s s ((Q1s s i).2.1+1) (by omega);unfold Q0n at hok hn ⊢;by_cases c1:(Q1s s i).2.2=false
 ·rw[qAb c1]at hok;cases hok
 have j0:(Q1s s i).2.2=true:=by simpa using c1
 have b3:=b1.2.2.2.2 j0;rw[qAa c1]at hok hn ⊢;by_cases c2:atB s (Q1s s i).2.1≠45
 ·rw[qAb c2]at hok hn ⊢;have r1:=y2z h h0 j0 (by dsimp only at hn;omega);have a1:=h.atK (x:=(Q1s s i).2.1) (by omega) hn;rw[r1];dsimp only;rw[qAa (by simp),a1,qAb c2]
 rw[qAa c2]at hok hn ⊢;by_cases c3:(Q1s s ((Q1s s i).2.1+1)).2.2=false
 ·rw[qAb c3]at hok;cases hok
 have j1:(Q1s s ((Q1s s i).2.1+1)).2.2=true:=by simpa using c3
 have b4:=b2.2.2.2.2 j1;rw[qAa c3]at hok hn ⊢;by_cases c4:(Q1s s ((Q1s s i).2.1+1)).1<(Q1s s i).1
 ·rw[qAb c4]at hok;cases hok
 rw[qAa c4]at hok hn ⊢;dsimp only at hn ⊢;have r1:=y2z h h0 j0 (by omega);have a1:=h.atK (x:=(Q1s s i).2.1) (by omega) (by omega);have hh:=h.on ((Q1s s i).2.1+1-i).toNat
 rw[show i+(((Q1s s i).2.1+1-i).toNat:Int)=(Q1s s i).2.1+1 by omega,show i'+(((Q1s s i).2.1+1-i).toNat:Int)=(Q1s s i).2.1-i+i'+1 by omega]at hh;have r2:=y2z hh (by omega) j1 (by omega);rw[r1];dsimp only;rw[qAa (by simp),a1,qAa c2,r2];dsimp only;rw[qAa (by simp),qAa c4];simp;omega
theorem y1s(h:Q3g s i s' i' n)(h0:0<=i):∀(f:Nat) (next:Int) (ws:List Int),i<=next->(Q06 s i f next ws).2.2=true->(Q06 s i f next ws).2.1<=i+n ->
  ∀f':Nat,(s'.size:Int)+2<=f'+(next-i+i')->Q06 s' i' f' (next-i+i') ws=((Q06 s i f next ws).1,(Q06 s i f next ws).2.1-i+i',true)/\next<(Q06 s i f next ws).2.1
 |0,next,ws,_,hok,_,_,_=>by cases hok
 |f+1,next,ws,hi,hok,hn,f',hf=>by
  rw[z3k s i f next ws]at hok hn ⊢;by_cases c:next=i∨atB s next≠93
  ·rw[qAb c]at hok hn ⊢;by_cases c1:(Q0n s next).2.2.2=false
   ·rw[qAb c1]at hok;cases hok
   have c1':(Q0n s next).2.2.2=true:=by simpa using c1
   have b:=(z1l s next (by omega)).2.2.2.2.2.2 c1';rw[qAa c1]at hok hn ⊢;have j0:=fun f' hf=>y1s h h0 f (Q0n s next).2.2.1 (Q2d ws (Q0n s next).1 (Q0n s next).2.1) (by omega) hok hn f' hf;have r1:=(j0 (s'.size+2+((Q0n s next).2.2.1-i+i').natAbs) (by omega)).2;have hh:=h.on (next-i).toNat
   rw[show i+((next-i).toNat:Int)=next by omega,show i'+((next-i).toNat:Int)=next-i+i' by omega]at hh;have r2:=x0w hh (by omega) c1' (by omega);have b':=(z1l s' (next-i+i') (by
    by_cases q:0<=next-i+i'
    ·exact q
    exfalso;have a0:=h.atK (x:=next) hi (by omega);have hz:atB s' (next-i+i')=-1:=by unfold atB;rw[qFm (by omega)]
    rw[hz]at a0;have j1:(Q1s s next).2.2=false:=by
     unfold Q1s;rw[← a0];simp[Q4l]
    unfold Q0n at c1';rw[qAb j1]at c1';cases c1')).2.2.2.2.2.2 (by rw[r2])
   rw[r2]at b';dsimp only at b';cases f' with
   |zero=>omega
   |succ f' =>
    rw[z3k s' i' f'];have a1:next-i+i'=i'∨atB s' (next-i+i')≠93:=by
     rcases c with c|c
     ·exact .inl (by omega)
     exact .inr (by rw[h.atK hi (by omega)];exact c)
    rw[qAb a1,r2];dsimp only;rw[qAa (by simp)];have e:(Q0n s next).2.2.1-next+(next-i+i')=(Q0n s next).2.2.1-i+i':=by omega
    rw[e];exact⟨(j0 f' (by omega)).1,by omega⟩
  rw[qAa c]at hok hn ⊢;dsimp only at hn ⊢;have c':¬next=i/\atB s next=93:=by
   by_cases q:next=i
   ·exact absurd (.inl q) c
   exact⟨q,by
    by_cases q2:atB s next=93
    ·exact q2
    exact absurd (.inr q2) c⟩
  have a1:=h.atK hi (x:=next) (by omega);have a2:=z0r (s:=s') (i:=next-i+i') (by rw[a1,c'.2];decide);cases f' with
  |zero=>omega
  |succ f' =>
   rw[z3k s' i' f'];rw[qAa (by rw[a1];intro q;rcases q with q|q;omega;exact q c'.2)];exact⟨by simp;omega,by omega⟩
theorem y48(h:Q3g s i s' i' n)(h0:0<=i)(h0':0<=i')(hok:(Q3f s i).2.2=true)(hn:(Q3f s i).2.1<=i+n):Q3f s' i'=((Q3f s i).1,(Q3f s i).2.1-i+i',true):=by
 have:=(y1s h h0 (s.size+5) i zero4 (by omega) hok hn (s'.size+5) (by omega)).1;rw[show i-i+i'=i' by omega]at this;exact this
theorem v09(h:Q3g s i s' i' n)(h0:0<=i)(h0':0<=i')(hs:i<=s.size)(hok:(rBr s i).2.2=true)(hn:(rBr s i).2.1<=i+n):rBr s' i'=((rBr s i).1,(rBr s i).2.1-i+i',true):=by
 have hb:=(x4n s i h0 hs).2.2 hok;have e:=h.at0 (by omega);unfold rBr at hok hn ⊢;rw[e];split
 ·rename_i h1;rw[qAb h1]at hok hn;have:=y48 h.tail (by omega) (by omega) hok (by dsimp only at hn;omega);rw[this];simp;omega
 rename_i h1;rw[qAa h1]at hok hn;exact y48 h h0 h0' hok hn
theorem x7s(h:Q3g s i s' i' n)(h0:0<=i)(h0':0<=i')(hok:(Q2r s i).2.2=true)(hn:(Q2r s i).2.1<=i+n):Q2r s' i'=((Q2r s i).1,(Q2r s i).2.1-i+i',true):=by
 have hb:=(y21 s i h0).2.2 hok;have e:=h.at0 (by omega);unfold Q2r at hok hn hb ⊢;rw[e];by_cases c1:atB s i=46
 ·rw[qAb c1,qAb c1];simp;omega
 rw[qAa c1]at hok hn hb ⊢;rw[qAa c1];by_cases c2:atB s i=91
 ·rw[qAb c2]at hok hn hb ⊢;rw[qAb c2];have:=v09 h.tail (by omega) (by omega) (by omega) hok (by omega);rw[this];simp;omega
 rw[qAa c2]at hok hn hb ⊢;rw[qAa c2];by_cases c3:atB s i=92
 ·rw[qAb c3]at hok hn hb ⊢;rw[qAb c3];have:=y49 h.tail (by omega) hok (by dsimp only at hn;omega);rw[this];simp;omega
 rw[qAa c3]at hok hn hb ⊢;rw[qAa c3];by_cases c4:Q02 (atB s i)=false
 ·rw[qAb c4]at hok;cases hok
 rw[qAa c4,qAa c4];simp;omega
end
end Go.Proofs.YtbdpfmalabgmbaaGreat
