import Derived.Test.YtcpceafmlgaodaaGreatPd6
import Derived.Deep.RegionWith
namespace Go.Proofs.YtcpceafmlgaodaaGreat
open Go.RowKit
set_option linter.unusedVariables false
set_option linter.unusedSimpArgs false
section
variable{w:World}{b:Nat}{x:LO}{v0 v1 v2 v3 v4 v5:Value}{nv sv:List Value}
end
def crK(ns:List Q0p)(st:Int)(s:ByteArray)(i:Nat):Nat->List Nat
 |0=>Q1e ns.length []st
 |k+1=>Q58 ns s(i+k)(Q11 ns(crK ns st s i k))
def Q83(ns:List Q0p)(st en:Int)(s:ByteArray)(i k:Nat):Bool:=Q7d ns.length(Q11 ns(crK ns st s i k))en
theorem z9g(ns:List Q0p):Q11 ns []=[]:=by unfold Q11 Q27;simp
theorem x0s(n:Nat)(en:Int):Q7d n []en=false:=by simp[Q7d]
theorem x3g(ns:List Q0p)(s:ByteArray)(i:Nat):Q58 ns s i []=[]:=by unfold Q58;split<;>simp[Q5d]
theorem v0i{ns:List Q0p}{st:Int}{s:ByteArray}{i k:Nat}(h:crK ns st s i k=[]):∀j,crK ns st s i(k+j)=[]:=by
 intro j;induction j with
 |zero=>exact h
 |succ j ih =>
  show Q58 ns s(i+(k+j))(Q11 ns(crK ns st s i(k+j)))=[];rw[ih,z9g,x3g]
theorem x69{ns:List Q0p}{st en:Int}{s:ByteArray}{i k:Nat}(h:crK ns st s i k=[])(j:Nat)(hj:k<=j):Q83 ns st en s i j=false:=by
 have:=v0i h(j-k);rw[show k+(j-k)=j by omega]at this;unfold Q83;rw[this,z9g,x0s]
theorem x5k(ns:List Q0p)(st en:Int)(s:ByteArray)(i:Nat):∀(f k:Nat)(best:Int),s.size+2<=f+(i+k) ->
  (∃j,k<=j/\i+j<=s.size/\Q83 ns st en s i j=true/\runL ns en s f(i+k)(crK ns st s i k)best=((i+j:Nat):Int)/\∀j',j<j'->i+j'<=s.size->Q83 ns st en s i j'=false) ∨
  (runL ns en s f(i+k)(crK ns st s i k)best=best/\∀j,k<=j->i+j<=s.size->Q83 ns st en s i j=false):=by
 intro f;induction f with
 |zero =>
  intro k best hf;right;refine⟨rfl,fun j hj h=>?_⟩;omega
 |succ f ih =>
  intro k best hf;unfold runL;by_cases hc:i+k<=s.size/\0<(crK ns st s i k).length
  ·rw[if_pos hc];have e:Q58 ns s(i+k)(Q11 ns(crK ns st s i k))=crK ns st s i(k+1):=rfl;rw[e];have e2:Q7d ns.length(Q11 ns(crK ns st s i k))en=Q83 ns st en s i k:=rfl;rw[e2];rcases ih(k+1)(if Q83 ns st en s i k=true then((i+k:Nat):Int)else best)(by omega)with⟨j,h1,h2,h3,h4,h5⟩|⟨h1,h2⟩
   ·left;exact⟨j,by omega,h2,h3,h4,h5⟩
   cases ha:Q83 ns st en s i k
   ·right;rw[ha]at h1;refine⟨by simpa [Nat.add_assoc]using h1,fun j hj hl=>?_⟩;by_cases hjk:j=k
    ·rw[hjk];exact ha
    exact h2 j(by omega)hl
   left;rw[ha]at h1;exact⟨k,qR _,hc.1,ha,by simpa [Nat.add_assoc]using h1,fun j' hj hl=>h2 j'(by omega)hl⟩
  rw[if_neg hc];right;refine⟨rfl,fun j hj hl=>?_⟩;have:crK ns st s i k=[]:=by
   cases hq:crK ns st s i k with
   |nil=>rfl
   |cons a l=>rw[hq]at hc;simp at hc;omega
  exact x69 this j hj
theorem x0d(ns:List Q0p)(st en:Int)(s:ByteArray)(i:Nat) :
  (∃j,i+j<=s.size/\Q83 ns st en s i j=true/\Q8h ns st en s i=((i+j:Nat):Int)/\∀j',j<j'->i+j'<=s.size->Q83 ns st en s i j'=false) ∨
  (Q8h ns st en s i=-1/\∀j,i+j<=s.size->Q83 ns st en s i j=false):=by
 rcases x5k ns st en s i(s.size+2)0(-1)(by omega)with⟨j,_,h2,h3,h4,h5⟩|⟨h1,h2⟩
 ·exact .inl⟨j,h2,h3,h4,h5⟩
 exact .inr⟨h1,fun j hj=>h2 j(by omega)hj⟩
theorem x9w(ns:List Q0p)(st:Int)(t:ByteArray)(i n:Nat)(hn:i+n<=t.size):∀k,k<=n->crK ns st(t.extract i(i+n))0 k=crK ns st t i k:=by
 intro k;induction k with
 |zero=>intro _;rfl
 |succ k ih =>
  intro hk;show Q58 ns(t.extract i(i+n))(0+k)_=Q58 ns t(i+k)_;rw[ih(by omega)];unfold Q58;have h1:0+k<(t.extract i(i+n)).size:=by rw[ByteArray.size_extract];omega
  have h2:i+k<t.size:=by omega
  rw[dif_pos h1,dif_pos h2];have e:(t.extract i(i+n))[0+k]=t[i+k]:=by
   rw[ByteArray.getElem_extract];congr 1;omega
  rw[e]
theorem x45(x:Ln)(t:ByteArray)(i n:Nat)(hn:i+n<=t.size):Q53 x(t.extract i(i+n))=Q83 x.ns x.st x.en t i n:=by
 have j0:(t.extract i(i+n)).size=n:=by rw[ByteArray.size_extract];omega
 have ha:∀k,k<=n->Q83 x.ns x.st x.en(t.extract i(i+n))0 k=Q83 x.ns x.st x.en t i k:=fun k hk=>by
  unfold Q83;rw[x9w x.ns x.st t i n hn k hk]
 unfold Q53;rw[j0,← ha n(qR _)];rcases x0d x.ns x.st x.en(t.extract i(i+n))0 with⟨j,h1,h2,h3,h4⟩|⟨h1,h2⟩
 ·rw[j0]at h1 h4;rw[h3];by_cases hj:j=n
  ·subst hj;rw[h2];simp
  rw[h4 n(by omega)(by omega)];simp;omega
 rw[h1,h2 n(by rw[j0];omega)];simp
abbrev far(x:Ln)(t:ByteArray)(i:Nat):Int:=Q8h x.ns x.st x.en t i
def Q1j(s:ByteArray)(i j:Int):Prop:=∀k,i<=k->k<j->32<=atB s k
theorem Q1j.one{s:ByteArray}{i:Int}(h:32<=atB s i):Q1j s i(i+1):=fun k h1 h2=>by
 have:k=i:=by omega
 subst this;exact h
theorem Q1j.trans{s:ByteArray}{i j k:Int}(h:Q1j s i j)(h2:Q1j s j k):Q1j s i k:=fun m h3 h4=>by
 by_cases e:m<j
 ·exact h m h3 e
 exact h2 m(by omega)h4
theorem Q1j.nil{s:ByteArray}{i:Int}:Q1j s i i:=fun k h1 h2=>by omega
theorem v0x{c:Int}(h:Q5g c=true):32<=c:=by simp[Q5g]at h;omega
theorem x6k{c:Int}(h:Q03 c=true):32<=c:=by simp[Q03]at h;exact v0x h.2
theorem z9x{s:ByteArray}{i:Int}(h:(Q2n s i).2.2=true):Q1j s i(Q2n s i).2.1:=by
 unfold Q2n at h ⊢;split
 ·rename_i e;exact Q1j.one(by omega)
 split
 ·rename_i e;exact Q1j.one(by omega)
 split
 ·rename_i h1 h2 h3;rw[if_neg h1,if_neg h2,if_pos h3]at h;cases h
 rename_i h3;apply Q1j.one;simp at h3;exact v0x h3.1.1.1
theorem y1o{s:ByteArray}{i:Int}(h:(Q1t s i).2.2=true):Q1j s i(Q1t s i).2.1:=by
 unfold Q1t at h ⊢;split
 ·rename_i e;rw[if_pos e]at h;exact(Q1j.one(by omega)).trans(z9x h)
 rename_i e;rw[if_neg e]at h;split
 ·rename_i e2;rw[if_pos e2]at h;cases h
 rename_i e2;rw[if_neg e2]at h;split
 ·rename_i e3;rw[if_pos e3]at h;cases h
 rename_i e3;exact Q1j.one(v0x(by simpa using e3))
theorem y4k{s:ByteArray}{i:Int}(h:(Q0m s i).2.2.2=true):Q1j s i(Q0m s i).2.2.1:=by
 unfold Q0m at h ⊢;split
 ·rename_i e;rw[if_pos e]at h;cases h
 rename_i e;rw[if_neg e]at h;have c1:=y1o(s:=s)(i:=i)(by simpa using e);split
 ·exact c1
 rename_i e2;rw[if_neg e2]at h;split
 ·rename_i e3;rw[if_pos e3]at h;cases h
 rename_i e3;rw[if_neg e3]at h;have c2:=y1o(s:=s)(i:=(Q1t s i).2.1+1)(by simpa using e3);split
 ·rename_i e4;rw[if_pos e4]at h;cases h
 exact(c1.trans(Q1j.one(by omega))).trans c2
theorem z45{s:ByteArray}{i j:Int}:∀(f:Nat)(next:Int)(ws:List Int),Q1j s j next->(Q08 s i f next ws).2.2=true->Q1j s j(Q08 s i f next ws).2.1
 |0,next,ws,hc,h=>by simp[Q08]at h
 |f+1,next,ws,hc,h=>by
  unfold Q08 at h ⊢;split
  ·rename_i e;rw[if_pos e]at h;split
   ·rename_i e2;rw[if_pos e2]at h;cases h
   rename_i e2;rw[if_neg e2]at h;exact z45 f _ _(hc.trans(y4k(by simpa using e2)))h
  rename_i e;have:atB s next=93:=by
   by_cases h1:atB s next=93
   ·exact h1
   exact absurd(.inr h1)e
  exact hc.trans(Q1j.one(by omega))
theorem x24{s:ByteArray}{i:Int}(h:(rBr s i).2.2=true):Q1j s i(rBr s i).2.1:=by
 unfold rBr at h ⊢;split
 ·rename_i e;rw[if_pos e]at h;exact z45 _ _ _(Q1j.one(by omega))h
 rename_i e;rw[if_neg e]at h;exact z45 _ _ _ Q1j.nil h
theorem y1b{s:ByteArray}{i:Int}(h:(Q2t s i).2.2=true):Q1j s i(Q2t s i).2.1:=by
 unfold Q2t at h ⊢;split
 ·exact Q1j.one(by omega)
 rename_i e1;rw[if_neg e1]at h;split
 ·rename_i e;rw[if_pos e]at h;exact(Q1j.one(by omega)).trans(x24 h)
 rename_i e2;rw[if_neg e2]at h;split
 ·rename_i e;rw[if_pos e]at h;exact(Q1j.one(by omega)).trans(z9x h)
 rename_i e3;rw[if_neg e3]at h;split
 ·rename_i e;rw[if_pos e]at h;cases h
 rename_i e;exact Q1j.one(x6k(by simpa using e))
def Q6f(s:ByteArray)(f:Int->List Q0p->PR):Prop:=∀(i:Int)(ns:List Q0p),(f i ns).ok=true->Q1j s i(f i ns).next
theorem x9f{c:Int}(h:Q1y c=true):32<=c:=by simp[Q1y]at h;omega
theorem z7o{s:ByteArray}{i:Int}:∀(f:Nat)(r:PR),(r.ok=true->Q1j s i r.next)->(Q3w s f r).ok=true->Q1j s i(Q3w s f r).next
 |0,r,hr,h=>hr h
 |f+1,r,hr,h=>by
  unfold Q3w at h ⊢;split
  ·rename_i e;rw[if_pos e]at h;simp only[Bool.and_eq_true]at e;exact z7o f _(fun _=>(hr e.1).trans(Q1j.one(x9f e.2)))h
  rename_i e;rw[if_neg e]at h;exact hr h
theorem z91{a:Int->List Q0p->PR}{s:ByteArray}(ha:Q6f s a):Q6f s(Q70 a s):=fun i ns h=>z7o _ _(ha i ns)h
theorem z6r{p:Int->List Q0p->PR}{s:ByteArray}(hp:Q6f s p){i:Int}:∀(f:Nat)(r:PR),(r.ok=true->Q1j s i r.next)->(Q2q p s f r).ok=true->Q1j s i(Q2q p s f r).next
 |0,r,hr,h=>hr h
 |f+1,r,hr,h=>by
  unfold Q2q at h ⊢;split
  ·rename_i e;rw[if_pos e]at h;simp only[Bool.and_eq_true]at e;refine z6r hp f _(fun hj=>?_)h;unfold Q7j at hj ⊢;split
   ·rename_i e2;exact(hr e.1).trans(hp _ _ e2)
   rename_i e2;rw[if_neg e2]at hj;cases hj
  rename_i e;rw[if_neg e]at h;exact hr h
theorem z7h{p:Int->List Q0p->PR}{s:ByteArray}(hp:Q6f s p):Q6f s(Q6i p s):=fun i ns h=>z6r hp _ _(hp i ns)h
theorem z56{p:Int->List Q0p->PR}{s:ByteArray}(hp:Q6f s p){i:Int}:∀(f:Nat)(r:PR),(r.ok=true->Q1j s i r.next)->(Q2r p s f r).ok=true->Q1j s i(Q2r p s f r).next
 |0,r,hr,h=>hr h
 |f+1,r,hr,h=>by
  unfold Q2r at h ⊢;split
  ·rename_i e;rw[if_pos e]at h;simp only[Bool.and_eq_true,beq_iff_eq]at e;refine z56 hp f _(fun hj=>?_)h;unfold Q39 at hj ⊢;split
   ·rename_i e2;exact((hr e.1).trans(Q1j.one(by omega))).trans(hp _ _ e2)
   rename_i e2;rw[if_neg e2]at hj;cases hj
  rename_i e;rw[if_neg e]at h;exact hr h
theorem z7l{p:Int->List Q0p->PR}{s:ByteArray}(hp:Q6f s p):Q6f s(Q6o p s):=fun i ns h=>z56 hp _ _(hp i ns)h
theorem y6h{c:Int->List Q0p->PR}{s:ByteArray}(hc:Q6f s c)(i:Int)(ns:List Q0p)(hi:atB s i=40)(h:(Q52 c s i ns).ok=true):Q1j s i(Q52 c s i ns).next:=by
 unfold Q52 at h ⊢;split
 ·rename_i e;rw[if_pos e]at h;cases h
 rename_i e;rw[if_neg e]at h;split
 ·rename_i e2;rw[if_pos e2]at h;cases h
 rename_i e2;exact((Q1j.one(by omega)).trans(hc _ _(by simpa using e))).trans(Q1j.one(by omega))
theorem y0e{g:Int->List Q0p->PR}{s:ByteArray}(hg:∀i ns,atB s i=40->(g i ns).ok=true->Q1j s i(g i ns).next):Q6f s(Q5w g s):=by
 intro i ns h;unfold Q5w at h ⊢;split
 ·rename_i e;rw[if_pos e]at h;exact hg i ns e h
 rename_i e;rw[if_neg e]at h;split
 ·rename_i e2;rw[if_pos e2]at h;cases h
 rename_i e2;exact y1b(by simpa using e2)
theorem y8h(s:ByteArray):∀(k:Nat)(i:Int)(ns:List Q0p),atB s i=40->(gK s k i ns).ok=true->Q1j s i(gK s k i ns).next
 |0,i,ns,hi,h=>by simp[gK]at h
 |k+1,i,ns,hi,h=>y6h(z7l(z7h(z91(y0e(y8h s k)))))i ns hi h
theorem y6s{s:ByteArray}{i:Int}(h:(Q1s s i).ok=true):Q1j s i(Q1s s i).next :=
 z7l(z7h(z91(y0e(y8h s 6))))i []h
theorem z3w(s:ByteArray)(a e k:Nat)(he:e<=s.size)(hk:a+k<e):atB(s.extract a e)(k:Nat)=atB s((a:Int)+k):=by
 have h1:k<(s.extract a e).size:=by rw[ByteArray.size_extract];omega
 have h2:a+k<s.size:=by omega
 rw[y7r _ k h1];have:((a:Int)+(k:Int))=((a+k:Nat):Int):=by omega
 rw[this,y7r s(a+k)h2,ByteArray.getElem_extract]
theorem z6w(s:ByteArray)(a e c:Nat)(x y:Int)(he:e<=s.size)(hc:a+c<=e)(h1:∀k:Nat,k<c->atB s((a:Int)+k)≠x/\atB s((a:Int)+k)≠y)
  (h2:a+c=e∨atB s((a:Int)+c)=x∨atB s((a:Int)+c)=y):Q36(s.extract a e)x y=c:=by
 have j0:(s.extract a e).size=e-a:=by rw[ByteArray.size_extract];omega
 unfold Q36;rw[j0];by_cases hce:a+c=e
 ·have hl:(List.range(e-a)).length=c:=by simp;omega
  rw[List.findIdx_eq_length_of_false]
  ·exact hl
  intro j hj;have j1:j<e-a:=by simpa using hj
  rw[z3w s a e j he(by omega)];have:=h1 j(by omega);simp[this.1,this.2]
 rw[List.findIdx_eq(by simp;omega)];simp only[List.getElem_range];refine⟨?_,?_⟩
 ·rw[z3w s a e c he(by omega)];rcases h2 with h2|h2|h2
  ·omega
  ·simp[h2]
  simp[h2]
 intro j hj;rw[z3w s a e j he(by omega)];have:=h1 j hj;simp[this.1,this.2]
structure Q10(s:ByteArray)(i:Int)(m:Nat)(d:Wd):Prop where
 pos:1<=m
 le:m<=8
 first:Q0n(atB s i)=true∨Q1n(atB s i)=true
 rest:∀k:Nat,1<=k->k<m->Q0n(atB s(i+k))=true
 ls:d.ls=(List.range 8).map(fun k:Nat=>if k<m then atB s(i+k)else 0)
 place:d.place=i
theorem y80{c:Int}(h:Q0n c=true):65<=c/\c<=122:=by have:=y10 h;omega
theorem v1o{c:Int}(h:Q1n c=true):65<=c/\c<=122:=by have:=x4a h;omega
theorem Q10.byte{s:ByteArray}{i:Int}{m:Nat}{d:Wd}(h:Q10 s i m d)(k:Nat)(hk:k<m):65<=atB s(i+k)/\atB s(i+k)<=122:=by
 by_cases e:k=0
 ·subst e;have:=h.first;simp only[Int.natCast_zero,Int.add_zero]at *;rcases this with h|h
  ·exact y80 h
  exact v1o h
 exact y80(h.rest k(by omega)hk)
theorem x9k(s:ByteArray)(i:Int)(n:Nat)(hn:n<8) :
  ((List.range 8).map(fun k:Nat=>if k<n then atB s(i+k)else 0)).set n(atB s(i+n))=(List.range 8).map(fun k:Nat=>if k<n+1 then atB s(i+k)else 0):=by
 apply List.ext_getElem
 ·simp
 intro j h1 h2;simp only[List.length_map,List.length_range]at h2;rw[List.getElem_set];simp only[List.getElem_map,List.getElem_range];by_cases e:n=j
 ·subst e;simp
 rw[if_neg e];by_cases e2:j<n
 ·rw[if_pos e2,if_pos(by omega)]
 rw[if_neg e2,if_neg(by omega)]
theorem y4v(s:ByteArray)(i:Int):∀(f n:Nat)(ls:List Int),1<=n->n<=8->9<=f+n->ls=(List.range 8).map(fun k:Nat=>if k<n then atB s(i+k)else 0) ->
  (∀k:Nat,1<=k->k<n->Q0n(atB s(i+k))=true) ->
  ∃m:Nat,1<=m/\m<=8/\(Q2l s i f n ls).2=i+m/\(Q2l s i f n ls).1=(List.range 8).map(fun k:Nat=>if k<m then atB s(i+k)else 0)/\∀k:Nat,1<=k->k<m->Q0n(atB s(i+k))=true
 |0,n,ls,h1,h2,h3,h4,h5=>⟨n,h1,h2,rfl,h4,h5⟩
 |f+1,n,ls,h1,h2,h3,h4,h5=>by
  unfold Q2l;split
  ·rename_i hn;split
   ·rename_i hsm;refine y4v s i f(n+1)_(by omega)(by omega)(by omega)?_ ?_
    ·rw[h4];exact x9k s i n hn
    intro k hk1 hk2;by_cases e:k=n
    ·subst e;exact hsm
    exact h5 k hk1(by omega)
   exact⟨n,h1,h2,rfl,h4,h5⟩
  rename_i hn;have:n=8:=by omega
  subst this;exact⟨8,by omega,by omega,rfl,h4,h5⟩
theorem z7z(s:ByteArray)(i:Int)(h:(Q09 s i).2.2=true):∃m:Nat,Q10 s i m(Q09 s i).1/\(Q09 s i).2.1=i+m:=by
 unfold Q09 at h ⊢;split
 ·rename_i e;rw[if_pos e]at h;cases h
 rename_i e;obtain⟨m,h1,h2,h3,h4,h5⟩:=y4v s i 9 1(Q5l.set 0(atB s i))(by omega)(by omega)(by omega)(by simp[Q5l,List.range,List.range.loop])(by intro k h1 h2;omega);refine⟨m,⟨h1,h2,?_,h5,h4,rfl⟩,h3⟩;simp at e;cases hs:Q0n(atB s i)
 ·exact .inr(e hs)
 exact .inl rfl
theorem y3q{s:ByteArray}{a b m n:Nat}{d d':Wd}(h:Q10 s a m d)(h':Q10 s b n d')(ha:a+m<=s.size)(hb:b+n<=s.size)(hl:d.ls=d'.ls):(s.extract a(a+m)).toList=(s.extract b(b+n)).toList:=by
 have hk:∀k:Nat,k<8->(if k<m then atB s((a:Int)+k)else 0)=(if k<n then atB s((b:Int)+k)else 0):=by
  intro k hk;have e1:d.ls[k]? = some(if k<m then atB s((a:Int)+k)else 0):=by rw[h.ls];simp[hk]
  have e2:d'.ls[k]? = some(if k<n then atB s((b:Int)+k)else 0):=by rw[h'.ls];simp[hk]
  rw[hl,e2]at e1;simpa using e1.symm
 have j0:m=n:=by
  have:=h.le;have:=h'.le;by_cases e1:m<n
  ·have h1:=hk m(by omega);rw[if_neg(by omega),if_pos e1]at h1;have:=h'.byte m e1;omega
  by_cases e2:n<m
  ·have h1:=hk n(by omega);rw[if_pos e2,if_neg(by omega)]at h1;have:=h.byte n e2;omega
  omega
 subst j0;rw[btl,btl];have hA:(s.extract a(a+m)).size=m:=by rw[ByteArray.size_extract];omega
 have hB:(s.extract b(b+m)).size=m:=by rw[ByteArray.size_extract];omega
 apply List.ext_getElem
 ·simp only[Array.length_toList];exact hA.trans hB.symm
 intro j h1 h2;have hj:j<m:=by rw[Array.length_toList]at h1;exact hA▸h1
 have h3:=hk j(by have:=h.le;omega);rw[if_pos hj,if_pos hj]at h3;have e1:=z3w s a(a+m)j ha(by omega);have e2:=z3w s b(b+m)j hb(by omega);rw[← e1,← e2,y7r _ j(by omega),y7r _ j(by omega)]at h3;simp only[Array.getElem_toList];have h4:(s.extract a(a+m))[j].toNat=(s.extract b(b+m))[j].toNat:=by omega
 exact UInt8.toNat_inj.1 h4
def PN(s:ByteArray):Nat->List Wd->List ByteArray->Nat->Prop
 |p,[],[],q=>p=q
 |p,d::ds,n::ns,q=>atB s p=32/\∃m,Q10 s((p+1:Nat):Int)m d/\p+1+m<=s.size/\n=s.extract(p+1)(p+1+m)/\PN s(p+1+m)ds ns q
 |_,[],_::_,_=>False
 |_,_::_,[],_=>False
theorem PN.nil{s:ByteArray}(p:Nat):PN s p [] []p:=rfl
theorem PN.cons{s:ByteArray}{p m q:Nat}{d:Wd}{ds:List Wd}{ns:List ByteArray}(h32:atB s p=32)(hw:Q10 s((p+1:Nat):Int)m d)(hle:p+1+m<=s.size)(h:PN s(p+1+m)ds ns q) :
  PN s p(d::ds)(s.extract(p+1)(p+1+m)::ns)q:=⟨h32,m,hw,hle,rfl,h⟩
theorem PN.ind{s:ByteArray}{q:Nat}{M:Nat->List Wd->List ByteArray->Prop}(hn:M q [] [])
  (hc:∀(p m:Nat)(d:Wd)(ds:List Wd)(ns:List ByteArray),atB s p=32->Q10 s((p+1:Nat):Int)m d->p+1+m<=s.size->PN s(p+1+m)ds ns q->M(p+1+m)ds ns->M p(d::ds)(s.extract(p+1)(p+1+m)::ns)) :
  ∀(ds:List Wd)(p:Nat)(ns:List ByteArray),PN s p ds ns q->M p ds ns
 | [],p,[],h=>by
  have:p=q:=h;subst this;exact hn
 | [],p,n::ns,h=>False.elim h
 |d::ds,p,[],h=>False.elim h
 |d::ds,p,n::ns,h=>by
  obtain⟨h32,m,hw,hle,rfl,h2⟩:=h;exact hc p m d ds ns h32 hw hle h2(PN.ind hn hc ds _ ns h2)
theorem PN.next{s:ByteArray}{p q:Nat}:∀{ds:List Wd}{ns:List ByteArray},PN s p ds ns q->p=q∨atB s p=32
 | [],[],h=>.inl h
 | [],_::_,h=>False.elim h
 |_::_,[],h=>False.elim h
 |_::_,_::_,h=>.inr h.1
theorem PN.le{s:ByteArray}{p q:Nat}{ds:List Wd}{ns:List ByteArray}(h:PN s p ds ns q):p<=q:=by
 refine PN.ind(M:=fun p _ _=>p<=q)(qR _)?_ ds p ns h;intro p m d ds ns _ _ _ _ ih;omega
theorem PN.clean{s:ByteArray}{p q:Nat}{ds:List Wd}{ns:List ByteArray}(h:PN s p ds ns q):Q1j s p q:=by
 refine PN.ind(M:=fun(p:Nat)_ _=>Q1j s p q)Q1j.nil ?_ ds p ns h;intro p m d ds ns h32 hw hle h ih;refine Q1j.trans(j:=(p:Int)+1)(Q1j.one(by omega))(Q1j.trans(j:=((p+1+m:Nat):Int))?_ ih);intro k h1 h2;have:=hw.byte(k-((p:Int)+1)).toNat(by omega);have e:(((p+1:Nat):Int)+((k-((p:Int)+1)).toNat:Int))=k:=by omega
 rw[e]at this;omega
theorem z9v{s:ByteArray}{i:Int}(h:0<=atB s i):0<=i/\i<s.size:=by
 unfold atB at h;split at h
 ·rename_i h1;omega
 omega
theorem Q10.in'{s:ByteArray}{i:Int}{m:Nat}{d:Wd}(h:Q10 s i m d):0<=i/\i+m<=s.size:=by
 have h1:=h.byte 0(by have:=h.pos;omega);have h2:=h.byte(m-1)(by have:=h.pos;omega);have h3:=z9v(s:=s)(i:=i+((0:Nat):Int))(by omega);have h4:=z9v(s:=s)(i:=i+((m-1:Nat):Int))(by omega);have:=h.pos;omega
theorem z9w(s:ByteArray)(d:Wd):∀(f:Nat)(next:Nat)(syms:List Wd),(Q21 s d f next syms).2.2=true ->
  ∃ds ns q,PN s next ds ns q/\atB s(q:Nat)=10/\Q21 s d f next syms=(⟨d,false,[],0,0,syms++ds⟩,((q+1:Nat):Int),true)
 |0,next,syms,h=>by simp[Q21]at h
 |f+1,next,syms,h=>by
  unfold Q21 at h ⊢;by_cases h32:atB s next=32
  ·rw[if_pos h32]at h ⊢;cases hw:(Q09 s(next+1)).2.2
   ·rw[if_pos hw]at h;cases h
   rw[if_neg(by simp[hw])]at h ⊢;obtain⟨m,hwd,hnx⟩:=z7z s(next+1)hw;have j0:=hwd.in';have e:(Q09 s(next+1)).2.1=((next+1+m:Nat):Int):=by rw[hnx];omega
   rw[e]at h ⊢;obtain⟨ds,ns,q,h1,h2,h3⟩:=z9w s d f _ _ h;refine⟨(Q09 s(next+1)).1::ds,_,q,PN.cons h32(by simpa using hwd)(by omega)h1,h2,?_⟩;rw[h3];simp
  rw[if_neg h32]at h ⊢;by_cases h10:atB s next=10
  ·rw[if_neg(by simpa using h10)];exact⟨[],[],next,PN.nil _,h10,by simp⟩
  rw[if_pos h10]at h;cases h
theorem x7f(s:ByteArray)(a e:Nat)(he:e<=s.size):∀{p q:Nat}{ds:List Wd}{ns:List ByteArray},PN s p ds ns q->q=e->a<=p->∀(f:Nat)(acc:List ByteArray),e+1<=f+p ->
  Q7e(s.extract a e)f(if p<e then p+1-a else p-a)acc=acc++ns:=by
 intro p q ds ns h hq;have j0:(s.extract a e).size=e-a:=by rw[ByteArray.size_extract];omega
 refine PN.ind(M:=fun p _ ns=>a<=p->∀(f:Nat)(acc:List ByteArray),e+1<=f+p->Q7e(s.extract a e)f(if p<e then p+1-a else p-a)acc=acc++ns)?_ ?_ ds p ns h
 ·intro ha f acc hf;rw[if_neg(by omega)];cases f with
  |zero=>simp[Q7e]
  |succ f=>unfold Q7e;rw[if_neg(by omega)];simp
 intro p m d ds ns h32 hw hle h ih ha f acc hf;have j3:=h.le;have hm:=hw.pos;rw[if_pos(by omega)];obtain⟨f,rfl⟩:∃g,f=g+1:=⟨f-1,by omega⟩;unfold Q7e;have hx:(s.extract a e).extract(p+1-a)(s.extract a e).size=s.extract(p+1)e:=by
  rw[j0];apply ByteArray.ext;simp only[ByteArray.data_extract,Array.extract_extract];have:s.size=s.data.size:=rfl;congr 1<;>omega
 have j2:Q36(s.extract(p+1)e)32 32=m:=by
  refine z6w s(p+1)e m 32 32 he(by omega)?_ ?_
  ·intro k hk;have:=hw.byte k hk;exact⟨by omega,by omega⟩
  rcases h.next with h9|h9
  ·left;omega
  right;left;rw[← h9];congr 1
 rw[hx,j2,if_pos(show p+1-a<(s.extract a e).size by omega),if_pos(show 0<m by omega)];have j1:(s.extract a e).extract(p+1-a)(p+1-a+m)=s.extract(p+1)(p+1+m):=by
  apply ByteArray.ext;simp only[ByteArray.data_extract,Array.extract_extract];have:s.size=s.data.size:=rfl;congr 1<;>omega
 rw[j1];have:=ih(by omega)f(acc++[s.extract(p+1)(p+1+m)])(by omega);have e2:(if p+1-a+m<(s.extract a e).size then p+1-a+m+1 else p+1-a+m)=(if p+1+m<e then p+1+m+1-a else p+1+m-a):=by
  rw[j0];by_cases hh:p+1+m<e
  ·rw[if_pos(by omega),if_pos hh];omega
  rw[if_neg(by omega),if_neg hh];omega
 rw[e2,this];simp
theorem Q10.clean{s:ByteArray}{i:Int}{m:Nat}{d:Wd}(h:Q10 s i m d):Q1j s i(i+m):=by
 intro k h1 h2;have:=h.byte(k-i).toNat(by omega);have e:i+((k-i).toNat:Int)=k:=by omega
 rw[e]at this;omega
theorem Q10.head{s:ByteArray}{i:Int}{m:Nat}{d:Wd}(h:Q10 s i m d):Q3m d=Q1n(atB s i):=by
 unfold Q3m;rw[h.ls];have:=h.pos;simp[List.range,List.range.loop,show 0<m by omega]
structure RuleAt(s:ByteArray)(i:Nat)(x:Ln)(e m:Nat):Prop where
 hw:Q10 s i m x.front
 hs:Q0n(atB s i)=true
 hr:Q1g x=true
 hle:i+m<e
 hc:Q1j s i e
 hm:atB s((i:Int)+m)=61∨atB s((i:Int)+m)=126
 hk:x.skip=(atB s((i:Int)+m)==126)
 hsy:x.syms=[]
structure ProdAt(s:ByteArray)(i:Nat)(x:Ln)(e m:Nat)(ns:List ByteArray):Prop where
 hw:Q10 s i m x.front
 hs:Q1n(atB s i)=true
 hr:Q1g x=false
 hc:Q1j s i e
 hm:atB s((i:Int)+m)=58
 hp:PN s(i+m+1)x.syms ns e
def Q88(s:ByteArray)(i:Nat)(x:Ln)(e:Nat):Prop:=(∃m,RuleAt s i x e m)∨(∃m ns,ProdAt s i x e m ns)
theorem Q88.clean{s:ByteArray}{i e:Nat}{x:Ln}(h:Q88 s i x e):Q1j s i e:=by
 rcases h with⟨m,h⟩|⟨m,ns,h⟩
 ·exact h.hc
 exact h.hc
theorem y2y(s:ByteArray)(i:Nat)(h:(Q2x s i).2.2=true):∃e:Nat,e<s.size/\i<e/\atB s(e:Nat)=10/\(Q2x s i).2.1=((e+1:Nat):Int)/\Q88 s i(Q2x s i).1 e:=by
 unfold Q2x at h ⊢;cases hw:(Q09 s i).2.2
 ·rw[if_pos hw]at h;cases h
 rw[if_neg(by simp[hw])]at h ⊢;obtain⟨m,hwd,hnx⟩:=z7z s i hw;have j3:=hwd.in';have j2:=hwd.pos;have j1:=hwd.head;generalize(Q09 s i).1=d at *;rw[hnx]at h ⊢;cases hh:Q3m d
 ·rw[hh]at h;simp only[Bool.false_eq_true,if_false]at h ⊢;unfold Q6r at h ⊢;by_cases c1:atB s((i:Int)+m)≠61/\atB s((i:Int)+m)≠126
  ·rw[if_pos c1]at h;cases h
  rw[if_neg c1]at h ⊢;cases c2:(Q1s s((i:Int)+m+1)).ok
  ·rw[if_pos c2]at h;cases h
  rw[if_neg(by simp[c2])]at h ⊢;by_cases c3:atB s(Q1s s((i:Int)+m+1)).next=10
  ·rw[if_neg(by simpa using c3)]at h ⊢;have cl:=y6s c2;have j6:=z9v(s:=s)(i:=(Q1s s((i:Int)+m+1)).next)(by omega);have j5:(i:Int)+m+1<=(Q1s s((i:Int)+m+1)).next:=by
    by_cases hq:(Q1s s((i:Int)+m+1)).next<(i:Int)+m+1
    ·exfalso;have hg:=(z5e s 6)((i:Int)+m+1) [](by omega)(by
      have:0<=atB s((i:Int)+m):=by
       by_cases q:atB s((i:Int)+m)=61
       ·omega
       by_cases q2:atB s((i:Int)+m)=126
       ·omega
       exact absurd⟨q,q2⟩c1
      have:=z9v this;omega)
     have:=hg.lo;unfold Q1s at hq;omega
    omega
   refine⟨(Q1s s((i:Int)+m+1)).next.toNat,by omega,by omega,?_,by dsimp only;omega,?_⟩
   ·rw[Int.toNat_of_nonneg(by omega)];exact c3
   have j0:atB s((i:Int)+m)=61∨atB s((i:Int)+m)=126:=by
    by_cases q:atB s((i:Int)+m)=61
    ·exact .inl q
    by_cases q2:atB s((i:Int)+m)=126
    ·exact .inr q2
    exact absurd⟨q,q2⟩c1
   refine .inl⟨m,hwd,?_,?_,by omega,?_,j0,rfl,rfl⟩
   ·rcases hwd.first with h1|h1
    ·exact h1
    rw[← j1,hh]at h1;cases h1
   ·show(!headB d)=true;rw[hh];rfl
   rw[Int.toNat_of_nonneg(by omega)];exact(hwd.clean.trans(Q1j.one(by rcases j0 with q|q<;>omega))).trans cl
  rw[if_pos c3]at h;cases h
 rw[hh]at h;simp only[if_true]at h ⊢;unfold Q6h at h ⊢;by_cases c1:atB s((i:Int)+m)=58
 ·rw[if_neg(by simpa using c1)]at h ⊢;have e1:(i:Int)+m+1=((i+m+1:Nat):Int):=by omega
  rw[e1]at h ⊢;obtain⟨ds,ns,q,h1,h2,h3⟩:=z9w s d _ _ _ h;rw[h3];have:=z9v(s:=s)(i:=(q:Nat))(by omega);have j4:=h1.le;refine⟨q,by omega,by omega,h2,rfl,?_⟩;refine .inr⟨m,ns,hwd,by rw[← j1];exact hh,?_,?_,c1,by simpa using h1⟩
  ·show(!headB d)=false;rw[hh];rfl
  exact(hwd.clean.trans(Q1j.one(by omega))).trans(by rw[e1];exact h1.clean)
 rw[if_pos c1]at h;cases h
theorem y8q(s:ByteArray)(a e:Nat)(he:e<=s.size)(h:a<e):atB(s.extract a e)0=atB s a:=by
 have:=z3w s a e 0 he(by omega);simpa using this
theorem y6b(s:ByteArray)(a e c:Nat)(he:e<=s.size)(hc:a+c<=e):(s.extract a e).extract 0 c=s.extract a(a+c):=by
 apply ByteArray.ext;simp only[ByteArray.data_extract,Array.extract_extract];have:s.size=s.data.size:=rfl;congr 1;omega
theorem x9t(s:ByteArray)(a e c:Nat)(he:e<=s.size)(hc:a+c<=e):(s.extract a e).extract c(s.extract a e).size=s.extract(a+c)e:=by
 apply ByteArray.ext;rw[ByteArray.size_extract];simp only[ByteArray.data_extract,Array.extract_extract];have:s.size=s.data.size:=rfl;congr 1;omega
theorem z7p(s:ByteArray)(i e m:Nat)(d:Wd)(x:LO)(he:e<=s.size)(hw:Q10 s i m d)(hs:Q0n(atB s i)=true)(hle:i+m<e)(hm:atB s((i:Int)+m)=61∨atB s((i:Int)+m)=126) :
  Q9m(s.extract i e)x={x with rules:=x.rules++[s.extract i(i+m)],skip:=x.skip++[atB s((i:Int)+m)==126]}:=by
 have j1:(s.extract i e).size=e-i:=by rw[ByteArray.size_extract];omega
 have j0:Q36(s.extract i e)61 126=m:=by
  refine z6w s i e m 61 126 he(by omega)?_(.inr hm);intro k hk;have:=hw.byte k hk;exact⟨by omega,by omega⟩
 unfold Q9m;rw[if_neg(by omega),y8q s i e he(by omega),if_pos(by simpa [Q0n]using hs),j0,y6b s i e m he(by omega),z3w s i e m he(by omega)];simp[j1,show m<e-i by omega]
theorem z7u(s:ByteArray)(i e m:Nat)(d:Wd)(ds:List Wd)(ns:List ByteArray)(x:LO)(he:e<=s.size)(hw:Q10 s i m d)(hs:Q1n(atB s i)=true)(hm:atB s((i:Int)+m)=58)(hp:PN s(i+m+1)ds ns e) :
  Q9m(s.extract i e)x={x with
   heads:=if Q1z x.heads(s.extract i(i+m))<0 then x.heads++[s.extract i(i+m)]else x.heads
   head:=x.head++[if Q1z x.heads(s.extract i(i+m))<0 then(x.heads.length:Int)else Q1z x.heads(s.extract i(i+m))]
   names:=x.names++[ns]}:=by
 have j1:=hp.le;have j6:(s.extract i e).size=e-i:=by rw[ByteArray.size_extract];omega
 have j4:Q36(s.extract i e)58 58=m:=by
  refine z6w s i e m 58 58 he(by omega)?_(.inr(.inl hm));intro k hk;have:=hw.byte k hk;exact⟨by omega,by omega⟩
 have j5:=x4a hs;have j3:wordsF(s.extract(i+m)e)=s.extract(i+m)(i+m+1)::ns:=by
  have j2:(s.extract(i+m)e).size=e-(i+m):=by rw[ByteArray.size_extract];omega
  unfold wordsF;have j0:Q36(s.extract(i+m)e)32 32=1:=by
   refine z6w s(i+m)e 1 32 32 he(by omega)?_ ?_
   ·intro k hk;have:k=0:=by omega
    subst this;have e1:(((i+m:Nat):Int)+((0:Nat):Int))=(i:Int)+m:=by omega
    rw[e1,hm];exact⟨by omega,by omega⟩
   rcases hp.next with h9|h9
   ·left;omega
   right;left;rw[← h9];congr 1
  conv=>lhs;unfold Q7e
  have e0:(s.extract(i+m)e).extract 0(s.extract(i+m)e).size=s.extract(i+m)e:=x9r _;rw[e0,j0,if_pos(show 0<(s.extract(i+m)e).size by omega),if_pos(show 0<1 by omega)];have:=x7f s(i+m)e he hp rfl(by omega)(s.extract(i+m)e).size [s.extract(i+m)(i+m+1)](by omega);have e2:(if 0+1<(s.extract(i+m)e).size then 0+1+1 else 0+1)=(if i+m+1<e then i+m+1+1-(i+m)else i+m+1-(i+m)):=by
   rw[j2];by_cases hh:i+m+1<e
   ·rw[if_pos(by omega),if_pos hh];omega
   rw[if_neg(by omega),if_neg hh];omega
  rw[e2];have e3:([]:List ByteArray)++[(s.extract(i+m)e).extract 0(0+1)]=[s.extract(i+m)(i+m+1)]:=by
   rw[Nat.zero_add,y6b s(i+m)e 1 he(by omega)];rfl
  rw[e3,this];rfl
 unfold Q9m;rw[if_neg(by omega),y8q s i e he(by omega),if_neg(by omega),j4,y6b s i e m he(by omega),x9t s i e m he(by omega),j3];rfl
theorem y7u{l:List ByteArray}{t:ByteArray}(h:∃y∈l,y.toList=t.toList):0<=Q1z l t:=by
 obtain⟨y,hy,he⟩:=h;unfold Q1z;have:l.findIdx(fun x=>x.toList==t.toList)<l.length:=List.findIdx_lt_length_of_exists⟨y,hy,by simp[he]⟩;rw[if_pos this];omega
theorem z57{l:List ByteArray}{t:ByteArray}(h:¬Q1z l t<0):∃y∈l,y.toList=t.toList:=by
 unfold Q1z at h;by_cases hq:l.findIdx(fun x=>x.toList==t.toList)<l.length
 ·have:=List.findIdx_getElem(w:=hq);exact⟨_,List.getElem_mem hq,by simpa using this⟩
 rw[if_neg hq]at h;omega
def Named(s:ByteArray)(x:Ln)(l:List ByteArray):Prop:=∃i m:Nat,Q10 s i m x.front/\∃y∈l,y.toList=(s.extract i(i+m)).toList
theorem Named.mono{s:ByteArray}{x:Ln}{l l':List ByteArray}(h:Named s x l)(hl:∀y∈l,y∈l'):Named s x l':=by
 obtain⟨i,m,h1,y,h2,h3⟩:=h;exact⟨i,m,h1,y,hl y h2,h3⟩
def WordOf(s:ByteArray)(ds:List Wd)(t:ByteArray):Prop:=∃d∈ds,∃j m:Nat,Q10 s j m d/\t=s.extract j(j+m)
theorem PN.words{s:ByteArray}{p q:Nat}{ds:List Wd}{ns:List ByteArray}(h:PN s p ds ns q):∀t∈ns,WordOf s ds t:=by
 refine PN.ind(M:=fun _ ds ns=>∀t∈ns,WordOf s ds t)?_ ?_ ds p ns h
 ·intro t ht;simp at ht
 intro p m d ds ns h32 hw hle h ih t ht;simp at ht;rcases ht with rfl|ht
 ·exact⟨d,by simp,p+1,m,hw,rfl⟩
 obtain⟨d',h1,h2⟩:=ih t ht;exact⟨d',by simp[h1],h2⟩
theorem PN.places{s:ByteArray}{p q:Nat}{ds:List Wd}{ns:List ByteArray}(h:PN s p ds ns q):∀d∈ds,0<=d.place:=by
 refine PN.ind(M:=fun _ ds _=>∀d∈ds,0<=d.place)?_ ?_ ds p ns h
 ·intro t ht;simp at ht
 intro p m d ds ns h32 hw hle h ih t ht;simp at ht;rcases ht with rfl|ht
 ·rw[hw.place];omega
 exact ih t ht
structure Inv(s:ByteArray)(lns:List Ln)(x:LO):Prop where
 rules:x.rules.length=(lns.filter Q1g).length
 skip:x.skip=(lns.filter Q1g).map Ln.skip
 count:x.names.length=(lns.filter(fun y=>!ruleB y)).length
 named:∀y∈lns,if Q1g y then Named s y x.rules else Named s y x.heads
 words:∀l∈x.names,∀t∈l,∃y∈lns,WordOf s y.syms t
 places:∀y∈lns,0<=y.front.place/\∀d∈y.syms,0<=d.place
theorem x7n{s:ByteArray}{lns:List Ln}{x:LO}{y:Ln}{i e:Nat}(h:Inv s lns x)(he:e<=s.size)(hl:Q88 s i y e):Inv s(lns++[y])(Q9m(s.extract i e)x):=by
 rcases hl with⟨m,hw,hs,hr,hle,hc,hm,hk,hsy⟩|⟨m,ns,hw,hs,hr,hc,hm,hp⟩
 ·rw[z7p s i e m _ x he hw hs hle hm];refine⟨?_,?_,?_,?_,?_,?_⟩
  ·simp[h.rules,List.filter_cons,hr]
  ·simp[h.skip,List.filter_cons,hr,hk]
  ·simp[h.count,List.filter_cons,hr]
  ·intro z hz;simp only[List.mem_append,List.mem_singleton]at hz;rcases hz with hz|rfl
   ·have:=h.named z hz;split
    ·rename_i hq;rw[if_pos hq]at this;exact this.mono(fun y hy=>by simp[hy])
    rename_i hq;rw[if_neg hq]at this;exact this
   rw[if_pos hr];exact⟨i,m,hw,s.extract i(i+m),by simp,rfl⟩
  ·intro l hl t ht;obtain⟨z,hz,hw⟩:=h.words l hl t ht;exact⟨z,by simp[hz],hw⟩
  intro z hz;simp only[List.mem_append,List.mem_singleton]at hz;rcases hz with hz|rfl
  ·exact h.places z hz
  exact⟨by rw[hw.place];omega,by rw[hsy];intro d hd;cases hd⟩
 rw[z7u s i e m _ _ ns x he hw hs hm hp];refine⟨?_,?_,?_,?_,?_,?_⟩
 ·simp[h.rules,List.filter_cons,hr]
 ·simp[h.skip,List.filter_cons,hr]
 ·simp[h.count,List.filter_cons,hr]
 ·intro z hz;simp only[List.mem_append,List.mem_singleton]at hz;rcases hz with hz|rfl
  ·have:=h.named z hz;split
   ·rename_i hq;rw[if_pos hq]at this;exact this
   rename_i hq;rw[if_neg hq]at this;refine this.mono(fun y hy=>?_);dsimp only;split
   ·simp[hy]
   exact hy
  rw[if_neg(by simp[hr])];dsimp only;split
  ·exact⟨i,m,hw,s.extract i(i+m),by simp,rfl⟩
  rename_i hq;obtain⟨y,h1,h2⟩:=z57 hq;exact⟨i,m,hw,y,h1,h2⟩
 ·intro l hl t ht;simp only[List.mem_append,List.mem_singleton]at hl;rcases hl with hl|rfl
  ·obtain⟨z,hz,hw⟩:=h.words l hl t ht;exact⟨z,by simp[hz],hw⟩
  exact⟨y,by simp,hp.words t ht⟩
 intro z hz;simp only[List.mem_append,List.mem_singleton]at hz;rcases hz with hz|rfl
 ·exact h.places z hz
 exact⟨by rw[hw.place];omega,hp.places⟩
theorem y3l(s:ByteArray):∀(f i:Nat)(acc:List Ln)(g:Nat)(x:LO),(Q1o s f i acc).2.2=true->i<=s.size->s.size+1<=g+i->Inv s acc x->Inv s(Q1o s f i acc).1(Q94 s g i x)
 |0,i,acc,g,x,h,hi,hg,hI=>by simp[Q1o]at h
 |f+1,i,acc,g,x,h,hi,hg,hI=>by
  obtain⟨g,rfl⟩:∃k,g=k+1:=⟨g-1,by omega⟩;unfold Q1o at h ⊢;unfold Q94;by_cases hlt:i<s.size
  ·rw[if_pos(by omega)]at h ⊢;rw[if_pos hlt];cases hok:(Q2x s i).2.2
   ·rw[if_pos hok]at h;cases h
   rw[if_neg(by simp[hok])]at h ⊢;obtain⟨e,he1,he2,he3,he4,he5⟩:=y2y s i hok;rw[he4]at h ⊢;have j1:Q1j s i e:=he5.clean;have j0:Q36(s.extract i s.size)10 10=e-i:=by
    refine z6w s i s.size(e-i)10 10(by omega)(by omega)?_ ?_
    ·intro k hk;have:=j1((i:Int)+k)(by omega)(by omega);exact⟨by omega,by omega⟩
    right;left;have e1:(i:Int)+((e-i:Nat):Int)=(e:Nat):=by omega
    rw[e1];exact he3
   rw[j0,show i+(e-i)=e by omega,if_pos he1];exact y3l s f(e+1)_ g _ h(by omega)(by omega)(x7n hI(by omega)he5)
  rw[if_neg(by omega)]at h ⊢;rw[if_neg hlt];exact hI
end Go.Proofs.YtcpceafmlgaodaaGreat
