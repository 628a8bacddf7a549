import Derived.Test.YtcpceafmlgaodaaGreatKp7
namespace Go.Proofs.YtcpceafmlgaodaaGreat
open Go.RowKit
set_option linter.unusedVariables false
set_option linter.unusedSimpArgs false
theorem z98{lns:List Ln}{syms:List Wd}(hp:∀d∈syms,0<=d.place):∀(f j:Nat),Q7b lns syms f j=none->syms.length+1<=f+j->∀k(hk:k<syms.length),j<=k->Q97 lns syms[k]=true
 |0,j,h,hf,k,hk,hjk=>by omega
 |f+1,j,h,hf,k,hk,hjk=>by
  unfold Q7b at h;have hj:j<syms.length:=by omega
  rw[qE hj]at h;simp only[]at h;cases hs:Q97 lns syms[j]
  ·rw[hs]at h;simp at h
  rw[hs]at h;simp only[if_true]at h;by_cases e:j=k
  ·subst e;exact hs
  exact z98 hp f(j+1)h(by omega)k hk(by omega)
theorem z6z{lns:List Ln}(hp:∀y∈lns,0<=y.front.place/\∀d∈y.syms,0<=d.place):∀(f i:Nat),Q6w lns f i=-1->lns.length+1<=f+i->∀k(hk:k<lns.length),i<=k->Q7q lns lns[k].syms=none
 |0,i,h,hf,k,hk,hik=>by omega
 |f+1,i,h,hf,k,hk,hik=>by
  unfold Q6w at h;have hi:i<lns.length:=by omega
  rw[qE hi]at h;simp only[]at h;have j0:=hp lns[i](List.getElem_mem hi);by_cases c:(Q1g lns[i]&&Q3d lns i)=true
  ·rw[if_pos c]at h;omega
  rw[if_neg c]at h;cases hs:Q7q lns lns[i].syms with
  |some p =>
   rw[hs]at h;simp only[]at h;exfalso;have:∀(f j:Nat),Q7b lns lns[i].syms f j=some p->0<=p:=by
    intro f;induction f with
    |zero=>intro j h;simp[Q7b]at h
    |succ f ih =>
     intro j h;unfold Q7b at h;split at h
     ·rename_i d hd;split at h
      ·exact ih _ h
      simp at h;rw[← h];exact j0.2 d(List.mem_of_getElem? hd)
     cases h
   have:=this _ _ hs;omega
  |none =>
   rw[hs]at h;simp only[]at h;by_cases e:i=k
   ·subst e;exact hs
   exact z6z hp f(i+1)h(by omega)k hk(by omega)
theorem z18{s:ByteArray}(h:Q0u s=(0,0)):s.size<=800/\(Q0c s).2.2=true/\Q2b(Q0c s).1=-1/\Q4f(Q0c s).1=true/\Q3s(Q0c s).1=-1:=by
 unfold Q0u at h;split at h
 ·simp at h
 rename_i h1;split at h
 ·simp at h
 rename_i h2;split at h
 ·simp at h
 rename_i h3;split at h
 ·simp at h
 rename_i h4;split at h
 ·simp at h
 split at h
 ·simp at h
 rename_i h5;exact⟨by omega,by simpa using h2,by simpa using h4,by simpa using h5,by simpa using h3⟩
theorem x6f{s:ByteArray}:Inv s []Q9a:=by
 refine⟨rfl,rfl,rfl,?_,?_,?_⟩
 ·intro y hy;simp at hy
 ·intro l hl;simp[Q9a]at hl
 intro y hy;simp at hy
theorem Q6y{s:ByteArray}(h:Q0u s=(0,0)):Inv s(Q0c s).1(linesX s):=by
 obtain⟨h1,h2,h3,h4,h5⟩:=z18 h;have j0:(Q1o s(s.size+5)((0:Nat):Int) []).2.2=true:=h2;exact y3l s(s.size+5)0 [](s.size+1)Q9a j0(by omega)(by omega)x6f
theorem z1d(hs:List Hd)(n m:Int)(x:Hd):Q1l(Q7o hs n x)m=if m=n/\0<=n/\n<hs.length then x else Q1l hs m:=by
 unfold Q1l Q7o;by_cases hn:0<=n
 ·rw[if_pos hn];by_cases hm:0<=m
  ·rw[if_pos hm,if_pos hm,List.getElem?_set];by_cases e:n.toNat=m.toNat
   ·have e2:m=n:=by omega
    subst e2;rw[if_pos e];by_cases hl:m.toNat<hs.length
    ·rw[if_pos hl,if_pos⟨rfl,hn,by omega⟩];rfl
    rw[if_neg hl,if_neg(by omega),qN(by omega)]
   rw[if_neg e,if_neg(by omega)]
  rw[if_neg hm,if_neg hm,if_neg(by omega)]
 rw[if_neg hn,if_neg(show ¬(m=n/\0<=n/\n<hs.length)from fun h=>hn h.2.1)]
theorem z5i{hs:List Hd}{n:Int}{x:Hd}(h:Q65 hs n x=false)(h0:0<=n)(hl:n<hs.length):Q1l hs n=x:=by
 unfold Q65 at h;unfold Q1l;rw[if_pos h0]at h ⊢;rw[qE(by omega)]at h ⊢;exact z8c.1(by simpa using h)
theorem z9n:∀(l:List Pr)(hs:List Hd)(g:Bool),(∀x∈hs,x.ok)->(Q5h l hs g).2=false->∀p∈l,(Q3k hs p).2=false
 | [],_,_,_,_,p,hp=>by cases hp
 |q::l,hs,g,hok,h,p,hp=>by
  have h1:=z3r hok q g;have h2:=z46 l h1.ok(g||(Q3k hs q).2);have h3:=(h2.same h).1;simp only[Bool.or_eq_false_iff]at h3;have h4:=(h1.same(by simpa using h3)).2;simp only[List.mem_cons]at hp;rcases hp with rfl|hp
  ·exact h3.2
  have h5:(Q5h l(Q3k hs q).1(g||(Q3k hs q).2)).2=false:=h;dsimp only at h4;rw[h4]at h5;exact z9n l hs _ hok h5 p hp
theorem z8n:∀(l:List Pr)(hs:List Hd)(g:Bool),(∀x∈hs,x.ok)->(Q47 l hs g).2=false->∀p∈l,(Q4t hs p).2=false
 | [],_,_,_,_,p,hp=>by cases hp
 |q::l,hs,g,hok,h,p,hp=>by
  have h1:=z47 hok q g;have h2:=z49 l h1.ok(g||(Q4t hs q).2);have h3:=(h2.same h).1;simp only[Bool.or_eq_false_iff]at h3;have h4:=(h1.same(by simpa using h3)).2;simp only[List.mem_cons]at hp;rcases hp with rfl|hp
  ·exact h3.2
  have h5:(Q47 l(Q4t hs q).1(g||(Q4t hs q).2)).2=false:=h;dsimp only at h4;rw[h4]at h5;exact z8n l hs _ hok h5 p hp
theorem z5v(ph:Int):∀(l:List Sy)(hs:List Hd)(g:Bool),(∀x∈hs,x.ok)->(Q23 ph l hs g).2=false->∀(a:List Sy)(s:Sy)(b:List Sy),l=a++s::b->s.isH=true->Q65 hs s.num(Q5q hs ph s.num b)=false
 | [],_,_,_,_,a,s,b,e,_=>by cases a<;>cases e
 |q::l,hs,g,hok,h,a,s,b,e,hs1=>by
  unfold Q23 at h;cases hq:q.isH
  ·rw[if_pos hq]at h;cases a with
   |nil=>simp only[List.nil_append,List.cons.injEq]at e;obtain⟨rfl,_⟩:=e;rw[hq]at hs1;cases hs1
   |cons c a=>simp only[List.cons_append,List.cons.injEq]at e;exact z5v ph l hs g hok h a s b e.2 hs1
  rw[if_neg(by simp[hq])]at h;have h1:Q2y hs(Q7o hs q.num(Q5q hs ph q.num l),g||Q65 hs q.num(Q5q hs ph q.num l))g:=by
   refine Q2y.put hok ?_ ?_ g
   ·exact⟨(z0k hok q.num).fi,z04(z0k hok q.num).fo(z3d hok _ _)⟩
   exact v0u(z0k hok _)(z3d hok _ _)
  have h2:=z25 ph l h1.ok(g||Q65 hs q.num(Q5q hs ph q.num l));have h3:=(h2.same h).1;have h4:=(h1.same h3).2;simp only[Bool.or_eq_false_iff]at h3;cases a with
  |nil=>simp only[List.nil_append,List.cons.injEq]at e;obtain⟨rfl,rfl⟩:=e;exact h3.2
  |cons c a =>
   simp only[List.cons_append,List.cons.injEq]at e;dsimp only at h4;rw[h4]at h;exact z5v ph l hs _ hok h a s b e.2 hs1
theorem z8k:∀(l:List Pr)(hs:List Hd)(g:Bool),(∀x∈hs,x.ok)->(Q5j l hs g).2=false->∀p∈l,(Q23 p.head p.syms hs false).2=false
 | [],_,_,_,_,p,hp=>by cases hp
 |q::l,hs,g,hok,h,p,hp=>by
  have h1:=z25 q.head q.syms hok g;have h2:=z42 l h1.ok(Q23 q.head q.syms hs g).2;have h3:=(h2.same h).1;have h4:=h1.same h3;simp only[List.mem_cons]at hp;rcases hp with rfl|hp
  ·have h6:=h3;rw[h4.1]at h6;exact h6
  have h5:(Q5j l(Q23 q.head q.syms hs g).1(Q23 q.head q.syms hs g).2).2=false:=h;rw[h4.2]at h5;exact z8k l hs _ hok h5 p hp
theorem z5u:∀(l:List Sy)(hs:List Hd)(g:Bool),(∀x∈hs,x.ok)->(Q3j l hs g).2=false->∀s∈l,s.isH=true->Q65 hs s.num{Q1l hs s.num with rch:=true}=false
 | [],_,_,_,_,s,hs,_=>by cases hs
 |q::l,hs,g,hok,h,s,hm,hs1=>by
  unfold Q3j at h;simp only[List.mem_cons]at hm;cases hq:q.isH
  ·rw[if_pos hq]at h;rcases hm with rfl|hm
   ·rw[hq]at hs1;cases hs1
   exact z5u l hs g hok h s hm hs1
  rw[if_neg(by simp[hq])]at h;have h1:Q2y hs(Q7o hs q.num{Q1l hs q.num with rch:=true},g||Q65 hs q.num{Q1l hs q.num with rch:=true})g:=by
   refine Q2y.put hok ?_ ?_ g
   ·exact⟨(z0k hok q.num).fi,(z0k hok q.num).fo⟩
   exact x44 _
  have h2:=z29 l h1.ok(g||Q65 hs q.num{Q1l hs q.num with rch:=true});have h3:=(h2.same h).1;have h4:=(h1.same h3).2;simp only[Bool.or_eq_false_iff]at h3;rcases hm with rfl|hm
  ·exact h3.2
  dsimp only at h4;rw[h4]at h;exact z5u l hs _ hok h s hm hs1
theorem z5s:∀(l:List Pr)(hs:List Hd)(g:Bool),(∀x∈hs,x.ok)->(Q3r l hs g).2=false->∀p∈l,(Q1l hs p.head).rch=true->(Q3j p.syms hs false).2=false
 | [],_,_,_,_,p,hp,_=>by cases hp
 |q::l,hs,g,hok,h,p,hp,hr=>by
  unfold Q3r at h;simp only[List.mem_cons]at hp;cases hq:(Q1l hs q.head).rch
  ·rw[if_pos hq]at h;rcases hp with rfl|hp
   ·rw[hq]at hr;cases hr
   exact z5s l hs g hok h p hp hr
  rw[if_neg(by simp[hq])]at h;have h1:=z29 q.syms hok g;have h2:=z3s l h1.ok(Q3j q.syms hs g).2;have h3:=(h2.same h).1;have h4:=h1.same h3;rcases hp with rfl|hp
  ·have h6:=h3;rw[h4.1]at h6;exact h6
  rw[h4.2]at h;exact z5s l hs _ hok h p hp hr
def Q0o{α:Type}(f:Hd->α)(hs hs':List Hd):Prop:=∀n,f(Q1l hs' n)=f(Q1l hs n)
theorem Q0o.refl{α:Type}(f:Hd->α)(hs:List Hd):Q0o f hs hs:=fun _=>rfl
theorem Q0o.trans{α:Type}{f:Hd->α}{a b c:List Hd}(h:Q0o f a b)(k:Q0o f b c):Q0o f a c:=fun n=>(k n).trans(h n)
theorem Q0o.put{α:Type}{f:Hd->α}{hs:List Hd}{n:Int}{x:Hd}(h:f x=f(Q1l hs n)):Q0o f hs(Q7o hs n x):=fun m=>by
 rw[z1d];split
 ·rename_i e;rw[e.1];exact h
 rfl
theorem z1s{α:Type}{f:Hd->α}(hf:∀(h:Hd)(b:Bool)(l:List Bool),f{h with nul:=b,fi:=l}=f h):∀(l:List Pr)(hs:List Hd)(g:Bool),Q0o f hs(Q5h l hs g).1
 | [],hs,_=>Q0o.refl f hs
 |p::l,hs,g=>Q0o.trans(Q0o.put(hf _ _ _))(z1s hf l _ _)
theorem z01{α:Type}{f:Hd->α}(hf:∀(h:Hd)(b:Bool),f{h with fru:=b}=f h):∀(l:List Pr)(hs:List Hd)(g:Bool),Q0o f hs(Q47 l hs g).1
 | [],hs,_=>Q0o.refl f hs
 |p::l,hs,g=>Q0o.trans(Q0o.put(hf _ _))(z01 hf l _ _)
theorem z4y{α:Type}{f:Hd->α}(hf:∀(h:Hd)(l:List Bool),f{h with fo:=l}=f h)(ph:Int):∀(l:List Sy)(hs:List Hd)(g:Bool),Q0o f hs(Q23 ph l hs g).1
 | [],hs,_=>Q0o.refl f hs
 |s::l,hs,g=>by
  unfold Q23;split
  ·exact z4y hf ph l hs g
  exact Q0o.trans(Q0o.put(hf _ _))(z4y hf ph l _ _)
theorem z1f{α:Type}{f:Hd->α}(hf:∀(h:Hd)(l:List Bool),f{h with fo:=l}=f h):∀(l:List Pr)(hs:List Hd)(g:Bool),Q0o f hs(Q5j l hs g).1
 | [],hs,_=>Q0o.refl f hs
 |p::l,hs,g=>Q0o.trans(z4y hf p.head p.syms hs g)(z1f hf l _ _)
theorem z5a{α:Type}{f:Hd->α}(hf:∀(h:Hd)(b:Bool),f{h with rch:=b}=f h):∀(l:List Sy)(hs:List Hd)(g:Bool),Q0o f hs(Q3j l hs g).1
 | [],hs,_=>Q0o.refl f hs
 |s::l,hs,g=>by
  unfold Q3j;split
  ·exact z5a hf l hs g
  exact Q0o.trans(Q0o.put(hf _ _))(z5a hf l _ _)
theorem z0x{α:Type}{f:Hd->α}(hf:∀(h:Hd)(b:Bool),f{h with rch:=b}=f h):∀(l:List Pr)(hs:List Hd)(g:Bool),Q0o f hs(Q3r l hs g).1
 | [],hs,_=>Q0o.refl f hs
 |p::l,hs,g=>by
  unfold Q3r;split
  ·exact z0x hf l hs g
  exact Q0o.trans(z5a hf p.syms hs g)(z0x hf l _ _)
theorem y0k{hs hs':List Hd}(h1:Q0o Hd.nul hs hs')(h2:Q0o Hd.fi hs hs'):∀(l:List Sy)(acc:List Bool),Q2u hs' l acc=Q2u hs l acc
 | [],_=>rfl
 |s::l,acc=>by
  unfold Q2u;rw[h1 s.num,h2 s.num,y0k h1 h2 l]
theorem y5p:∀{a c b d:List Bool},a.length=c.length->leB(a++b)(c++d)->leB a c/\leB b d
 | [],[],_,_,_,h=>⟨trivial,h⟩
 |x::xs,y::ys,_,_,e,h=>by
  have:=y5p(a:=xs)(c:=ys)(by simpa using e)h.2;exact⟨⟨h.1,this.1⟩,this.2⟩
theorem Hd.le.parts{a b:Hd}(ha:a.ok)(hb:b.ok)(h:a.le b):(a.nul=true->b.nul=true)/\(a.rch=true->b.rch=true)/\(a.fru=true->b.fru=true)/\leB a.fi b.fi/\leB a.fo b.fo:=by
 obtain⟨h1,h2,h3,h4⟩:=h;have:=y5p(by rw[ha.fi,hb.fi])h4;exact⟨h1,h2,h3,this.1,this.2⟩
def Up(hs hs':List Hd):Prop:=∀n,(Q1l hs n).le(Q1l hs' n)
theorem Up.refl(hs:List Hd):Up hs hs:=fun _=>Hd.le_refl _
theorem Up.trans{a b c:List Hd}(h:Up a b)(k:Up b c):Up a c:=fun n=>Hd.le_trans(h n)(k n)
theorem Up.put{hs:List Hd}{n:Int}{x:Hd}(h:(Q1l hs n).le x):Up hs(Q7o hs n x):=fun m=>by
 rw[z1d];split
 ·rename_i e;rw[e.1];exact h
 exact Hd.le_refl _
theorem x3w{hs:List Hd}(hok:∀x∈hs,x.ok)(p:Pr):Up hs(Q3k hs p).1:=Up.put(v08(z0k hok _)_(z1a hok _ _ rfl))
theorem x2g(hs:List Hd)(p:Pr):Up hs(Q4t hs p).1:=Up.put(x8e _ _)
theorem z8i:∀(l:List Sy)(hs:List Hd)(g:Bool),Up hs(Q3j l hs g).1
 | [],hs,_=>Up.refl hs
 |s::l,hs,g=>by
  unfold Q3j;split
  ·exact z8i l hs g
  exact Up.trans(Up.put(x44 _))(z8i l _ _)
theorem z8q:∀(l:List Pr)(hs:List Hd)(g:Bool),Up hs(Q3r l hs g).1
 | [],hs,_=>Up.refl hs
 |p::l,hs,g=>by
  unfold Q3r;split
  ·exact z8q l hs g
  exact Up.trans(z8i p.syms hs g)(z8q l _ _)
theorem y11{a:List Bool}{n:Int}{t:Nat}(h:(Q2g a n).getD t false=true):a.getD t false=true∨(0<=n/\n.toNat=t):=by
 unfold Q2g at h;split at h
 ·rename_i hn;simp only[qD,List.getElem?_set]at h ⊢;by_cases e:n.toNat=t
  ·exact .inr⟨hn.1,e⟩
  rw[if_neg e]at h;exact .inl h
 exact .inl h
theorem y9f{a:List Bool}(ha:a.length=9)(n:Int):leB a(Q2g a n):=by
 refine y8e(by rw[z2i ha,ha])(fun i hi=>?_);unfold Q2g;split
 ·simp only[qD,List.getElem?_set]at hi ⊢;split
  ·split
   ·rfl
   rename_i h1 h2;rw[qN(by omega)]at hi;simp at hi
  exact hi
 exact hi
theorem y9y{a b:List Bool}(ha:a.length=9)(hb:b.length=9)(h:leB a b)(n:Int):leB(Q2g a n)(Q2g b n):=by
 refine y8e(by rw[z2i ha,z2i hb])(fun i hi=>?_);rcases y11 hi with h1|⟨h1,h2⟩
 ·exact z4v(y9f hb n)i(z4v h i h1)
 unfold Q2g at hi ⊢;split
 ·rename_i hn;rw[if_pos hn]at hi;simp only[qD,List.getElem?_set,h2,if_true]at hi ⊢;rw[if_pos(by omega)];rfl
 rename_i hn;rw[if_neg hn]at hi;exact z4v h i hi
theorem x6h{a b c d:List Bool}(h1:leB a c)(h2:leB b d)(e:a.length=b.length):leB(orL a b)(orL c d):=by
 have e1:=y2s h1;have e2:=y2s h2;refine y8e(by simp[orL,← e1,← e2])(fun i hi=>?_);rw[z3n e]at hi;rw[z3n(by omega)];simp only[Bool.or_eq_true]at hi ⊢;rcases hi with hi|hi
 ·exact .inl(z4v h1 i hi)
 exact .inr(z4v h2 i hi)
theorem y45{hs hs':List Hd}(hok:∀x∈hs,x.ok)(hok':∀x∈hs',x.ok)(hu:Up hs hs'):∀(l:List Sy)(acc acc':List Bool),acc.length=9->leB acc acc' ->
  leB(Q2u hs l acc).1(Q2u hs' l acc').1/\((Q2u hs l acc).2=true->(Q2u hs' l acc').2=true)
 | [],_,_,_,h=>⟨h,fun e=>e⟩
 |s::l,acc,acc',ha,h=>by
  have ha':acc'.length=9:=by rw[← y2s h];exact ha
  obtain⟨p1,_,_,p4,_⟩:=(hu s.num).parts(z0k hok _)(z0k hok' _);have o1:=(z0k hok s.num).fi;have o2:=(z0k hok' s.num).fi;have j0:=x6h h p4(by rw[ha,o1]);have j1:(orL acc(Q1l hs s.num).fi).length=9:=z04 ha o1;unfold Q2u;cases hs1:s.isH
  ·rw[if_pos rfl,if_pos rfl];exact⟨y9y ha ha' h _,fun e=>e⟩
  simp only[Bool.true_eq_false,if_false];cases hn:(Q1l hs s.num).nul
  ·simp only[if_true];refine⟨?_,fun e=>by cases e⟩;split
   ·exact j0
   have h3:∀(l:List Sy)(acc:List Bool),acc.length=9->leB acc(Q2u hs' l acc).1:=by
    intro l;induction l with
    |nil=>intro acc _;exact z17 _
    |cons s l ih =>
     intro acc ha;unfold Q2u;split
     ·exact y9f ha _
     split
     ·exact z81(by rw[ha,(z0k hok' _).fi])
     exact z43(z81(by rw[ha,(z0k hok' _).fi]))(ih _(z04 ha(z0k hok' _).fi))
   exact z43 j0(h3 l _(z04 ha' o2))
  simp only[Bool.true_eq_false,if_false];rw[p1 hn];simp only[Bool.true_eq_false,if_false];exact y45 hok hok' hu l _ _ j1 j0
theorem z5t{hs hs':List Hd}(hok:∀x∈hs,x.ok)(hok':∀x∈hs',x.ok)(hu:Up hs hs')(l:List Sy)(h:Q43 hs l=true):Q43 hs' l=true:=by
 unfold Q43 at h ⊢;rw[List.all_eq_true]at h ⊢;intro s hs1;have:=h s hs1;unfold fruB at this ⊢;simp only[Bool.or_eq_true]at this ⊢;rcases this with h1|h1
 ·exact .inl h1
 exact .inr(((hu s.num).parts(z0k hok _)(z0k hok' _)).2.2.1 h1)
structure Q1c(ps:List Pr)(R H:Nat):Prop where
 hd:∀p∈ps,0<=p.head/\p.head<H
 sy:∀p∈ps,∀s∈p.syms,0<=s.num/\s.num<(if s.isH then(H:Int)else R)
def BFi(R:Nat)(hs:List Hd):Prop:=∀n t,(Q1l hs n).fi.getD t false=true->t<R
def BFo(R:Nat)(hs:List Hd):Prop:=∀n t,(Q1l hs n).fo.getD t false=true->t<=R
theorem y6z{R H:Nat}{hs:List Hd}(hok:∀x∈hs,x.ok)(hb:BFi R hs):∀(l:List Sy)(acc:List Bool),acc.length=9->(∀s∈l,0<=s.num/\s.num<(if s.isH then(H:Int)else R))->(∀t,acc.getD t false=true->t<R)->∀t,(Q2u hs l acc).1.getD t false=true->t<R
 | [],_,_,_,h,t,ht=>h t ht
 |s::l,acc,ha,hv,h,t,ht=>by
  have hor:∀t,(orL acc(Q1l hs s.num).fi).getD t false=true->t<R:=fun t ht=>by
   rw[z3n(by rw[ha,(z0k hok _).fi])]at ht;simp only[Bool.or_eq_true]at ht;rcases ht with ht|ht
   ·exact h t ht
   exact hb _ t ht
  unfold Q2u at ht;cases hs1:s.isH
  ·rw[if_pos hs1]at ht;have h1:=hv s(by simp);rw[hs1]at h1;simp only[Bool.false_eq_true,if_false]at h1;rcases y11 ht with h2|⟨h2,h3⟩
   ·exact h t h2
   omega
  rw[if_neg(by simp[hs1])]at ht;split at ht
  ·exact hor t ht
  exact y6z hok hb l _(z04 ha(z0k hok _).fi)(fun s hs=>hv s(by simp[hs]))hor t ht
theorem z3t(t:Nat):Q0w.getD t false=false:=by
 rcases t with _|_|_|_|_|_|_|_|_|t<;>simp[Q0w]
def SupN(ps:List Pr)(hs:List Hd):Prop:=∀n,(Q1l hs n).nul=true->∃p∈ps,p.head=n/\(Q2u hs p.syms Q0w).2=true
def SupF(ps:List Pr)(hs:List Hd):Prop:=∀n t,(Q1l hs n).fi.getD t false=true->∃p∈ps,p.head=n/\(Q2u hs p.syms Q0w).1.getD t false=true
def SupU(ps:List Pr)(hs:List Hd):Prop:=∀n,(Q1l hs n).fru=true->∃p∈ps,p.head=n/\Q43 hs p.syms=true
structure IB(ps:List Pr)(R:Nat)(hs0 hs:List Hd):Prop where
 ok:∀x∈hs,x.ok
 bfi:BFi R hs
 sn:SupN ps hs
 sf:SupF ps hs
 up:Up hs0 hs
theorem IB.step{ps:List Pr}{R H:Nat}(hT:Q1c ps R H){hs0 hs:List Hd}(h:IB ps R hs0 hs){p:Pr}(hp:p∈ps):IB ps R hs0(Q3k hs p).1:=by
 have j1:=h.ok;have j2:∀x∈(Q3k hs p).1,x.ok:=(z3r j1 p false).ok;have hu:=x3w j1 p;have j3:=z1a j1 p.syms Q0w rfl;have mono:=fun(q:Pr)=>y45 j1 j2 hu q.syms Q0w Q0w rfl(z17 _);refine⟨j2,?_,?_,?_,h.up.trans hu⟩
 ·intro n t ht;unfold Q3k at ht;rw[z1d]at ht;split at ht
  ·dsimp only at ht;rw[z3n(by rw[(z0k j1 _).fi,j3])]at ht;simp only[Bool.or_eq_true]at ht;rcases ht with ht|ht
   ·exact h.bfi _ t ht
   exact y6z j1 h.bfi p.syms Q0w rfl(hT.sy p hp)(fun t h=>by rw[z3t]at h;cases h)t ht
  exact h.bfi n t ht
 ·intro n hn;have j0:=hn;unfold Q3k at j0;rw[z1d]at j0;split at j0
  ·rename_i e;dsimp only at j0;simp only[Bool.or_eq_true]at j0;rcases j0 with h1|h1
   ·obtain⟨q,hq1,hq2,hq3⟩:=h.sn _ h1;exact⟨q,hq1,hq2.trans e.1.symm,(mono q).2 hq3⟩
   exact⟨p,hp,e.1.symm,(mono p).2 h1⟩
  obtain⟨q,hq1,hq2,hq3⟩:=h.sn n j0;exact⟨q,hq1,hq2,(mono q).2 hq3⟩
 intro n t hn;have j0:=hn;unfold Q3k at j0;rw[z1d]at j0;split at j0
 ·rename_i e;dsimp only at j0;rw[z3n(by rw[(z0k j1 _).fi,j3])]at j0;simp only[Bool.or_eq_true]at j0;rcases j0 with h1|h1
  ·obtain⟨q,hq1,hq2,hq3⟩:=h.sf _ t h1;exact⟨q,hq1,hq2.trans e.1.symm,z4v(mono q).1 t hq3⟩
  exact⟨p,hp,e.1.symm,z4v(mono p).1 t h1⟩
 obtain⟨q,hq1,hq2,hq3⟩:=h.sf n t j0;exact⟨q,hq1,hq2,z4v(mono q).1 t hq3⟩
theorem IB.list{ps:List Pr}{R H:Nat}(hT:Q1c ps R H){hs0:List Hd}:∀(l:List Pr)(hs:List Hd)(g:Bool),(∀p∈l,p∈ps)->IB ps R hs0 hs->IB ps R hs0(Q5h l hs g).1
 | [],_,_,_,h=>h
 |p::l,hs,g,hl,h=>IB.list hT l _ _(fun q hq=>hl q(by simp[hq]))(h.step hT(hl p(by simp)))
structure IU(ps:List Pr)(hs0 hs:List Hd):Prop where
 ok:∀x∈hs,x.ok
 su:SupU ps hs
 up:Up hs0 hs
theorem IU.step{ps:List Pr}{hs0 hs:List Hd}(h:IU ps hs0 hs){p:Pr}(hp:p∈ps):IU ps hs0(Q4t hs p).1:=by
 have j2:=h.ok;have j0:∀x∈(Q4t hs p).1,x.ok:=(z47 j2 p false).ok;have hu:=x2g hs p;refine⟨j0,?_,h.up.trans hu⟩;intro n hn;have j1:=hn;unfold Q4t at j1;rw[z1d]at j1;split at j1
 ·rename_i e;dsimp only at j1;simp only[Bool.or_eq_true]at j1;rcases j1 with h1|h1
  ·obtain⟨q,hq1,hq2,hq3⟩:=h.su _ h1;exact⟨q,hq1,hq2.trans e.1.symm,z5t j2 j0 hu _ hq3⟩
  exact⟨p,hp,e.1.symm,z5t j2 j0 hu _ h1⟩
 obtain⟨q,hq1,hq2,hq3⟩:=h.su n j1;exact⟨q,hq1,hq2,z5t j2 j0 hu _ hq3⟩
theorem IU.list{ps:List Pr}{hs0:List Hd}:∀(l:List Pr)(hs:List Hd)(g:Bool),(∀p∈l,p∈ps)->IU ps hs0 hs->IU ps hs0(Q47 l hs g).1
 | [],_,_,_,h=>h
 |p::l,hs,g,hl,h=>IU.list l _ _(fun q hq=>hl q(by simp[hq]))(h.step(hl p(by simp)))
structure IS(R:Nat)(hs0 hs:List Hd):Prop where
 ok:∀x∈hs,x.ok
 bfi:BFi R hs
 bfo:BFo R hs
 up:Up hs0 hs
theorem IS.syms{R H:Nat}{hs0:List Hd}(ph:Int):∀(l:List Sy)(hs:List Hd)(g:Bool),(∀s∈l,0<=s.num/\s.num<(if s.isH then(H:Int)else R))->IS R hs0 hs->IS R hs0(Q23 ph l hs g).1
 | [],_,_,_,h=>h
 |s::l,hs,g,hv,h=>by
  have hv':∀s∈l,0<=s.num/\s.num<(if s.isH then(H:Int)else R):=fun s hs=>hv s(by simp[hs]);unfold Q23;split
  ·exact IS.syms ph l hs g hv' h
  refine IS.syms ph l _ _ hv' ?_;have j0:=h.ok;have j1:=z3d j0 ph l;refine⟨y57 j0 _⟨(z0k j0 s.num).fi,z04(z0k j0 s.num).fo j1⟩,?_,?_,h.up.trans(Up.put(v0u(z0k j0 _)j1))⟩
  ·intro n t ht;rw[z1d]at ht;split at ht
   ·exact h.bfi _ t ht
   exact h.bfi n t ht
  intro n t ht;rw[z1d]at ht;split at ht
  ·unfold Q5q at ht;dsimp only at ht;rw[z3n(by rw[(z0k j0 _).fo,j1])]at ht;simp only[Bool.or_eq_true]at ht;rcases ht with ht|ht
   ·exact h.bfo _ t ht
   have j2:=y6z j0 h.bfi l Q0w rfl hv'(fun t h=>by rw[z3t]at h;cases h);unfold Q8k at ht;split at ht
   ·rw[z3n(by rw[z1a j0 _ _ rfl,(z0k j0 _).fo])]at ht;simp only[Bool.or_eq_true]at ht;rcases ht with ht|ht
    ·have:=j2 t ht;omega
    exact h.bfo _ t ht
   have:=j2 t ht;omega
  exact h.bfo n t ht
theorem IS.list{ps:List Pr}{R H:Nat}(hT:Q1c ps R H){hs0:List Hd}:∀(l:List Pr)(hs:List Hd)(g:Bool),(∀p∈l,p∈ps)->IS R hs0 hs->IS R hs0(Q5j l hs g).1
 | [],_,_,_,h=>h
 |p::l,hs,g,hl,h=>IS.list hT l _ _(fun q hq=>hl q(by simp[hq]))(IS.syms p.head p.syms hs g(hT.sy p(hl p(by simp)))h)
structure Q90(ps:List Pr)(R H:Nat)(hs:List Hd):Prop where
 ok:∀x∈hs,x.ok
 len:hs.length=H
 bfi:BFi R hs
 bfo:BFo R hs
 clN:∀p∈ps,(Q2u hs p.syms Q0w).2=true->(Q1l hs p.head).nul=true
 clF:∀p∈ps,∀t,(Q2u hs p.syms Q0w).1.getD t false=true->(Q1l hs p.head).fi.getD t false=true
 sn:SupN ps hs
 sf:SupF ps hs
 clU:∀p∈ps,Q43 hs p.syms=true->(Q1l hs p.head).fru=true
 su:SupU ps hs
 clS:∀p∈ps,∀a s b,p.syms=a++s::b->s.isH=true->∀t,(Q8k hs p.head b).getD t false=true->(Q1l hs s.num).fo.getD t false=true
 clR:∀p∈ps,(Q1l hs p.head).rch=true->∀s∈p.syms,s.isH=true->(Q1l hs s.num).rch=true
 st1:0<H->(Q1l hs 0).rch=true
 st2:0<H->(Q1l hs 0).fo.getD R false=true
theorem z79(R:Int):∀n,∀x∈Q0x R n,x.ok
 |0,x,hx=>by simp[Q0x]at hx
 |n+1,x,hx=>by
  simp only[Q0x,List.mem_append,List.mem_singleton]at hx;rcases hx with hx|rfl
  ·exact z79 R n x hx
  exact y23 _ _
theorem y7q(R:Int):∀(n i:Nat),i<n->(Q0x R n)[i]? = some(Q5e R i)
 |n+1,i,hi=>by
  unfold Q0x;by_cases h:i<n
  ·rw[List.getElem?_append_left(by rw[z1y];exact h)];exact y7q R n i h
  have:i=n:=by omega
  subst this;rw[List.getElem?_append_right(by rw[z1y];omega),z1y];simp
theorem z31(R:Int)(H:Nat)(n:Int):Q1l(Q0x R H)n=if 0<=n/\n<H then Q5e R n.toNat else Q15:=by
 unfold Q1l;by_cases h0:0<=n
 ·rw[if_pos h0];by_cases hl:n<H
  ·rw[y7q R H n.toNat(by omega),if_pos⟨h0,hl⟩];rfl
  rw[qN(by rw[z1y];omega),if_neg(by omega)];rfl
 rw[if_neg h0,if_neg(by omega)]
theorem Q0o.beg{hs hs':List Hd}(h1:Q0o Hd.nul hs hs')(h2:Q0o Hd.fi hs hs')(l:List Sy)(acc:List Bool):Q2u hs' l acc=Q2u hs l acc:=y0k h1 h2 l acc
theorem z8z{ps:List Pr}{R H:Nat}(hT:Q1c ps R H)(hR:R<=8):Q90 ps R H(Q34 ps(Q0x R H)):=by
 have j2:=z79(R:Int)H;have hz:∀n,(Q1l(Q0x(R:Int)H)n).fi=Q0w/\(Q1l(Q0x(R:Int)H)n).nul=false/\(Q1l(Q0x(R:Int)H)n).fru=false:=fun n=>by
  rw[z31];split
  ·unfold Q5e;split<;>exact⟨rfl,rfl,rfl⟩
  exact⟨rfl,rfl,rfl⟩
 have i0:IB ps R(Q0x(R:Int)H)(Q0x(R:Int)H):=by
  refine⟨j2,?_,?_,?_,Up.refl _⟩
  ·intro n t h;rw[(hz n).1,z3t]at h;cases h
  ·intro n h;rw[(hz n).2.1]at h;cases h
  intro n t h;rw[(hz n).1,z3t]at h;cases h
 obtain⟨⟨i1,kr1,ku1,ko1⟩,ok1,l1,f1⟩:=z1n(z2u ps)(I:=fun hs=>IB ps R(Q0x(R:Int)H)hs/\Q0o Hd.rch(Q0x(R:Int)H)hs/\Q0o Hd.fru(Q0x(R:Int)H)hs/\Q0o Hd.fo(Q0x(R:Int)H)hs)
  (fun hs _ h=>⟨IB.list hT ps hs false(fun _ hp=>hp)h.1,h.2.1.trans(z1s(fun _ _ _=>rfl)ps hs false),h.2.2.1.trans(z1s(fun _ _ _=>rfl)ps hs false),h.2.2.2.trans(z1s(fun _ _ _=>rfl)ps hs false)⟩)j2⟨i0,Q0o.refl _ _,Q0o.refl _ _,Q0o.refl _ _⟩
 generalize hq1:Q44(Q8f ps)(Q0x(R:Int)H)=hs1 at i1 kr1 ku1 ko1 ok1 l1 f1;rw[z1y]at l1;have c1:∀p∈ps,Q1l hs1 p.head={Q1l hs1 p.head with nul:=(Q1l hs1 p.head).nul||(Q2u hs1 p.syms Q0w).2,fi:=orL(Q1l hs1 p.head).fi(Q2u hs1 p.syms Q0w).1}:=fun p hp=>by
  have:=z9n ps hs1 false ok1(by show(Q8f ps hs1).2=false;rw[f1])p hp;exact z5i this(hT.hd p hp).1(by rw[l1];exact(hT.hd p hp).2)
 have j7:∀p∈ps,(Q2u hs1 p.syms Q0w).2=true->(Q1l hs1 p.head).nul=true:=fun p hp e=>by
  rw[c1 p hp];simp[e]
 have j5:∀p∈ps,∀t,(Q2u hs1 p.syms Q0w).1.getD t false=true->(Q1l hs1 p.head).fi.getD t false=true:=fun p hp t e=>by
  rw[c1 p hp];dsimp only;rw[z3n(by rw[(z0k ok1 _).fi,z1a ok1 _ _ rfl]),e];simp
 have j8:BFo R hs1:=fun n t h=>by
  rw[ko1 n,z31]at h;split at h
  ·unfold Q5e at h;split at h
   ·rcases y11 h with h2|⟨h2,h3⟩
    ·rw[z3t]at h2;cases h2
    omega
   have:Q15.fo=Q0w:=rfl;rw[this,z3t]at h;cases h
  have:Q15.fo=Q0w:=rfl;rw[this,z3t]at h;cases h
 obtain⟨⟨i2,kn2,kf2,kr2,ku2⟩,ok2,l2,f2⟩:=z1n(z2b ps)(I:=fun hs=>IS R hs1 hs/\Q0o Hd.nul hs1 hs/\Q0o Hd.fi hs1 hs/\Q0o Hd.rch hs1 hs/\Q0o Hd.fru hs1 hs)
  (fun hs _ h=>⟨IS.list hT ps hs false(fun _ hp=>hp)h.1,h.2.1.trans(z1f(fun _ _=>rfl)ps hs false),h.2.2.1.trans(z1f(fun _ _=>rfl)ps hs false),h.2.2.2.1.trans(z1f(fun _ _=>rfl)ps hs false),h.2.2.2.2.trans(z1f(fun _ _=>rfl)ps hs false)⟩)ok1⟨⟨ok1,i1.bfi,j8,Up.refl _⟩,Q0o.refl _ _,Q0o.refl _ _,Q0o.refl _ _,Q0o.refl _ _⟩
 generalize hq2:Q44(Q5n ps)hs1=hs2 at i2 kn2 kf2 kr2 ku2 ok2 l2 f2;have j6:∀p∈ps,∀a s b,p.syms=a++s::b->s.isH=true->∀t,(Q8k hs2 p.head b).getD t false=true->(Q1l hs2 s.num).fo.getD t false=true:=fun p hp a s b e hs1' t ht=>by
  have h1:=z8k ps hs2 false ok2(by show(Q5n ps hs2).2=false;rw[f2])p hp;have h2:=z5v p.head p.syms hs2 false ok2 h1 a s b e hs1';have hv:=hT.sy p hp s(by rw[e];simp);rw[hs1']at hv;simp only[if_true]at hv;have h3:=z5i h2 hv.1(by rw[l2,l1];exact hv.2);rw[h3];unfold Q5q;dsimp only;rw[z3n(by rw[(z0k ok2 _).fo,z3d ok2]),ht];simp
 obtain⟨⟨up3,kn3,kf3,ko3,ku3⟩,ok3,l3,f3⟩:=z1n(z2c ps)(I:=fun hs=>Up hs2 hs/\Q0o Hd.nul hs2 hs/\Q0o Hd.fi hs2 hs/\Q0o Hd.fo hs2 hs/\Q0o Hd.fru hs2 hs)
  (fun hs _ h=>⟨h.1.trans(z8q ps hs false),h.2.1.trans(z0x(fun _ _=>rfl)ps hs false),h.2.2.1.trans(z0x(fun _ _=>rfl)ps hs false),h.2.2.2.1.trans(z0x(fun _ _=>rfl)ps hs false),h.2.2.2.2.trans(z0x(fun _ _=>rfl)ps hs false)⟩)ok2⟨Up.refl _,Q0o.refl _ _,Q0o.refl _ _,Q0o.refl _ _,Q0o.refl _ _⟩
 generalize hq3:Q44(Q6z ps)hs2=hs3 at up3 kn3 kf3 ko3 ku3 ok3 l3 f3;have j4:∀p∈ps,(Q1l hs3 p.head).rch=true->∀s∈p.syms,s.isH=true->(Q1l hs3 s.num).rch=true:=fun p hp hr s hs hs1'=>by
  have h1:=z5s ps hs3 false ok3(by show(Q6z ps hs3).2=false;rw[f3])p hp hr;have h2:=z5u p.syms hs3 false ok3 h1 s hs hs1';have hv:=hT.sy p hp s hs;rw[hs1']at hv;simp only[if_true]at hv;have h3:=z5i h2 hv.1(by rw[l3,l2,l1];exact hv.2);rw[h3]
 have u3:IU ps hs3 hs3:=⟨ok3,fun n h=>(by rw[ku3 n,ku2 n,ku1 n,(hz n).2.2]at h;cases h),Up.refl _⟩;obtain⟨⟨i4,kn4,kf4,ko4,kr4⟩,ok4,l4,f4⟩:=z1n(z2a ps)(I:=fun hs=>IU ps hs3 hs/\Q0o Hd.nul hs3 hs/\Q0o Hd.fi hs3 hs/\Q0o Hd.fo hs3 hs/\Q0o Hd.rch hs3 hs)
  (fun hs _ h=>⟨IU.list ps hs false(fun _ hp=>hp)h.1,h.2.1.trans(z01(fun _ _=>rfl)ps hs false),h.2.2.1.trans(z01(fun _ _=>rfl)ps hs false),h.2.2.2.1.trans(z01(fun _ _=>rfl)ps hs false),h.2.2.2.2.trans(z01(fun _ _=>rfl)ps hs false)⟩)ok3⟨u3,Q0o.refl _ _,Q0o.refl _ _,Q0o.refl _ _,Q0o.refl _ _⟩
 have j1:Q34 ps(Q0x(R:Int)H)=Q44(Q72 ps)hs3:=by unfold Q34;rw[hq1,hq2,hq3]
 rw[j1];generalize Q44(Q72 ps)hs3=hs4 at i4 kn4 kf4 ko4 kr4 ok4 l4 f4;have j9:∀p∈ps,Q43 hs4 p.syms=true->(Q1l hs4 p.head).fru=true:=fun p hp e=>by
  have h1:=z8n ps hs4 false ok4(by show(Q72 ps hs4).2=false;rw[f4])p hp;have h3:=z5i h1(hT.hd p hp).1(by rw[l4,l3,l2,l1];exact(hT.hd p hp).2);rw[h3];simp[e]
 have kn:Q0o Hd.nul hs1 hs4:=(kn2.trans kn3).trans kn4;have kf:Q0o Hd.fi hs1 hs4:=(kf2.trans kf3).trans kf4;have ko:Q0o Hd.fo hs2 hs4:=ko3.trans ko4;have hb:=fun l acc=>Q0o.beg kn kf l acc;have j3:=fun l acc=>Q0o.beg kn2 kf2 l acc;have j0:∀ph l,Q8k hs4 ph l=Q8k hs2 ph l:=fun ph l=>by
  unfold Q8k;rw[hb,j3,ko ph]
 refine⟨ok4,by rw[l4,l3,l2,l1],?_,?_,?_,?_,?_,?_,j9,i4.su,?_,?_,?_,?_⟩
 ·intro n t h;rw[kf n]at h;exact i1.bfi n t h
 ·intro n t h;rw[ko n]at h;exact i2.bfo n t h
 ·intro p hp e;rw[hb]at e;rw[kn];exact j7 p hp e
 ·intro p hp t e;rw[hb]at e;rw[kf];exact j5 p hp t e
 ·intro n h;rw[kn n]at h;obtain⟨p,h1,h2,h3⟩:=i1.sn n h;exact⟨p,h1,h2,by rw[hb];exact h3⟩
 ·intro n t h;rw[kf n]at h;obtain⟨p,h1,h2,h3⟩:=i1.sf n t h;exact⟨p,h1,h2,by rw[hb];exact h3⟩
 ·intro p hp a s b e hs1' t ht;rw[j0]at ht;rw[ko];exact j6 p hp a s b e hs1' t ht
 ·intro p hp hr s hs hs1';rw[kr4]at hr ⊢;exact j4 p hp hr s hs hs1'
 ·intro hH;have h1:(Q1l(Q0x(R:Int)H)0).rch=true:=by rw[z31,if_pos⟨by omega,by omega⟩];rfl
  have h2:(Q1l hs2 0).rch=true:=by rw[kr2,kr1];exact h1
  rw[kr4];exact((up3 0).parts(z0k ok2 _)(z0k ok3 _)).2.1 h2
 intro hH;have h1:(Q1l(Q0x(R:Int)H)0).fo.getD R false=true:=by
  rw[z31,if_pos⟨by omega,by omega⟩];show(Q2g Q0w(R:Int)).getD R false=true;unfold Q2g;rw[if_pos⟨by omega,by omega⟩];simp only[qD,Int.toNat_natCast,List.getElem?_set];simp only[if_true];rw[if_pos(by show R<9;omega)];rfl
 rw[ko];have h2:(Q1l hs1 0).fo.getD R false=true:=by rw[ko1];exact h1
 exact z4v((i2.up 0).parts(z0k ok1 _)(z0k ok2 _)).2.2.2.2 R h2
def sInt(s:Sy):Int:=if s.isH then -1-s.num else s.num
theorem y3m(a:List Bool)(t:Nat):∀k,(Q3t a k).any(·==(t:Int))=(decide(t<k)&&a.getD t false)
 |0=>by simp[Q3t]
 |k+1=>by
  have ih:=y3m a t k;unfold Q3t;by_cases e:t=k
  ·subst e;cases hq:a.getD t false
   ·simp only[Bool.false_eq_true,if_false,ih,hq,Bool.and_false]
   simp only[if_true,List.any_append,List.any_cons,List.any_nil,ih,hq];simp
  have h1:(((k:Nat):Int)==(t:Int))=false:=by simp;omega
  have h2:decide(t<k+1)=decide(t<k):=by simp only[decide_eq_decide];omega
  rw[h2];split
  ·rw[List.any_append,ih];simp[h1]
  exact ih
theorem x5g{a:List Bool}(ha:a.length=9)(t:Nat):(Q3e a).any(·==(t:Int))=a.getD t false:=by
 unfold Q3e;rw[y3m];by_cases h:t<9
 ·simp[h]
 have:a.getD t false=false:=by simp[qN(show a.length<=t by omega)]
 rw[this];simp
section
variable{ps:List Pr}{R H:Nat}{hs:List Hd}
end
end Go.Proofs.YtcpceafmlgaodaaGreat
