import Derived.Test.YtcpceafmlgaodaaGreatPd6
import Derived.Test.YtcpceafmlgaodaaGreatMu7
namespace Go.Proofs.YtcpceafmlgaodaaGreat
open Go.RowKit
set_option maxRecDepth 99999
set_option maxHeartbeats 0
set_option linter.all false
def Q7p(s:ByteArray):List Hd:=Q3w (Q0q (Q0c s).1) (Q0v ((Q0f (Q0c s).1).length:Nat) (Q0h (Q0c s).1).length)
theorem z86:∀(l:List Ln) (acc:List Wd),(Q11 l acc).length<=acc.length+l.length
 | [],acc=>by simp[Q11]
 |x::l,acc=>by
  unfold Q11;have h1:=z86 l acc;have h2:=z86 l (acc++[x.front]);simp only[qP,qAy,qDp]at h1 h2 ⊢;split
  ·omega
  split<;>omega
theorem y5e{s:ByteArray}(h:(Q0t s).1=0):(Q0f (Q0c s).1).length<=800/\(Q0h (Q0c s).1).length<=800/\(Q0q (Q0c s).1).length<=800:=by
 have j1:=y7r h;have j0:=(z47 s).1;have h1:=z86 (Q0c s).1 [];have h2:=qCw Q07 (Q0c s).1;have h3:=qCw (fun x=>!Q07 x) (Q0c s).1;unfold Q0f Q0h Q0q Q04;simp only[qAo,qDp]at *;omega
theorem Q0i{a b:World}{p:Addr}{v:Value}(h:Q0a a b)(hc:a.cell? p=some v):b.cell? p=some v:=by
 have hp:p.block<a.heap.size:=by
  unfold World.cell? at hc;split at hc
  ·rename_i hq;exact z0j hq
  cases hc
 have hb:=h.block p.block hp (fun x=>x);unfold World.cell? at hc ⊢;rw[hb];exact hc
def Q0z(w:World)(v:Value)(l:List Int):Prop :=
 ∃ao cap,v=.slice ao l.length cap/\l.length<=cap/\∀j (h:j<l.length),∃g o,ao=some ⟨g,o,none⟩/\w.cell? ⟨g,o+j,none⟩=some (.int .i64 l[j])
theorem Q0z.fresh{w w':World}{v:Value}{l:List Int}(h:Q0z w v l)(hf:Q0a w w'):Q0z w' v l:=by
 obtain⟨ao,cap,h1,h2,h3⟩:=h;refine⟨ao,cap,h1,h2,fun j hj=>?_⟩;obtain⟨g,o,h4,h5⟩:=h3 j hj;exact⟨g,o,h4,Q0i hf h5⟩
theorem IntOwn.at'{w:World}{base:Nat}{v:Value}{l:List Int}(h:IntOwn w base v l):Q0z w v l:=by
 rcases h.2 with⟨rfl,h0⟩|⟨g,cap,cur,rfl,_,_,hc,_⟩
 ·exact⟨none,0,by rw[h0],by omega,fun j hj=>by omega⟩
 refine⟨_,_,rfl,hc,fun j hj=>⟨g,0,rfl,?_⟩⟩;have:=h.cells (g:=g) rfl j (.int .i64 l[j]) (by simp[hj]);rwa [Addr.add_mid]at this
theorem Q0z.drop{w:World}{gs os cap:Nat}{l:List Int}(h:Q0z w (.slice (some ⟨gs,os,none⟩) l.length cap) l)(k:Nat)(hk:k<=l.length) :
  Q0z w (.slice (some ⟨gs,os+k,none⟩) (l.length-k) (cap-k)) (l.drop k):=by
 obtain⟨ao,c,h1,h2,h4⟩:=h;rw[qI]at h1;obtain⟨rfl,_,rfl⟩:=h1;refine⟨some ⟨gs,os+k,none⟩,cap-k,by simp,by simp;omega,fun i hi=>?_⟩;simp only[qBx]at hi;obtain⟨g,o,e1,e3⟩:=h4 (k+i) (by omega);simp only[qO,Addr.mk.injEq]at e1;obtain⟨rfl,rfl,_⟩:=e1;refine⟨gs,os+k,rfl,?_⟩;rw[qCm];simpa using e3
theorem Q0z.none{w:World}{ao:Option Addr}{l:List Int}(hl:l=[]){n c:Nat}(hn:n=0):Q0z w (.slice ao n c) l:=by
 subst hl;subst hn;exact⟨ao,c,rfl,by simp,fun i hi=>by simp at hi⟩
theorem z38(a:List Bool):(Q28 a).length<=9:=z9a a 9
theorem z1c(hs:List Hd)(n m:Int)(x:Hd):Q1i (Q7m hs n x) m=if m=n/\0<=n/\n<hs.length then x else Q1i hs m:=by
 unfold Q1i Q7m;by_cases hn:0<=n
 ·rw[qAb hn];by_cases hm:0<=m
  ·rw[qAb hm,qAb hm,qBy];by_cases e:n.toNat=m.toNat
   ·have e2:m=n:=by omega
    subst e2;rw[qAb e];by_cases hl:m.toNat<hs.length
    ·rw[qAb hl,qAb ⟨rfl,hn,by omega⟩];rfl
    rw[qAa hl,qAa (by omega),qN (by omega)]
   rw[qAa e,qAa (by omega)]
  rw[qAa hm,qAa hm,qAa (by omega)]
 rw[qAa hn,qAa (show ¬(m=n/\0<=n/\n<hs.length) from fun h=>hn h.2.1)]
theorem z5i{hs:List Hd}{n:Int}{x:Hd}(h:Q6v hs n x=false)(h0:0<=n)(hl:n<hs.length):Q1i hs n=x:=by
 unfold Q6v at h;unfold Q1i;rw[qAb h0]at h ⊢;rw[qE (by omega)]at h ⊢;exact z72.1 (by simpa using h)
theorem z80:∀(l:List Pr) (hs:List Hd) (g:Bool),(∀x∈hs,x.ok)->(Q5a l hs g).2=false->∀p∈l,(Q3e hs p).2=false
 | [],_,_,_,_,p,hp=>by cases hp
 |q::l,hs,g,hok,h,p,hp=>by
  have h1:=z3r hok q g;have h2:=z4x l h1.ok (g||(Q3e hs q).2);have h3:=(h2.same h).1;simp only[qBm]at h3;have h4:=(h1.same (by simpa using h3)).2;simp only[qBc]at hp;rcases hp with rfl|hp
  ·exact h3.2
  have h5:(Q5a l (Q3e hs q).1 (g||(Q3e hs q).2)).2=false:=h;dsimp only at h4;rw[h4]at h5;exact z80 l hs _ hok h5 p hp
theorem z81:∀(l:List Pr) (hs:List Hd) (g:Bool),(∀x∈hs,x.ok)->(Q41 l hs g).2=false->∀p∈l,(Q4n hs p).2=false
 | [],_,_,_,_,p,hp=>by cases hp
 |q::l,hs,g,hok,h,p,hp=>by
  have h1:=z4y hok q g;have h2:=z4z l h1.ok (g||(Q4n hs q).2);have h3:=(h2.same h).1;simp only[qBm]at h3;have h4:=(h1.same (by simpa using h3)).2;simp only[qBc]at hp;rcases hp with rfl|hp
  ·exact h3.2
  have h5:(Q41 l (Q4n hs q).1 (g||(Q4n hs q).2)).2=false:=h;dsimp only at h4;rw[h4]at h5;exact z81 l hs _ hok h5 p hp
theorem z5u(ph:Int):∀(l:List Sy) (hs:List Hd) (g:Bool),(∀x∈hs,x.ok)->(Q2v ph l hs g).2=false->∀(a:List Sy) (s:Sy) (b:List Sy),l=a++s::b->s.isH=true->Q6v hs s.num (Q5i hs ph s.num b)=false
 | [],_,_,_,_,a,s,b,e,_=>by cases a<;>cases e
 |q::l,hs,g,hok,h,a,s,b,e,hs1=>by
  unfold Q2v at h;cases hq:q.isH
  ·rw[qAb hq]at h;cases a with
   |nil=>simp only[qBq,qAu]at e;obtain⟨rfl,_⟩:=e;rw[hq]at hs1;cases hs1
   |cons c a=>simp only[qAw,qAu]at e;exact z5u ph l hs g hok h a s b e.2 hs1
  rw[qAa (by simp[hq])]at h;have h1:Q2p hs (Q7m hs q.num (Q5i hs ph q.num l),g||Q6v hs q.num (Q5i hs ph q.num l)) g:=by
   refine Q2p.put hok ?_ ?_ g
   ·exact⟨(z0k hok q.num).fi,z04 (z0k hok q.num).fo (z3d hok _ _)⟩
   exact x9u (z0k hok _) (z3d hok _ _)
  have h2:=z26 ph l h1.ok (g||Q6v hs q.num (Q5i hs ph q.num l));have h3:=(h2.same h).1;have h4:=(h1.same h3).2;simp only[qBm]at h3;cases a with
  |nil=>simp only[qBq,qAu]at e;obtain⟨rfl,rfl⟩:=e;exact h3.2
  |cons c a =>
   simp only[qAw,qAu]at e;dsimp only at h4;rw[h4]at h;exact z5u ph l hs _ hok h a s b e.2 hs1
theorem z84:∀(l:List Pr) (hs:List Hd) (g:Bool),(∀x∈hs,x.ok)->(Q5b l hs g).2=false->∀p∈l,(Q2v p.head p.syms hs false).2=false
 | [],_,_,_,_,p,hp=>by cases hp
 |q::l,hs,g,hok,h,p,hp=>by
  have h1:=z26 q.head q.syms hok g;have h2:=z41 l h1.ok (Q2v q.head q.syms hs g).2;have h3:=(h2.same h).1;have h4:=h1.same h3;simp only[qBc]at hp;rcases hp with rfl|hp
  ·have h6:=h3;rw[h4.1]at h6;exact h6
  have h5:(Q5b l (Q2v q.head q.syms hs g).1 (Q2v q.head q.syms hs g).2).2=false:=h;rw[h4.2]at h5;exact z84 l hs _ hok h5 p hp
theorem z5t:∀(l:List Sy) (hs:List Hd) (g:Bool),(∀x∈hs,x.ok)->(Q3f l hs g).2=false->∀s∈l,s.isH=true->Q6v hs s.num {Q1i hs s.num with rch:=true}=false
 | [],_,_,_,_,s,hs,_=>by cases hs
 |q::l,hs,g,hok,h,s,hm,hs1=>by
  unfold Q3f at h;simp only[qBc]at hm;cases hq:q.isH
  ·rw[qAb hq]at h;rcases hm with rfl|hm
   ·rw[hq]at hs1;cases hs1
   exact z5t l hs g hok h s hm hs1
  rw[qAa (by simp[hq])]at h;have h1:Q2p hs (Q7m hs q.num {Q1i hs q.num with rch:=true},g||Q6v hs q.num {Q1i hs q.num with rch:=true}) g:=by
   refine Q2p.put hok ?_ ?_ g
   ·exact⟨(z0k hok q.num).fi,(z0k hok q.num).fo⟩
   exact x26 _
  have h2:=z25 l h1.ok (g||Q6v hs q.num {Q1i hs q.num with rch:=true});have h3:=(h2.same h).1;have h4:=(h1.same h3).2;simp only[qBm]at h3;rcases hm with rfl|hm
  ·exact h3.2
  dsimp only at h4;rw[h4]at h;exact z5t l hs _ hok h s hm hs1
theorem z5s:∀(l:List Pr) (hs:List Hd) (g:Bool),(∀x∈hs,x.ok)->(Q3j l hs g).2=false->∀p∈l,(Q1i hs p.head).rch=true->(Q3f p.syms hs false).2=false
 | [],_,_,_,_,p,hp,_=>by cases hp
 |q::l,hs,g,hok,h,p,hp,hr=>by
  unfold Q3j at h;simp only[qBc]at hp;cases hq:(Q1i hs q.head).rch
  ·rw[qAb hq]at h;rcases hp with rfl|hp
   ·rw[hq]at hr;cases hr
   exact z5s l hs g hok h p hp hr
  rw[qAa (by simp[hq])]at h;have h1:=z25 q.syms hok g;have h2:=z3s l h1.ok (Q3f q.syms hs g).2;have h3:=(h2.same h).1;have h4:=h1.same h3;rcases hp with rfl|hp
  ·have h6:=h3;rw[h4.1]at h6;exact h6
  rw[h4.2]at h;exact z5s l hs _ hok h p hp hr
def Q0n{α:Type}(f:Hd->α)(hs hs':List Hd):Prop:=∀n,f (Q1i hs' n)=f (Q1i hs n)
theorem Q0n.refl{α:Type}(f:Hd->α)(hs:List Hd):Q0n f hs hs:=fun _=>rfl
theorem Q0n.trans{α:Type}{f:Hd->α}{a b c:List Hd}(h:Q0n f a b)(k:Q0n f b c):Q0n f a c:=fun n=>(k n).trans (h n)
theorem Q0n.put{α:Type}{f:Hd->α}{hs:List Hd}{n:Int}{x:Hd}(h:f x=f (Q1i hs n)):Q0n f hs (Q7m hs n x):=fun m=>by
 rw[z1c];split
 ·rename_i e;rw[e.1];exact h
 rfl
theorem z1s{α:Type}{f:Hd->α}(hf:∀(h:Hd) (b:Bool) (l:List Bool),f {h with nul:=b,fi:=l}=f h):∀(l:List Pr) (hs:List Hd) (g:Bool),Q0n f hs (Q5a l hs g).1
 | [],hs,_=>Q0n.refl f hs
 |p::l,hs,g=>Q0n.trans (Q0n.put (hf _ _ _)) (z1s hf l _ _)
theorem z01{α:Type}{f:Hd->α}(hf:∀(h:Hd) (b:Bool),f {h with fru:=b}=f h):∀(l:List Pr) (hs:List Hd) (g:Bool),Q0n f hs (Q41 l hs g).1
 | [],hs,_=>Q0n.refl f hs
 |p::l,hs,g=>Q0n.trans (Q0n.put (hf _ _)) (z01 hf l _ _)
theorem z42{α:Type}{f:Hd->α}(hf:∀(h:Hd) (l:List Bool),f {h with fo:=l}=f h) (ph:Int):∀(l:List Sy) (hs:List Hd) (g:Bool),Q0n f hs (Q2v ph l hs g).1
 | [],hs,_=>Q0n.refl f hs
 |s::l,hs,g=>by
  unfold Q2v;split
  ·exact z42 hf ph l hs g
  exact Q0n.trans (Q0n.put (hf _ _)) (z42 hf ph l _ _)
theorem z1d{α:Type}{f:Hd->α}(hf:∀(h:Hd) (l:List Bool),f {h with fo:=l}=f h):∀(l:List Pr) (hs:List Hd) (g:Bool),Q0n f hs (Q5b l hs g).1
 | [],hs,_=>Q0n.refl f hs
 |p::l,hs,g=>Q0n.trans (z42 hf p.head p.syms hs g) (z1d hf l _ _)
theorem z40{α:Type}{f:Hd->α}(hf:∀(h:Hd) (b:Bool),f {h with rch:=b}=f h):∀(l:List Sy) (hs:List Hd) (g:Bool),Q0n f hs (Q3f l hs g).1
 | [],hs,_=>Q0n.refl f hs
 |s::l,hs,g=>by
  unfold Q3f;split
  ·exact z40 hf l hs g
  exact Q0n.trans (Q0n.put (hf _ _)) (z40 hf l _ _)
theorem z0x{α:Type}{f:Hd->α}(hf:∀(h:Hd) (b:Bool),f {h with rch:=b}=f h):∀(l:List Pr) (hs:List Hd) (g:Bool),Q0n f hs (Q3j l hs g).1
 | [],hs,_=>Q0n.refl f hs
 |p::l,hs,g=>by
  unfold Q3j;split
  ·exact z0x hf l hs g
  exact Q0n.trans (z40 hf p.syms hs g) (z0x hf l _ _)
theorem y0l{hs hs':List Hd}(h1:Q0n Hd.nul hs hs')(h2:Q0n Hd.fi hs hs'):∀(l:List Sy) (acc:List Bool),Q2m hs' l acc=Q2m hs l acc
 | [],_=>rfl
 |s::l,acc=>by
  unfold Q2m;rw[h1 s.num,h2 s.num,y0l h1 h2 l]
theorem y38:∀{a c b d:List Bool},a.length=c.length->leB (a++b) (c++d)->leB a c/\leB b d
 | [],[],_,_,_,h=>⟨trivial,h⟩
 |x::xs,y::ys,_,_,e,h=>by
  have:=y38 (a:=xs) (c:=ys) (by simpa using e) h.2;exact⟨⟨h.1,this.1⟩,this.2⟩
theorem Hd.le.parts{a b:Hd}(ha:a.ok)(hb:b.ok)(h:a.le b):(a.nul=true->b.nul=true)/\(a.rch=true->b.rch=true)/\(a.fru=true->b.fru=true)/\leB a.fi b.fi/\leB a.fo b.fo:=by
 obtain⟨h1,h2,h3,h4⟩:=h;have:=y38 (by rw[ha.fi,hb.fi]) h4;exact⟨h1,h2,h3,this.1,this.2⟩
def Up(hs hs':List Hd):Prop:=∀n,(Q1i hs n).le (Q1i hs' n)
theorem Up.refl(hs:List Hd):Up hs hs:=fun _=>Hd.le_refl _
theorem Up.trans{a b c:List Hd}(h:Up a b)(k:Up b c):Up a c:=fun n=>Hd.le_trans (h n) (k n)
theorem Up.put{hs:List Hd}{n:Int}{x:Hd}(h:(Q1i hs n).le x):Up hs (Q7m hs n x):=fun m=>by
 rw[z1c];split
 ·rename_i e;rw[e.1];exact h
 exact Hd.le_refl _
theorem x2g{hs:List Hd}(hok:∀x∈hs,x.ok)(p:Pr):Up hs (Q3e hs p).1:=Up.put (v1k (z0k hok _) _ (z09 hok _ _ rfl))
theorem x2i(hs:List Hd)(p:Pr):Up hs (Q4n hs p).1:=Up.put (x8g _ _)
theorem z83:∀(l:List Sy) (hs:List Hd) (g:Bool),Up hs (Q3f l hs g).1
 | [],hs,_=>Up.refl hs
 |s::l,hs,g=>by
  unfold Q3f;split
  ·exact z83 l hs g
  exact Up.trans (Up.put (x26 _)) (z83 l _ _)
theorem z82:∀(l:List Pr) (hs:List Hd) (g:Bool),Up hs (Q3j l hs g).1
 | [],hs,_=>Up.refl hs
 |p::l,hs,g=>by
  unfold Q3j;split
  ·exact z82 l hs g
  exact Up.trans (z83 p.syms hs g) (z82 l _ _)
theorem y24{a:List Bool}{n:Int}{t:Nat}(h:(Q2b a n).getD t false=true):a.getD t false=true∨(0<=n/\n.toNat=t):=by
 unfold Q2b at h;split at h
 ·rename_i hn;simp only[qD,qBy]at h ⊢;by_cases e:n.toNat=t
  ·exact .inr ⟨hn.1,e⟩
  rw[qAa e]at h;exact .inl h
 exact .inl h
theorem y87{a:List Bool}(ha:a.length=9)(n:Int):leB a (Q2b a n):=by
 refine y8c (by rw[z2m ha,ha]) (fun i hi=>?_);unfold Q2b;split
 ·simp only[qD,qBy]at hi ⊢;split
  ·split
   ·rfl
   rename_i h1 h2;rw[qN (by omega)]at hi;simp at hi
  exact hi
 exact hi
theorem x0w{a b:List Bool}(ha:a.length=9)(hb:b.length=9)(h:leB a b)(n:Int):leB (Q2b a n) (Q2b b n):=by
 refine y8c (by rw[z2m ha,z2m hb]) (fun i hi=>?_);rcases y24 hi with h1|⟨h1,h2⟩
 ·exact z4v (y87 hb n) i (z4v h i h1)
 unfold Q2b at hi ⊢;split
 ·rename_i hn;rw[qAb hn]at hi;simp only[qD,qBy,h2,qBb]at hi ⊢;rw[qAb (by omega)];rfl
 rename_i hn;rw[qAa hn]at hi;exact z4v h i hi
theorem x6x{a b c d:List Bool}(h1:leB a c)(h2:leB b d)(e:a.length=b.length):leB (orL a b) (orL c d):=by
 have e1:=y15 h1;have e2:=y15 h2;refine y8c (by simp[orL,← e1,← e2]) (fun i hi=>?_);rw[z3m e]at hi;rw[z3m (by omega)];simp only[qAk]at hi ⊢;rcases hi with hi|hi
 ·exact .inl (z4v h1 i hi)
 exact .inr (z4v h2 i hi)
theorem y3f{hs hs':List Hd}(hok:∀x∈hs,x.ok)(hok':∀x∈hs',x.ok)(hu:Up hs hs'):∀(l:List Sy) (acc acc':List Bool),acc.length=9->leB acc acc' ->
  leB (Q2m hs l acc).1 (Q2m hs' l acc').1/\((Q2m hs l acc).2=true->(Q2m hs' l acc').2=true)
 | [],_,_,_,h=>⟨h,fun e=>e⟩
 |s::l,acc,acc',ha,h=>by
  have ha':acc'.length=9:=by rw[← y15 h];exact ha
  obtain⟨p1,_,_,p4,_⟩:=(hu s.num).parts (z0k hok _) (z0k hok' _);have o1:=(z0k hok s.num).fi;have o2:=(z0k hok' s.num).fi;have j0:=x6x h p4 (by rw[ha,o1]);have j1:(orL acc (Q1i hs s.num).fi).length=9:=z04 ha o1;unfold Q2m;cases hs1:s.isH
  ·rw[qAb rfl,qAb rfl];exact⟨x0w ha ha' h _,fun e=>e⟩
  simp only[qCe,qAp];cases hn:(Q1i hs s.num).nul
  ·simp only[qBb];refine⟨?_,fun e=>by cases e⟩;split
   ·exact j0
   have h3:∀(l:List Sy) (acc:List Bool),acc.length=9->leB acc (Q2m hs' l acc).1:=by
    intro l;induction l with
    |nil=>intro acc _;exact z17 _
    |cons s l ih =>
     intro acc ha;unfold Q2m;split
     ·exact y87 ha _
     split
     ·exact z89 (by rw[ha,(z0k hok' _).fi])
     exact z43 (z89 (by rw[ha,(z0k hok' _).fi])) (ih _ (z04 ha (z0k hok' _).fi))
   exact z43 j0 (h3 l _ (z04 ha' o2))
  simp only[qCe,qAp];rw[p1 hn];simp only[qCe,qAp];exact y3f hok hok' hu l _ _ j1 j0
theorem z5q{hs hs':List Hd}(hok:∀x∈hs,x.ok)(hok':∀x∈hs',x.ok)(hu:Up hs hs')(l:List Sy)(h:Q4y hs l=true):Q4y hs' l=true:=by
 unfold Q4y at h ⊢;rw[qAn]at h ⊢;intro s hs1;have:=h s hs1;unfold fruB at this ⊢;simp only[qAk]at this ⊢;rcases this with h1|h1
 ·exact .inl h1
 exact .inr (((hu s.num).parts (z0k hok _) (z0k hok' _)).2.2.1 h1)
structure Q1b(ps:List Pr)(R H:Nat):Prop where
 hd:∀p∈ps,0<=p.head/\p.head<H
 sy:∀p∈ps,∀s∈p.syms,0<=s.num/\s.num<(if s.isH then(H:Int) else R)
def BFi(R:Nat)(hs:List Hd):Prop:=∀n t,(Q1i hs n).fi.getD t false=true->t<R
def BFo(R:Nat)(hs:List Hd):Prop:=∀n t,(Q1i hs n).fo.getD t false=true->t<=R
theorem y53{R H:Nat}{hs:List Hd}(hok:∀x∈hs,x.ok)(hb:BFi R hs):∀(l:List Sy) (acc:List Bool),acc.length=9->(∀s∈l,0<=s.num/\s.num<(if s.isH then(H:Int) else R))->(∀t,acc.getD t false=true->t<R)->∀t,(Q2m hs l acc).1.getD t false=true->t<R
 | [],_,_,_,h,t,ht=>h t ht
 |s::l,acc,ha,hv,h,t,ht=>by
  have hor:∀t,(orL acc (Q1i hs s.num).fi).getD t false=true->t<R:=fun t ht=>by
   rw[z3m (by rw[ha,(z0k hok _).fi])]at ht;simp only[qAk]at ht;rcases ht with ht|ht
   ·exact h t ht
   exact hb _ t ht
  unfold Q2m at ht;cases hs1:s.isH
  ·rw[qAb hs1]at ht;have h1:=hv s (by simp);rw[hs1]at h1;simp only[qF,qAp]at h1;rcases y24 ht with h2|⟨h2,h3⟩
   ·exact h t h2
   omega
  rw[qAa (by simp[hs1])]at ht;split at ht
  ·exact hor t ht
  exact y53 hok hb l _ (z04 ha (z0k hok _).fi) (fun s hs=>hv s (by simp[hs])) hor t ht
theorem z3t(t:Nat):zero9.getD t false=false:=by
 rcases t with _|_|_|_|_|_|_|_|_|t<;>simp[zero9]
def SupN(ps:List Pr)(hs:List Hd):Prop:=∀n,(Q1i hs n).nul=true->∃p∈ps,p.head=n/\(Q2m hs p.syms zero9).2=true
def SupF(ps:List Pr)(hs:List Hd):Prop:=∀n t,(Q1i hs n).fi.getD t false=true->∃p∈ps,p.head=n/\(Q2m hs p.syms zero9).1.getD t false=true
def SupU(ps:List Pr)(hs:List Hd):Prop:=∀n,(Q1i hs n).fru=true->∃p∈ps,p.head=n/\Q4y hs p.syms=true
structure IB(ps:List Pr)(R:Nat)(hs0 hs:List Hd):Prop where
 ok:∀x∈hs,x.ok
 bfi:BFi R hs
 sn:SupN ps hs
 sf:SupF ps hs
 up:Up hs0 hs
theorem IB.step{ps:List Pr}{R H:Nat}(hT:Q1b ps R H){hs0 hs:List Hd}(h:IB ps R hs0 hs){p:Pr}(hp:p∈ps):IB ps R hs0 (Q3e hs p).1:=by
 have j1:=h.ok;have j2:∀x∈(Q3e hs p).1,x.ok:=(z3r j1 p false).ok;have hu:=x2g j1 p;have j3:=z09 j1 p.syms zero9 rfl;have mono:=fun(q:Pr)=>y3f j1 j2 hu q.syms zero9 zero9 rfl (z17 _);refine⟨j2,?_,?_,?_,h.up.trans hu⟩
 ·intro n t ht;unfold Q3e at ht;rw[z1c]at ht;split at ht
  ·dsimp only at ht;rw[z3m (by rw[(z0k j1 _).fi,j3])]at ht;simp only[qAk]at ht;rcases ht with ht|ht
   ·exact h.bfi _ t ht
   exact y53 j1 h.bfi p.syms zero9 rfl (hT.sy p hp) (fun t h=>by rw[z3t]at h;cases h) t ht
  exact h.bfi n t ht
 ·intro n hn;have j0:=hn;unfold Q3e at j0;rw[z1c]at j0;split at j0
  ·rename_i e;dsimp only at j0;simp only[qAk]at j0;rcases j0 with h1|h1
   ·obtain⟨q,hq1,hq2,hq3⟩:=h.sn _ h1;exact⟨q,hq1,hq2.trans e.1.symm,(mono q).2 hq3⟩
   exact⟨p,hp,e.1.symm,(mono p).2 h1⟩
  obtain⟨q,hq1,hq2,hq3⟩:=h.sn n j0;exact⟨q,hq1,hq2,(mono q).2 hq3⟩
 intro n t hn;have j0:=hn;unfold Q3e at j0;rw[z1c]at j0;split at j0
 ·rename_i e;dsimp only at j0;rw[z3m (by rw[(z0k j1 _).fi,j3])]at j0;simp only[qAk]at j0;rcases j0 with h1|h1
  ·obtain⟨q,hq1,hq2,hq3⟩:=h.sf _ t h1;exact⟨q,hq1,hq2.trans e.1.symm,z4v (mono q).1 t hq3⟩
  exact⟨p,hp,e.1.symm,z4v (mono p).1 t h1⟩
 obtain⟨q,hq1,hq2,hq3⟩:=h.sf n t j0;exact⟨q,hq1,hq2,z4v (mono q).1 t hq3⟩
theorem IB.list{ps:List Pr}{R H:Nat}(hT:Q1b ps R H){hs0:List Hd}:∀(l:List Pr) (hs:List Hd) (g:Bool),(∀p∈l,p∈ps)->IB ps R hs0 hs->IB ps R hs0 (Q5a l hs g).1
 | [],_,_,_,h=>h
 |p::l,hs,g,hl,h=>IB.list hT l _ _ (fun q hq=>hl q (by simp[hq])) (h.step hT (hl p (by simp)))
structure IU(ps:List Pr)(hs0 hs:List Hd):Prop where
 ok:∀x∈hs,x.ok
 su:SupU ps hs
 up:Up hs0 hs
theorem IU.step{ps:List Pr}{hs0 hs:List Hd}(h:IU ps hs0 hs){p:Pr}(hp:p∈ps):IU ps hs0 (Q4n hs p).1:=by
 have j2:=h.ok;have j0:∀x∈(Q4n hs p).1,x.ok:=(z4y j2 p false).ok;have hu:=x2i hs p;refine⟨j0,?_,h.up.trans hu⟩;intro n hn;have j1:=hn;unfold Q4n at j1;rw[z1c]at j1;split at j1
 ·rename_i e;dsimp only at j1;simp only[qAk]at j1;rcases j1 with h1|h1
  ·obtain⟨q,hq1,hq2,hq3⟩:=h.su _ h1;exact⟨q,hq1,hq2.trans e.1.symm,z5q j2 j0 hu _ hq3⟩
  exact⟨p,hp,e.1.symm,z5q j2 j0 hu _ h1⟩
 obtain⟨q,hq1,hq2,hq3⟩:=h.su n j1;exact⟨q,hq1,hq2,z5q j2 j0 hu _ hq3⟩
theorem IU.list{ps:List Pr}{hs0:List Hd}:∀(l:List Pr) (hs:List Hd) (g:Bool),(∀p∈l,p∈ps)->IU ps hs0 hs->IU ps hs0 (Q41 l hs g).1
 | [],_,_,_,h=>h
 |p::l,hs,g,hl,h=>IU.list l _ _ (fun q hq=>hl q (by simp[hq])) (h.step (hl p (by simp)))
structure IS(R:Nat)(hs0 hs:List Hd):Prop where
 ok:∀x∈hs,x.ok
 bfi:BFi R hs
 bfo:BFo R hs
 up:Up hs0 hs
theorem IS.syms{R H:Nat}{hs0:List Hd}(ph:Int):∀(l:List Sy) (hs:List Hd) (g:Bool),(∀s∈l,0<=s.num/\s.num<(if s.isH then(H:Int) else R))->IS R hs0 hs->IS R hs0 (Q2v ph l hs g).1
 | [],_,_,_,h=>h
 |s::l,hs,g,hv,h=>by
  have hv':∀s∈l,0<=s.num/\s.num<(if s.isH then(H:Int) else R):=fun s hs=>hv s (by simp[hs]);unfold Q2v;split
  ·exact IS.syms ph l hs g hv' h
  refine IS.syms ph l _ _ hv' ?_;have j0:=h.ok;have j1:=z3d j0 ph l;refine⟨y6x j0 _ ⟨(z0k j0 s.num).fi,z04 (z0k j0 s.num).fo j1⟩,?_,?_,h.up.trans (Up.put (x9u (z0k j0 _) j1))⟩
  ·intro n t ht;rw[z1c]at ht;split at ht
   ·exact h.bfi _ t ht
   exact h.bfi n t ht
  intro n t ht;rw[z1c]at ht;split at ht
  ·unfold Q5i at ht;dsimp only at ht;rw[z3m (by rw[(z0k j0 _).fo,j1])]at ht;simp only[qAk]at ht;rcases ht with ht|ht
   ·exact h.bfo _ t ht
   have j2:=y53 j0 h.bfi l zero9 rfl hv' (fun t h=>by rw[z3t]at h;cases h);unfold Q8b at ht;split at ht
   ·rw[z3m (by rw[z09 j0 _ _ rfl,(z0k j0 _).fo])]at ht;simp only[qAk]at ht;rcases ht with ht|ht
    ·have:=j2 t ht;omega
    exact h.bfo _ t ht
   have:=j2 t ht;omega
  exact h.bfo n t ht
theorem IS.list{ps:List Pr}{R H:Nat}(hT:Q1b ps R H){hs0:List Hd}:∀(l:List Pr) (hs:List Hd) (g:Bool),(∀p∈l,p∈ps)->IS R hs0 hs->IS R hs0 (Q5b l hs g).1
 | [],_,_,_,h=>h
 |p::l,hs,g,hl,h=>IS.list hT l _ _ (fun q hq=>hl q (by simp[hq])) (IS.syms p.head p.syms hs g (hT.sy p (hl p (by simp))) h)
structure Q9l(ps:List Pr)(R H:Nat)(hs:List Hd):Prop where
 ok:∀x∈hs,x.ok
 len:hs.length=H
 bfi:BFi R hs
 bfo:BFo R hs
 clN:∀p∈ps,(Q2m hs p.syms zero9).2=true->(Q1i hs p.head).nul=true
 clF:∀p∈ps,∀t,(Q2m hs p.syms zero9).1.getD t false=true->(Q1i hs p.head).fi.getD t false=true
 sn:SupN ps hs
 sf:SupF ps hs
 clU:∀p∈ps,Q4y hs p.syms=true->(Q1i hs p.head).fru=true
 su:SupU ps hs
 clS:∀p∈ps,∀a s b,p.syms=a++s::b->s.isH=true->∀t,(Q8b hs p.head b).getD t false=true->(Q1i hs s.num).fo.getD t false=true
 clR:∀p∈ps,(Q1i hs p.head).rch=true->∀s∈p.syms,s.isH=true->(Q1i hs s.num).rch=true
 st1:0<H->(Q1i hs 0).rch=true
 st2:0<H->(Q1i hs 0).fo.getD R false=true
theorem z73(R:Int):∀n,∀x∈Q0v R n,x.ok
 |0,x,hx=>by simp[Q0v]at hx
 |n+1,x,hx=>by
  simp only[Q0v,qU,qM]at hx;rcases hx with hx|rfl
  ·exact z73 R n x hx
  exact y11 _ _
theorem y77(R:Int):∀(n i:Nat),i<n->(Q0v R n)[i]? = some (Q45 R i)
 |n+1,i,hi=>by
  unfold Q0v;by_cases h:i<n
  ·rw[qAe (by rw[z1v];exact h)];exact y77 R n i h
  have:i=n:=by omega
  subst this;rw[qAg (by rw[z1v];omega),z1v];simp
theorem z34(R:Int)(H:Nat)(n:Int):Q1i (Q0v R H) n=if 0<=n/\n<H then Q45 R n.toNat else zeroHd:=by
 unfold Q1i;by_cases h0:0<=n
 ·rw[qAb h0];by_cases hl:n<H
  ·rw[y77 R H n.toNat (by omega),qAb ⟨h0,hl⟩];rfl
  rw[qN (by rw[z1v];omega),qAa (by omega)];rfl
 rw[qAa h0,qAa (by omega)]
theorem Q0n.beg{hs hs':List Hd}(h1:Q0n Hd.nul hs hs')(h2:Q0n Hd.fi hs hs')(l:List Sy)(acc:List Bool):Q2m hs' l acc=Q2m hs l acc:=y0l h1 h2 l acc
theorem z8e{ps:List Pr}{R H:Nat}(hT:Q1b ps R H)(hR:R<=8):Q9l ps R H (Q3w ps (Q0v R H)):=by
 have j2:=z73 (R:Int) H;have hz:∀n,(Q1i (Q0v (R:Int) H) n).fi=zero9/\(Q1i (Q0v (R:Int) H) n).nul=false/\(Q1i (Q0v (R:Int) H) n).fru=false:=fun n=>by
  rw[z34];split
  ·unfold Q45;split<;>exact⟨rfl,rfl,rfl⟩
  exact⟨rfl,rfl,rfl⟩
 have i0:IB ps R (Q0v (R:Int) H) (Q0v (R:Int) H):=by
  refine⟨j2,?_,?_,?_,Up.refl _⟩
  ·intro n t h;rw[(hz n).1,z3t]at h;cases h
  ·intro n h;rw[(hz n).2.1]at h;cases h
  intro n t h;rw[(hz n).1,z3t]at h;cases h
 obtain⟨⟨i1,kr1,ku1,ko1⟩,ok1,l1,f1⟩:=z1m (z2v ps) (I:=fun hs=>IB ps R (Q0v (R:Int) H) hs/\Q0n Hd.rch (Q0v (R:Int) H) hs/\Q0n Hd.fru (Q0v (R:Int) H) hs/\Q0n Hd.fo (Q0v (R:Int) H) hs)
  (fun hs _ h=>⟨IB.list hT ps hs false (fun _ hp=>hp) h.1,h.2.1.trans (z1s (fun _ _ _=>rfl) ps hs false),h.2.2.1.trans (z1s (fun _ _ _=>rfl) ps hs false),h.2.2.2.trans (z1s (fun _ _ _=>rfl) ps hs false)⟩) j2 ⟨i0,Q0n.refl _ _,Q0n.refl _ _,Q0n.refl _ _⟩
 generalize hq1:Q40 (Q75 ps) (Q0v (R:Int) H)=hs1 at i1 kr1 ku1 ko1 ok1 l1 f1;rw[z1v]at l1;have c1:∀p∈ps,Q1i hs1 p.head={Q1i hs1 p.head with nul:=(Q1i hs1 p.head).nul||(Q2m hs1 p.syms zero9).2,fi:=orL (Q1i hs1 p.head).fi (Q2m hs1 p.syms zero9).1}:=fun p hp=>by
  have:=z80 ps hs1 false ok1 (by show(Q75 ps hs1).2=false;rw[f1]) p hp;exact z5i this (hT.hd p hp).1 (by rw[l1];exact(hT.hd p hp).2)
 have j5:∀p∈ps,(Q2m hs1 p.syms zero9).2=true->(Q1i hs1 p.head).nul=true:=fun p hp e=>by
  rw[c1 p hp];simp[e]
 have j4:∀p∈ps,∀t,(Q2m hs1 p.syms zero9).1.getD t false=true->(Q1i hs1 p.head).fi.getD t false=true:=fun p hp t e=>by
  rw[c1 p hp];dsimp only;rw[z3m (by rw[(z0k ok1 _).fi,z09 ok1 _ _ rfl]),e];simp
 have j3:BFo R hs1:=fun n t h=>by
  rw[ko1 n,z34]at h;split at h
  ·unfold Q45 at h;split at h
   ·rcases y24 h with h2|⟨h2,h3⟩
    ·rw[z3t]at h2;cases h2
    omega
   have:zeroHd.fo=zero9:=rfl;rw[this,z3t]at h;cases h
  have:zeroHd.fo=zero9:=rfl;rw[this,z3t]at h;cases h
 obtain⟨⟨i2,kn2,kf2,kr2,ku2⟩,ok2,l2,f2⟩:=z1m (z2b ps) (I:=fun hs=>IS R hs1 hs/\Q0n Hd.nul hs1 hs/\Q0n Hd.fi hs1 hs/\Q0n Hd.rch hs1 hs/\Q0n Hd.fru hs1 hs)
  (fun hs _ h=>⟨IS.list hT ps hs false (fun _ hp=>hp) h.1,h.2.1.trans (z1d (fun _ _=>rfl) ps hs false),h.2.2.1.trans (z1d (fun _ _=>rfl) ps hs false),h.2.2.2.1.trans (z1d (fun _ _=>rfl) ps hs false),h.2.2.2.2.trans (z1d (fun _ _=>rfl) ps hs false)⟩) ok1 ⟨⟨ok1,i1.bfi,j3,Up.refl _⟩,Q0n.refl _ _,Q0n.refl _ _,Q0n.refl _ _,Q0n.refl _ _⟩
 generalize hq2:Q40 (Q5f ps) hs1=hs2 at i2 kn2 kf2 kr2 ku2 ok2 l2 f2;have j7:∀p∈ps,∀a s b,p.syms=a++s::b->s.isH=true->∀t,(Q8b hs2 p.head b).getD t false=true->(Q1i hs2 s.num).fo.getD t false=true:=fun p hp a s b e hs1' t ht=>by
  have h1:=z84 ps hs2 false ok2 (by show(Q5f ps hs2).2=false;rw[f2]) p hp;have h2:=z5u p.head p.syms hs2 false ok2 h1 a s b e hs1';have hv:=hT.sy p hp s (by rw[e];simp);rw[hs1']at hv;simp only[qBb]at hv;have h3:=z5i h2 hv.1 (by rw[l2,l1];exact hv.2);rw[h3];unfold Q5i;dsimp only;rw[z3m (by rw[(z0k ok2 _).fo,z3d ok2]),ht];simp
 obtain⟨⟨up3,kn3,kf3,ko3,ku3⟩,ok3,l3,f3⟩:=z1m (z2a ps) (I:=fun hs=>Up hs2 hs/\Q0n Hd.nul hs2 hs/\Q0n Hd.fi hs2 hs/\Q0n Hd.fo hs2 hs/\Q0n Hd.fru hs2 hs)
  (fun hs _ h=>⟨h.1.trans (z82 ps hs false),h.2.1.trans (z0x (fun _ _=>rfl) ps hs false),h.2.2.1.trans (z0x (fun _ _=>rfl) ps hs false),h.2.2.2.1.trans (z0x (fun _ _=>rfl) ps hs false),h.2.2.2.2.trans (z0x (fun _ _=>rfl) ps hs false)⟩) ok2 ⟨Up.refl _,Q0n.refl _ _,Q0n.refl _ _,Q0n.refl _ _,Q0n.refl _ _⟩
 generalize hq3:Q40 (Q6t ps) hs2=hs3 at up3 kn3 kf3 ko3 ku3 ok3 l3 f3;have j6:∀p∈ps,(Q1i hs3 p.head).rch=true->∀s∈p.syms,s.isH=true->(Q1i hs3 s.num).rch=true:=fun p hp hr s hs hs1'=>by
  have h1:=z5s ps hs3 false ok3 (by show(Q6t ps hs3).2=false;rw[f3]) p hp hr;have h2:=z5t p.syms hs3 false ok3 h1 s hs hs1';have hv:=hT.sy p hp s hs;rw[hs1']at hv;simp only[qBb]at hv;have h3:=z5i h2 hv.1 (by rw[l3,l2,l1];exact hv.2);rw[h3]
 have u3:IU ps hs3 hs3:=⟨ok3,fun n h=>(by rw[ku3 n,ku2 n,ku1 n,(hz n).2.2]at h;cases h),Up.refl _⟩;obtain⟨⟨i4,kn4,kf4,ko4,kr4⟩,ok4,l4,f4⟩:=z1m (z2c ps) (I:=fun hs=>IU ps hs3 hs/\Q0n Hd.nul hs3 hs/\Q0n Hd.fi hs3 hs/\Q0n Hd.fo hs3 hs/\Q0n Hd.rch hs3 hs)
  (fun hs _ h=>⟨IU.list ps hs false (fun _ hp=>hp) h.1,h.2.1.trans (z01 (fun _ _=>rfl) ps hs false),h.2.2.1.trans (z01 (fun _ _=>rfl) ps hs false),h.2.2.2.1.trans (z01 (fun _ _=>rfl) ps hs false),h.2.2.2.2.trans (z01 (fun _ _=>rfl) ps hs false)⟩) ok3 ⟨u3,Q0n.refl _ _,Q0n.refl _ _,Q0n.refl _ _,Q0n.refl _ _⟩
 have j0:Q3w ps (Q0v (R:Int) H)=Q40 (Q7q ps) hs3:=by unfold Q3w;rw[hq1,hq2,hq3]
 rw[j0];generalize Q40 (Q7q ps) hs3=hs4 at i4 kn4 kf4 ko4 kr4 ok4 l4 f4;have j8:∀p∈ps,Q4y hs4 p.syms=true->(Q1i hs4 p.head).fru=true:=fun p hp e=>by
  have h1:=z81 ps hs4 false ok4 (by show(Q7q ps hs4).2=false;rw[f4]) p hp;have h3:=z5i h1 (hT.hd p hp).1 (by rw[l4,l3,l2,l1];exact(hT.hd p hp).2);rw[h3];simp[e]
 have kn:Q0n Hd.nul hs1 hs4:=(kn2.trans kn3).trans kn4;have kf:Q0n Hd.fi hs1 hs4:=(kf2.trans kf3).trans kf4;have ko:Q0n Hd.fo hs2 hs4:=ko3.trans ko4;have hb:=fun l acc=>Q0n.beg kn kf l acc;have j9:=fun l acc=>Q0n.beg kn2 kf2 l acc;have j1:∀ph l,Q8b hs4 ph l=Q8b hs2 ph l:=fun ph l=>by
  unfold Q8b;rw[hb,j9,ko ph]
 refine⟨ok4,by rw[l4,l3,l2,l1],?_,?_,?_,?_,?_,?_,j8,i4.su,?_,?_,?_,?_⟩
 ·intro n t h;rw[kf n]at h;exact i1.bfi n t h
 ·intro n t h;rw[ko n]at h;exact i2.bfo n t h
 ·intro p hp e;rw[hb]at e;rw[kn];exact j5 p hp e
 ·intro p hp t e;rw[hb]at e;rw[kf];exact j4 p hp t e
 ·intro n h;rw[kn n]at h;obtain⟨p,h1,h2,h3⟩:=i1.sn n h;exact⟨p,h1,h2,by rw[hb];exact h3⟩
 ·intro n t h;rw[kf n]at h;obtain⟨p,h1,h2,h3⟩:=i1.sf n t h;exact⟨p,h1,h2,by rw[hb];exact h3⟩
 ·intro p hp a s b e hs1' t ht;rw[j1]at ht;rw[ko];exact j7 p hp a s b e hs1' t ht
 ·intro p hp hr s hs hs1';rw[kr4]at hr ⊢;exact j6 p hp hr s hs hs1'
 ·intro hH;have h1:(Q1i (Q0v (R:Int) H) 0).rch=true:=by rw[z34,qAb ⟨by omega,by omega⟩];rfl
  have h2:(Q1i hs2 0).rch=true:=by rw[kr2,kr1];exact h1
  rw[kr4];exact((up3 0).parts (z0k ok2 _) (z0k ok3 _)).2.1 h2
 intro hH;have h1:(Q1i (Q0v (R:Int) H) 0).fo.getD R false=true:=by
  rw[z34,qAb ⟨by omega,by omega⟩];show(Q2b zero9 (R:Int)).getD R false=true;unfold Q2b;rw[qAb ⟨by omega,by omega⟩];simp only[qD,qAl,qBy];simp only[qBb];rw[qAb (by show R<9;omega)];rfl
 rw[ko];have h2:(Q1i hs1 0).fo.getD R false=true:=by rw[ko1];exact h1
 exact z4v ((i2.up 0).parts (z0k ok1 _) (z0k ok2 _)).2.2.2.2 R h2
def sInt(s:Sy):Int:=if s.isH then -1-s.num else s.num
theorem y4c(a:List Bool)(t:Nat):∀k,(Q3m a k).any (·==(t:Int))=(decide (t<k)&&a.getD t false)
 |0=>by simp[Q3m]
 |k+1=>by
  have ih:=y4c a t k;unfold Q3m;by_cases e:t=k
  ·subst e;cases hq:a.getD t false
   ·simp only[qF,qAp,ih,hq,Bool.and_false]
   simp only[qBb,List.any_append,List.any_cons,List.any_nil,ih,hq];simp
  have h1:(((k:Nat):Int)==(t:Int))=false:=by simp;omega
  have h2:decide (t<k+1)=decide (t<k):=by simp only[decide_eq_decide];omega
  rw[h2];split
  ·rw[List.any_append,ih];simp[h1]
  exact ih
theorem x3a{a:List Bool}(ha:a.length=9)(t:Nat):(Q28 a).any (·==(t:Int))=a.getD t false:=by
 unfold Q28;rw[y4c];by_cases h:t<9
 ·simp[h]
 have:a.getD t false=false:=by simp[qN (show a.length<=t by omega)]
 rw[this];simp
section
variable {ps:List Pr}{R H:Nat}{hs:List Hd}
end
def Q79{α β:Type}(R:α->β->Prop):List α->List β->Prop
 | [],[]=>True
 |a::us,b::zs=>R a b/\Q79 R us zs
 |_,_=>False
theorem Q79.len{α β:Type}{R:α->β->Prop}:∀{us:List α}{zs:List β},Q79 R us zs->us.length=zs.length
 | [],[],_=>rfl
 |_::us,_::zs,h=>by simp[Q79.len h.2]
theorem Q79.snoc{α β:Type}{R:α->β->Prop}:∀{us:List α}{zs:List β}{a:α}{b:β},Q79 R us zs->R a b->Q79 R (us++[a]) (zs++[b])
 | [],[],_,_,_,h=>⟨h,trivial⟩
 |_::us,_::zs,_,_,h,k=>⟨h.1,Q79.snoc h.2 k⟩
def Tw(s:ByteArray)(d:Wd)(y:ByteArray):Prop:=∃i m:Nat,WordAt s i m d/\y=s.extract i (i+m)
theorem x0x{s:ByteArray}{a b m n:Nat}{d d':Wd}(h:WordAt s a m d)(h':WordAt s b n d')(ha:a+m<=s.size)(hb:b+n<=s.size)(hl:(s.extract a (a+m)).toList=(s.extract b (b+n)).toList):d.ls=d'.ls:=by
 have hA:(s.extract a (a+m)).size=m:=by rw[qAz];omega
 have hB:(s.extract b (b+n)).size=n:=by rw[qAz];omega
 have j0:m=n:=by
  have:=qDn List.length hl;rw[btl,btl,qDr,qDr]at this;have e1:(s.extract a (a+m)).data.size=m:=hA;have e2:(s.extract b (b+n)).data.size=n:=hB;omega
 subst j0;rw[h.ls,h'.ls];apply qEh;intro k hk;by_cases hkm:k<m
 ·rw[qAb hkm,qAb hkm];have e1:=z3u s a (a+m) k ha (by omega);have e2:=z3u s b (b+m) k hb (by omega);have e3:s.extract a (a+m)=s.extract b (b+m):=by
   apply qEb;apply Array.toList_inj.1;rw[← btl,← btl];exact hl
  rw[e3]at e1;rw[← e1,← e2]
 rw[qAa hkm,qAa hkm]
theorem v2i{s:ByteArray}{d d':Wd}{y y':ByteArray}(h:Tw s d y)(h':Tw s d' y'):(d.ls==d'.ls)=(y.toList==y'.toList):=by
 obtain⟨i,m,hw,rfl⟩:=h;obtain⟨j,n,hw',rfl⟩:=h';have h1:=hw.in';have h2:=hw'.in';rw[qAs,qAx,qAx];exact⟨fun e=>y5l hw hw' (by omega) (by omega) e,fun e=>x0x hw hw' (by omega) (by omega) e⟩
theorem x8e{s:ByteArray}{d:Wd}{y:ByteArray}(hd:Tw s d y):∀{ds:List Wd}{ys:List ByteArray},Q79 (Tw s) ds ys->ds.findIdx (fun x=>x.ls==d.ls)=ys.findIdx (fun x=>x.toList==y.toList)
 | [],[],_=>rfl
 |a::us,b::zs,h=>by
  rw[qEc,qEc,v2i h.1 hd,x8e hd h.2]
theorem x52{s:ByteArray}{d:Wd}{y:ByteArray}(hd:Tw s d y){ds:List Wd}{ys:List ByteArray}(h:Q79 (Tw s) ds ys):Q1v ys y=if Q1l ds d.ls<ds.length then(Q1l ds d.ls:Int) else -1:=by
 unfold Q1v Q1l;rw[← x8e hd h,← h.len]
theorem z1u:∀(l:List Ln) (acc:List Wd) (y:Ln),Q11 (l++[y]) acc=if Q07 y then Q11 l acc else if Q1l (Q11 l acc) y.front.ls<(Q11 l acc).length then Q11 l acc else Q11 l acc++[y.front]
 | [],acc,y=>by
  simp only[qBq,Q11];rfl
 |x::l,acc,y=>by
  rw[qAw];unfold Q11;split
  ·exact z1u l acc y
  split
  ·exact z1u l acc y
  exact z1u l _ y
theorem z5l{ds:List Wd}{ls:List Int}(h:Q1l ds ls<ds.length)(t:List Wd):Q1l (ds++t) ls=Q1l ds ls:=by
 unfold Q1l at h ⊢;rw[List.findIdx_append,qAb h]
structure Inv2(s:ByteArray)(lns:List Ln)(x:LO):Prop where
 ru:Q79 (Tw s) (Q0f lns) x.rules
 he:Q79 (Tw s) (Q0h lns) x.heads
 hd:x.head=(Q04 lns).map (fun y=>(Q1l (Q0h lns) y.front.ls:Int))
 na:Q79 (fun(y:Ln) (ns:List ByteArray)=>Q79 (Tw s) y.syms ns) (Q04 lns) x.names
 mem:∀y∈Q04 lns,Q1l (Q0h lns) y.front.ls<(Q0h lns).length
 cap:∀d∈Q0h lns,Q14 d=true
theorem v1s{s:ByteArray}{p q:Nat}{ds:List Wd}{ns:List ByteArray}(h:PN s p ds ns q):Q79 (Tw s) ds ns:=by
 refine PN.ind (M:=fun _ ds ns=>Q79 (Tw s) ds ns) trivial ?_ ds p ns h;intro p m d ds ns h32 hw hle h ih;exact⟨⟨p+1,m,hw,rfl⟩,ih⟩
theorem x2t{s:ByteArray}{lns:List Ln}{x:LO}{y:Ln}{i e:Nat}(h:Inv2 s lns x)(he:e<=s.size)(hl:Q8r s i y e):Inv2 s (lns++[y]) (Q9h (s.extract i e) x):=by
 rcases hl with⟨m,hw,hs,hr,j2,hc,hm,hk,hsy⟩|⟨m,ns,hw,hs,hr,hc,hm,hp⟩
 ·rw[z7v s i e m _ x he hw hs j2 hm];have e1:Q0h (lns++[y])=Q0h lns:=by unfold Q0h;rw[z1u,qAb hr]
  have e2:Q04 (lns++[y])=Q04 lns:=by unfold Q04;rw[qBu];simp[qAj,hr]
  have e3:Q0f (lns++[y])=Q0f lns++[y.front]:=by unfold Q0f;rw[qBu,qBf];simp[qAj,hr]
  refine⟨?_,?_,?_,?_,?_,?_⟩
  ·rw[e3];exact h.ru.snoc ⟨i,m,hw,rfl⟩
  ·rw[e1];exact h.he
  ·rw[e1,e2];exact h.hd
  ·rw[e2];exact h.na
  ·rw[e1,e2];exact h.mem
  rw[e1];exact h.cap
 rw[z7u s i e m _ _ ns x he hw hs hm hp];have j1:Q14 y.front=true:=by
  unfold Q07 at hr;simpa using hr
 have hT:Tw s y.front (s.extract i (i+m)):=⟨i,m,hw,rfl⟩;have e2:Q04 (lns++[y])=Q04 lns++[y]:=by unfold Q04;rw[qBu];simp[qAj,hr]
 have e3:Q0f (lns++[y])=Q0f lns:=by unfold Q0f;rw[qBu,qBf];simp[qAj,hr]
 have hf:=x52 hT h.he;by_cases hlt:Q1l (Q0h lns) y.front.ls<(Q0h lns).length
 ·rw[qAb hlt]at hf;have e1:Q0h (lns++[y])=Q0h lns:=by
   unfold Q0h at hlt ⊢;rw[z1u,qAa (by simp[hr]),qAb hlt]
  have j3:¬Q1v x.heads (s.extract i (i+m))<0:=by rw[hf];omega
  simp only[j3,qAp];refine⟨?_,?_,?_,?_,?_,?_⟩
  ·rw[e3];exact h.ru
  ·rw[e1];exact h.he
  ·rw[e1,e2,qBf,h.hd,hf];rfl
  ·rw[e2];exact h.na.snoc (v1s hp)
  ·rw[e1,e2];intro z hz;simp only[qU,qM]at hz;rcases hz with hz|rfl
   ·exact h.mem z hz
   exact hlt
  rw[e1];exact h.cap
 rw[qAa hlt]at hf;have e1:Q0h (lns++[y])=Q0h lns++[y.front]:=by
  unfold Q0h at hlt ⊢;rw[z1u,qAa (by simp[hr]),qAa hlt]
 have j3:Q1v x.heads (s.extract i (i+m))<0:=by rw[hf];omega
 simp only[j3,qBb];have j0:Q1l (Q0h lns++[y.front]) y.front.ls=(Q0h lns).length:=by
  have j2:=y25 (Q0h lns) y.front.ls;have j4:(Q0h lns).findIdx (fun x=>x.ls==y.front.ls)=(Q0h lns).length:=by unfold Q1l at j2 hlt;omega
  unfold Q1l;rw[List.findIdx_append,j4,qAa (by omega),qEc];simp
 refine⟨?_,?_,?_,?_,?_,?_⟩
 ·rw[e3];exact h.ru
 ·rw[e1];exact h.he.snoc hT
 ·rw[e1,e2,qBf,qCf,j0,h.hd,h.he.len];dsimp only;congr 1;apply qEh;intro z hz;rw[z5l (h.mem z hz)]
 ·rw[e2];exact h.na.snoc (v1s hp)
 ·rw[e1,e2];intro z hz;simp only[qU,qM]at hz;rw[qP,qAf];rcases hz with hz|rfl
  ·rw[z5l (h.mem z hz)];have:=h.mem z hz;omega
  rw[j0];omega
 rw[e1];intro d hd;simp only[qU,qM]at hd;rcases hd with hd|rfl
 ·exact h.cap d hd
 exact j1
theorem y0w(s:ByteArray):∀(f i:Nat) (acc:List Ln) (g:Nat) (x:LO),(Q1k s f i acc).2.2=true->i<=s.size->s.size+1<=g+i->Inv2 s acc x->Inv2 s (Q1k s f i acc).1 (Q9z s g i x)
 |0,i,acc,g,x,h,hi,hg,hI=>by simp[Q1k]at h
 |f+1,i,acc,g,x,h,hi,hg,hI=>by
  obtain⟨g,rfl⟩:∃k,g=k+1:=⟨g-1,by omega⟩;unfold Q1k at h ⊢;unfold Q9z;by_cases hlt:i<s.size
  ·rw[qAb (by omega)]at h ⊢;rw[qAb hlt];cases hok:(Q2s s i).2.2
   ·rw[qAb hok]at h;cases h
   rw[qAa (by simp[hok])]at h ⊢;obtain⟨e,he1,he2,he3,he4,he5⟩:=y2i s i hok;rw[he4]at h ⊢;have j0:Q1g s i e:=he5.clean;have j1:Q36 (s.extract i s.size) 10 10=e-i:=by
    refine z7a s i s.size (e-i) 10 10 (by omega) (by omega) ?_ ?_
    ·intro k hk;have:=j0 ((i:Int)+k) (by omega) (by omega);exact⟨by omega,by omega⟩
    right;left;have e1:(i:Int)+((e-i:Nat):Int)=(e:Nat):=by omega
    rw[e1];exact he3
   rw[j1,show i+(e-i)=e by omega,qAb he1];exact y0w s f (e+1) _ g _ h (by omega) (by omega) (x2t hI (by omega) he5)
  rw[qAa (by omega)]at h ⊢;rw[qAa hlt];exact hI
theorem Q7j{s:ByteArray}(h:Q0t s=(0,0)):Inv2 s (Q0c s).1 (linesX s):=by
 obtain⟨h1,h2,h3,h4,h5⟩:=z19 h;have j0:(Q1k s (s.size+5) ((0:Nat):Int) []).2.2=true:=h2;exact y0w s (s.size+5) 0 [] (s.size+1) Q86 j0 (by omega) (by omega) ⟨trivial,trivial,rfl,trivial,(by intro y hy;cases hy),(by intro d hd;cases hd)⟩
theorem z39{lns:List Ln}(hp:∀y∈lns,0<=y.front.place):∀(f i:Nat),Q4i lns f i=-1->lns.length+1<=f+i->∀k (hk:k<lns.length),i<=k->Q7l lns k lns[k]=false
 |0,i,_,hf,k,hk,hi=>by omega
 |f+1,i,h,hf,k,hk,hi=>by
  unfold Q4i at h;have hil:i<lns.length:=by omega
  rw[qE hil]at h;simp only[]at h;cases ho:Q7l lns i lns[i]
  ·rw[ho]at h;simp only[qF,qAp]at h;by_cases e:i=k
   ·subst e;exact ho
   exact z39 hp f (i+1) h (by omega) k hk (by omega)
  rw[ho]at h;simp only[qBb]at h;have:=hp lns[i] (by simp);omega
theorem y2q{lns:List Ln}(hp:∀y∈lns,0<=y.front.place)(h:Q3q lns=-1):(Q0f lns).length<=8:=by
 have e:(Q0f lns).length=Q2z lns lns.length:=by unfold Q0f Q2z;rw[qAr,qAo]
 rw[e];by_cases h0:lns.length=0
 ·rw[h0];simp[Q2z]
 have:=z39 hp _ 0 h (by omega) (lns.length-1) (by omega) (by omega);unfold Q7l at this;simp only[qBm,qBr]at this;have h1:=this.1.1.1;rw[show lns.length-1+1=lns.length by omega]at h1;omega
theorem y76{d d':Wd}(h:d.ls=d'.ls):Q14 d=Q14 d':=by unfold Q14;rw[h]
theorem x43{lns:List Ln}(hw:Q16 lns=-1)(hpl:∀y∈lns,0<=y.front.place/\∀d∈y.syms,0<=d.place)(hmem:∀y∈Q04 lns,Q1l (Q0h lns) y.front.ls<(Q0h lns).length){y:Ln}(hy:y∈lns){d:Wd}(hd:d∈y.syms) :
  (Q14 d=true->Q1l (Q0h lns) d.ls<(Q0h lns).length)/\(Q14 d=false->Q1l (Q0f lns) d.ls<(Q0f lns).length):=by
 obtain⟨k,hk,rfl⟩:=qAv hy;have h1:=z7b hpl _ 0 hw (by omega) k hk (by omega);obtain⟨q,hq,rfl⟩:=qAv hd;have h2:=z92 (hpl _ hy).2 _ 0 h1 (by omega) q hq (by omega);unfold Q92 at h2;by_cases hf:Q2d lns (lns[k].syms[q]).ls<lns.length
 ·have h3:(lns[Q2d lns (lns[k].syms[q]).ls]).front.ls=(lns[k].syms[q]).ls:=by
   have:=qDb (xs:=lns) (p:=fun x:Ln=>x.front.ls==(lns[k].syms[q]).ls) (w:=hf);exact qAx.1 this
  have h4:=y76 h3;have hz:=qG hf;generalize lns[Q2d lns (lns[k].syms[q]).ls]=z at h3 h4 hz;refine⟨fun e=>?_,fun e=>?_⟩
  ·rw[← h3];refine hmem z ?_;unfold Q04 Q07;rw[qCx];exact⟨hz,by rw[h4,e];rfl⟩
  unfold Q1l;refine qEq ⟨z.front,?_,by rw[h3];simp⟩;unfold Q0f Q07;rw[qBp];exact⟨z,qCx.2 ⟨hz,by rw[h4,e];rfl⟩,rfl⟩
 rw[qN (by omega)]at h2;cases h2
theorem tabOk{lns:List Ln}(hw:Q16 lns=-1)(hpl:∀y∈lns,0<=y.front.place/\∀d∈y.syms,0<=d.place)(hmem:∀y∈Q04 lns,Q1l (Q0h lns) y.front.ls<(Q0h lns).length) :
  Q1b (Q0q lns) (Q0f lns).length (Q0h lns).length:=by
 refine⟨fun p hp=>?_,fun p hp s hs=>?_⟩
 ·obtain⟨y,hy,rfl⟩:=qBp.1 hp;have:=hmem y hy;simp only[Q7x];omega
 obtain⟨y,hy,rfl⟩:=qBp.1 hp;obtain⟨d,hd,rfl⟩:=qBp.1 hs;have j1:y∈lns:=(qCx.1 hy).1;obtain⟨h1,h2⟩:=x43 hw hpl hmem j1 hd;simp only[Q9f];by_cases hq:Q14 d=true
 ·have:=h1 hq;simp only[hq,qBb];omega
 have j0:Q14 d=false:=by simpa using hq
 have:=h2 j0;simp only[j0,qF,qAp];omega
theorem z31{s:ByteArray}(hc:(Q0t s).1=0):Q0t s=(0,0):=by
 unfold Q0t at hc ⊢;repeat' split at hc
 all_goals first
  |(simp at hc;done)
  |skip
 rename_i a b c d e f;rw[qAa a,qAa b,qAa c,qAa d,qAa e,qAa f]
def Q0p(hs:List Hd)(ps:List Pr):List (List Bool):=ps.map fun p=>Q8b hs p.head p.syms
abbrev Q8s(w:World)(base:Nat)(v:Value)(al:List (List Bool)):Prop:=w.ownsRow base 130 9 v al.length (Q00 bls al)
theorem infoTk:(Tryz.prog.info? 130).map (fun i=>(i.zero,i.size,i.bytes))=some (some (.agg (tkA zero9)),9,9):=by kernel_rfl
theorem infoTk':∃i,Tryz.prog.info? 130=some i/\i.zero=some (.agg (tkA zero9))/\i.size=9/\i.bytes=9:=nfoE infoTk
abbrev Q21(a0 a1 a2 a3 a4 a5 a6 a7 a8:Bool):Array Value:=#[.bool a0,.bool a1,.bool a2,.bool a3,.bool a4,.bool a5,.bool a6,.bool a7,.bool a8]
theorem x1g(l:List Bool):∀u∈bls l,u.oneCell'=true:=by
 intro u hu;simp[bls]at hu;rcases hu with⟨_,rfl⟩|⟨_,rfl⟩<;>rfl
theorem z55(w:World)(b:Nat)(R H:Int)(vp vh:Value)(ps:List PV)(hs:List Hd)(h:FA w b R H vp vh ps hs)(hps:ps.length<=1000) :
  Calls Tryz.prog 51 #[Q25 b] w fun e w'=>∃v,e=.returned v/\Q0a w w'/\Q8s w' w.heap.size v (Q0p hs (Q0j ps)):=by
 have jd:=hid h;obtain⟨i0,hi0,iz0,iz1,iz2⟩:=infoTk';obtain⟨ao,cap,hv⟩:=z0d h.prs.row.own;subst hv;have k2:=h.cell 2;simp at k2;clear h;go_enter Tryz.func51,Tryz.ntmps51
 go_wp2;go_loopw [3,5,6,7,8,15] (fun x3 _ _ _ _ x15 wr=>∃(i:Nat),x15=.int .i64 i/\i<=ps.length/\Q8s wr w.heap.size x3 (Q0p hs (Q0j (ps.take i)))/\Q0a w wr)
   (fun _ _ _ _ _ x _=>ps.length+1-(intOf x).toNat)
 case atStart=>exact⟨0,rfl,by omega,World.ownsRow_nil _ _ _ _,mRf _ w⟩
 obtain⟨i,rfl,hi,hown,hfr⟩:=hrel;have jb:=hid (Q15 (B:=ps.length+1) i (by omega));have j4:=hid hfr;have hF:=jd.fresh hfr;have HF:=hid hF;have jh:(Q0p hs (Q0j (ps.take i))).length<=1000:=by simp[Q0p,Q0j];omega
 have je:Hid (i=ps.length->ps.take i=ps):=fun e=>by rw[e,qAr]
 have jf:Hid (∀hlt:i<ps.length,Q0p hs (Q0j (ps.take (i+1)))=Q0p hs (Q0j (ps.take i))++[Q8b hs ps[i].pr.head ps[i].pr.syms]):=fun hlt=>by
  rw[Q6g hlt];unfold Q0p Q0j;rw[qBf,qBf];rfl
 generalize hy:Q0p hs (Q0j (ps.take i))=ys at *;have HY:=hid hy;have HO:=hid hown;have j7:=hid hown.lt;obtain⟨ro,rc,hro⟩:=z0d hown;subst hro;clear hown hy;by_cases hlt:i<ps.length
 ·have jm:(i:Int)<(ps.length:Int):=by omega
  obtain⟨gp,cap',hv'⟩:=Joins.ownsRow_form hF.prs.row.own (by omega);rw[qI]at hv';obtain⟨rfl,_,rfl⟩:=hv';have RG:Hid (wr.rangeAt gp (i*2) [.int .i64 ps[i].pr.head,ps[i].vs]):=hF.prs.row.range i hlt;have jl:=hF.size;have j5:=hid (hF.fresh ((mRf _ wr).alloc (.cells #[.int .i64 ps[i].pr.head,ps[i].vs] 118 (0,0))));have j6:=hid (j5.prs.syms ps[i] (by simp));have j0:=jf.out hlt;generalize ps[i].pr=pr at j0 RG j6 j5;generalize ps[i].vs=pvs at RG j6 j5;obtain⟨ph,psy⟩:=pr;dsimp only at j0 RG j6 j5;obtain⟨sao,scap,hsv,_⟩:=j6.out;subst hsv;have j1:=hid (z09 hF.ok psy zero9 rfl);have j2:=hid (z0k hF.ok ph);have BA:=hid (z52 _ b R H _ vh ps hs b _ psy j5.out (by simp;omega) j6.out);have GA:=hid (fun w (h:FA w b R H (.slice (some ⟨gp,0,none⟩) ps.length cap) vh ps hs)=>z4i w b R H _ vh ps hs ph h);unfold Q8b at j0;generalize Q2m hs psy zero9=bg at j0 j1 BA;generalize Q1i hs ph=hd at j0 j2 GA;obtain⟨bg1,bg2⟩:=bg;dsimp only at j0 j1 BA;clear hF hfr;cases bg2
  ·simp only[qF,qAp]at j0;have j3:=hid j0;obtain⟨a0,a1,a2,a3,a4,a5,a6,a7,a8,e9⟩:=Q7a j1.out;subst e9;clear j0;go_wp2_with (first
    |(at_builtin;refine z0g _ rfl _ _ 122 rfl w.heap.size 130 i0 _ 9 9 Tryz.underlying122 hi0 iz0 iz1 iz2 rfl (by decide) _ _ _ rfl (j8.alloc _) ⟨w1.heap.size+1,0,none⟩ 1 1 (bls [a0,a1,a2,a3,a4,a5,a6,a7,a8]) rfl rfl (z2s rfl) (x1g _) (by unfold maxLen;omega) (by omega) (by have h3:=j4.size;have h4:=hf1.size;simp at h4;simp;omega) ?_)
    |(refine wpList_load_row rfl 130 _ rfl w1.heap.size rfl _ (Q21 a0 a1 a2 a3 a4 a5 a6 a7 a8) _ _ (z0a _ _) Tryz.underlying130 rfl Q7s ?_)
    |(refine z0e rfl 130 _ _ rfl w1 _ (Q21 a0 a1 a2 a3 a4 a5 a6 a7 a8) _ rfl rfl rfl Q7s rfl (z1g [a0,a1,a2,a3,a4,a5,a6,a7,a8]) ?_)
    |(go_at_call 53;refine BA.mono ?_;rintro e w1⟨rfl,hf1⟩;have j8:=hid ((z0c HO.out (fun g hg=>(Mod.trans ((mRf (fun _=>False) wr).alloc _) hf1).block g (j7.out g hg).2 (fun x=>x))).alloc (.cells (Q21 a0 a1 a2 a3 a4 a5 a6 a7 a8) 130 (0,0))))
    |(refine wpList_load_mid rfl 118 _ rfl gp (i*2) rfl [.int .i64 ph,.slice sao psy.length scap] _ RG.out Tryz.underlying118 rfl Q98 ?_))
   intro v' w5 hown2 hgrow hblk;have ja:Q0a w w5:=Mod.grown (S:=fun _=>False) (((j4.alloc _).trans hf1).alloc _ |>.alloc _) hgrow (fun k hk hlt=>by have:=(j7.out k hk).1;omega);have j9:=hid hown2;clear hown2 hgrow hblk;go_wp2;go_roundw
   case rel =>
    refine⟨i+1,by go_num,by omega,?_,ja⟩;unfold Q8s;rw[j3.out,z0y,qP,qAf];exact j9.out
   exact jb.out
  simp only[qBb]at j0;have jc:=hid (z04 j1.out j2.fo);have TU:=hid (fun w=>z1b w bg1 hd.fo j1.out j2.fo);generalize orL bg1 hd.fo=OO at j0 jc TU;have j3:=hid j0;obtain⟨a0,a1,a2,a3,a4,a5,a6,a7,a8,e9⟩:=Q7a jc.out;subst e9;clear j0;go_wp2_with (first
   |(at_builtin;refine z0g _ rfl _ _ 122 rfl w.heap.size 130 i0 _ 9 9 Tryz.underlying122 hi0 iz0 iz1 iz2 rfl (by decide) _ _ _ rfl (j8.alloc _) ⟨w3.heap.size,0,none⟩ 1 1 (bls [a0,a1,a2,a3,a4,a5,a6,a7,a8]) rfl rfl (by have q:=@z0l (w3.setRow w1.heap.size (Q21 a0 a1 a2 a3 a4 a5 a6 a7 a8)) (Q21 a0 a1 a2 a3 a4 a5 a6 a7 a8) (bls [a0,a1,a2,a3,a4,a5,a6,a7,a8]) 130 rfl;rw[ji]at q;exact q) (x1g _) (by unfold maxLen;omega) (by omega) (by have h3:=j4.size;have h4:=f3.size;simp at h4;simp;omega) ?_)
   |(refine wpList_load_row rfl 130 _ rfl w1.heap.size rfl _ (Q21 a0 a1 a2 a3 a4 a5 a6 a7 a8) _ _ jk.out Tryz.underlying130 rfl Q7s ?_)
   |(refine wpList_store_row rfl 130 _ _ rfl w1.heap.size (Q21 a0 a1 a2 a3 a4 a5 a6 a7 a8) rfl rfl _ _ t3.out Q7s (Q0k (z0u j1.out) rfl) (z1g [a0,a1,a2,a3,a4,a5,a6,a7,a8]) ?_)
   |(go_at_call 54;refine(TU.out _).mono ?_;rintro e w3⟨rfl,hf3⟩;have t3:=hid (hf3.at (z0b t2.out) (fun x=>x));have f3:Hid (Q0a wr (w3.setRow w1.heap.size (Q21 a0 a1 a2 a3 a4 a5 a6 a7 a8))):=(Mod.trans (f2.alloc _) hf3).setRow (by intro q;omega) _;have jk:=hid (setRow_heap _ _ _ (Q21 a0 a1 a2 a3 a4 a5 a6 a7 a8) _ _ t3.out);have ji:(w3.setRow w1.heap.size (Q21 a0 a1 a2 a3 a4 a5 a6 a7 a8)).heap.size=w3.heap.size:=(by simp);have j8:=hid (z0c HO.out (fun g hg=>f3.block g (j7.out g hg).2 (fun x=>x))))
   |(refine wpList_load_mid rfl 130 _ rfl w2.heap.size 12 rfl (bls hd.fo) _ (Q4o j2.out (z0a _ _)) Tryz.underlying130 rfl (Q5j j2.fo) ?_)
   |(refine wpList_load_row rfl 130 _ rfl w1.heap.size rfl _ _ _ _ (z0b t2.out) Tryz.underlying130 rfl (Q0s j1.out) ?_)
   |(refine z0e rfl 179 _ _ rfl w2 _ (hdA hd) _ rfl rfl rfl (Q1n j2.out) (Q0k rfl (z07 j2.out)) (z1t _) ?_)
   |(go_at_call 84;refine(GA.out _ (HF.fresh (f1.alloc _))).mono ?_;rintro e w2⟨rfl,hf2⟩;have jp:w1.heap.size<w2.heap.size:=(by have:=hf2.size;simp at this;omega);have f2:Hid (Q0a wr w2):=Mod.trans (f1.alloc _) hf2;have t2:=hid (hf2.at (z0a w1 _) (fun x=>x)))
   |(refine z0e rfl 130 _ _ rfl w1 _ (tkA bg1) _ rfl rfl rfl (Q0s j1.out) (Q0k rfl (z0u j1.out)) (z1g _) ?_)
   |(go_at_call 53;refine BA.mono ?_;rintro e w1⟨rfl,hf1⟩;have jo:wr.heap.size<w1.heap.size:=(by have:=hf1.size;simp at this;omega);have f1:Hid (Q0a wr w1):=Mod.trans ((mRf _ wr).alloc _) hf1;have k1:(w1.alloc (.cells (tkA bg1) 130 (0,0))).cell? ⟨wr.heap.size,0,none⟩=some (.int .i64 ph):=(by rw[Q0b (z0b (hf1.at (z0a _ _) (fun x=>x))) 0];rfl))
   |(refine wpList_load_mid rfl 118 _ rfl gp (i*2) rfl [.int .i64 ph,.slice sao psy.length scap] _ RG.out Tryz.underlying118 rfl Q98 ?_))
  intro v' w5 hown2 hgrow hblk;have ja:Q0a w w5:=Mod.grown (S:=fun _=>False) ((j4.trans f3.out).alloc _) hgrow (fun k hk hlt=>by have:=(j7.out k hk).1;omega);have j9:=hid hown2;clear hown2 hgrow hblk;go_wp2;go_roundw
  case rel =>
   refine⟨i+1,by go_num,by omega,?_,ja⟩;unfold Q8s;rw[j3.out,z0y,qP,qAf];exact j9.out
  exact jb.out
 have jg:i=ps.length:=by omega
 have jn:¬(i:Int)<(ps.length:Int):=by omega
 have jj:=je.out jg;clear hF hfr;go_wp2;go_ret;refine⟨_,rfl,j4.out,?_⟩;rw[← jj,HY.out];exact HO.out
def ldT(v:Value):Sem Value:=Instr.loadAt 130 v
theorem x6e(v:Value):Instr.loadAt 130 v=ldT v:=rfl
theorem x9s{w:World}{g o:Nat}{l:List Bool}(hl:l.length=9)(hr:w.rangeAt g o (bls l)):(ldT (.pointer (some ⟨g,o,none⟩))).run Tryz.prog w=.ok (.agg (tkA l)) w :=
 run_loadAt_mid w g o _ _ _ hr Tryz.underlying130 rfl (Q5j hl)
def ovL(n t:Int):List (Pr × List Bool)->Nat->List Int
 | [],_=>[]
 |p::l,i=>if p.1.head=n/\Q8y p.2 t=true then(i:Int)::ovL n t l (i+1) else ovL n t l (i+1)
theorem y6t(n t:Int):∀(l:List (Pr × List Bool)) (i:Nat),(ovL n t l i).length<=l.length
 | [],_=>by simp[ovL]
 |p::l,i=>by
  unfold ovL;have:=y6t n t l (i+1);split<;>simp<;>omega
attribute [local go_sem ↓] x6e
theorem z6g(w:World)(R H:Int)(vp:Value)(ps:List PV)(hp:Q3c w w.heap.size vp ps)(hps:ps.length<=1000)(va:Value)(al:List (List Bool))(base:Nat)(ha:Q8s w base va al)(hal:al.length=ps.length)(ha9:∀a∈al,a.length=9)(n t:Int) :
  Calls Tryz.prog 52 #[.agg #[.int .i64 R,.int .i64 H,vp],va,.int .i64 n,.int .i64 t] w fun e w'=>∃v,e=.returned v/\Q0a w w'/\IntOwn w' w.heap.size v (ovL n t ((Q0j ps).zip al) 0):=by
 obtain⟨i0,hi0,iz0,iz1,iz2⟩:=infoI';have HP:=hid hp;obtain⟨pa,pc,hvp⟩:=z0d hp.row.own;subst hvp;obtain⟨aa,ac,hva⟩:=z0d ha;subst hva;have jd:Hid (Q2e bls 9 130 w (.slice aa al.length ac) al):=⟨z0f ha (qBg _),fun x hx=>by simp[bls,ha9 x hx]⟩;have jc:=hid ha9;generalize hR:ovL n t ((Q0j ps).zip al) 0=RES;have HR:=hid hR;rw[hal];have j4:=hid hal;clear hp ha ha9 hR hal;go_enter Tryz.func52,Tryz.ntmps52
 go_wp2;go_loopw [9,10,11,15] (fun x9 _ _ x15 wr=>∃(i:Nat) (acc:List Int),x15=.int .i64 i/\i<=ps.length/\acc.length<=i/\acc++ovL n t (((Q0j ps).zip al).drop i) i=RES/\IntOwn wr w.heap.size x9 acc/\Q0a w wr)
   (fun _ _ _ x _=>1001-(intOf x).toNat)
 case atStart=>exact⟨0,[],rfl,by omega,by simp,HR.out,World.ownsRow_nil _ _ _ _,(mRf _ w).alloc _⟩
 obtain⟨i,acc,rfl,hi,hacc,hres,hown,hfr⟩:=hrel;have j5:=hid (Q15 (B:=1001) i (by omega));have j1:=hid hfr;have HO:=hid hown;have j6:=hid hown.lt;obtain⟨ro,rc,hro⟩:=z0d hown;subst hro;clear hown;by_cases hlt:i<ps.length
 ·have jh:(i:Int)<(ps.length:Int):=by omega
  have j8:i<al.length:=by have:=j4.out;omega
  have jb:i<((Q0j ps).zip al).length:=by have:=j4.out;simp[Q0j];omega
  rw[qC jb]at hres;have ja:((Q0j ps).zip al)[i]=(ps[i].pr,al[i]):=by simp[Q0j]
  rw[ja]at hres;unfold ovL at hres;dsimp only at hres;have j3:=HP.kept (qR _) hfr (fun _ _ x=>x);obtain⟨gp,cap',hv'⟩:=Joins.ownsRow_form j3.row.own (by omega);rw[qI]at hv';obtain⟨rfl,_,rfl⟩:=hv';have RG:Hid (wr.rangeAt gp (i*2) [.int .i64 ps[i].pr.head,ps[i].vs]):=j3.row.range i hlt;obtain⟨sao,scap,hsv,_⟩:=j3.syms ps[i] (by simp);have j7:=(jd.fresh hfr);obtain⟨ga,ac',hva'⟩:=Joins.ownsRow_form j7.own (by omega);rw[qI]at hva';obtain⟨rfl,_,rfl⟩:=hva';have j9:=j7.range i j8;have h9:=jc.out al[i] (by simp);have TH:=hid (fun w=>x7o w al[i] t h9);generalize hpl:ps[i].pr.syms.length=pl at hsv;generalize ps[i].pr.head=ph at hres RG;rw[hsv]at RG;have l1:(ldT (.pointer (some ⟨ga,i*9,none⟩))).run Tryz.prog (wr.alloc (.cells #[.int .i64 ph,.slice sao pl scap] 118 (0,0)))=.ok (.agg (tkA al[i])) (wr.alloc (.cells #[.int .i64 ph,.slice sao pl scap] 118 (0,0))) :=
   x9s h9 (World.rangeAt_alloc j9 _)
  generalize al[i]=ai at hres TH l1;have b4:decide ((i:Int)<(ps.length:Int))=true:=by simpa using jh
  clear j3 j7 j9 h9 hfr ja j8 jb;by_cases hh:ph=n
  ·subst hh;generalize Q8y ai t=tv at hres TH;cases tv
   ·rw[qAa (by simp)]at hres;have j0:=hid hres;clear hres;go_wp2_with (first
     |(go_at_call 85;refine(TH.out _).mono ?_;rintro e w1⟨rfl,hf1⟩)
     |(refine wpList_load_mid rfl 118 _ rfl gp (i*2) rfl [.int .i64 ph,.slice sao pl scap] _ RG.out Tryz.underlying118 rfl Q98 ?_))
    go_roundw
    case rel =>
     refine⟨i+1,acc,by go_num,by omega,by omega,j0.out,?_,(j1.alloc _).trans hf1⟩;exact z0c HO.out (fun g hg=>(Mod.trans ((mRf (fun _=>False) wr).alloc _) hf1).block g (j6.out g hg).2 (fun x=>x))
    exact j5.out
   rw[qAb ⟨rfl,rfl⟩]at hres;have j0:=hid hres;clear hres;go_wp2_with (first
    |(at_builtin;refine z0g _ rfl _ _ 22 rfl w.heap.size 3 i0 _ 1 8 Tryz.underlying22 hi0 iz0 iz1 iz2 rfl (by decide) _ _ _ rfl (je.alloc _) ⟨w1.heap.size,0,none⟩ 1 1 [.int .i64 i] rfl rfl (z0l rfl) (by intro u hu;simp at hu;subst hu;rfl) (by unfold maxLen;omega) (by omega) (by have h3:=j1.size;have h4:=hf1.size;simp at h4;simp;omega) ?_)
    |(go_at_call 85;refine(TH.out _).mono ?_;rintro e w1⟨rfl,hf1⟩;have je:=hid (z0c HO.out (fun g hg=>(Mod.trans ((mRf (fun _=>False) wr).alloc _) hf1).block g (j6.out g hg).2 (fun x=>x))))
    |(refine wpList_load_mid rfl 118 _ rfl gp (i*2) rfl [.int .i64 ph,.slice sao pl scap] _ RG.out Tryz.underlying118 rfl Q98 ?_))
   intro v' w5 hown2 hgrow hblk;have jg:Q0a w w5:=Mod.grown (S:=fun _=>False) (((j1.alloc _).trans hf1).alloc _) hgrow (fun k hk hlt=>by have:=(j6.out k hk).1;omega);have jf:=hid hown2;clear hown2 hgrow hblk;go_wp2;go_roundw
   case rel =>
    refine⟨i+1,acc++[(i:Int)],by go_num,by omega,by simp;omega,by rw[qAh];exact j0.out,?_,jg⟩;unfold IntOwn;rw[qP,qAf,show Q5w (acc++[(i:Int)])=Q5w acc++[.int .i64 i] from by simp];exact jf.out
   exact j5.out
  have b1:(ph==n)=false:=by simp[hh]
  rw[qAa (fun h=>hh h.1)]at hres;have j0:=hid hres;clear hres;go_wp2_with (first
   |(refine wpList_load_mid rfl 118 _ rfl gp (i*2) rfl [.int .i64 ph,.slice sao pl scap] _ RG.out Tryz.underlying118 rfl Q98 ?_))
  go_roundw
  case rel =>
   refine⟨i+1,acc,by go_num,by omega,by omega,j0.out,?_,j1.alloc _⟩;exact HO.alloc _
  exact j5.out
 have jj:i=ps.length:=by omega
 have ji:¬(i:Int)<(ps.length:Int):=by omega
 rw[qAi (by have:=j4.out;simp[Q0j];omega)]at hres;have j2:acc=RES:=by simpa [ovL]using hres
 subst j2;clear hres hfr;go_wp2;go_ret;exact⟨_,rfl,j1.out,HO.out⟩
end Go.Proofs.YtcpceafmlgaodaaGreat
