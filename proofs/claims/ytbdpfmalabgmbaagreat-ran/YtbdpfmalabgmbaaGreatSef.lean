import Derived.Test.YtbdpfmalabgmbaaGreatSec
import Derived.Test.YtbdpfmalabgmbaaGreatMu7
namespace Go.Proofs.YtbdpfmalabgmbaaGreat
open Go.RowKit
set_option maxRecDepth 99999
set_option maxHeartbeats 0
set_option linter.all false
def Q7p(s:ByteArray):List Hd:=Q33 (Q0p (Q0c s).1) (Q0z ((Q0g (Q0c s).1).length:Nat) (Q0j (Q0c s).1).length)
theorem z9i:∀(l:List Ln) (acc:List Wd),(Q14 l acc).length<=acc.length+l.length
 | [],acc=>by simp[Q14]
 |x::l,acc=>by
  unfold Q14;have h1:=z9i l acc;have h2:=z9i l (acc++[x.front]);simp only[qP,qBk,qEq]at h1 h2 ⊢;split
  ·omega
  split<;>omega
theorem y5w{s:ByteArray}(h:(Q0u s).1=0):(Q0g (Q0c s).1).length<=800/\(Q0j (Q0c s).1).length<=800/\(Q0p (Q0c s).1).length<=800:=by
 have j1:=z5g h;have j0:=(z1k s).1;have h1:=z9i (Q0c s).1 [];have h2:=qCc Q0x (Q0c s).1;have h3:=qCc (fun x=>!Q0x x) (Q0c s).1;unfold Q0g Q0j Q0p Q05;simp only[qAv,qEq]at *;omega
theorem Q0h{a b:World}{p:Addr}{v:Value}(h:Q0a a b)(hc:a.cell? p=some v):b.cell? p=some v:=by
 have hp:p.block<a.heap.size:=by
  unfold World.cell? at hc;split at hc
  ·rename_i hq;exact z0j hq
  cases hc
 have hb:=h.block p.block hp id;unfold World.cell? at hc ⊢;rw[hb];exact hc
def Q1c(w:World)(v:Value)(l:List Int):Prop :=
 ∃ao cap,v=.slice ao l.length cap/\l.length<=cap/\∀j (h:j<l.length),∃g o,ao=some ⟨g,o,none⟩/\w.cell? ⟨g,o+j,none⟩=some (.int .i64 l[j])
theorem Q1c.fresh{w w':World}{v:Value}{l:List Int}(h:Q1c w v l)(hf:Q0a w w'):Q1c w' v l:=by
 obtain⟨ao,cap,h1,h2,h3⟩:=h;refine⟨ao,cap,h1,h2,fun j hj=>?_⟩;obtain⟨g,o,h4,h5⟩:=h3 j hj;exact⟨g,o,h4,Q0h hf h5⟩
theorem IntOwn.at'{w:World}{base:Nat}{v:Value}{l:List Int}(h:IntOwn w base v l):Q1c w v l:=by
 rcases h.2 with⟨rfl,h0⟩|⟨g,cap,j0,rfl,_,_,hc,_⟩
 ·exact⟨none,0,by rw[h0],by omega,fun j hj=>by omega⟩
 refine⟨_,_,rfl,hc,fun j hj=>⟨g,0,rfl,?_⟩⟩;have:=h.cells (g:=g) rfl j (.int .i64 l[j]) (by simp[hj]);rwa [qDd]at this
theorem Q1c.drop{w:World}{gs os cap:Nat}{l:List Int}(h:Q1c w (.slice (some ⟨gs,os,none⟩) l.length cap) l)(k:Nat)(hk:k<=l.length) :
  Q1c w (.slice (some ⟨gs,os+k,none⟩) (l.length-k) (cap-k)) (l.drop k):=by
 obtain⟨ao,c,h1,h2,h4⟩:=h;rw[qI]at h1;obtain⟨rfl,_,rfl⟩:=h1;refine⟨some ⟨gs,os+k,none⟩,cap-k,by simp,by simp;omega,fun i hi=>?_⟩;simp only[qCt]at hi;obtain⟨g,o,e1,e3⟩:=h4 (k+i) (by omega);simp only[qO,Addr.mk.injEq]at e1;obtain⟨rfl,rfl,_⟩:=e1;refine⟨gs,os+k,rfl,?_⟩;rw[qDm];simpa using e3
theorem Q1c.none{w:World}{ao:Option Addr}{l:List Int}(hl:l=[]){n c:Nat}(hn:n=0):Q1c w (.slice ao n c) l:=by
 subst hl;subst hn;exact⟨ao,c,rfl,by simp,fun i hi=>by simp at hi⟩
theorem z4b(a:List Bool):(Q3e a).length<=9:=z9n a 9
theorem z1d(hs:List Hd)(n m:Int)(x:Hd):Q1k (Q70 hs n x) m=if m=n/\0<=n/\n<hs.length then x else Q1k hs m:=by
 unfold Q1k Q70;by_cases hn:0<=n
 ·rw[qAb hn];by_cases hm:0<=m
  ·rw[qAb hm,qAb hm,qCs];by_cases e:n.toNat=m.toNat
   ·have e2:m=n:=by omega
    subst e2;rw[qAb e];by_cases hl:m.toNat<hs.length
    ·rw[qAb hl,qAb ⟨rfl,hn,by omega⟩];rfl
    rw[qAa hl,qAa (by omega),qN (by omega)]
   rw[qAa e,qAa (by omega)]
  rw[qAa hm,qAa hm,qAa (by omega)]
 rw[qAa hn,qAa (show ¬(m=n/\0<=n/\n<hs.length) from fun h=>hn h.2.1)]
theorem z5o{hs:List Hd}{n:Int}{x:Hd}(h:Q67 hs n x=false)(h0:0<=n)(hl:n<hs.length):Q1k hs n=x:=by
 unfold Q67 at h;unfold Q1k;rw[qAb h0]at h ⊢;rw[qE (by omega)]at h ⊢;exact z8c.1 (by simpa using h)
theorem z9c:∀(l:List Pr) (hs:List Hd) (g:Bool),(∀x∈hs,x.ok)->(Q5k l hs g).2=false->∀p∈l,(Q3i hs p).2=false
 | [],_,_,_,_,p,hp=>by cases hp
 |q::l,hs,g,hok,h,p,hp=>by
  have h1:=z3u hok q g;have h2:=z4z l h1.ok (g||(Q3i hs q).2);have h3:=(h2.same h).1;simp only[qCb]at h3;have h4:=(h1.same (by simpa using h3)).2;simp only[qBu]at hp;rcases hp with rfl|hp
  ·exact h3.2
  have h5:(Q5k l (Q3i hs q).1 (g||(Q3i hs q).2)).2=false:=h;dsimp only at h4;rw[h4]at h5;exact z9c l hs _ hok h5 p hp
theorem z9d:∀(l:List Pr) (hs:List Hd) (g:Bool),(∀x∈hs,x.ok)->(Q48 l hs g).2=false->∀p∈l,(Q4t hs p).2=false
 | [],_,_,_,_,p,hp=>by cases hp
 |q::l,hs,g,hok,h,p,hp=>by
  have h1:=z40 hok q g;have h2:=z41 l h1.ok (g||(Q4t hs q).2);have h3:=(h2.same h).1;simp only[qCb]at h3;have h4:=(h1.same (by simpa using h3)).2;simp only[qBu]at hp;rcases hp with rfl|hp
  ·exact h3.2
  have h5:(Q48 l (Q4t hs q).1 (g||(Q4t hs q).2)).2=false:=h;dsimp only at h4;rw[h4]at h5;exact z9d l hs _ hok h5 p hp
theorem z5z(ph:Int):∀(l:List Sy) (hs:List Hd) (g:Bool),(∀x∈hs,x.ok)->(Q2z ph l hs g).2=false->∀(a:List Sy) (s:Sy) (b:List Sy),l=a++s::b->s.isH=true->Q67 hs s.num (Q5t hs ph s.num b)=false
 | [],_,_,_,_,a,s,b,e,_=>by cases a<;>cases e
 |q::l,hs,g,hok,h,a,s,b,e,hs1=>by
  unfold Q2z at h;cases hq:q.isH
  ·rw[qAb hq]at h;cases a with
   |nil=>simp only[qCh,qBe]at e;obtain⟨rfl,_⟩:=e;rw[hq]at hs1;cases hs1
   |cons c a=>simp only[qBh,qBe]at e;exact z5z ph l hs g hok h a s b e.2 hs1
  rw[qAa (by simp[hq])]at h;have h1:Q2u hs (Q70 hs q.num (Q5t hs ph q.num l),g||Q67 hs q.num (Q5t hs ph q.num l)) g:=by
   refine Q2u.put hok ?_ ?_ g
   ·exact⟨(z0k hok q.num).fi,z04 (z0k hok q.num).fo (z3j hok _ _)⟩
   exact v0l (z0k hok _) (z3j hok _ _)
  have h2:=z3c ph l h1.ok (g||Q67 hs q.num (Q5t hs ph q.num l));have h3:=(h2.same h).1;have h4:=(h1.same h3).2;simp only[qCb]at h3;cases a with
  |nil=>simp only[qCh,qBe]at e;obtain⟨rfl,rfl⟩:=e;exact h3.2
  |cons c a =>
   simp only[qBh,qBe]at e;dsimp only at h4;rw[h4]at h;exact z5z ph l hs _ hok h a s b e.2 hs1
theorem z9g:∀(l:List Pr) (hs:List Hd) (g:Bool),(∀x∈hs,x.ok)->(Q5l l hs g).2=false->∀p∈l,(Q2z p.head p.syms hs false).2=false
 | [],_,_,_,_,p,hp=>by cases hp
 |q::l,hs,g,hok,h,p,hp=>by
  have h1:=z3c q.head q.syms hok g;have h2:=z43 l h1.ok (Q2z q.head q.syms hs g).2;have h3:=(h2.same h).1;have h4:=h1.same h3;simp only[qBu]at hp;rcases hp with rfl|hp
  ·have h6:=h3;rw[h4.1]at h6;exact h6
  have h5:(Q5l l (Q2z q.head q.syms hs g).1 (Q2z q.head q.syms hs g).2).2=false:=h;rw[h4.2]at h5;exact z9g l hs _ hok h5 p hp
theorem z5y:∀(l:List Sy) (hs:List Hd) (g:Bool),(∀x∈hs,x.ok)->(Q3j l hs g).2=false->∀s∈l,s.isH=true->Q67 hs s.num {Q1k hs s.num with rch:=true}=false
 | [],_,_,_,_,s,hs,_=>by cases hs
 |q::l,hs,g,hok,h,s,hm,hs1=>by
  unfold Q3j at h;simp only[qBu]at hm;cases hq:q.isH
  ·rw[qAb hq]at h;rcases hm with rfl|hm
   ·rw[hq]at hs1;cases hs1
   exact z5y l hs g hok h s hm hs1
  rw[qAa (by simp[hq])]at h;have h1:Q2u hs (Q70 hs q.num {Q1k hs q.num with rch:=true},g||Q67 hs q.num {Q1k hs q.num with rch:=true}) g:=by
   refine Q2u.put hok ?_ ?_ g
   ·exact⟨(z0k hok q.num).fi,(z0k hok q.num).fo⟩
   exact x3o _
  have h2:=z3b l h1.ok (g||Q67 hs q.num {Q1k hs q.num with rch:=true});have h3:=(h2.same h).1;have h4:=(h1.same h3).2;simp only[qCb]at h3;rcases hm with rfl|hm
  ·exact h3.2
  dsimp only at h4;rw[h4]at h;exact z5y l hs _ hok h s hm hs1
theorem z5x:∀(l:List Pr) (hs:List Hd) (g:Bool),(∀x∈hs,x.ok)->(Q3o l hs g).2=false->∀p∈l,(Q1k hs p.head).rch=true->(Q3j p.syms hs false).2=false
 | [],_,_,_,_,p,hp,_=>by cases hp
 |q::l,hs,g,hok,h,p,hp,hr=>by
  unfold Q3o at h;simp only[qBu]at hp;cases hq:(Q1k hs q.head).rch
  ·rw[qAb hq]at h;rcases hp with rfl|hp
   ·rw[hq]at hr;cases hr
   exact z5x l hs g hok h p hp hr
  rw[qAa (by simp[hq])]at h;have h1:=z3b q.syms hok g;have h2:=z3v l h1.ok (Q3j q.syms hs g).2;have h3:=(h2.same h).1;have h4:=h1.same h3;rcases hp with rfl|hp
  ·have h6:=h3;rw[h4.1]at h6;exact h6
  rw[h4.2]at h;exact z5x l hs _ hok h p hp hr
def Q0o{α:Type}(f:Hd->α)(hs hs':List Hd):Prop:=∀n,f (Q1k hs' n)=f (Q1k hs n)
theorem Q0o.refl{α:Type}(f:Hd->α)(hs:List Hd):Q0o f hs hs:=fun _=>rfl
theorem Q0o.trans{α:Type}{f:Hd->α}{a b c:List Hd}(h:Q0o f a b)(k:Q0o f b c):Q0o f a c:=fun n=>(k n).trans (h n)
theorem Q0o.put{α:Type}{f:Hd->α}{hs:List Hd}{n:Int}{x:Hd}(h:f x=f (Q1k hs n)):Q0o f hs (Q70 hs n x):=fun m=>by
 rw[z1d];split
 ·rename_i e;rw[e.1];exact h
 rfl
theorem z1v{α:Type}{f:Hd->α}(hf:∀(h:Hd) (b:Bool) (l:List Bool),f {h with nul:=b,fi:=l}=f h):∀(l:List Pr) (hs:List Hd) (g:Bool),Q0o f hs (Q5k l hs g).1
 | [],hs,_=>Q0o.refl f hs
 |p::l,hs,g=>Q0o.trans (Q0o.put (hf _ _ _)) (z1v hf l _ _)
theorem z02{α:Type}{f:Hd->α}(hf:∀(h:Hd) (b:Bool),f {h with fru:=b}=f h):∀(l:List Pr) (hs:List Hd) (g:Bool),Q0o f hs (Q48 l hs g).1
 | [],hs,_=>Q0o.refl f hs
 |p::l,hs,g=>Q0o.trans (Q0o.put (hf _ _)) (z02 hf l _ _)
theorem z44{α:Type}{f:Hd->α}(hf:∀(h:Hd) (l:List Bool),f {h with fo:=l}=f h) (ph:Int):∀(l:List Sy) (hs:List Hd) (g:Bool),Q0o f hs (Q2z ph l hs g).1
 | [],hs,_=>Q0o.refl f hs
 |s::l,hs,g=>by
  unfold Q2z;split
  ·exact z44 hf ph l hs g
  exact Q0o.trans (Q0o.put (hf _ _)) (z44 hf ph l _ _)
theorem z1e{α:Type}{f:Hd->α}(hf:∀(h:Hd) (l:List Bool),f {h with fo:=l}=f h):∀(l:List Pr) (hs:List Hd) (g:Bool),Q0o f hs (Q5l l hs g).1
 | [],hs,_=>Q0o.refl f hs
 |p::l,hs,g=>Q0o.trans (z44 hf p.head p.syms hs g) (z1e hf l _ _)
theorem z42{α:Type}{f:Hd->α}(hf:∀(h:Hd) (b:Bool),f {h with rch:=b}=f h):∀(l:List Sy) (hs:List Hd) (g:Bool),Q0o f hs (Q3j l hs g).1
 | [],hs,_=>Q0o.refl f hs
 |s::l,hs,g=>by
  unfold Q3j;split
  ·exact z42 hf l hs g
  exact Q0o.trans (Q0o.put (hf _ _)) (z42 hf l _ _)
theorem z0y{α:Type}{f:Hd->α}(hf:∀(h:Hd) (b:Bool),f {h with rch:=b}=f h):∀(l:List Pr) (hs:List Hd) (g:Bool),Q0o f hs (Q3o l hs g).1
 | [],hs,_=>Q0o.refl f hs
 |p::l,hs,g=>by
  unfold Q3o;split
  ·exact z0y hf l hs g
  exact Q0o.trans (z42 hf p.syms hs g) (z0y hf l _ _)
theorem y01{hs hs':List Hd}(h1:Q0o Hd.nul hs hs')(h2:Q0o Hd.fi hs hs'):∀(l:List Sy) (acc:List Bool),Q2q hs' l acc=Q2q hs l acc
 | [],_=>rfl
 |s::l,acc=>by
  unfold Q2q;rw[h1 s.num,h2 s.num,y01 h1 h2 l]
theorem y4r:∀{a c b d:List Bool},a.length=c.length->leB (a++b) (c++d)->leB a c/\leB b d
 | [],[],_,_,_,h=>⟨trivial,h⟩
 |x::xs,y::ys,_,_,e,h=>by
  have:=y4r (a:=xs) (c:=ys) (by simpa using e) h.2;exact⟨⟨h.1,this.1⟩,this.2⟩
theorem Hd.le.parts{a b:Hd}(ha:a.ok)(hb:b.ok)(h:a.le b):(a.nul=true->b.nul=true)/\(a.rch=true->b.rch=true)/\(a.fru=true->b.fru=true)/\leB a.fi b.fi/\leB a.fo b.fo:=by
 obtain⟨h1,h2,h3,h4⟩:=h;have:=y4r (by rw[ha.fi,hb.fi]) h4;exact⟨h1,h2,h3,this.1,this.2⟩
def Up(hs hs':List Hd):Prop:=∀n,(Q1k hs n).le (Q1k hs' n)
theorem Up.refl(hs:List Hd):Up hs hs:=fun _=>Hd.le_refl _
theorem Up.trans{a b c:List Hd}(h:Up a b)(k:Up b c):Up a c:=fun n=>Hd.le_trans (h n) (k n)
theorem Up.put{hs:List Hd}{n:Int}{x:Hd}(h:(Q1k hs n).le x):Up hs (Q70 hs n x):=fun m=>by
 rw[z1d];split
 ·rename_i e;rw[e.1];exact h
 exact Hd.le_refl _
theorem x2y{hs:List Hd}(hok:∀x∈hs,x.ok)(p:Pr):Up hs (Q3i hs p).1:=Up.put (v2e (z0k hok _) _ (z1a hok _ _ rfl))
theorem x20(hs:List Hd)(p:Pr):Up hs (Q4t hs p).1:=Up.put (x84 _ _)
theorem z9f:∀(l:List Sy) (hs:List Hd) (g:Bool),Up hs (Q3j l hs g).1
 | [],hs,_=>Up.refl hs
 |s::l,hs,g=>by
  unfold Q3j;split
  ·exact z9f l hs g
  exact Up.trans (Up.put (x3o _)) (z9f l _ _)
theorem z9e:∀(l:List Pr) (hs:List Hd) (g:Bool),Up hs (Q3o l hs g).1
 | [],hs,_=>Up.refl hs
 |p::l,hs,g=>by
  unfold Q3o;split
  ·exact z9e l hs g
  exact Up.trans (z9f p.syms hs g) (z9e l _ _)
theorem y3m{a:List Bool}{n:Int}{t:Nat}(h:(Q2h a n).getD t false=true):a.getD t false=true∨(0<=n/\n.toNat=t):=by
 unfold Q2h at h;split at h
 ·rename_i hn;simp only[qD,qCs]at h ⊢;by_cases e:n.toNat=t
  ·exact .inr ⟨hn.1,e⟩
  rw[qAa e]at h;exact .inl h
 exact .inl h
theorem y9v{a:List Bool}(ha:a.length=9)(n:Int):leB a (Q2h a n):=by
 refine y8z (by rw[z2t ha,ha]) (fun i hi=>?_);unfold Q2h;split
 ·simp only[qD,qCs]at hi ⊢;split
  ·split
   ·rfl
   rename_i h1 h2;rw[qN (by omega)]at hi;simp at hi
  exact hi
 exact hi
theorem x1g{a b:List Bool}(ha:a.length=9)(hb:b.length=9)(h:leB a b)(n:Int):leB (Q2h a n) (Q2h b n):=by
 refine y8z (by rw[z2t ha,z2t hb]) (fun i hi=>?_);rcases y3m hi with h1|⟨h1,h2⟩
 ·exact z4v (y9v hb n) i (z4v h i h1)
 unfold Q2h at hi ⊢;split
 ·rename_i hn;rw[qAb hn]at hi;simp only[qD,qCs,h2,qBn]at hi ⊢;rw[qAb (by omega)];rfl
 rename_i hn;rw[qAa hn]at hi;exact z4v h i hi
theorem x7d{a b c d:List Bool}(h1:leB a c)(h2:leB b d)(e:a.length=b.length):leB (orL a b) (orL c d):=by
 have e1:=y2o h1;have e2:=y2o h2;refine y8z (by simp[orL,← e1,← e2]) (fun i hi=>?_);rw[z3q e]at hi;rw[z3q (by omega)];simp only[qAt]at hi ⊢;rcases hi with hi|hi
 ·exact .inl (z4v h1 i hi)
 exact .inr (z4v h2 i hi)
theorem y3w{hs hs':List Hd}(hok:∀x∈hs,x.ok)(hok':∀x∈hs',x.ok)(hu:Up hs hs'):∀(l:List Sy) (acc acc':List Bool),acc.length=9->leB acc acc' ->
  leB (Q2q hs l acc).1 (Q2q hs' l acc').1/\((Q2q hs l acc).2=true->(Q2q hs' l acc').2=true)
 | [],_,_,_,h=>⟨h,fun e=>e⟩
 |s::l,acc,acc',ha,h=>by
  have ha':acc'.length=9:=by rw[← y2o h];exact ha
  obtain⟨p1,_,_,p4,_⟩:=(hu s.num).parts (z0k hok _) (z0k hok' _);have o1:=(z0k hok s.num).fi;have o2:=(z0k hok' s.num).fi;have j0:=x7d h p4 (by rw[ha,o1]);have j1:(orL acc (Q1k hs s.num).fi).length=9:=z04 ha o1;unfold Q2q;cases hs1:s.isH
  ·rw[qAb rfl,qAb rfl];exact⟨x1g ha ha' h _,fun e=>e⟩
  simp only[qDf,qAz];cases hn:(Q1k hs s.num).nul
  ·simp only[qBn];refine⟨?_,fun e=>by cases e⟩;split
   ·exact j0
   have h3:∀(l:List Sy) (acc:List Bool),acc.length=9->leB acc (Q2q hs' l acc).1:=by
    intro l;induction l with
    |nil=>intro acc _;exact z2b _
    |cons s l ih =>
     intro acc ha;unfold Q2q;split
     ·exact y9v ha _
     split
     ·exact z9m (by rw[ha,(z0k hok' _).fi])
     exact z45 (z9m (by rw[ha,(z0k hok' _).fi])) (ih _ (z04 ha (z0k hok' _).fi))
   exact z45 j0 (h3 l _ (z04 ha' o2))
  simp only[qDf,qAz];rw[p1 hn];simp only[qDf,qAz];exact y3w hok hok' hu l _ _ j1 j0
theorem z5v{hs hs':List Hd}(hok:∀x∈hs,x.ok)(hok':∀x∈hs',x.ok)(hu:Up hs hs')(l:List Sy)(h:Q45 hs l=true):Q45 hs' l=true:=by
 unfold Q45 at h ⊢;rw[qAy]at h ⊢;intro s j0;have:=h s j0;unfold fruB at this ⊢;simp only[qAt]at this ⊢;rcases this with h1|h1
 ·exact .inl h1
 exact .inr (((hu s.num).parts (z0k hok _) (z0k hok' _)).2.2.1 h1)
structure Q1d(ps:List Pr)(R H:Nat):Prop where
 hd:∀p∈ps,0<=p.head/\p.head<H
 sy:∀p∈ps,∀s∈p.syms,0<=s.num/\s.num<(if s.isH then(H:Int) else R)
def BFi(R:Nat)(hs:List Hd):Prop:=∀n t,(Q1k hs n).fi.getD t false=true->t<R
def BFo(R:Nat)(hs:List Hd):Prop:=∀n t,(Q1k hs n).fo.getD t false=true->t<=R
theorem y6l{R H:Nat}{hs:List Hd}(hok:∀x∈hs,x.ok)(hb:BFi R hs):∀(l:List Sy) (acc:List Bool),acc.length=9->(∀s∈l,0<=s.num/\s.num<(if s.isH then(H:Int) else R))->(∀t,acc.getD t false=true->t<R)->∀t,(Q2q hs l acc).1.getD t false=true->t<R
 | [],_,_,_,h,t,ht=>h t ht
 |s::l,acc,ha,hv,h,t,ht=>by
  have hor:∀t,(orL acc (Q1k hs s.num).fi).getD t false=true->t<R:=fun t ht=>by
   rw[z3q (by rw[ha,(z0k hok _).fi])]at ht;simp only[qAt]at ht;rcases ht with ht|ht
   ·exact h t ht
   exact hb _ t ht
  unfold Q2q at ht;cases hs1:s.isH
  ·rw[qAb hs1]at ht;have h1:=hv s (by simp);rw[hs1]at h1;simp only[qF,qAz]at h1;rcases y3m ht with h2|⟨h2,h3⟩
   ·exact h t h2
   omega
  rw[qAa (by simp[hs1])]at ht;split at ht
  ·exact hor t ht
  exact y6l hok hb l _ (z04 ha (z0k hok _).fi) (fun s hs=>hv s (by simp[hs])) hor t ht
theorem z3w(t:Nat):zero9.getD t false=false:=by
 rcases t with _|_|_|_|_|_|_|_|_|t<;>simp[zero9]
def SupN(ps:List Pr)(hs:List Hd):Prop:=∀n,(Q1k hs n).nul=true->∃p∈ps,p.head=n/\(Q2q hs p.syms zero9).2=true
def SupF(ps:List Pr)(hs:List Hd):Prop:=∀n t,(Q1k hs n).fi.getD t false=true->∃p∈ps,p.head=n/\(Q2q hs p.syms zero9).1.getD t false=true
def SupU(ps:List Pr)(hs:List Hd):Prop:=∀n,(Q1k hs n).fru=true->∃p∈ps,p.head=n/\Q45 hs p.syms=true
structure IB(ps:List Pr)(R:Nat)(hs0 hs:List Hd):Prop where
 ok:∀x∈hs,x.ok
 bfi:BFi R hs
 sn:SupN ps hs
 sf:SupF ps hs
 up:Up hs0 hs
theorem IB.step{ps:List Pr}{R H:Nat}(hT:Q1d ps R H){hs0 hs:List Hd}(h:IB ps R hs0 hs){p:Pr}(hp:p∈ps):IB ps R hs0 (Q3i hs p).1:=by
 have j1:=h.ok;have j5:∀x∈(Q3i hs p).1,x.ok:=(z3u j1 p false).ok;have hu:=x2y j1 p;have j6:=z1a j1 p.syms zero9 rfl;have mono:=fun(q:Pr)=>y3w j1 j5 hu q.syms zero9 zero9 rfl (z2b _);refine⟨j5,?_,?_,?_,h.up.trans hu⟩
 ·intro n t ht;unfold Q3i at ht;rw[z1d]at ht;split at ht
  ·dsimp only at ht;rw[z3q (by rw[(z0k j1 _).fi,j6])]at ht;simp only[qAt]at ht;rcases ht with ht|ht
   ·exact h.bfi _ t ht
   exact y6l j1 h.bfi p.syms zero9 rfl (hT.sy p hp) (fun t h=>by rw[z3w]at h;cases h) t ht
  exact h.bfi n t ht
 ·intro n hn;have j0:=hn;unfold Q3i at j0;rw[z1d]at j0;split at j0
  ·rename_i e;dsimp only at j0;simp only[qAt]at j0;rcases j0 with h1|h1
   ·obtain⟨q,j2,j3,j4⟩:=h.sn _ h1;exact⟨q,j2,j3.trans e.1.symm,(mono q).2 j4⟩
   exact⟨p,hp,e.1.symm,(mono p).2 h1⟩
  obtain⟨q,j2,j3,j4⟩:=h.sn n j0;exact⟨q,j2,j3,(mono q).2 j4⟩
 intro n t hn;have j0:=hn;unfold Q3i at j0;rw[z1d]at j0;split at j0
 ·rename_i e;dsimp only at j0;rw[z3q (by rw[(z0k j1 _).fi,j6])]at j0;simp only[qAt]at j0;rcases j0 with h1|h1
  ·obtain⟨q,j2,j3,j4⟩:=h.sf _ t h1;exact⟨q,j2,j3.trans e.1.symm,z4v (mono q).1 t j4⟩
  exact⟨p,hp,e.1.symm,z4v (mono p).1 t h1⟩
 obtain⟨q,j2,j3,j4⟩:=h.sf n t j0;exact⟨q,j2,j3,z4v (mono q).1 t j4⟩
theorem IB.list{ps:List Pr}{R H:Nat}(hT:Q1d ps R H){hs0:List Hd}:∀(l:List Pr) (hs:List Hd) (g:Bool),(∀p∈l,p∈ps)->IB ps R hs0 hs->IB ps R hs0 (Q5k l hs g).1
 | [],_,_,_,h=>h
 |p::l,hs,g,hl,h=>IB.list hT l _ _ (fun q hq=>hl q (by simp[hq])) (h.step hT (hl p (by simp)))
structure IU(ps:List Pr)(hs0 hs:List Hd):Prop where
 ok:∀x∈hs,x.ok
 su:SupU ps hs
 up:Up hs0 hs
theorem IU.step{ps:List Pr}{hs0 hs:List Hd}(h:IU ps hs0 hs){p:Pr}(hp:p∈ps):IU ps hs0 (Q4t hs p).1:=by
 have j2:=h.ok;have j0:∀x∈(Q4t hs p).1,x.ok:=(z40 j2 p false).ok;have hu:=x20 hs p;refine⟨j0,?_,h.up.trans hu⟩;intro n hn;have j1:=hn;unfold Q4t at j1;rw[z1d]at j1;split at j1
 ·rename_i e;dsimp only at j1;simp only[qAt]at j1;rcases j1 with h1|h1
  ·obtain⟨q,j3,j4,j5⟩:=h.su _ h1;exact⟨q,j3,j4.trans e.1.symm,z5v j2 j0 hu _ j5⟩
  exact⟨p,hp,e.1.symm,z5v j2 j0 hu _ h1⟩
 obtain⟨q,j3,j4,j5⟩:=h.su n j1;exact⟨q,j3,j4,z5v j2 j0 hu _ j5⟩
theorem IU.list{ps:List Pr}{hs0:List Hd}:∀(l:List Pr) (hs:List Hd) (g:Bool),(∀p∈l,p∈ps)->IU ps hs0 hs->IU ps hs0 (Q48 l hs g).1
 | [],_,_,_,h=>h
 |p::l,hs,g,hl,h=>IU.list l _ _ (fun q hq=>hl q (by simp[hq])) (h.step (hl p (by simp)))
structure IS(R:Nat)(hs0 hs:List Hd):Prop where
 ok:∀x∈hs,x.ok
 bfi:BFi R hs
 bfo:BFo R hs
 up:Up hs0 hs
theorem IS.syms{R H:Nat}{hs0:List Hd}(ph:Int):∀(l:List Sy) (hs:List Hd) (g:Bool),(∀s∈l,0<=s.num/\s.num<(if s.isH then(H:Int) else R))->IS R hs0 hs->IS R hs0 (Q2z ph l hs g).1
 | [],_,_,_,h=>h
 |s::l,hs,g,hv,h=>by
  have hv':∀s∈l,0<=s.num/\s.num<(if s.isH then(H:Int) else R):=fun s hs=>hv s (by simp[hs]);unfold Q2z;split
  ·exact IS.syms ph l hs g hv' h
  refine IS.syms ph l _ _ hv' ?_;have j0:=h.ok;have j1:=z3j j0 ph l;refine⟨y7f j0 _ ⟨(z0k j0 s.num).fi,z04 (z0k j0 s.num).fo j1⟩,?_,?_,h.up.trans (Up.put (v0l (z0k j0 _) j1))⟩
  ·intro n t ht;rw[z1d]at ht;split at ht
   ·exact h.bfi _ t ht
   exact h.bfi n t ht
  intro n t ht;rw[z1d]at ht;split at ht
  ·unfold Q5t at ht;dsimp only at ht;rw[z3q (by rw[(z0k j0 _).fo,j1])]at ht;simp only[qAt]at ht;rcases ht with ht|ht
   ·exact h.bfo _ t ht
   have j2:=y6l j0 h.bfi l zero9 rfl hv' (fun t h=>by rw[z3w]at h;cases h);unfold Q8n at ht;split at ht
   ·rw[z3q (by rw[z1a j0 _ _ rfl,(z0k j0 _).fo])]at ht;simp only[qAt]at ht;rcases ht with ht|ht
    ·have:=j2 t ht;omega
    exact h.bfo _ t ht
   have:=j2 t ht;omega
  exact h.bfo n t ht
theorem IS.list{ps:List Pr}{R H:Nat}(hT:Q1d ps R H){hs0:List Hd}:∀(l:List Pr) (hs:List Hd) (g:Bool),(∀p∈l,p∈ps)->IS R hs0 hs->IS R hs0 (Q5l l hs g).1
 | [],_,_,_,h=>h
 |p::l,hs,g,hl,h=>IS.list hT l _ _ (fun q hq=>hl q (by simp[hq])) (IS.syms p.head p.syms hs g (hT.sy p (hl p (by simp))) h)
structure Q90(ps:List Pr)(R H:Nat)(hs:List Hd):Prop where
 ok:∀x∈hs,x.ok
 len:hs.length=H
 bfi:BFi R hs
 bfo:BFo R hs
 clN:∀p∈ps,(Q2q hs p.syms zero9).2=true->(Q1k hs p.head).nul=true
 clF:∀p∈ps,∀t,(Q2q hs p.syms zero9).1.getD t false=true->(Q1k hs p.head).fi.getD t false=true
 sn:SupN ps hs
 sf:SupF ps hs
 clU:∀p∈ps,Q45 hs p.syms=true->(Q1k hs p.head).fru=true
 su:SupU ps hs
 clS:∀p∈ps,∀a s b,p.syms=a++s::b->s.isH=true->∀t,(Q8n hs p.head b).getD t false=true->(Q1k hs s.num).fo.getD t false=true
 clR:∀p∈ps,(Q1k hs p.head).rch=true->∀s∈p.syms,s.isH=true->(Q1k hs s.num).rch=true
 st1:0<H->(Q1k hs 0).rch=true
 st2:0<H->(Q1k hs 0).fo.getD R false=true
theorem z8d(R:Int):∀n,∀x∈Q0z R n,x.ok
 |0,x,hx=>by simp[Q0z]at hx
 |n+1,x,hx=>by
  simp only[Q0z,qU,qM]at hx;rcases hx with hx|rfl
  ·exact z8d R n x hx
  exact y2j _ _
theorem y8t(R:Int):∀(n i:Nat),i<n->(Q0z R n)[i]? = some (Q5e R i)
 |n+1,i,hi=>by
  unfold Q0z;by_cases h:i<n
  ·rw[qAl (by rw[z1y];exact h)];exact y8t R n i h
  have:i=n:=by omega
  subst this;rw[qAr (by rw[z1y];omega),z1y];simp
theorem z37(R:Int)(H:Nat)(n:Int):Q1k (Q0z R H) n=if 0<=n/\n<H then Q5e R n.toNat else zeroHd:=by
 unfold Q1k;by_cases h0:0<=n
 ·rw[qAb h0];by_cases hl:n<H
  ·rw[y8t R H n.toNat (by omega),qAb ⟨h0,hl⟩];rfl
  rw[qN (by rw[z1y];omega),qAa (by omega)];rfl
 rw[qAa h0,qAa (by omega)]
theorem Q0o.beg{hs hs':List Hd}(h1:Q0o Hd.nul hs hs')(h2:Q0o Hd.fi hs hs')(l:List Sy)(acc:List Bool):Q2q hs' l acc=Q2q hs l acc:=y01 h1 h2 l acc
theorem z8o{ps:List Pr}{R H:Nat}(hT:Q1d ps R H)(hR:R<=8):Q90 ps R H (Q33 ps (Q0z R H)):=by
 have jm:=z8d (R:Int) H;have hz:∀n,(Q1k (Q0z (R:Int) H) n).fi=zero9/\(Q1k (Q0z (R:Int) H) n).nul=false/\(Q1k (Q0z (R:Int) H) n).fru=false:=fun n=>by
  rw[z37];split
  ·unfold Q5e;split<;>exact⟨rfl,rfl,rfl⟩
  exact⟨rfl,rfl,rfl⟩
 have i0:IB ps R (Q0z (R:Int) H) (Q0z (R:Int) H):=by
  refine⟨jm,?_,?_,?_,Up.refl _⟩
  ·intro n t h;rw[(hz n).1,z3w]at h;cases h
  ·intro n h;rw[(hz n).2.1]at h;cases h
  intro n t h;rw[(hz n).1,z3w]at h;cases h
 obtain⟨⟨i1,jh,jj,j8⟩,j2,l1,f1⟩:=z1o (z22 ps) (I:=fun hs=>IB ps R (Q0z (R:Int) H) hs/\Q0o Hd.rch (Q0z (R:Int) H) hs/\Q0o Hd.fru (Q0z (R:Int) H) hs/\Q0o Hd.fo (Q0z (R:Int) H) hs)
  (fun hs _ h=>⟨IB.list hT ps hs false (fun _ hp=>hp) h.1,h.2.1.trans (z1v (fun _ _ _=>rfl) ps hs false),h.2.2.1.trans (z1v (fun _ _ _=>rfl) ps hs false),h.2.2.2.trans (z1v (fun _ _ _=>rfl) ps hs false)⟩) jm ⟨i0,Q0o.refl _ _,Q0o.refl _ _,Q0o.refl _ _⟩
 generalize hq1:Q47 (Q8h ps) (Q0z (R:Int) H)=hs1 at i1 jh jj j8 j2 l1 f1;rw[z1y]at l1;have c1:∀p∈ps,Q1k hs1 p.head={Q1k hs1 p.head with nul:=(Q1k hs1 p.head).nul||(Q2q hs1 p.syms zero9).2,fi:=orL (Q1k hs1 p.head).fi (Q2q hs1 p.syms zero9).1}:=fun p hp=>by
  have:=z9c ps hs1 false j2 (by show(Q8h ps hs1).2=false;rw[f1]) p hp;exact z5o this (hT.hd p hp).1 (by rw[l1];exact(hT.hd p hp).2)
 have jq:∀p∈ps,(Q2q hs1 p.syms zero9).2=true->(Q1k hs1 p.head).nul=true:=fun p hp e=>by
  rw[c1 p hp];simp[e]
 have jp:∀p∈ps,∀t,(Q2q hs1 p.syms zero9).1.getD t false=true->(Q1k hs1 p.head).fi.getD t false=true:=fun p hp t e=>by
  rw[c1 p hp];dsimp only;rw[z3q (by rw[(z0k j2 _).fi,z1a j2 _ _ rfl]),e];simp
 have jo:BFo R hs1:=fun n t h=>by
  rw[j8 n,z37]at h;split at h
  ·unfold Q5e at h;split at h
   ·rcases y3m h with h2|⟨h2,h3⟩
    ·rw[z3w]at h2;cases h2
    omega
   have:zeroHd.fo=zero9:=rfl;rw[this,z3w]at h;cases h
  have:zeroHd.fo=zero9:=rfl;rw[this,z3w]at h;cases h
 obtain⟨⟨i2,j7,j6,ji,jk⟩,j1,l2,f2⟩:=z1o (z2h ps) (I:=fun hs=>IS R hs1 hs/\Q0o Hd.nul hs1 hs/\Q0o Hd.fi hs1 hs/\Q0o Hd.rch hs1 hs/\Q0o Hd.fru hs1 hs)
  (fun hs _ h=>⟨IS.list hT ps hs false (fun _ hp=>hp) h.1,h.2.1.trans (z1e (fun _ _=>rfl) ps hs false),h.2.2.1.trans (z1e (fun _ _=>rfl) ps hs false),h.2.2.2.1.trans (z1e (fun _ _=>rfl) ps hs false),h.2.2.2.2.trans (z1e (fun _ _=>rfl) ps hs false)⟩) j2 ⟨⟨j2,i1.bfi,jo,Up.refl _⟩,Q0o.refl _ _,Q0o.refl _ _,Q0o.refl _ _,Q0o.refl _ _⟩
 generalize hq2:Q47 (Q5q ps) hs1=hs2 at i2 j7 j6 ji jk j1 l2 f2;have js:∀p∈ps,∀a s b,p.syms=a++s::b->s.isH=true->∀t,(Q8n hs2 p.head b).getD t false=true->(Q1k hs2 s.num).fo.getD t false=true:=fun p hp a s b e j0 t ht=>by
  have h1:=z9g ps hs2 false j1 (by show(Q5q ps hs2).2=false;rw[f2]) p hp;have h2:=z5z p.head p.syms hs2 false j1 h1 a s b e j0;have hv:=hT.sy p hp s (by rw[e];simp);rw[j0]at hv;simp only[qBn]at hv;have h3:=z5o h2 hv.1 (by rw[l2,l1];exact hv.2);rw[h3];unfold Q5t;dsimp only;rw[z3q (by rw[(z0k j1 _).fo,z3j j1]),ht];simp
 obtain⟨⟨jn,jd,jb,jf,jl⟩,j3,l3,f3⟩:=z1o (z2g ps) (I:=fun hs=>Up hs2 hs/\Q0o Hd.nul hs2 hs/\Q0o Hd.fi hs2 hs/\Q0o Hd.fo hs2 hs/\Q0o Hd.fru hs2 hs)
  (fun hs _ h=>⟨h.1.trans (z9e ps hs false),h.2.1.trans (z0y (fun _ _=>rfl) ps hs false),h.2.2.1.trans (z0y (fun _ _=>rfl) ps hs false),h.2.2.2.1.trans (z0y (fun _ _=>rfl) ps hs false),h.2.2.2.2.trans (z0y (fun _ _=>rfl) ps hs false)⟩) j1 ⟨Up.refl _,Q0o.refl _ _,Q0o.refl _ _,Q0o.refl _ _,Q0o.refl _ _⟩
 generalize hq3:Q47 (Q64 ps) hs2=hs3 at jn jd jb jf jl j3 l3 f3;have jr:∀p∈ps,(Q1k hs3 p.head).rch=true->∀s∈p.syms,s.isH=true->(Q1k hs3 s.num).rch=true:=fun p hp hr s hs j0=>by
  have h1:=z5x ps hs3 false j3 (by show(Q64 ps hs3).2=false;rw[f3]) p hp hr;have h2:=z5y p.syms hs3 false j3 h1 s hs j0;have hv:=hT.sy p hp s hs;rw[j0]at hv;simp only[qBn]at hv;have h3:=z5o h2 hv.1 (by rw[l3,l2,l1];exact hv.2);rw[h3]
 have u3:IU ps hs3 hs3:=⟨j3,fun n h=>(by rw[jl n,jk n,jj n,(hz n).2.2]at h;cases h),Up.refl _⟩;obtain⟨⟨i4,je,jc,jg,j9⟩,ja,l4,f4⟩:=z1o (z2i ps) (I:=fun hs=>IU ps hs3 hs/\Q0o Hd.nul hs3 hs/\Q0o Hd.fi hs3 hs/\Q0o Hd.fo hs3 hs/\Q0o Hd.rch hs3 hs)
  (fun hs _ h=>⟨IU.list ps hs false (fun _ hp=>hp) h.1,h.2.1.trans (z02 (fun _ _=>rfl) ps hs false),h.2.2.1.trans (z02 (fun _ _=>rfl) ps hs false),h.2.2.2.1.trans (z02 (fun _ _=>rfl) ps hs false),h.2.2.2.2.trans (z02 (fun _ _=>rfl) ps hs false)⟩) j3 ⟨u3,Q0o.refl _ _,Q0o.refl _ _,Q0o.refl _ _,Q0o.refl _ _⟩
 have j4:Q33 ps (Q0z (R:Int) H)=Q47 (Q73 ps) hs3:=by unfold Q33;rw[hq1,hq2,hq3]
 rw[j4];generalize Q47 (Q73 ps) hs3=hs4 at i4 je jc jg j9 ja l4 f4;have jt:∀p∈ps,Q45 hs4 p.syms=true->(Q1k hs4 p.head).fru=true:=fun p hp e=>by
  have h1:=z9d ps hs4 false ja (by show(Q73 ps hs4).2=false;rw[f4]) p hp;have h3:=z5o h1 (hT.hd p hp).1 (by rw[l4,l3,l2,l1];exact(hT.hd p hp).2);rw[h3];simp[e]
 have kn:Q0o Hd.nul hs1 hs4:=(j7.trans jd).trans je;have kf:Q0o Hd.fi hs1 hs4:=(j6.trans jb).trans jc;have ko:Q0o Hd.fo hs2 hs4:=jf.trans jg;have hb:=fun l acc=>Q0o.beg kn kf l acc;have ju:=fun l acc=>Q0o.beg j7 j6 l acc;have j5:∀ph l,Q8n hs4 ph l=Q8n hs2 ph l:=fun ph l=>by
  unfold Q8n;rw[hb,ju,ko ph]
 refine⟨ja,by rw[l4,l3,l2,l1],?_,?_,?_,?_,?_,?_,jt,i4.su,?_,?_,?_,?_⟩
 ·intro n t h;rw[kf n]at h;exact i1.bfi n t h
 ·intro n t h;rw[ko n]at h;exact i2.bfo n t h
 ·intro p hp e;rw[hb]at e;rw[kn];exact jq p hp e
 ·intro p hp t e;rw[hb]at e;rw[kf];exact jp p hp t e
 ·intro n h;rw[kn n]at h;obtain⟨p,h1,h2,h3⟩:=i1.sn n h;exact⟨p,h1,h2,by rw[hb];exact h3⟩
 ·intro n t h;rw[kf n]at h;obtain⟨p,h1,h2,h3⟩:=i1.sf n t h;exact⟨p,h1,h2,by rw[hb];exact h3⟩
 ·intro p hp a s b e j0 t ht;rw[j5]at ht;rw[ko];exact js p hp a s b e j0 t ht
 ·intro p hp hr s hs j0;rw[j9]at hr ⊢;exact jr p hp hr s hs j0
 ·intro hH;have h1:(Q1k (Q0z (R:Int) H) 0).rch=true:=by rw[z37,qAb ⟨by omega,by omega⟩];rfl
  have h2:(Q1k hs2 0).rch=true:=by rw[ji,jh];exact h1
  rw[j9];exact((jn 0).parts (z0k j1 _) (z0k j3 _)).2.1 h2
 intro hH;have h1:(Q1k (Q0z (R:Int) H) 0).fo.getD R false=true:=by
  rw[z37,qAb ⟨by omega,by omega⟩];show(Q2h zero9 (R:Int)).getD R false=true;unfold Q2h;rw[qAb ⟨by omega,by omega⟩];simp only[qD,qAo,qCs];simp only[qBn];rw[qAb (by show R<9;omega)];rfl
 rw[ko];have h2:(Q1k hs1 0).fo.getD R false=true:=by rw[j8];exact h1
 exact z4v ((i2.up 0).parts (z0k j2 _) (z0k j1 _)).2.2.2.2 R h2
def sInt(s:Sy):Int:=if s.isH then -1-s.num else s.num
theorem y4u(a:List Bool)(t:Nat):∀k,(Q3s a k).any (·==(t:Int))=(decide (t<k)&&a.getD t false)
 |0=>by simp[Q3s]
 |k+1=>by
  have ih:=y4u a t k;unfold Q3s;by_cases e:t=k
  ·subst e;cases hq:a.getD t false
   ·simp only[qF,qAz,ih,hq,Bool.and_false]
   simp only[qBn,List.any_append,List.any_cons,List.any_nil,ih,hq];simp
  have h1:(((k:Nat):Int)==(t:Int))=false:=by simp;omega
  have h2:decide (t<k+1)=decide (t<k):=by simp only[decide_eq_decide];omega
  rw[h2];split
  ·rw[List.any_append,ih];simp[h1]
  exact ih
theorem x3s{a:List Bool}(ha:a.length=9)(t:Nat):(Q3e a).any (·==(t:Int))=a.getD t false:=by
 unfold Q3e;rw[y4u];by_cases h:t<9
 ·simp[h]
 have:a.getD t false=false:=by simp[qN (show a.length<=t by omega)]
 rw[this];simp
section
variable {ps:List Pr}{R H:Nat}{hs:List Hd}
end
def Q8l{α β:Type}(R:α->β->Prop):List α->List β->Prop
 | [],[]=>True
 |a::us,b::zs=>R a b/\Q8l R us zs
 |_,_=>False
theorem Q8l.len{α β:Type}{R:α->β->Prop}:∀{us:List α}{zs:List β},Q8l R us zs->us.length=zs.length
 | [],[],_=>rfl
 |_::us,_::zs,h=>by simp[Q8l.len h.2]
theorem Q8l.snoc{α β:Type}{R:α->β->Prop}:∀{us:List α}{zs:List β}{a:α}{b:β},Q8l R us zs->R a b->Q8l R (us++[a]) (zs++[b])
 | [],[],_,_,_,h=>⟨h,trivial⟩
 |_::us,_::zs,_,_,h,k=>⟨h.1,Q8l.snoc h.2 k⟩
def Tw(s:ByteArray)(d:Wd)(y:ByteArray):Prop:=∃i m:Nat,WordAt s i m d/\y=s.extract i (i+m)
theorem x1h{s:ByteArray}{a b m n:Nat}{d d':Wd}(h:WordAt s a m d)(h':WordAt s b n d')(ha:a+m<=s.size)(hb:b+n<=s.size)(hl:(s.extract a (a+m)).toList=(s.extract b (b+n)).toList):d.ls=d'.ls:=by
 have hA:(s.extract a (a+m)).size=m:=by rw[qBl];omega
 have hB:(s.extract b (b+n)).size=n:=by rw[qBl];omega
 have j1:m=n:=by
  have:=qEn List.length hl;rw[btl,btl,Array.length_toList,Array.length_toList]at this;have e1:(s.extract a (a+m)).data.size=m:=hA;have e2:(s.extract b (b+n)).data.size=n:=hB;omega
 subst j1;rw[h.ls,h'.ls];apply qEs;intro k hk;by_cases j0:k<m
 ·rw[qAb j0,qAb j0];have e1:=z3x s a (a+m) k ha (by omega);have e2:=z3x s b (b+m) k hb (by omega);have e3:s.extract a (a+m)=s.extract b (b+m):=by
   apply qFi;apply Array.toList_inj.1;rw[← btl,← btl];exact hl
  rw[e3]at e1;rw[← e1,← e2]
 rw[qAa j0,qAa j0]
theorem v3f{s:ByteArray}{d d':Wd}{y y':ByteArray}(h:Tw s d y)(h':Tw s d' y'):(d.ls==d'.ls)=(y.toList==y'.toList):=by
 obtain⟨i,m,hw,rfl⟩:=h;obtain⟨j,n,j0,rfl⟩:=h';have h1:=hw.in';have h2:=j0.in';rw[qBc,qBi,qBi];exact⟨fun e=>y53 hw j0 (by omega) (by omega) e,fun e=>x1h hw j0 (by omega) (by omega) e⟩
theorem x82{s:ByteArray}{d:Wd}{y:ByteArray}(hd:Tw s d y):∀{ds:List Wd}{ys:List ByteArray},Q8l (Tw s) ds ys->ds.findIdx (fun x=>x.ls==d.ls)=ys.findIdx (fun x=>x.toList==y.toList)
 | [],[],_=>rfl
 |a::us,b::zs,h=>by
  rw[qFj,qFj,v3f h.1 hd,x82 hd h.2]
theorem x6j{s:ByteArray}{d:Wd}{y:ByteArray}(hd:Tw s d y){ds:List Wd}{ys:List ByteArray}(h:Q8l (Tw s) ds ys):Q1y ys y=if Q1m ds d.ls<ds.length then(Q1m ds d.ls:Int) else -1:=by
 unfold Q1y Q1m;rw[← x82 hd h,← h.len]
theorem z1x:∀(l:List Ln) (acc:List Wd) (y:Ln),Q14 (l++[y]) acc=if Q0x y then Q14 l acc else if Q1m (Q14 l acc) y.front.ls<(Q14 l acc).length then Q14 l acc else Q14 l acc++[y.front]
 | [],acc,y=>by
  simp only[qCh,Q14];rfl
 |x::l,acc,y=>by
  rw[qBh];unfold Q14;split
  ·exact z1x l acc y
  split
  ·exact z1x l acc y
  exact z1x l _ y
theorem z5r{ds:List Wd}{ls:List Int}(h:Q1m ds ls<ds.length)(t:List Wd):Q1m (ds++t) ls=Q1m ds ls:=by
 unfold Q1m at h ⊢;rw[List.findIdx_append,qAb h]
structure Inv2(s:ByteArray)(lns:List Ln)(x:LO):Prop where
 ru:Q8l (Tw s) (Q0g lns) x.rules
 he:Q8l (Tw s) (Q0j lns) x.heads
 hd:x.head=(Q05 lns).map (fun y=>(Q1m (Q0j lns) y.front.ls:Int))
 na:Q8l (fun(y:Ln) (ns:List ByteArray)=>Q8l (Tw s) y.syms ns) (Q05 lns) x.names
 mem:∀y∈Q05 lns,Q1m (Q0j lns) y.front.ls<(Q0j lns).length
 cap:∀d∈Q0j lns,Q16 d=true
theorem v2m{s:ByteArray}{p q:Nat}{ds:List Wd}{ns:List ByteArray}(h:PN s p ds ns q):Q8l (Tw s) ds ns:=by
 refine PN.ind (M:=fun _ ds ns=>Q8l (Tw s) ds ns) trivial ?_ ds p ns h;intro p m d ds ns j0 hw j1 h ih;exact⟨⟨p+1,m,hw,rfl⟩,ih⟩
theorem x3b{s:ByteArray}{lns:List Ln}{x:LO}{y:Ln}{i e:Nat}(h:Inv2 s lns x)(he:e<=s.size)(hl:Q87 s i y e):Inv2 s (lns++[y]) (Q9w (s.extract i e) x):=by
 rcases hl with⟨m,hw,hs,hr,j3,hc,hm,hk,j6⟩|⟨m,ns,hw,hs,hr,hc,hm,hp⟩
 ·rw[z73 s i e m _ x he hw hs j3 hm];have e1:Q0j (lns++[y])=Q0j lns:=by unfold Q0j;rw[z1x,qAb hr]
  have e2:Q05 (lns++[y])=Q05 lns:=by unfold Q05;rw[qBx];simp[qAq,hr]
  have e3:Q0g (lns++[y])=Q0g lns++[y.front]:=by unfold Q0g;rw[qBx,qBp];simp[qAq,hr]
  refine⟨?_,?_,?_,?_,?_,?_⟩
  ·rw[e3];exact h.ru.snoc ⟨i,m,hw,rfl⟩
  ·rw[e1];exact h.he
  ·rw[e1,e2];exact h.hd
  ·rw[e2];exact h.na
  ·rw[e1,e2];exact h.mem
  rw[e1];exact h.cap
 rw[z72 s i e m _ _ ns x he hw hs hm hp];have j2:Q16 y.front=true:=by
  unfold Q0x at hr;simpa using hr
 have hT:Tw s y.front (s.extract i (i+m)):=⟨i,m,hw,rfl⟩;have e2:Q05 (lns++[y])=Q05 lns++[y]:=by unfold Q05;rw[qBx];simp[qAq,hr]
 have e3:Q0g (lns++[y])=Q0g lns:=by unfold Q0g;rw[qBx,qBp];simp[qAq,hr]
 have hf:=x6j hT h.he;by_cases j0:Q1m (Q0j lns) y.front.ls<(Q0j lns).length
 ·rw[qAb j0]at hf;have e1:Q0j (lns++[y])=Q0j lns:=by
   unfold Q0j at j0 ⊢;rw[z1x,qAa (by simp[hr]),qAb j0]
  have j4:¬Q1y x.heads (s.extract i (i+m))<0:=by rw[hf];omega
  simp only[j4,qAz];refine⟨?_,?_,?_,?_,?_,?_⟩
  ·rw[e3];exact h.ru
  ·rw[e1];exact h.he
  ·rw[e1,e2,qBp,h.hd,hf];rfl
  ·rw[e2];exact h.na.snoc (v2m hp)
  ·rw[e1,e2];intro z hz;simp only[qU,qM]at hz;rcases hz with hz|rfl
   ·exact h.mem z hz
   exact j0
  rw[e1];exact h.cap
 rw[qAa j0]at hf;have e1:Q0j (lns++[y])=Q0j lns++[y.front]:=by
  unfold Q0j at j0 ⊢;rw[z1x,qAa (by simp[hr]),qAa j0]
 have j4:Q1y x.heads (s.extract i (i+m))<0:=by rw[hf];omega
 simp only[j4,qBn];have j1:Q1m (Q0j lns++[y.front]) y.front.ls=(Q0j lns).length:=by
  have j3:=y3n (Q0j lns) y.front.ls;have j5:(Q0j lns).findIdx (fun x=>x.ls==y.front.ls)=(Q0j lns).length:=by unfold Q1m at j3 j0;omega
  unfold Q1m;rw[List.findIdx_append,j5,qAa (by omega),qFj];simp
 refine⟨?_,?_,?_,?_,?_,?_⟩
 ·rw[e3];exact h.ru
 ·rw[e1];exact h.he.snoc hT
 ·rw[e1,e2,qBp,qDb,j1,h.hd,h.he.len];dsimp only;congr 1;apply qEs;intro z hz;rw[z5r (h.mem z hz)]
 ·rw[e2];exact h.na.snoc (v2m hp)
 ·rw[e1,e2];intro z hz;simp only[qU,qM]at hz;rw[qP,qAj];rcases hz with hz|rfl
  ·rw[z5r (h.mem z hz)];have:=h.mem z hz;omega
  rw[j1];omega
 rw[e1];intro d hd;simp only[qU,qM]at hd;rcases hd with hd|rfl
 ·exact h.cap d hd
 exact j2
theorem y1f(s:ByteArray):∀(f i:Nat) (acc:List Ln) (g:Nat) (x:LO),(Q1l s f i acc).2.2=true->i<=s.size->s.size+1<=g+i->Inv2 s acc x->Inv2 s (Q1l s f i acc).1 (W0e s g i x)
 |0,i,acc,g,x,h,hi,hg,hI=>by simp[Q1l]at h
 |f+1,i,acc,g,x,h,hi,hg,hI=>by
  obtain⟨g,rfl⟩:∃k,g=k+1:=⟨g-1,by omega⟩;unfold Q1l at h ⊢;unfold W0e;by_cases j1:i<s.size
  ·rw[qAb (by omega)]at h ⊢;rw[qAb j1];cases hok:(Q2w s i).2.2
   ·rw[qAb hok]at h;cases h
   rw[qAa (by simp[hok])]at h ⊢;obtain⟨e,j3,j7,j4,j5,j0⟩:=y20 s i hok;rw[j5]at h ⊢;have j2:Q1j s i e:=j0.clean;have j6:Q4d (s.extract i s.size) 10 10=e-i:=by
    refine z7j s i s.size (e-i) 10 10 (by omega) (by omega) ?_ ?_
    ·intro k hk;have:=j2 ((i:Int)+k) (by omega) (by omega);exact⟨by omega,by omega⟩
    right;left;have e1:(i:Int)+((e-i:Nat):Int)=(e:Nat):=by omega
    rw[e1];exact j4
   rw[j6,show i+(e-i)=e by omega,qAb j3];exact y1f s f (e+1) _ g _ h (by omega) (by omega) (x3b hI (by omega) j0)
  rw[qAa (by omega)]at h ⊢;rw[qAa j1];exact hI
theorem Q7y{s:ByteArray}(h:Q0u s=(0,0)):Inv2 s (Q0c s).1 (linesX s):=by
 obtain⟨h1,h2,h3,h4,h5⟩:=z2d h;have j0:(Q1l s (s.size+5) ((0:Nat):Int) []).2.2=true:=h2;exact y1f s (s.size+5) 0 [] (s.size+1) Q9n j0 (by omega) (by omega) ⟨trivial,trivial,rfl,trivial,(by intro y hy;cases hy),(by intro d hd;cases hd)⟩
theorem z4c{lns:List Ln}(hp:∀y∈lns,0<=y.front.place):∀(f i:Nat),Q4p lns f i=-1->lns.length+1<=f+i->∀k (hk:k<lns.length),i<=k->Q7z lns k lns[k]=false
 |0,i,_,hf,k,hk,hi=>by omega
 |f+1,i,h,hf,k,hk,hi=>by
  unfold Q4p at h;have hil:i<lns.length:=by omega
  rw[qE hil]at h;simp only[]at h;cases ho:Q7z lns i lns[i]
  ·rw[ho]at h;simp only[qF,qAz]at h;by_cases e:i=k
   ·subst e;exact ho
   exact z4c hp f (i+1) h (by omega) k hk (by omega)
  rw[ho]at h;simp only[qBn]at h;have:=hp lns[i] (by simp);omega
theorem y28{lns:List Ln}(hp:∀y∈lns,0<=y.front.place)(h:Q3v lns=-1):(Q0g lns).length<=8:=by
 have e:(Q0g lns).length=Q23 lns lns.length:=by unfold Q0g Q23;rw[qAw,qAv]
 rw[e];by_cases h0:lns.length=0
 ·rw[h0];simp[Q23]
 have:=z4c hp _ 0 h (by omega) (lns.length-1) (by omega) (by omega);unfold Q7z at this;simp only[qCb,qCe]at this;have h1:=this.1.1.1;rw[show lns.length-1+1=lns.length by omega]at h1;omega
theorem y8s{d d':Wd}(h:d.ls=d'.ls):Q16 d=Q16 d':=by unfold Q16;rw[h]
theorem x5k{lns:List Ln}(hw:Q2b lns=-1)(hpl:∀y∈lns,0<=y.front.place/\∀d∈y.syms,0<=d.place)(hmem:∀y∈Q05 lns,Q1m (Q0j lns) y.front.ls<(Q0j lns).length){y:Ln}(hy:y∈lns){d:Wd}(hd:d∈y.syms) :
  (Q16 d=true->Q1m (Q0j lns) d.ls<(Q0j lns).length)/\(Q16 d=false->Q1m (Q0g lns) d.ls<(Q0g lns).length):=by
 obtain⟨k,hk,rfl⟩:=qBf hy;have h1:=z7k hpl _ 0 hw (by omega) k hk (by omega);obtain⟨q,hq,rfl⟩:=qBf hd;have h2:=y0h (hpl _ hy).2 _ 0 h1 (by omega) q hq (by omega);unfold W0h at h2;by_cases hf:Q2i lns (lns[k].syms[q]).ls<lns.length
 ·have h3:(lns[Q2i lns (lns[k].syms[q]).ls]).front.ls=(lns[k].syms[q]).ls:=by
   have:=qDz (xs:=lns) (p:=fun x:Ln=>x.front.ls==(lns[k].syms[q]).ls) (w:=hf);exact qBi.1 this
  have h4:=y8s h3;have hz:=qG hf;generalize lns[Q2i lns (lns[k].syms[q]).ls]=z at h3 h4 hz;refine⟨fun e=>?_,fun e=>?_⟩
  ·rw[← h3];refine hmem z ?_;unfold Q05 Q0x;rw[qDi];exact⟨hz,by rw[h4,e];rfl⟩
  unfold Q1m;refine qFw ⟨z.front,?_,by rw[h3];simp⟩;unfold Q0g Q0x;rw[qBj];exact⟨z,qDi.2 ⟨hz,by rw[h4,e];rfl⟩,rfl⟩
 rw[qN (by omega)]at h2;cases h2
theorem tabOk{lns:List Ln}(hw:Q2b lns=-1)(hpl:∀y∈lns,0<=y.front.place/\∀d∈y.syms,0<=d.place)(hmem:∀y∈Q05 lns,Q1m (Q0j lns) y.front.ls<(Q0j lns).length) :
  Q1d (Q0p lns) (Q0g lns).length (Q0j lns).length:=by
 refine⟨fun p hp=>?_,fun p hp s hs=>?_⟩
 ·obtain⟨y,hy,rfl⟩:=qBj.1 hp;have:=hmem y hy;simp only[Q8a];omega
 obtain⟨y,hy,rfl⟩:=qBj.1 hp;obtain⟨d,hd,rfl⟩:=qBj.1 hs;have j1:y∈lns:=(qDi.1 hy).1;obtain⟨h1,h2⟩:=x5k hw hpl hmem j1 hd;simp only[Q9v];by_cases hq:Q16 d=true
 ·have:=h1 hq;simp only[hq,qBn];omega
 have j0:Q16 d=false:=by simpa using hq
 have:=h2 j0;simp only[j0,qF,qAz];omega
theorem z2w{s:ByteArray}(hc:(Q0u s).1=0):Q0u s=(0,0):=by
 unfold Q0u at hc ⊢;repeat' split at hc
 all_goals first
  |(simp at hc;done)
  |skip
 rename_i a b c d e f;rw[qAa a,qAa b,qAa c,qAa d,qAa e,qAa f]
def Q0r(hs:List Hd)(ps:List Pr):List (List Bool):=ps.map fun p=>Q8n hs p.head p.syms
abbrev Q89(w:World)(base:Nat)(v:Value)(al:List (List Bool)):Prop:=w.ownsRow base 147 9 v al.length (Q0y bls al)
theorem infoTk:(Tryz.prog.info? 147).map (fun i=>(i.zero,i.size,i.bytes))=some (some (.agg (tkA zero9)),9,9):=by kernel_rfl
theorem infoTk':∃i,Tryz.prog.info? 147=some i/\i.zero=some (.agg (tkA zero9))/\i.size=9/\i.bytes=9:=nfoE infoTk
abbrev Q26(a0 a1 a2 a3 a4 a5 a6 a7 a8:Bool):Array Value:=#[.bool a0,.bool a1,.bool a2,.bool a3,.bool a4,.bool a5,.bool a6,.bool a7,.bool a8]
theorem x1z(l:List Bool):∀u∈bls l,u.oneCell'=true:=by
 intro u hu;simp[bls]at hu;rcases hu with⟨_,rfl⟩|⟨_,rfl⟩<;>rfl
theorem z6e(w:World)(b:Nat)(R H:Int)(vp vh:Value)(ps:List PV)(hs:List Hd)(h:FA w b R H vp vh ps hs)(hps:ps.length<=1000) :
  Calls Tryz.prog 62 #[Q3c b] w fun e w'=>∃v,e=.returned v/\Q0a w w'/\Q89 w' w.heap.size v (Q0r hs (Q0k ps)):=by
 have jv:=hid h;obtain⟨i0,jp,jr,js,jt⟩:=infoTk';obtain⟨ao,cap,hv⟩:=z0c h.prs.row.own;subst hv;have k2:=h.cell 2;simp at k2;clear h;go_enter Tryz.func62,Tryz.ntmps62
 go_wp2;go_loopw [3,5,6,7,8,15] (fun x3 _ _ _ _ x15 wr=>∃(i:Nat),x15=.int .i64 i/\i<=ps.length/\Q89 wr w.heap.size x3 (Q0r hs (Q0k (ps.take i)))/\Q0a w wr)
   (fun _ _ _ _ _ x _=>ps.length+1-(intOf x).toNat)
 case atStart=>exact⟨0,rfl,by omega,qAh _ _ _ _,mRf _ w⟩
 obtain⟨i,rfl,hi,j4,jh⟩:=hrel;have jm:=hid (Q19 (B:=ps.length+1) i (by omega));have ja:=hid jh;have hF:=jv.fresh jh;have HF:=hid hF;have k3:(Q0r hs (Q0k (ps.take i))).length<=1000:=by simp[Q0r,Q0k];omega
 have jw:Hid (i=ps.length->ps.take i=ps):=fun e=>by rw[e,qAw]
 have jx:Hid (∀j9:i<ps.length,Q0r hs (Q0k (ps.take (i+1)))=Q0r hs (Q0k (ps.take i))++[Q8n hs ps[i].pr.head ps[i].pr.syms]):=fun j9=>by
  rw[Q6e j9];unfold Q0r Q0k;rw[qBp,qBp];rfl
 generalize hy:Q0r hs (Q0k (ps.take i))=ys at *;have HY:=hid hy;have HO:=hid j4;have jf:=hid j4.lt;obtain⟨ro,rc,k4⟩:=z0c j4;subst k4;clear j4 hy;by_cases j9:i<ps.length
 ·have ka:(i:Int)<(ps.length:Int):=by omega
  obtain⟨gp,jz,jq⟩:=Joins.ownsRow_form hF.prs.row.own (by omega);rw[qI]at jq;obtain⟨rfl,_,rfl⟩:=jq;have RG:Hid (wr.rangeAt gp (i*2) [.int .i64 ps[i].pr.head,ps[i].vs]):=hF.prs.row.range i j9;have k9:=hF.size;have jb:=hid (hF.fresh ((mRf _ wr).alloc (.cells #[.int .i64 ps[i].pr.head,ps[i].vs] 85 (0,0))));have jc:=hid (jb.prs.syms ps[i] (by simp));have j2:=jx.out j9;generalize ps[i].pr=pr at j2 RG jc jb;generalize ps[i].vs=pvs at RG jc jb;obtain⟨ph,jd⟩:=pr;dsimp only at j2 RG jc jb;obtain⟨ju,je,k6,_⟩:=jc.out;subst k6;have j3:=hid (z1a hF.ok jd zero9 rfl);have j5:=hid (z0k hF.ok ph);have BA:=hid (z6a _ b R H _ vh ps hs b _ jd jb.out (by simp;omega) jc.out);have GA:=hid (fun w (h:FA w b R H (.slice (some ⟨gp,0,none⟩) ps.length cap) vh ps hs)=>z4l w b R H _ vh ps hs ph h);unfold Q8n at j2;generalize Q2q hs jd zero9=bg at j2 j3 BA;generalize Q1k hs ph=hd at j2 j5 GA;obtain⟨jg,jy⟩:=bg;dsimp only at j2 j3 BA;clear hF jh;cases jy
  ·simp only[qF,qAz]at j2;have j6:=hid j2;obtain⟨a0,a1,a2,a3,a4,a5,a6,a7,a8,e9⟩:=Q7n j3.out;subst e9;clear j2;go_wp2_with (first
    |(at_builtin;refine z0f _ rfl _ _ 139 rfl w.heap.size 147 i0 _ 9 9 Tryz.underlying139 jp jr js jt rfl (by decide) _ _ _ rfl (ji.alloc _) ⟨w1.heap.size+1,0,none⟩ 1 1 (bls [a0,a1,a2,a3,a4,a5,a6,a7,a8]) rfl rfl (z13 rfl) (x1z _) (by unfold maxLen;omega) (by omega) (by have h3:=ja.size;have h4:=j8.size;simp at h4;simp;omega) ?_)
    |(refine qAf rfl 147 _ rfl w1.heap.size rfl _ (Q26 a0 a1 a2 a3 a4 a5 a6 a7 a8) _ _ (z0a _ _) qAk rfl Q75 ?_)
    |(refine z0e rfl 147 _ _ rfl w1 _ (Q26 a0 a1 a2 a3 a4 a5 a6 a7 a8) _ rfl rfl rfl Q75 rfl (z1h [a0,a1,a2,a3,a4,a5,a6,a7,a8]) ?_)
    |(go_at_call 64;refine BA.mono ?_;rintro e w1⟨rfl,j8⟩;have ji:=hid ((z0d HO.out (fun g hg=>(Mod.trans ((mRf (fun _=>False) wr).alloc _) j8).block g (jf.out g hg).2 id)).alloc (.cells (Q26 a0 a1 a2 a3 a4 a5 a6 a7 a8) 147 (0,0))))
    |(refine qAe rfl 85 _ rfl gp (i*2) rfl [.int .i64 ph,.slice ju jd.length je] _ RG.out qCz rfl W0n ?_))
   intro v' w5 j1 j0 j7;have jk:Q0a w w5:=Mod.grown (S:=fun _=>False) (((ja.alloc _).trans j8).alloc _ |>.alloc _) j0 (fun k hk j9=>by have:=(jf.out k hk).1;omega);have jj:=hid j1;clear j1 j0 j7;go_wp2;go_roundw
   case rel =>
    refine⟨i+1,by go_num,by omega,?_,jk⟩;unfold Q89;rw[j6.out,z0v,qP,qAj];exact jj.out
   exact jm.out
  simp only[qBn]at j2;have jn:=hid (z04 j3.out j5.fo);have TU:=hid (fun w=>z1c w jg hd.fo j3.out j5.fo);generalize orL jg hd.fo=OO at j2 jn TU;have j6:=hid j2;obtain⟨a0,a1,a2,a3,a4,a5,a6,a7,a8,e9⟩:=Q7n jn.out;subst e9;clear j2;go_wp2_with (first
   |(at_builtin;refine z0f _ rfl _ _ 139 rfl w.heap.size 147 i0 _ 9 9 Tryz.underlying139 jp jr js jt rfl (by decide) _ _ _ rfl (ji.alloc _) ⟨w3.heap.size,0,none⟩ 1 1 (bls [a0,a1,a2,a3,a4,a5,a6,a7,a8]) rfl rfl (by have q:=@z0m (w3.setRow w1.heap.size (Q26 a0 a1 a2 a3 a4 a5 a6 a7 a8)) (Q26 a0 a1 a2 a3 a4 a5 a6 a7 a8) (bls [a0,a1,a2,a3,a4,a5,a6,a7,a8]) 147 rfl;rw[k5]at q;exact q) (x1z _) (by unfold maxLen;omega) (by omega) (by have h3:=ja.size;have h4:=f3.size;simp at h4;simp;omega) ?_)
   |(refine qAf rfl 147 _ rfl w1.heap.size rfl _ (Q26 a0 a1 a2 a3 a4 a5 a6 a7 a8) _ _ k8.out qAk rfl Q75 ?_)
   |(refine qAg rfl 147 _ _ rfl w1.heap.size (Q26 a0 a1 a2 a3 a4 a5 a6 a7 a8) rfl rfl _ _ t3.out Q75 (Q0l (z0u j3.out) rfl) (z1h [a0,a1,a2,a3,a4,a5,a6,a7,a8]) ?_)
   |(go_at_call 65;refine(TU.out _).mono ?_;rintro e w3⟨rfl,jo⟩;have t3:=hid (jo.at (z0b t2.out) id);have f3:Hid (Q0a wr (w3.setRow w1.heap.size (Q26 a0 a1 a2 a3 a4 a5 a6 a7 a8))):=(Mod.trans (f2.alloc _) jo).setRow (by intro q;omega) _;have k8:=hid (qAn _ _ _ (Q26 a0 a1 a2 a3 a4 a5 a6 a7 a8) _ _ t3.out);have k5:(w3.setRow w1.heap.size (Q26 a0 a1 a2 a3 a4 a5 a6 a7 a8)).heap.size=w3.heap.size:=(by simp);have ji:=hid (z0d HO.out (fun g hg=>f3.block g (jf.out g hg).2 id)))
   |(refine qAe rfl 147 _ rfl w2.heap.size 12 rfl (bls hd.fo) _ (Q4u j5.out (z0a _ _)) qAk rfl (Q5u j5.fo) ?_)
   |(refine qAf rfl 147 _ rfl w1.heap.size rfl _ _ _ _ (z0b t2.out) qAk rfl (Q0t j3.out) ?_)
   |(refine z0e rfl 200 _ _ rfl w2 _ (hdA hd) _ rfl rfl rfl (Q1q j5.out) (Q0l rfl (z07 j5.out)) (z1w _) ?_)
   |(go_at_call 101;refine(GA.out _ (HF.fresh (f1.alloc _))).mono ?_;rintro e w2⟨rfl,jl⟩;have kd:w1.heap.size<w2.heap.size:=(by have:=jl.size;simp at this;omega);have f2:Hid (Q0a wr w2):=Mod.trans (f1.alloc _) jl;have t2:=hid (jl.at (z0a w1 _) id))
   |(refine z0e rfl 147 _ _ rfl w1 _ (tkA jg) _ rfl rfl rfl (Q0t j3.out) (Q0l rfl (z0u j3.out)) (z1h _) ?_)
   |(go_at_call 64;refine BA.mono ?_;rintro e w1⟨rfl,j8⟩;have kc:wr.heap.size<w1.heap.size:=(by have:=j8.size;simp at this;omega);have f1:Hid (Q0a wr w1):=Mod.trans ((mRf _ wr).alloc _) j8;have k1:(w1.alloc (.cells (tkA jg) 147 (0,0))).cell? ⟨wr.heap.size,0,none⟩=some (.int .i64 ph):=(by rw[Q0b (z0b (j8.at (z0a _ _) id)) 0];rfl))
   |(refine qAe rfl 85 _ rfl gp (i*2) rfl [.int .i64 ph,.slice ju jd.length je] _ RG.out qCz rfl W0n ?_))
  intro v' w5 j1 j0 j7;have jk:Q0a w w5:=Mod.grown (S:=fun _=>False) ((ja.trans f3.out).alloc _) j0 (fun k hk j9=>by have:=(jf.out k hk).1;omega);have jj:=hid j1;clear j1 j0 j7;go_wp2;go_roundw
  case rel =>
   refine⟨i+1,by go_num,by omega,?_,jk⟩;unfold Q89;rw[j6.out,z0v,qP,qAj];exact jj.out
  exact jm.out
 have k0:i=ps.length:=by omega
 have kb:¬(i:Int)<(ps.length:Int):=by omega
 have k7:=jw.out k0;clear hF jh;go_wp2;go_ret;refine⟨_,rfl,ja.out,?_⟩;rw[← k7,HY.out];exact HO.out
def ldT(v:Value):Sem Value:=Instr.loadAt 147 v
theorem x6v(v:Value):Instr.loadAt 147 v=ldT v:=rfl
theorem v0j{w:World}{g o:Nat}{l:List Bool}(hl:l.length=9)(hr:w.rangeAt g o (bls l)):(ldT (.pointer (some ⟨g,o,none⟩))).run Tryz.prog w=.ok (.agg (tkA l)) w :=
 qFo w g o _ _ _ hr qAk rfl (Q5u hl)
def ovL(n t:Int):List (Pr × List Bool)->Nat->List Int
 | [],_=>[]
 |p::l,i=>if p.1.head=n/\Q9e p.2 t=true then(i:Int)::ovL n t l (i+1) else ovL n t l (i+1)
theorem y7a(n t:Int):∀(l:List (Pr × List Bool)) (i:Nat),(ovL n t l i).length<=l.length
 | [],_=>by simp[ovL]
 |p::l,i=>by
  unfold ovL;have:=y7a n t l (i+1);split<;>simp<;>omega
attribute [local go_sem ↓] x6v
theorem z6p(w:World)(R H:Int)(vp:Value)(ps:List PV)(hp:Q2e w w.heap.size vp ps)(hps:ps.length<=1000)(va:Value)(al:List (List Bool))(base:Nat)(ha:Q89 w base va al)(hal:al.length=ps.length)(ha9:∀a∈al,a.length=9)(n t:Int) :
  Calls Tryz.prog 63 #[.agg #[.int .i64 R,.int .i64 H,vp],va,.int .i64 n,.int .i64 t] w fun e w'=>∃v,e=.returned v/\Q0a w w'/\IntOwn w' w.heap.size v (ovL n t ((Q0k ps).zip al) 0):=by
 obtain⟨i0,jx,k2,k3,k4⟩:=infoI';have HP:=hid hp;obtain⟨pa,pc,k1⟩:=z0c hp.row.own;subst k1;obtain⟨aa,ac,k0⟩:=z0c ha;subst k0;have jr:Hid (Q18 bls 9 147 w (.slice aa al.length ac) al):=⟨z0g ha (qBq _),fun x hx=>by simp[bls,ha9 x hx]⟩;have jq:=hid ha9;generalize hR:ovL n t ((Q0k ps).zip al) 0=RES;have HR:=hid hR;rw[hal];have je:=hid hal;clear hp ha ha9 hR hal;go_enter Tryz.func63,Tryz.ntmps63
 go_wp2;go_loopw [9,10,11,15] (fun x9 _ _ x15 wr=>∃(i:Nat) (j3:List Int),x15=.int .i64 i/\i<=ps.length/\j3.length<=i/\j3++ovL n t (((Q0k ps).zip al).drop i) i=RES/\IntOwn wr w.heap.size x9 j3/\Q0a w wr)
   (fun _ _ _ x _=>1001-(intOf x).toNat)
 case atStart=>exact⟨0,[],rfl,by omega,by simp,HR.out,qAh _ _ _ _,(mRf _ w).alloc _⟩
 obtain⟨i,j3,rfl,hi,jw,j0,j4,j9⟩:=hrel;have jf:=hid (Q19 (B:=1001) i (by omega));have j8:=hid j9;have HO:=hid j4;have jg:=hid j4.lt;obtain⟨ro,rc,jz⟩:=z0c j4;subst jz;clear j4;by_cases jk:i<ps.length
 ·have jy:(i:Int)<(ps.length:Int):=by omega
  have jj:i<al.length:=by have:=je.out;omega
  have jp:i<((Q0k ps).zip al).length:=by have:=je.out;simp[Q0k];omega
  rw[qC jp]at j0;have jo:((Q0k ps).zip al)[i]=(ps[i].pr,al[i]):=by simp[Q0k]
  rw[jo]at j0;unfold ovL at j0;dsimp only at j0;have jd:=HP.kept (qR _) j9 (fun _ _ x=>x);obtain⟨gp,ju,jn⟩:=Joins.ownsRow_form jd.row.own (by omega);rw[qI]at jn;obtain⟨rfl,_,rfl⟩:=jn;have RG:Hid (wr.rangeAt gp (i*2) [.int .i64 ps[i].pr.head,ps[i].vs]):=jd.row.range i jk;obtain⟨jc,j2,jm,_⟩:=jd.syms ps[i] (by simp);have ji:=(jr.fresh j9);obtain⟨ga,k5,jb⟩:=Joins.ownsRow_form ji.own (by omega);rw[qI]at jb;obtain⟨rfl,_,rfl⟩:=jb;have jl:=ji.range i jj;have h9:=jq.out al[i] (by simp);have TH:=hid (fun w=>x78 w al[i] t h9);generalize hpl:ps[i].pr.syms.length=pl at jm;generalize ps[i].pr.head=ph at j0 RG;rw[jm]at RG;have l1:(ldT (.pointer (some ⟨ga,i*9,none⟩))).run Tryz.prog (wr.alloc (.cells #[.int .i64 ph,.slice jc pl j2] 85 (0,0)))=.ok (.agg (tkA al[i])) (wr.alloc (.cells #[.int .i64 ph,.slice jc pl j2] 85 (0,0))) :=
   v0j h9 (World.rangeAt_alloc jl _)
  generalize al[i]=ai at j0 TH l1;have b4:decide ((i:Int)<(ps.length:Int))=true:=by simpa using jy
  clear jd ji jl h9 j9 jo jj jp;by_cases hh:ph=n
  ·subst hh;generalize Q9e ai t=tv at j0 TH;cases tv
   ·rw[qAa (by simp)]at j0;have j1:=hid j0;clear j0;go_wp2_with (first
     |(go_at_call 102;refine(TH.out _).mono ?_;rintro e w1⟨rfl,j7⟩)
     |(refine qAe rfl 85 _ rfl gp (i*2) rfl [.int .i64 ph,.slice jc pl j2] _ RG.out qCz rfl W0n ?_))
    go_roundw
    case rel =>
     refine⟨i+1,j3,by go_num,by omega,by omega,j1.out,?_,(j8.alloc _).trans j7⟩;exact z0d HO.out (fun g hg=>(Mod.trans ((mRf (fun _=>False) wr).alloc _) j7).block g (jg.out g hg).2 id)
    exact jf.out
   rw[qAb ⟨rfl,rfl⟩]at j0;have j1:=hid j0;clear j0;go_wp2_with (first
    |(at_builtin;refine z0f _ rfl _ _ 24 rfl w.heap.size 3 i0 _ 1 8 qDq jx k2 k3 k4 rfl (by decide) _ _ _ rfl (js.alloc _) ⟨w1.heap.size,0,none⟩ 1 1 [.int .i64 i] rfl rfl (z0m rfl) (by intro u hu;simp at hu;subst hu;rfl) (by unfold maxLen;omega) (by omega) (by have h3:=j8.size;have h4:=j7.size;simp at h4;simp;omega) ?_)
    |(go_at_call 102;refine(TH.out _).mono ?_;rintro e w1⟨rfl,j7⟩;have js:=hid (z0d HO.out (fun g hg=>(Mod.trans ((mRf (fun _=>False) wr).alloc _) j7).block g (jg.out g hg).2 id)))
    |(refine qAe rfl 85 _ rfl gp (i*2) rfl [.int .i64 ph,.slice jc pl j2] _ RG.out qCz rfl W0n ?_))
   intro v' w5 j6 j5 jh;have jv:Q0a w w5:=Mod.grown (S:=fun _=>False) (((j8.alloc _).trans j7).alloc _) j5 (fun k hk jk=>by have:=(jg.out k hk).1;omega);have jt:=hid j6;clear j6 j5 jh;go_wp2;go_roundw
   case rel =>
    refine⟨i+1,j3++[(i:Int)],by go_num,by omega,by simp;omega,by rw[qAs];exact j1.out,?_,jv⟩;unfold IntOwn;rw[qP,qAj,show Q9p (j3++[(i:Int)])=Q9p j3++[.int .i64 i] from by simp];exact jt.out
   exact jf.out
  have b1:(ph==n)=false:=by simp[hh]
  rw[qAa (fun h=>hh h.1)]at j0;have j1:=hid j0;clear j0;go_wp2_with (first
   |(refine qAe rfl 85 _ rfl gp (i*2) rfl [.int .i64 ph,.slice jc pl j2] _ RG.out qCz rfl W0n ?_))
  go_roundw
  case rel =>
   refine⟨i+1,j3,by go_num,by omega,by omega,j1.out,?_,j8.alloc _⟩;exact HO.alloc _
  exact jf.out
 have k7:i=ps.length:=by omega
 have k6:¬(i:Int)<(ps.length:Int):=by omega
 rw[qAp (by have:=je.out;simp[Q0k];omega)]at j0;have ja:j3=RES:=by simpa [ovL]using j0
 subst ja;clear j0 j9;go_wp2;go_ret;exact⟨_,rfl,j8.out,HO.out⟩
end Go.Proofs.YtbdpfmalabgmbaaGreat
