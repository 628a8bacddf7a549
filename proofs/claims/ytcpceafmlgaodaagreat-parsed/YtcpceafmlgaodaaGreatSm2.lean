import Derived.Test.YtcpceafmlgaodaaGreatSe8
namespace Go.Proofs.YtcpceafmlgaodaaGreat
open Go.RowKit
set_option linter.unusedVariables false
set_option linter.unusedSimpArgs false
structure Q2y(hs:List Hd)(r:List Hd × Bool)(g:Bool):Prop where
 ok:∀x∈r.1,x.ok
 len:r.1.length=hs.length
 cnt:Q7f r.1<=Q7f hs
 more:r.2=true->g=true∨Q7f r.1<Q7f hs
 same:r.2=false->g=false/\r.1=hs
theorem Q2y.refl{hs:List Hd}(h:∀x∈hs,x.ok)(g:Bool):Q2y hs(hs,g)g:=⟨h,rfl,qR _,fun e=>.inl e,fun e=>⟨e,rfl⟩⟩
theorem Q2y.put{hs:List Hd}(hok:∀x∈hs,x.ok){n:Int}{x:Hd}(hx:x.ok)(hle:(Q1l hs n).le x)(g:Bool):Q2y hs(Q7o hs n x,g||Q65 hs n x)g:=by
 obtain⟨h1,h2,h3⟩:=v0f hok hx hle;refine⟨y57 hok n hx,x5y _ _ _,h1,?_,?_⟩
 ·intro e;cases g
  ·right;exact h2(by simpa using e)
  left;rfl
 intro e;dsimp only at e;simp only[Bool.or_eq_false_iff]at e;exact⟨e.1,h3 e.2⟩
theorem Q2y.trans{hs:List Hd}{a b:List Hd × Bool}{g:Bool}(h:Q2y hs a g)(k:Q2y a.1 b a.2):Q2y hs b g:=by
 refine⟨k.ok,k.len.trans h.len,Nat.le_trans k.cnt h.cnt,?_,?_⟩
 ·intro e;have c1:=h.cnt;have c2:=k.cnt;rcases k.more e with h1|h1
  ·rcases h.more h1 with h2|h2
   ·exact .inl h2
   right;omega
  right;omega
 intro e;obtain⟨e1,e2⟩:=k.same e;obtain⟨e3,e4⟩:=h.same e1;exact⟨e3,by rw[e2,e4]⟩
theorem y2c{h k:Hd}(h1:h.nul=true->k.nul=true)(h2:h.rch=true->k.rch=true)(h3:h.fru=true->k.fru=true)(h4:leB h.fi k.fi)(h5:leB h.fo k.fo):h.le k :=
 ⟨h1,h2,h3,y1l h4 h5⟩
theorem v08{h:Hd}(hk:h.ok)(e:Bool){r:List Bool}(hr:r.length=9):h.le{h with nul:=h.nul||e,fi:=orL h.fi r} :=
 y2c(fun x=>by simp[x])(fun x=>x)(fun x=>x)(z81(by rw[hk.fi,hr]))(z17 _)
theorem v0u{h:Hd}(hk:h.ok){r:List Bool}(hr:r.length=9):h.le{h with fo:=orL h.fo r} :=
 y2c(fun x=>x)(fun x=>x)(fun x=>x)(z17 _)(z81(by rw[hk.fo,hr]))
theorem x44(h:Hd):h.le{h with rch:=true}:=y2c(fun x=>x)(fun _=>rfl)(fun x=>x)(z17 _)(z17 _)
theorem x8e(h:Hd)(e:Bool):h.le{h with fru:=h.fru||e}:=y2c(fun x=>x)(fun x=>x)(fun x=>by simp[x])(z17 _)(z17 _)
theorem z3r{hs:List Hd}(hok:∀x∈hs,x.ok)(p:Pr)(g:Bool):Q2y hs((Q3k hs p).1,g||(Q3k hs p).2)g:=by
 unfold Q3k;refine Q2y.put hok ?_ ?_ g
 ·exact⟨z04(z0k hok _).fi(z1a hok _ _ rfl),(z0k hok _).fo⟩
 exact v08(z0k hok _)_(z1a hok _ _ rfl)
theorem z46:∀(l:List Pr){hs:List Hd}(_:∀x∈hs,x.ok)(g:Bool),Q2y hs(Q5h l hs g)g
 | [],_,hok,g=>Q2y.refl hok g
 |p::l,hs,hok,g=>by
  have h1:=z3r hok p g;exact h1.trans(z46 l h1.ok _)
theorem z47{hs:List Hd}(hok:∀x∈hs,x.ok)(p:Pr)(g:Bool):Q2y hs((Q4t hs p).1,g||(Q4t hs p).2)g:=by
 unfold Q4t;refine Q2y.put hok ?_ ?_ g
 ·exact⟨(z0k hok p.head).fi,(z0k hok p.head).fo⟩
 exact x8e _ _
theorem z49:∀(l:List Pr){hs:List Hd}(_:∀x∈hs,x.ok)(g:Bool),Q2y hs(Q47 l hs g)g
 | [],_,hok,g=>Q2y.refl hok g
 |p::l,hs,hok,g=>by
  have h1:=z47 hok p g;exact h1.trans(z49 l h1.ok _)
theorem z29:∀(l:List Sy){hs:List Hd}(_:∀x∈hs,x.ok)(g:Bool),Q2y hs(Q3j l hs g)g
 | [],_,hok,g=>Q2y.refl hok g
 |s::l,hs,hok,g=>by
  unfold Q3j;split
  ·exact z29 l hok g
  have h1:Q2y hs(Q7o hs s.num{Q1l hs s.num with rch:=true},g||Q65 hs s.num{Q1l hs s.num with rch:=true})g:=by
   refine Q2y.put hok ?_ ?_ g
   ·exact⟨(z0k hok s.num).fi,(z0k hok s.num).fo⟩
   exact x44 _
  exact h1.trans(z29 l h1.ok _)
theorem z3s:∀(l:List Pr){hs:List Hd}(_:∀x∈hs,x.ok)(g:Bool),Q2y hs(Q3r l hs g)g
 | [],_,hok,g=>Q2y.refl hok g
 |p::l,hs,hok,g=>by
  unfold Q3r;split
  ·exact z3s l hok g
  have h1:=z29 p.syms hok g;exact h1.trans(z3s l h1.ok _)
theorem z25(ph:Int):∀(l:List Sy){hs:List Hd}(_:∀x∈hs,x.ok)(g:Bool),Q2y hs(Q23 ph l hs g)g
 | [],_,hok,g=>Q2y.refl hok g
 |s::l,hs,hok,g=>by
  unfold Q23;split
  ·exact z25 ph l hok g
  have h1:Q2y hs(Q7o hs s.num(Q5q hs ph s.num l),g||Q65 hs s.num(Q5q hs ph s.num l))g:=by
   refine Q2y.put hok ?_ ?_ g
   ·exact⟨(z0k hok s.num).fi,z04(z0k hok s.num).fo(z3d hok _ _)⟩
   exact v0u(z0k hok _)(z3d hok _ _)
  exact h1.trans(z25 ph l h1.ok _)
theorem z42:∀(l:List Pr){hs:List Hd}(_:∀x∈hs,x.ok)(g:Bool),Q2y hs(Q5j l hs g)g
 | [],_,hok,g=>Q2y.refl hok g
 |p::l,hs,hok,g=>by
  have h1:=z25 p.head p.syms hok g;exact h1.trans(z42 l h1.ok _)
def Q8a(step:List Hd->List Hd × Bool):Nat->List Hd->List Hd
 |0,hs=>hs
 |f+1,hs=>if(step hs).2 then Q8a step f(step hs).1 else(step hs).1
def Q44(step:List Hd->List Hd × Bool)(hs:List Hd):List Hd:=Q8a step(Q7f hs+1)hs
def Q8f(ps:List Pr)(hs:List Hd):List Hd × Bool:=Q5h ps hs false
def Q5n(ps:List Pr)(hs:List Hd):List Hd × Bool:=Q5j ps hs false
def Q6z(ps:List Pr)(hs:List Hd):List Hd × Bool:=Q3r ps hs false
def Q72(ps:List Pr)(hs:List Hd):List Hd × Bool:=Q47 ps hs false
def Q34(ps:List Pr)(hs:List Hd):List Hd:=Q44(Q72 ps)(Q44(Q6z ps)(Q44(Q5n ps)(Q44(Q8f ps)hs)))
def Q42(step:List Hd->List Hd × Bool):Prop:=∀hs:List Hd,(∀x∈hs,x.ok)->Q2y hs(step hs)false
theorem z2u(ps:List Pr):Q42(Q8f ps):=fun _ h=>z46 ps h false
theorem z2b(ps:List Pr):Q42(Q5n ps):=fun _ h=>z42 ps h false
theorem z2c(ps:List Pr):Q42(Q6z ps):=fun _ h=>z3s ps h false
theorem z2a(ps:List Pr):Q42(Q72 ps):=fun _ h=>z49 ps h false
theorem y35{step:List Hd->List Hd × Bool}(hg:Q42 step){I:List Hd->Prop}(hI:∀hs,(∀x∈hs,x.ok)->I hs->I(step hs).1) :
  ∀(f:Nat)(hs:List Hd),(∀x∈hs,x.ok)->Q7f hs<f->I hs->I(Q8a step f hs)/\(∀x∈Q8a step f hs,x.ok)/\(Q8a step f hs).length=hs.length/\step(Q8a step f hs)=(Q8a step f hs,false)
 |0,hs,_,hc,_=>by omega
 |f+1,hs,hok,hc,hi=>by
  have h1:=hg hs hok;unfold Q8a;cases hq:(step hs).2
  ·simp only[Bool.false_eq_true,if_false];have e:=(h1.same hq).2;have e2:step hs=(hs,false):=Prod.ext e hq;rw[e];exact⟨hi,hok,rfl,e2⟩
  simp only[if_true];have hl:Q7f(step hs).1<Q7f hs:=by
   rcases h1.more hq with h2|h2
   ·cases h2
   exact h2
  have:=y35 hg hI f(step hs).1 h1.ok(by omega)(hI hs hok hi);exact⟨this.1,this.2.1,by rw[this.2.2.1,h1.len],this.2.2.2⟩
theorem z1n{step:List Hd->List Hd × Bool}(hg:Q42 step){I:List Hd->Prop}(hI:∀hs,(∀x∈hs,x.ok)->I hs->I(step hs).1){hs:List Hd}(hok:∀x∈hs,x.ok)(h:I hs) :
  I(Q44 step hs)/\(∀x∈Q44 step hs,x.ok)/\(Q44 step hs).length=hs.length/\step(Q44 step hs)=(Q44 step hs,false) :=
 y35 hg hI _ hs hok(by omega)h
def isFv(v:Value):Bool:=match v with
 | .bool false=>true
 |_=>false
def muW(vh:Value)(N:Nat)(w:World):Nat:=match vh with
 | .slice(some a)_ _=>(match w.heap[a.block]? with
  |some(.cells c _ _)=>((c.toList.take(N*21)).filter isFv).length
  |_=>0)
 |_=>0
def Q8g(v:Value):Nat:=match v with
 | .bool true=>1
 |_=>0
theorem z8p:∀l:List Bool,((l.map Value.bool).filter isFv).length=Q9o l
 | []=>rfl
 |x::l=>by
  have:=z8p l;cases x<;>simp_all[Q9o,isFv,List.filter_cons]
theorem z83:∀hs:List Hd,((Q01 Hd.cells hs).filter isFv).length=Q7f hs
 | []=>rfl
 |h::l=>by
  have ih:=z83 l;have e:h.cells=h.bits.map Value.bool:=by simp[Hd.cells,Hd.bits,bls]
  have h1:=z8p h.bits;unfold Q01 at ih ⊢;rw[List.flatMap_cons,List.filter_append,List.length_append,ih,e,h1];rfl
theorem FA.mu{w:World}{b:Nat}{R H:Int}{vp vh:Value}{ps:List PV}{hs:List Hd}(h:FA w b R H vp vh ps hs):muW vh hs.length w=Q7f hs:=by
 obtain⟨h1,h2⟩:=h.own;rcases h2 with⟨rfl,h3⟩|⟨g,cap,cur,rfl,_,hb,_,_,_,ht⟩
 ·have:hs=[]:=List.eq_nil_of_length_eq_zero h3;subst this;rfl
 unfold muW;simp only[hb];rw[ht,z83]
theorem FA.mu'{w:World}{b:Nat}{R H:Int}{vp vh:Value}{ps:List PV}{hs:List Hd}(h:FA w b R H vp vh ps hs){N:Nat}(hN:hs.length=N):muW vh N w=Q7f hs:=by
 rw[← hN];exact h.mu
def Q3u(step:List Hd->List Hd × Bool)(R1:List Hd)(g:Bool)(hs':List Hd):Prop:=if g then ∃f,Q8a step f hs'=R1/\Q7f hs'<f else hs'=R1
theorem Q3u.start(step:List Hd->List Hd × Bool)(hs:List Hd):Q3u step(Q44 step hs)true hs:=⟨Q7f hs+1,rfl,by omega⟩
theorem Q3u.next{step:List Hd->List Hd × Bool}(hg:Q42 step){R1 hs':List Hd}(hok:∀x∈hs',x.ok)(h:Q3u step R1 true hs'):Q3u step R1(step hs').2(step hs').1:=by
 obtain⟨f,h1,h2⟩:=h;obtain⟨f,rfl⟩:∃k,f=k+1:=⟨f-1,by omega⟩;unfold Q8a at h1;unfold Q3u;have h3:=hg hs' hok;cases hq:(step hs').2
 ·rw[hq]at h1;simpa using h1
 rw[hq]at h1;simp only[if_true]at h1 ⊢;refine⟨f,h1,?_⟩;rcases h3.more hq with h4|h4
 ·cases h4
 omega
theorem Q3u.less{step:List Hd->List Hd × Bool}(hg:Q42 step){hs':List Hd}(hok:∀x∈hs',x.ok):2*Q7f(step hs').1+Q8g(.bool(step hs').2)<2*Q7f hs'+Q8g(.bool true):=by
 have h3:=hg hs' hok;have h4:=h3.cnt;cases hq:(step hs').2
 ·simp[Q8g];omega
 have:Q7f(step hs').1<Q7f hs':=by
  rcases h3.more hq with h|h
  ·cases h
  exact h
 simp[Q8g];omega
end Go.Proofs.YtcpceafmlgaodaaGreat
