import Derived.Test.YtcpceafmlgaodaaGreatSe6
namespace Go.Proofs.YtcpceafmlgaodaaGreat
open Go.RowKit
set_option maxRecDepth 99999
set_option maxHeartbeats 0
set_option linter.all false
def Q8b(hs:List Hd)(ph:Int)(l:List Sy):List Bool:=if(Q2m hs l zero9).2 then orL (Q2m hs l zero9).1 (Q1i hs ph).fo else(Q2m hs l zero9).1
def Q5j(hs:List Hd)(ph sn:Int)(l:List Sy):Hd:={Q1i hs sn with fo:=orL (Q1i hs sn).fo (Q8b hs ph l)}
def Q2w(ph:Int):List Sy->List Hd->Bool->List Hd × Bool
  | [],hs,g=>(hs,g)
  | s :: l,hs,g=>if s.isH=false then Q2w ph l hs g else
      Q2w ph l (Q7l hs s.num (Q5j hs ph s.num l)) (g||Q6v hs s.num (Q5j hs ph s.num l))
def Q5b:List Pr->List Hd->Bool->List Hd × Bool
  | [],hs,g=>(hs,g)
  |p::l,hs,g=>Q5b l (Q2w p.head p.syms hs g).1 (Q2w p.head p.syms hs g).2
theorem Q53.drop{w:World}{B gs os cap:Nat}{l:List Sy}(h:Q53 w B (.slice (some ⟨gs,os,none⟩) l.length cap) l)(k:Nat)(hk:k<=l.length) :
    Q53 w B (.slice (some ⟨gs,os+k*2,none⟩) (l.length-k) (cap-k)) (l.drop k):=by
  obtain⟨ao,c,h1,h2,h3,h4⟩:=h;rw[qI]at h1;obtain⟨rfl,_,rfl⟩:=h1;refine⟨some ⟨gs,os+k*2,none⟩,cap-k,by simp,by simp;omega,by omega,fun i hi=>?_⟩;simp only[List.length_drop]at hi;obtain⟨g,o,e1,e2,e3⟩:=h4 (k+i) (by omega);simp only[qO,Addr.mk.injEq]at e1;obtain⟨rfl,rfl,_⟩:=e1;refine⟨gs,os+k*2,rfl,e2,?_⟩;have e:os+(k+i)*2=os+k*2+i*2:=by omega
  rw[e]at e3;simpa using e3
theorem Q53.none{w:World}{B:Nat}{ao:Option Addr}{l:List Sy}(hl:l=[]){n:Nat}(hn:n=0):Q53 w B (.slice ao n 0) l:=by
  subst hl;subst hn;exact⟨ao,0,rfl,by simp,by unfold maxLen;omega,fun i hi=>by simp at hi⟩
theorem z1l{w:World}{g o:Nat}{vs:List Value}{b:Nat}(hb:b≠g):(w.setCells g o vs).heap[b]? = w.heap[b]? := by
  induction vs generalizing w o with
  |nil=>rfl
  |cons v vs ih=>rw[World.setCells,ih];exact heap_setCell_other v (by simpa using hb)
theorem z3f{hs:List Hd}(h:∀x∈hs,x.ok)(ph:Int)(l:List Sy):(Q8b hs ph l).length=9:=by
  unfold Q8b;have:=z1a h l zero9 rfl;split
  · exact z04 this (z0k h _).fo
  exact this
def leB:List Bool->List Bool->Prop
  | [],[]=>True
  |x::xs,y::ys=>(x=true->y=true)/\leB xs ys
  |_,_=>False
theorem z17:∀l:List Bool,leB l l
  | []=>trivial
  |x::l=>⟨fun h=>h,z17 l⟩
theorem z41:∀{a b c:List Bool},leB a b->leB b c->leB a c
  | [],[],[],_,_=>trivial
  |x::xs,y::ys,z::zs,h,k=>⟨fun e=>k.1 (h.1 e),z41 h.2 k.2⟩
theorem y2l:∀{a b:List Bool},leB a b->a.length=b.length
  | [],[],_=>rfl
  |_::xs,_::ys,h=>by simp[y2l h.2]
theorem y0z:∀{a b c d:List Bool},leB a b->leB c d->leB (a++c) (b++d)
  | [],[],_,_,_,k=>k
  |_::xs,_::ys,_,_,h,k=>⟨h.1,y0z h.2 k⟩
def Q9g(l:List Bool):Nat:=(l.filter fun b=>!b).length
theorem y1s:∀{a b:List Bool},leB a b->Q9g b<=Q9g a/\(a≠b->Q9g b<Q9g a)
  | [],[],_=>⟨qR _,fun h=>absurd rfl h⟩
  |x::xs,y::ys,h=>by
    have ih:=y1s h.2;cases x<;>cases y
    · simp only[Q9g,List.filter_cons,Bool.not_false,if_true,List.length_cons,ne_eq,List.cons.injEq,true_and]at *
      exact⟨by omega,fun e=>by have:=ih.2 e;omega⟩
    · simp only[Q9g,List.filter_cons,Bool.not_false,Bool.not_true,qF,if_true,if_false,List.length_cons]at *
      exact⟨by omega,fun _=>by omega⟩
    · have:=h.1 rfl;cases this
    simp only[Q9g,List.filter_cons,Bool.not_true,qF,if_false,ne_eq,List.cons.injEq,true_and]at *;exact ih
theorem z8z:∀{a b:List Bool},a.length=b.length->leB a (orL a b)
  | [],[],_=>trivial
  |x::xs,y::ys,h=>⟨fun e=>by simp[e],z8z (by simpa using h)⟩
theorem z4v:∀{a b:List Bool},leB a b->∀i,a.getD i false=true->b.getD i false=true
  | [],[],_,i,h=>by simp at h
  |x::xs,y::ys,h,0,e=>h.1 e
  |x::xs,y::ys,h,i+1,e=>by simpa using z4v h.2 i (by simpa using e)
theorem y73:∀{a b:List Bool},a.length=b.length->(∀i,a.getD i false=true->b.getD i false=true)->leB a b
  | [],[],_,_=>trivial
  |x::xs,y::ys,h,k=>⟨fun e=>k 0 e,y73 (by simpa using h) (fun i e=>by simpa using k (i+1) (by simpa using e))⟩
theorem z3j:∀{a b:List Bool},a.length=b.length->∀i,(orL a b).getD i false=(a.getD i false||b.getD i false)
  | [],[],_,i=>by simp[orL]
  |x::xs,y::ys,h,0=>rfl
  |x::xs,y::ys,h,i+1=>by simpa [orL]using z3j (a:=xs) (b:=ys) (by simpa using h) i
def Hd.bits(h:Hd):List Bool:=h.nul::h.rch::h.fru::(h.fi++h.fo)
def Hd.le(a b:Hd):Prop:=leB a.bits b.bits
theorem Hd.le_refl(a:Hd):a.le a:=z17 _
theorem Hd.le_trans{a b c:Hd}(h:a.le b)(k:b.le c):a.le c:=z41 h k
theorem x7p{a b:Hd}(ha:a.ok)(hb:b.ok)(h:a.bits=b.bits):a=b:=by
  obtain⟨n,r,f,fi,fo⟩:=a;obtain⟨n',r',f',fi',fo'⟩:=b;simp only[Hd.bits,List.cons.injEq]at h;obtain⟨rfl,rfl,rfl,h⟩:=h;have:=List.append_inj h (by rw[ha.fi,hb.fi]);obtain⟨rfl,rfl⟩:=this;rfl
def Hd.cnt(h:Hd):Nat:=Q9g h.bits
def Q67:List Hd->Nat
  | []=>0
  |h::l=>h.cnt+Q67 l
theorem y8s:∀(hs:List Hd) (k:Nat) (x:Hd) (hk:k<hs.length),Q67 (hs.set k x)+hs[k].cnt=Q67 hs+x.cnt
  |h::l,0,x,_=>by simp only[List.set_cons_zero,Q67,List.getElem_cons_zero];omega
  |h::l,k+1,x,hk=>by
    have:=y8s l k x (by simpa using hk);simp only[List.set_cons_succ,Q67,List.getElem_cons_succ];omega
theorem v0x{hs:List Hd}(hok:∀x∈hs,x.ok){n:Int}{x:Hd}(hx:x.ok)(hle:(Q1i hs n).le x) :
    Q67 (Q7l hs n x)<=Q67 hs/\(Q6v hs n x=true->Q67 (Q7l hs n x)<Q67 hs)/\(Q6v hs n x=false->Q7l hs n x=hs):=by
  unfold Q7l Q6v Q1i at *;by_cases h0:0<=n
  · rw[if_pos h0]at hle ⊢
    rw[if_pos h0];by_cases hk:n.toNat<hs.length
    · rw[qE hk]at hle ⊢
      simp only[Option.getD_some]at hle;have hc:=y8s hs n.toNat x hk;have hl:=y1s hle;have h1:(hs[n.toNat]).cnt=Q9g hs[n.toNat].bits:=rfl;have h2:x.cnt=Q9g x.bits:=rfl;refine⟨by omega,?_,?_⟩
      · intro hp
        have j0:hs[n.toNat].bits≠x.bits:=by
          intro e;have:=x7p (hok _ (by simp)) hx e;have h3:hdEq hs[n.toNat] x=true:=z7z.2 this;simp[h3]at hp
        have:=hl.2 j0;omega
      intro hp;have:hdEq hs[n.toNat] x=true:=by simpa using hp
      rw[← z7z.1 this,List.set_getElem_self]
    rw[qN (by omega),List.set_eq_of_length_le (by omega)];exact⟨qR _,fun h=>(by cases h),fun _=>rfl⟩
  rw[if_neg h0,if_neg h0];exact⟨qR _,fun h=>(by cases h),fun _=>rfl⟩
structure Q2p(hs:List Hd)(r:List Hd × Bool)(g:Bool):Prop where
  ok:∀x∈r.1,x.ok
  len:r.1.length=hs.length
  cnt:Q67 r.1<=Q67 hs
  more:r.2=true->g=true∨Q67 r.1<Q67 hs
  same:r.2=false->g=false/\r.1=hs
theorem Q2p.refl{hs:List Hd}(h:∀x∈hs,x.ok)(g:Bool):Q2p hs (hs,g) g:=⟨h,rfl,qR _,fun e=>.inl e,fun e=>⟨e,rfl⟩⟩
theorem Q2p.put{hs:List Hd}(hok:∀x∈hs,x.ok){n:Int}{x:Hd}(hx:x.ok)(hle:(Q1i hs n).le x)(g:Bool):Q2p hs (Q7l hs n x,g||Q6v hs n x) g:=by
  obtain⟨h1,h2,h3⟩:=v0x hok hx hle;refine⟨y7f hok n hx,x7b _ _ _,h1,?_,?_⟩
  · intro e
    cases g
    · right;exact h2 (by simpa using e)
    left;rfl
  intro e;dsimp only at e;simp only[Bool.or_eq_false_iff]at e;exact⟨e.1,h3 e.2⟩
theorem Q2p.trans{hs:List Hd}{a b:List Hd × Bool}{g:Bool}(h:Q2p hs a g)(k:Q2p a.1 b a.2):Q2p hs b g:=by
  refine⟨k.ok,k.len.trans h.len,Nat.le_trans k.cnt h.cnt,?_,?_⟩
  · intro e
    have c1:=h.cnt;have c2:=k.cnt;rcases k.more e with h1|h1
    · rcases h.more h1 with h2|h2
      · exact .inl h2
      right;omega
    right;omega
  intro e;obtain⟨e1,e2⟩:=k.same e;obtain⟨e3,e4⟩:=h.same e1;exact⟨e3,by rw[e2,e4]⟩
theorem y1r{h k:Hd}(h1:h.nul=true->k.nul=true)(h2:h.rch=true->k.rch=true)(h3:h.fru=true->k.fru=true)(h4:leB h.fi k.fi)(h5:leB h.fo k.fo):h.le k :=
  ⟨h1,h2,h3,y0z h4 h5⟩
theorem v1n{h:Hd}(hk:h.ok)(e:Bool){r:List Bool}(hr:r.length=9):h.le {h with nul:=h.nul||e,fi:=orL h.fi r} :=
  y1r (fun x=>by simp[x]) (fun x=>x) (fun x=>x) (z8z (by rw[hk.fi,hr])) (z17 _)
theorem v00{h:Hd}(hk:h.ok){r:List Bool}(hr:r.length=9):h.le {h with fo:=orL h.fo r} :=
  y1r (fun x=>x) (fun x=>x) (fun x=>x) (z17 _) (z8z (by rw[hk.fo,hr]))
theorem x34(h:Hd):h.le {h with rch:=true}:=y1r (fun x=>x) (fun _=>rfl) (fun x=>x) (z17 _) (z17 _)
theorem x8q(h:Hd)(e:Bool):h.le {h with fru:=h.fru||e}:=y1r (fun x=>x) (fun x=>x) (fun x=>by simp[x]) (z17 _) (z17 _)
theorem z3s{hs:List Hd}(hok:∀x∈hs,x.ok)(p:Pr)(g:Bool):Q2p hs ((Q3g hs p).1,g||(Q3g hs p).2) g:=by
  unfold Q3g;refine Q2p.put hok ?_ ?_ g
  · exact⟨z04 (z0k hok _).fi (z1a hok _ _ rfl),(z0k hok _).fo⟩
  exact v1n (z0k hok _) _ (z1a hok _ _ rfl)
theorem z49:∀(l:List Pr) {hs:List Hd}(_:∀x∈hs,x.ok) (g:Bool),Q2p hs (Q49 l hs g) g
  | [],_,hok,g=>Q2p.refl hok g
  |p::l,hs,hok,g=>by
    have h1:=z3s hok p g;exact h1.trans (z49 l h1.ok _)
theorem z42{hs:List Hd}(hok:∀x∈hs,x.ok)(p:Pr)(g:Bool):Q2p hs ((Q4o hs p).1,g||(Q4o hs p).2) g:=by
  unfold Q4o;refine Q2p.put hok ?_ ?_ g
  · exact⟨(z0k hok p.head).fi,(z0k hok p.head).fo⟩
  exact x8q _ _
theorem z4z:∀(l:List Pr) {hs:List Hd}(_:∀x∈hs,x.ok) (g:Bool),Q2p hs (Q4y l hs g) g
  | [],_,hok,g=>Q2p.refl hok g
  |p::l,hs,hok,g=>by
    have h1:=z42 hok p g;exact h1.trans (z4z l h1.ok _)
theorem z25:∀(l:List Sy) {hs:List Hd}(_:∀x∈hs,x.ok) (g:Bool),Q2p hs (Q3h l hs g) g
  | [],_,hok,g=>Q2p.refl hok g
  |s::l,hs,hok,g=>by
    unfold Q3h;split
    · exact z25 l hok g
    have h1:Q2p hs (Q7l hs s.num {Q1i hs s.num with rch:=true},g||Q6v hs s.num {Q1i hs s.num with rch:=true}) g:=by
      refine Q2p.put hok ?_ ?_ g
      · exact⟨(z0k hok s.num).fi,(z0k hok s.num).fo⟩
      exact x34 _
    exact h1.trans (z25 l h1.ok _)
theorem z3t:∀(l:List Pr) {hs:List Hd}(_:∀x∈hs,x.ok) (g:Bool),Q2p hs (Q3j l hs g) g
  | [],_,hok,g=>Q2p.refl hok g
  |p::l,hs,hok,g=>by
    unfold Q3j;split
    · exact z3t l hok g
    have h1:=z25 p.syms hok g;exact h1.trans (z3t l h1.ok _)
theorem z29(ph:Int):∀(l:List Sy) {hs:List Hd}(_:∀x∈hs,x.ok) (g:Bool),Q2p hs (Q2w ph l hs g) g
  | [],_,hok,g=>Q2p.refl hok g
  |s::l,hs,hok,g=>by
    unfold Q2w;split
    · exact z29 ph l hok g
    have h1:Q2p hs (Q7l hs s.num (Q5j hs ph s.num l),g||Q6v hs s.num (Q5j hs ph s.num l)) g:=by
      refine Q2p.put hok ?_ ?_ g
      · exact⟨(z0k hok s.num).fi,z04 (z0k hok s.num).fo (z3f hok _ _)⟩
      exact v00 (z0k hok _) (z3f hok _ _)
    exact h1.trans (z29 ph l h1.ok _)
theorem z46:∀(l:List Pr) {hs:List Hd}(_:∀x∈hs,x.ok) (g:Bool),Q2p hs (Q5b l hs g) g
  | [],_,hok,g=>Q2p.refl hok g
  |p::l,hs,hok,g=>by
    have h1:=z29 p.head p.syms hok g;exact h1.trans (z46 l h1.ok _)
def Q77(step:List Hd->List Hd × Bool):Nat->List Hd->List Hd
  |0,hs=>hs
  |f+1,hs=>if(step hs).2 then Q77 step f (step hs).1 else(step hs).1
def Q40(step:List Hd->List Hd × Bool)(hs:List Hd):List Hd:=Q77 step (Q67 hs+1) hs
def Q76(ps:List Pr)(hs:List Hd):List Hd × Bool:=Q49 ps hs false
def Q5f(ps:List Pr)(hs:List Hd):List Hd × Bool:=Q5b ps hs false
def Q6p(ps:List Pr)(hs:List Hd):List Hd × Bool:=Q3j ps hs false
def Q7o(ps:List Pr)(hs:List Hd):List Hd × Bool:=Q4y ps hs false
def Q3w(ps:List Pr)(hs:List Hd):List Hd:=Q40 (Q7o ps) (Q40 (Q6p ps) (Q40 (Q5f ps) (Q40 (Q76 ps) hs)))
def Q43(step:List Hd->List Hd × Bool):Prop:=∀hs:List Hd,(∀x∈hs,x.ok)->Q2p hs (step hs) false
theorem z2u(ps:List Pr):Q43 (Q76 ps):=fun _ h=>z49 ps h false
theorem z2b(ps:List Pr):Q43 (Q5f ps):=fun _ h=>z46 ps h false
theorem z18(ps:List Pr):Q43 (Q6p ps):=fun _ h=>z3t ps h false
theorem z2a(ps:List Pr):Q43 (Q7o ps):=fun _ h=>z4z ps h false
theorem y5u{step:List Hd->List Hd × Bool}(hg:Q43 step){I:List Hd->Prop}(hI:∀hs,(∀x∈hs,x.ok)->I hs->I (step hs).1) :
    ∀(f:Nat) (hs:List Hd),(∀x∈hs,x.ok)->Q67 hs<f->I hs->I (Q77 step f hs)/\(∀x∈Q77 step f hs,x.ok)/\(Q77 step f hs).length=hs.length/\step (Q77 step f hs)=(Q77 step f hs,false)
  |0,hs,_,hc,_=>by omega
  |f+1,hs,hok,hc,hi=>by
    have h1:=hg hs hok;unfold Q77;cases hq:(step hs).2
    · simp only[qF,if_false]
      have e:=(h1.same hq).2;have e2:step hs=(hs,false):=Prod.ext e hq;rw[e];exact⟨hi,hok,rfl,e2⟩
    simp only[if_true];have hl:Q67 (step hs).1<Q67 hs:=by
      rcases h1.more hq with h2|h2
      · cases h2
      exact h2
    have:=y5u hg hI f (step hs).1 h1.ok (by omega) (hI hs hok hi);exact⟨this.1,this.2.1,by rw[this.2.2.1,h1.len],this.2.2.2⟩
theorem z1n{step:List Hd->List Hd × Bool}(hg:Q43 step){I:List Hd->Prop}(hI:∀hs,(∀x∈hs,x.ok)->I hs->I (step hs).1){hs:List Hd}(hok:∀x∈hs,x.ok)(h:I hs) :
    I (Q40 step hs)/\(∀x∈Q40 step hs,x.ok)/\(Q40 step hs).length=hs.length/\step (Q40 step hs)=(Q40 step hs,false) :=
  y5u hg hI _ hs hok (by omega) h
def isFv(v:Value):Bool:=match v with
  | .bool false=>true
  |_=>false
def muW(vh:Value)(N:Nat)(w:World):Nat:=match vh with
  | .slice (some a) _ _=>(match w.heap[a.block]? with
    |some (.cells c _ _)=>((c.toList.take (N*21)).filter isFv).length
    |_=>0)
  |_=>0
def Q75(v:Value):Nat:=match v with
  | .bool true=>1
  |_=>0
theorem z8o:∀l:List Bool,((l.map Value.bool).filter isFv).length=Q9g l
  | []=>rfl
  |x::l=>by
    have:=z8o l;cases x<;>simp_all[Q9g,isFv,List.filter_cons]
theorem z9y:∀hs:List Hd,((Q0z Hd.cells hs).filter isFv).length=Q67 hs
  | []=>rfl
  |h::l=>by
    have ih:=z9y l;have e:h.cells=h.bits.map Value.bool:=by simp[Hd.cells,Hd.bits,bls]
    have h1:=z8o h.bits;unfold Q0z at ih ⊢;rw[List.flatMap_cons,List.filter_append,qP,ih,e,h1];rfl
theorem FA.mu{w:World}{b:Nat}{R H:Int}{vp vh:Value}{ps:List PV}{hs:List Hd}(h:FA w b R H vp vh ps hs):muW vh hs.length w=Q67 hs:=by
  obtain⟨h1,h2⟩:=h.own;rcases h2 with⟨rfl,h3⟩|⟨g,cap,cur,rfl,_,hb,_,_,_,ht⟩
  · have:hs=[]:=List.eq_nil_of_length_eq_zero h3
    subst this;rfl
  unfold muW;simp only[hb];rw[ht,z9y]
theorem FA.mu'{w:World}{b:Nat}{R H:Int}{vp vh:Value}{ps:List PV}{hs:List Hd}(h:FA w b R H vp vh ps hs){N:Nat}(hN:hs.length=N):muW vh N w=Q67 hs:=by
  rw[← hN];exact h.mu
def Q3q(step:List Hd->List Hd × Bool)(R1:List Hd)(g:Bool)(hs':List Hd):Prop:=if g then ∃f,Q77 step f hs'=R1/\Q67 hs'<f else hs'=R1
theorem Q3q.start(step:List Hd->List Hd × Bool)(hs:List Hd):Q3q step (Q40 step hs) true hs:=⟨Q67 hs+1,rfl,by omega⟩
theorem Q3q.next{step:List Hd->List Hd × Bool}(hg:Q43 step){R1 hs':List Hd}(hok:∀x∈hs',x.ok)(h:Q3q step R1 true hs'):Q3q step R1 (step hs').2 (step hs').1:=by
  obtain⟨f,h1,h2⟩:=h;obtain⟨f,rfl⟩:∃k,f=k+1:=⟨f-1,by omega⟩;unfold Q77 at h1;unfold Q3q;have h3:=hg hs' hok;cases hq:(step hs').2
  · rw[hq]at h1
    simpa using h1
  rw[hq]at h1;simp only[if_true]at h1 ⊢;refine⟨f,h1,?_⟩;rcases h3.more hq with h4|h4
  · cases h4
  omega
theorem Q3q.less{step:List Hd->List Hd × Bool}(hg:Q43 step){hs':List Hd}(hok:∀x∈hs',x.ok):2*Q67 (step hs').1+Q75 (.bool (step hs').2)<2*Q67 hs'+Q75 (.bool true):=by
  have h3:=hg hs' hok;have h4:=h3.cnt;cases hq:(step hs').2
  · simp[Q75];omega
  have:Q67 (step hs').1<Q67 hs':=by
    rcases h3.more hq with h|h
    · cases h
    exact h
  simp[Q75];omega
theorem x3f(w:World)(b:Nat)(R H:Int)(vp vh:Value)(ps:List PV)(hs:List Hd)(h:FA w b R H vp vh ps hs)(hps:ps.length<=1000) :
    Calls Tryz.prog 111 #[Q23 b] w fun e w'=>e=.returned (.bool (Q5b (Q0j ps) hs false).2)/\FA w' b R H vp vh ps (Q5b (Q0j ps) hs false).1/\Mod (Q19 vh) w w':=by
  have jy:=hid h;obtain⟨ao,cap,hv⟩:=z0d h.prs.row.own;subst hv;have k2:=h.cell 2;simp at k2;generalize hR:Q5b (Q0j ps) hs false=RES;have HR:=hid hR;clear hR h;go_enter Tryz.func111,Tryz.ntmps111
  go_wp2;go_loopw [3,5,6,7,8,9,10,11,18,25] (fun x3 _ _ _ _ _ _ _ x16 _ wr=>∃(i:Nat) (gr:Bool) (hs':List Hd),x3=.bool gr/\x16=.int .i64 i/\i<=ps.length/\FA wr b R H (.slice ao ps.length cap) vh ps hs'/\Q5b (Q0j (ps.drop i)) hs' gr=RES/\Mod (Q19 vh) w wr)
      (fun _ _ _ _ _ _ _ _ x _ _=>ps.length+1-(intOf x).toNat)
  case atStart=>exact⟨0,false,hs,rfl,rfl,by omega,jy,HR,mRf _ w⟩
  obtain⟨i,gr,hs',rfl,rfl,hi,hF,hres,hmod⟩:=hrel;obtain⟨wo,hwo⟩:∃wo,wo=wr:=⟨_,rfl⟩;subst hwo;have k0:=hid (Q15 (B:=ps.length+1) i (by omega));have jj:=hid hmod;have HF:=hid hF;clear hmod;by_cases hlt:i<ps.length
  · have ka:(i:Int)<(ps.length:Int):=by omega
    rw[qC hlt]at hres;obtain⟨gp,cap',hv'⟩:=Joins.ownsRow_form hF.prs.row.own (by omega);rw[qI]at hv';obtain⟨rfl,_,rfl⟩:=hv';have RG:Hid (wo.rangeAt gp (i*2) [.int .i64 ps[i].pr.head,ps[i].vs]):=hF.prs.row.range i hlt;have k8:=hF.size;have jl:=hid (hF.fresh ((mRf _ wo).alloc (.cells #[.int .i64 ps[i].pr.head,ps[i].vs] 118 (0,0))));have jf:Hid (∀(w1:World) (hs1:List Hd),FA w1 b R H (.slice (some ⟨gp,0,none⟩) ps.length cap) vh ps hs1->Q53 w1 b ps[i].vs ps[i].pr.syms):=fun w1 hs1 h=>h.prs.syms ps[i] (by simp);unfold Q0j at hres;rw[List.map_cons]at hres;unfold Q5b at hres;generalize ps[i].pr=pr at hres RG jf jl;generalize ps[i].vs=pvs at RG jf jl;obtain⟨ph,psy⟩:=pr;dsimp only at hres RG jf jl;obtain⟨sao,scap,hsv,hsc1,jh,_⟩:=jf.out _ _ hF;subst hsv;unfold maxLen at jh;clear hF;generalize hRR:Q2w ph psy hs' gr=RR at hres;have k4:=hid hRR;have jc:=hid hres;clear hres hRR;go_wp2_with (first
      |(refine wpList_load_mid rfl 118 _ rfl gp (i*2) rfl [.int .i64 ph,.slice sao psy.length scap] _ RG.out Tryz.underlying118 rfl Q96 ?_))
    go_loopw [3,6,7,8,9,10,11,25] (fun x3 _ _ _ _ _ _ x30 wr=>∃(j:Nat) (gr1:Bool) (hs1:List Hd),x3=.bool gr1/\x30=.int .i64 j/\j<=psy.length/\FA wr b R H (.slice (some ⟨gp,0,none⟩) ps.length cap) vh ps hs1/\Q2w ph (psy.drop j) hs1 gr1=RR/\Mod (Q19 vh) w wr/\wr.heap[wo.heap.size]? = some (.cells #[.int .i64 ph,.slice sao psy.length scap] 118 (0,0)))
      (fun _ _ _ _ _ _ _ x _=>psy.length+1-(intOf x).toNat)
    case atStart=>exact⟨0,gr,hs',rfl,rfl,by omega,jl,k4,Mod.trans jj.out ((mRf _ wo).alloc _),z0a _ _⟩
    obtain⟨j,gr1,hs1,rfl,rfl,hj,hF1,hres1,hmod1,hpb0⟩:=hrel;have jr:=hid hpb0;have k9:=z0j hpb0;clear hpb0;have jg:=hid (Q15 (B:=psy.length+1) j (by omega));have jb:=hid hmod1;have j7:=hid hF1;clear hmod1;by_cases hlj:j<psy.length
    · have kd:(j:Int)<(psy.length:Int):=by omega
      rw[qC hlj]at hres1;obtain⟨ao2,cap2,hv2,hd1,hd2,hcells⟩:=jf.out _ _ hF1;rw[qI]at hv2;obtain⟨rfl,_,rfl⟩:=hv2;obtain⟨gs,os,rfl,hgs,hrs⟩:=hcells j hlj;have RS:Hid (wr.rangeAt gs (os+j*2) [.bool psy[j].isH,.int .i64 psy[j].num]):=hrs;unfold Q2w at hres1;generalize psy[j].isH=sh at hres1 RS;generalize psy[j].num=sn at hres1 RS;have k6:=hF1.size;clear hcells hrs;cases sh
      · rw[if_pos rfl]at hres1
        have j0:=hid hres1;clear hres1 hF1;go_wp2_with (first
          |(refine wpList_load_mid rfl 69 _ rfl gs (os+j*2) rfl [.bool false,.int .i64 sn] _ RS.out Tryz.underlying69 rfl Q9w ?_))
        go_roundw
        case rel=>exact⟨j+1,gr1,hs1,rfl,by go_num,by omega,j7.fresh ((mRf _ wr).alloc _),j0,Mod.trans jb.out ((mRf _ wr).alloc _),z0b jr.out⟩
        exact jg
      rw[if_neg (by simp)]at hres1;have ji:=hid (z0b (o:=.cells #[.bool true,.int .i64 sn] 69 (0,0)) jr.out);have c1:(wr.alloc (.cells #[.bool true,.int .i64 sn] 69 (0,0))).cell? ⟨wo.heap.size,1,none⟩=some (.slice (some ⟨gs,os,none⟩) psy.length scap):=by rw[Q0b ji.out 1];rfl
      have k7:wr.cell? ⟨wo.heap.size,1,none⟩=some (.slice (some ⟨gs,os,none⟩) psy.length scap):=by rw[Q0b jr.out 1];rfl
      have jv:=hid (hF1.fresh ((mRf _ wr).alloc (.cells #[.bool true,.int .i64 sn] 69 (0,0))));have jp:=hid ((jf.out _ _ jv.out).drop (j+1) (by omega));have ju:Hid (∀(W:World) (n:Nat),psy.length<=j+1->n=0->Q53 W b (.slice (some ⟨gs,os,none⟩) n 0) (psy.drop (j+1))):=fun W n h hn=>Q53.none (by apply List.drop_eq_nil_of_le;omega) hn;have jm:Hid (¬vh.ownBlock=some wo.heap.size):=fun e=>by have:=(HF.own.lt _ e).2;omega
      have BA:=hid (fun v hv=>z52 _ b R H _ vh ps hs1 b v (psy.drop (j+1)) jv.out (by simp;omega) hv);have jq:=hid (fun w (h:FA w b R H (.slice (some ⟨gp,0,none⟩) ps.length cap) vh ps hs1)=>z4n w b R H _ vh ps hs1 ph h);have jk:=hid (fun w (h:FA w b R H (.slice (some ⟨gp,0,none⟩) ps.length cap) vh ps hs1)=>z4n w b R H _ vh ps hs1 sn h);have PA:=hid (fun w (x:Hd) (hx:x.ok) (h:FA w b R H (.slice (some ⟨gp,0,none⟩) ps.length cap) vh ps hs1)=>y15 w b R H _ vh ps hs1 sn x hx h);have j3:=hid (z1a hF1.ok (psy.drop (j+1)) zero9 rfl);have j6:=hid (z0k hF1.ok ph);have j1:=hid (z0k hF1.ok sn);unfold Q5j Q8b at hres1;generalize Q2m hs1 (psy.drop (j+1)) zero9=bg at hres1 j3 BA;generalize Q1i hs1 ph=hp at hres1 j6 jq;generalize Q1i hs1 sn=hd at hres1 j1 jk;obtain⟨bg1,bg2⟩:=bg;dsimp only at hres1 j3 BA;clear hF1;rcases(show scap=j+1∨¬scap=j+1 by omega)with hsc|hsc
      · subst hsc
        clear jp;cases bg2
        · simp only[qF,if_false]at hres1
          have j4:=hid (z04 j1.fo j3.out);have j9:Hid (Hd.ok {hd with fo:=orL hd.fo (bg1)}):=⟨j1.fi,j4⟩;generalize hpb:Q6v hs1 sn {hd with fo:=orL hd.fo (bg1)}=pb at hres1;have je:=hid hpb;have j0:=hid hres1;clear hres1 hpb;go_wp2_with (first
            |(go_at_call 121;refine(PA.out _ {hd with fo:=orL hd.fo (bg1)} j9.out (j7.fresh f5.out)).mono ?_;rintro e w6⟨rfl,hF6,hm6⟩;have p6:=hid (hm6.at p5.out jm.out);rw[je.out])
            |(refine wpList_load_row rfl 179 _ rfl w4.heap.size rfl _ _ _ _ jd.out Tryz.underlying179 rfl (Q1n j9.out) ?_)
            |(refine wpList_store_mid rfl 130 _ _ rfl w4.heap.size 12 (tkA (orL hd.fo (bg1))) rfl rfl (by rw[z0u j4.out];exact z4l j1.out ja.out (by omega)) (Q0s j4.out) (z1e _) ?_)
            |(go_at_call 54;have j2:=hf4.size;clear j2;refine(z1b _ hd.fo (bg1) j1.fo j3.out).mono ?_;rintro e w5⟨rfl,hf5⟩;have ja:=hid (hf5.at (z0a w4 _) (fun x=>x));have f5:Hid (Q0a wr (w5.setCells w4.heap.size 12 (tkA (orL hd.fo (bg1))).toList)):=Mod.setCells (by intro q;omega) _ _ _ (Mod.trans (f4.alloc _) hf5);have p5:Hid ((w5.setCells w4.heap.size 12 (tkA (orL hd.fo (bg1))).toList).heap[wo.heap.size]? = some (.cells #[.int .i64 ph,.slice (some ⟨gs,os,none⟩) psy.length (j+1)] 118 (0,0))):=(by unfold Hid;rw[z1l (by omega)];exact hf5.at (z0b p4.out) (fun x=>x));have k5:(w5.setCells w4.heap.size 12 (tkA (orL hd.fo (bg1))).toList).cell? ⟨wr.heap.size,1,none⟩=some (.int .i64 sn):=(by rw[z0z (by omega),Q0b (hf5.at (z0b s4.out) (fun x=>x)) 1];rfl);have jd:Hid ((w5.setCells w4.heap.size 12 (tkA (orL hd.fo (bg1))).toList).heap[w4.heap.size]? = some (.cells (hdA {hd with fo:=orL hd.fo (bg1)}) 179 (0,0))):=(by unfold Hid;rw[z0p _ _ _ _ _ _ _ ja.out];rw[← z6l j1.out j4.out];rfl))
            |(refine wpList_load_row rfl 130 _ rfl w1.heap.size rfl _ _ _ _ (z0b t4.out) Tryz.underlying130 rfl (Q0s j3.out) ?_)
            |(refine wpList_load_mid rfl 130 _ rfl w4.heap.size 12 rfl (bls hd.fo) _ (Q4r j1.out (z0a _ _)) Tryz.underlying130 rfl (Q5k j1.fo) ?_)
            |(refine z0e rfl 179 _ _ rfl w4 _ (hdA hd) _ rfl rfl rfl (Q1n j1.out) (Q0k rfl (z08 j1.out)) (z10 _) ?_)
            |(go_at_call 84;refine(jk.out _ (j7.fresh (f1.alloc _))).mono ?_;rintro e w4⟨rfl,hf4⟩;have jn:w1.heap.size<w4.heap.size:=(by have h1:=hf4.size;simp at h1;first|omega|(have:=z0j t3.out;omega));have f4:Hid (Q0a wr w4):=Mod.trans (f1.alloc _) hf4;have p4:=hid (hf4.at (z0b p1.out) (fun x=>x));have s4:=hid (hf4.at (z0b s1.out) (fun x=>x));have t4:=hid (hf4.at (z0a w1 _) (fun x=>x)))
            |(refine z0e rfl 130 _ _ rfl w1 _ (tkA bg1) _ rfl rfl rfl (Q0s j3.out) (Q0k rfl (z0u j3.out)) (z1e _) ?_)
            |(go_at_call 53;refine(BA.out _ (ju.out _ _ (by omega) (by first|rfl|omega))).mono ?_;rintro e w1⟨rfl,hf1⟩;have js:wr.heap.size<w1.heap.size:=(by have:=hf1.size;simp at this;omega);have f1:Hid (Q0a wr w1):=Mod.trans ((mRf _ wr).alloc _) hf1;have p1:=hid (hf1.at ji.out (fun x=>x));have s1:=hid (hf1.at (z0a _ _) (fun x=>x));have k1:(w1.alloc (.cells (tkA bg1) 130 (0,0))).cell? ⟨wo.heap.size,0,none⟩=some (.int .i64 ph):=(by rw[Q0b (z0b p1.out) 0];rfl);have jo:(w1.alloc (.cells (tkA bg1) 130 (0,0))).cell? ⟨wr.heap.size,1,none⟩=some (.int .i64 sn):=(by rw[Q0b (z0b s1.out) 1];rfl))
            |(refine wpList_load_mid rfl 69 _ rfl gs (os+j*2) rfl [.bool true,.int .i64 sn] _ RS.out Tryz.underlying69 rfl Q9w ?_))
          all_goals
            rename_i hq;go_roundw
            case rel =>
              first
                | (refine⟨j+1,true,_,rfl,by go_num,by omega,hF6,?_,Mod.trans jb.out (Mod.trans (Mod.mono f5.out (fun _ _ x=>x.elim)) hm6),p6⟩
                   have:=j0.out;rw[hq,Bool.or_true]at this;exact this)
                | (refine⟨j+1,gr1,_,rfl,by go_num,by omega,hF6,?_,Mod.trans jb.out (Mod.trans (Mod.mono f5.out (fun _ _ x=>x.elim)) hm6),p6⟩
                   have:=j0.out;rw[hq,Bool.or_false]at this;exact this)
            exact jg
        simp only[if_true]at hres1;have j8:=hid (z04 j3.out j6.fo);have j4:=hid (z04 j1.fo j8.out);have j9:Hid (Hd.ok {hd with fo:=orL hd.fo (orL bg1 hp.fo)}):=⟨j1.fi,j4⟩;generalize hpb:Q6v hs1 sn {hd with fo:=orL hd.fo (orL bg1 hp.fo)}=pb at hres1;have je:=hid hpb;have j0:=hid hres1;clear hres1 hpb;go_wp2_with (first
          |(go_at_call 121;refine(PA.out _ {hd with fo:=orL hd.fo (orL bg1 hp.fo)} j9.out (j7.fresh f5.out)).mono ?_;rintro e w6⟨rfl,hF6,hm6⟩;have p6:=hid (hm6.at p5.out jm.out);rw[je.out])
          |(refine wpList_load_row rfl 179 _ rfl w4.heap.size rfl _ _ _ _ jd.out Tryz.underlying179 rfl (Q1n j9.out) ?_)
          |(refine wpList_store_mid rfl 130 _ _ rfl w4.heap.size 12 (tkA (orL hd.fo (orL bg1 hp.fo))) rfl rfl (by rw[z0u j4.out];exact z4l j1.out ja.out (by omega)) (Q0s j4.out) (z1e _) ?_)
          |(go_at_call 54;have j2:=hf4.size;clear j2;refine(z1b _ hd.fo (orL bg1 hp.fo) j1.fo j8.out).mono ?_;rintro e w5⟨rfl,hf5⟩;have ja:=hid (hf5.at (z0a w4 _) (fun x=>x));have f5:Hid (Q0a wr (w5.setCells w4.heap.size 12 (tkA (orL hd.fo (orL bg1 hp.fo))).toList)):=Mod.setCells (by intro q;omega) _ _ _ (Mod.trans (f4.alloc _) hf5);have p5:Hid ((w5.setCells w4.heap.size 12 (tkA (orL hd.fo (orL bg1 hp.fo))).toList).heap[wo.heap.size]? = some (.cells #[.int .i64 ph,.slice (some ⟨gs,os,none⟩) psy.length (j+1)] 118 (0,0))):=(by unfold Hid;rw[z1l (by omega)];exact hf5.at (z0b p4.out) (fun x=>x));have k5:(w5.setCells w4.heap.size 12 (tkA (orL hd.fo (orL bg1 hp.fo))).toList).cell? ⟨wr.heap.size,1,none⟩=some (.int .i64 sn):=(by rw[z0z (by omega),Q0b (hf5.at (z0b s4.out) (fun x=>x)) 1];rfl);have jd:Hid ((w5.setCells w4.heap.size 12 (tkA (orL hd.fo (orL bg1 hp.fo))).toList).heap[w4.heap.size]? = some (.cells (hdA {hd with fo:=orL hd.fo (orL bg1 hp.fo)}) 179 (0,0))):=(by unfold Hid;rw[z0p _ _ _ _ _ _ _ ja.out];rw[← z6l j1.out j4.out];rfl))
          |(refine wpList_load_row rfl 130 _ rfl w1.heap.size rfl _ _ _ _ (z0b t4.out) Tryz.underlying130 rfl (Q0s j8.out) ?_)
          |(refine wpList_load_mid rfl 130 _ rfl w4.heap.size 12 rfl (bls hd.fo) _ (Q4r j1.out (z0a _ _)) Tryz.underlying130 rfl (Q5k j1.fo) ?_)
          |(refine z0e rfl 179 _ _ rfl w4 _ (hdA hd) _ rfl rfl rfl (Q1n j1.out) (Q0k rfl (z08 j1.out)) (z10 _) ?_)
          |(go_at_call 84;refine(jk.out _ (j7.fresh f3.out)).mono ?_;rintro e w4⟨rfl,hf4⟩;have jn:w1.heap.size<w4.heap.size:=(by have h1:=hf4.size;simp at h1;first|omega|(have:=z0j t3.out;omega));have f4:Hid (Q0a wr w4):=Mod.trans f3.out hf4;have p4:=hid (hf4.at p3.out (fun x=>x));have s4:=hid (hf4.at s3.out (fun x=>x));have t4:=hid (hf4.at jt.out (fun x=>x)))
          |(refine wpList_store_row rfl 130 _ _ rfl w1.heap.size _ rfl rfl _ _ t3.out (Q0s j8.out) (Q0k (z0u j3.out) (z0u j8.out)) (z1e _) ?_)
          |(go_at_call 54;refine(z1b _ bg1 hp.fo j3.out j6.fo).mono ?_;rintro e w3⟨rfl,hf3⟩;have t3:=hid (hf3.at (z0b t2.out) (fun x=>x));have f3:Hid (Q0a wr (w3.setRow w1.heap.size (tkA (orL bg1 hp.fo)))):=(Mod.trans (f2.alloc _) hf3).setRow (by intro q;omega) _;have p3:=hid (z0r (g:=w1.heap.size) (cs:=tkA (orL bg1 hp.fo)) (hf3.at (z0b p2.out) (fun x=>x)) (by omega));have s3:=hid (z0r (g:=w1.heap.size) (cs:=tkA (orL bg1 hp.fo)) (hf3.at (z0b s2.out) (fun x=>x)) (by omega));have jt:=hid (setRow_heap _ _ _ (tkA (orL bg1 hp.fo)) _ _ t3.out);have k3:(w3.setRow w1.heap.size (tkA (orL bg1 hp.fo))).cell? ⟨wr.heap.size,1,none⟩=some (.int .i64 sn):=(by rw[Q0b s3.out 1];rfl))
          |(refine wpList_load_mid rfl 130 _ rfl w2.heap.size 12 rfl (bls hp.fo) _ (Q4r j6.out (z0a _ _)) Tryz.underlying130 rfl (Q5k j6.fo) ?_)
          |(refine wpList_load_row rfl 130 _ rfl w1.heap.size rfl _ _ _ _ (z0b t2.out) Tryz.underlying130 rfl (Q0s j3.out) ?_)
          |(refine z0e rfl 179 _ _ rfl w2 _ (hdA hp) _ rfl rfl rfl (Q1n j6.out) (Q0k rfl (z08 j6.out)) (z10 _) ?_)
          |(go_at_call 84;refine(jq.out _ (j7.fresh (f1.alloc _))).mono ?_;rintro e w2⟨rfl,hf2⟩;have jz:w1.heap.size<w2.heap.size:=(by have:=hf2.size;simp at this;omega);have f2:Hid (Q0a wr w2):=Mod.trans (f1.alloc _) hf2;have p2:=hid (hf2.at (z0b p1.out) (fun x=>x));have s2:=hid (hf2.at (z0b s1.out) (fun x=>x));have t2:=hid (hf2.at (z0a w1 _) (fun x=>x)))
          |(refine z0e rfl 130 _ _ rfl w1 _ (tkA bg1) _ rfl rfl rfl (Q0s j3.out) (Q0k rfl (z0u j3.out)) (z1e _) ?_)
          |(go_at_call 53;refine(BA.out _ (ju.out _ _ (by omega) (by first|rfl|omega))).mono ?_;rintro e w1⟨rfl,hf1⟩;have js:wr.heap.size<w1.heap.size:=(by have:=hf1.size;simp at this;omega);have f1:Hid (Q0a wr w1):=Mod.trans ((mRf _ wr).alloc _) hf1;have p1:=hid (hf1.at ji.out (fun x=>x));have s1:=hid (hf1.at (z0a _ _) (fun x=>x));have k1:(w1.alloc (.cells (tkA bg1) 130 (0,0))).cell? ⟨wo.heap.size,0,none⟩=some (.int .i64 ph):=(by rw[Q0b (z0b p1.out) 0];rfl);have jo:(w1.alloc (.cells (tkA bg1) 130 (0,0))).cell? ⟨wr.heap.size,1,none⟩=some (.int .i64 sn):=(by rw[Q0b (z0b s1.out) 1];rfl))
          |(refine wpList_load_mid rfl 69 _ rfl gs (os+j*2) rfl [.bool true,.int .i64 sn] _ RS.out Tryz.underlying69 rfl Q9w ?_))
        all_goals
          rename_i hq;go_roundw
          case rel =>
            first
              | (refine⟨j+1,true,_,rfl,by go_num,by omega,hF6,?_,Mod.trans jb.out (Mod.trans (Mod.mono f5.out (fun _ _ x=>x.elim)) hm6),p6⟩
                 have:=j0.out;rw[hq,Bool.or_true]at this;exact this)
              | (refine⟨j+1,gr1,_,rfl,by go_num,by omega,hF6,?_,Mod.trans jb.out (Mod.trans (Mod.mono f5.out (fun _ _ x=>x.elim)) hm6),p6⟩
                 have:=j0.out;rw[hq,Bool.or_false]at this;exact this)
          exact jg
      have jh:¬scap-(j+1)=0:=by omega
      cases bg2
      · simp only[qF,if_false]at hres1
        have j4:=hid (z04 j1.fo j3.out);have j9:Hid (Hd.ok {hd with fo:=orL hd.fo (bg1)}):=⟨j1.fi,j4⟩;generalize hpb:Q6v hs1 sn {hd with fo:=orL hd.fo (bg1)}=pb at hres1;have je:=hid hpb;have j0:=hid hres1;clear hres1 hpb;go_wp2_with (first
          |(go_at_call 121;refine(PA.out _ {hd with fo:=orL hd.fo (bg1)} j9.out (j7.fresh f5.out)).mono ?_;rintro e w6⟨rfl,hF6,hm6⟩;have p6:=hid (hm6.at p5.out jm.out);rw[je.out])
          |(refine wpList_load_row rfl 179 _ rfl w4.heap.size rfl _ _ _ _ jd.out Tryz.underlying179 rfl (Q1n j9.out) ?_)
          |(refine wpList_store_mid rfl 130 _ _ rfl w4.heap.size 12 (tkA (orL hd.fo (bg1))) rfl rfl (by rw[z0u j4.out];exact z4l j1.out ja.out (by omega)) (Q0s j4.out) (z1e _) ?_)
          |(go_at_call 54;have j2:=hf4.size;clear j2;refine(z1b _ hd.fo (bg1) j1.fo j3.out).mono ?_;rintro e w5⟨rfl,hf5⟩;have ja:=hid (hf5.at (z0a w4 _) (fun x=>x));have f5:Hid (Q0a wr (w5.setCells w4.heap.size 12 (tkA (orL hd.fo (bg1))).toList)):=Mod.setCells (by intro q;omega) _ _ _ (Mod.trans (f4.alloc _) hf5);have p5:Hid ((w5.setCells w4.heap.size 12 (tkA (orL hd.fo (bg1))).toList).heap[wo.heap.size]? = some (.cells #[.int .i64 ph,.slice (some ⟨gs,os,none⟩) psy.length scap] 118 (0,0))):=(by unfold Hid;rw[z1l (by omega)];exact hf5.at (z0b p4.out) (fun x=>x));have k5:(w5.setCells w4.heap.size 12 (tkA (orL hd.fo (bg1))).toList).cell? ⟨wr.heap.size,1,none⟩=some (.int .i64 sn):=(by rw[z0z (by omega),Q0b (hf5.at (z0b s4.out) (fun x=>x)) 1];rfl);have jd:Hid ((w5.setCells w4.heap.size 12 (tkA (orL hd.fo (bg1))).toList).heap[w4.heap.size]? = some (.cells (hdA {hd with fo:=orL hd.fo (bg1)}) 179 (0,0))):=(by unfold Hid;rw[z0p _ _ _ _ _ _ _ ja.out];rw[← z6l j1.out j4.out];rfl))
          |(refine wpList_load_row rfl 130 _ rfl w1.heap.size rfl _ _ _ _ (z0b t4.out) Tryz.underlying130 rfl (Q0s j3.out) ?_)
          |(refine wpList_load_mid rfl 130 _ rfl w4.heap.size 12 rfl (bls hd.fo) _ (Q4r j1.out (z0a _ _)) Tryz.underlying130 rfl (Q5k j1.fo) ?_)
          |(refine z0e rfl 179 _ _ rfl w4 _ (hdA hd) _ rfl rfl rfl (Q1n j1.out) (Q0k rfl (z08 j1.out)) (z10 _) ?_)
          |(go_at_call 84;refine(jk.out _ (j7.fresh (f1.alloc _))).mono ?_;rintro e w4⟨rfl,hf4⟩;have jn:w1.heap.size<w4.heap.size:=(by have h1:=hf4.size;simp at h1;first|omega|(have:=z0j t3.out;omega));have f4:Hid (Q0a wr w4):=Mod.trans (f1.alloc _) hf4;have p4:=hid (hf4.at (z0b p1.out) (fun x=>x));have s4:=hid (hf4.at (z0b s1.out) (fun x=>x));have t4:=hid (hf4.at (z0a w1 _) (fun x=>x)))
          |(refine z0e rfl 130 _ _ rfl w1 _ (tkA bg1) _ rfl rfl rfl (Q0s j3.out) (Q0k rfl (z0u j3.out)) (z1e _) ?_)
          |(go_at_call 53;refine(BA.out _ jp.out).mono ?_;rintro e w1⟨rfl,hf1⟩;have js:wr.heap.size<w1.heap.size:=(by have:=hf1.size;simp at this;omega);have f1:Hid (Q0a wr w1):=Mod.trans ((mRf _ wr).alloc _) hf1;have p1:=hid (hf1.at ji.out (fun x=>x));have s1:=hid (hf1.at (z0a _ _) (fun x=>x));have k1:(w1.alloc (.cells (tkA bg1) 130 (0,0))).cell? ⟨wo.heap.size,0,none⟩=some (.int .i64 ph):=(by rw[Q0b (z0b p1.out) 0];rfl);have jo:(w1.alloc (.cells (tkA bg1) 130 (0,0))).cell? ⟨wr.heap.size,1,none⟩=some (.int .i64 sn):=(by rw[Q0b (z0b s1.out) 1];rfl))
          |(refine wpList_load_mid rfl 69 _ rfl gs (os+j*2) rfl [.bool true,.int .i64 sn] _ RS.out Tryz.underlying69 rfl Q9w ?_))
        all_goals
          rename_i hq;go_roundw
          case rel =>
            first
              | (refine⟨j+1,true,_,rfl,by go_num,by omega,hF6,?_,Mod.trans jb.out (Mod.trans (Mod.mono f5.out (fun _ _ x=>x.elim)) hm6),p6⟩
                 have:=j0.out;rw[hq,Bool.or_true]at this;exact this)
              | (refine⟨j+1,gr1,_,rfl,by go_num,by omega,hF6,?_,Mod.trans jb.out (Mod.trans (Mod.mono f5.out (fun _ _ x=>x.elim)) hm6),p6⟩
                 have:=j0.out;rw[hq,Bool.or_false]at this;exact this)
          exact jg
      simp only[if_true]at hres1;have j8:=hid (z04 j3.out j6.fo);have j4:=hid (z04 j1.fo j8.out);have j9:Hid (Hd.ok {hd with fo:=orL hd.fo (orL bg1 hp.fo)}):=⟨j1.fi,j4⟩;generalize hpb:Q6v hs1 sn {hd with fo:=orL hd.fo (orL bg1 hp.fo)}=pb at hres1;have je:=hid hpb;have j0:=hid hres1;clear hres1 hpb;go_wp2_with (first
        |(go_at_call 121;refine(PA.out _ {hd with fo:=orL hd.fo (orL bg1 hp.fo)} j9.out (j7.fresh f5.out)).mono ?_;rintro e w6⟨rfl,hF6,hm6⟩;have p6:=hid (hm6.at p5.out jm.out);rw[je.out])
        |(refine wpList_load_row rfl 179 _ rfl w4.heap.size rfl _ _ _ _ jd.out Tryz.underlying179 rfl (Q1n j9.out) ?_)
        |(refine wpList_store_mid rfl 130 _ _ rfl w4.heap.size 12 (tkA (orL hd.fo (orL bg1 hp.fo))) rfl rfl (by rw[z0u j4.out];exact z4l j1.out ja.out (by omega)) (Q0s j4.out) (z1e _) ?_)
        |(go_at_call 54;have j2:=hf4.size;clear j2;refine(z1b _ hd.fo (orL bg1 hp.fo) j1.fo j8.out).mono ?_;rintro e w5⟨rfl,hf5⟩;have ja:=hid (hf5.at (z0a w4 _) (fun x=>x));have f5:Hid (Q0a wr (w5.setCells w4.heap.size 12 (tkA (orL hd.fo (orL bg1 hp.fo))).toList)):=Mod.setCells (by intro q;omega) _ _ _ (Mod.trans (f4.alloc _) hf5);have p5:Hid ((w5.setCells w4.heap.size 12 (tkA (orL hd.fo (orL bg1 hp.fo))).toList).heap[wo.heap.size]? = some (.cells #[.int .i64 ph,.slice (some ⟨gs,os,none⟩) psy.length scap] 118 (0,0))):=(by unfold Hid;rw[z1l (by omega)];exact hf5.at (z0b p4.out) (fun x=>x));have k5:(w5.setCells w4.heap.size 12 (tkA (orL hd.fo (orL bg1 hp.fo))).toList).cell? ⟨wr.heap.size,1,none⟩=some (.int .i64 sn):=(by rw[z0z (by omega),Q0b (hf5.at (z0b s4.out) (fun x=>x)) 1];rfl);have jd:Hid ((w5.setCells w4.heap.size 12 (tkA (orL hd.fo (orL bg1 hp.fo))).toList).heap[w4.heap.size]? = some (.cells (hdA {hd with fo:=orL hd.fo (orL bg1 hp.fo)}) 179 (0,0))):=(by unfold Hid;rw[z0p _ _ _ _ _ _ _ ja.out];rw[← z6l j1.out j4.out];rfl))
        |(refine wpList_load_row rfl 130 _ rfl w1.heap.size rfl _ _ _ _ (z0b t4.out) Tryz.underlying130 rfl (Q0s j8.out) ?_)
        |(refine wpList_load_mid rfl 130 _ rfl w4.heap.size 12 rfl (bls hd.fo) _ (Q4r j1.out (z0a _ _)) Tryz.underlying130 rfl (Q5k j1.fo) ?_)
        |(refine z0e rfl 179 _ _ rfl w4 _ (hdA hd) _ rfl rfl rfl (Q1n j1.out) (Q0k rfl (z08 j1.out)) (z10 _) ?_)
        |(go_at_call 84;refine(jk.out _ (j7.fresh f3.out)).mono ?_;rintro e w4⟨rfl,hf4⟩;have jn:w1.heap.size<w4.heap.size:=(by have h1:=hf4.size;simp at h1;first|omega|(have:=z0j t3.out;omega));have f4:Hid (Q0a wr w4):=Mod.trans f3.out hf4;have p4:=hid (hf4.at p3.out (fun x=>x));have s4:=hid (hf4.at s3.out (fun x=>x));have t4:=hid (hf4.at jt.out (fun x=>x)))
        |(refine wpList_store_row rfl 130 _ _ rfl w1.heap.size _ rfl rfl _ _ t3.out (Q0s j8.out) (Q0k (z0u j3.out) (z0u j8.out)) (z1e _) ?_)
        |(go_at_call 54;refine(z1b _ bg1 hp.fo j3.out j6.fo).mono ?_;rintro e w3⟨rfl,hf3⟩;have t3:=hid (hf3.at (z0b t2.out) (fun x=>x));have f3:Hid (Q0a wr (w3.setRow w1.heap.size (tkA (orL bg1 hp.fo)))):=(Mod.trans (f2.alloc _) hf3).setRow (by intro q;omega) _;have p3:=hid (z0r (g:=w1.heap.size) (cs:=tkA (orL bg1 hp.fo)) (hf3.at (z0b p2.out) (fun x=>x)) (by omega));have s3:=hid (z0r (g:=w1.heap.size) (cs:=tkA (orL bg1 hp.fo)) (hf3.at (z0b s2.out) (fun x=>x)) (by omega));have jt:=hid (setRow_heap _ _ _ (tkA (orL bg1 hp.fo)) _ _ t3.out);have k3:(w3.setRow w1.heap.size (tkA (orL bg1 hp.fo))).cell? ⟨wr.heap.size,1,none⟩=some (.int .i64 sn):=(by rw[Q0b s3.out 1];rfl))
        |(refine wpList_load_mid rfl 130 _ rfl w2.heap.size 12 rfl (bls hp.fo) _ (Q4r j6.out (z0a _ _)) Tryz.underlying130 rfl (Q5k j6.fo) ?_)
        |(refine wpList_load_row rfl 130 _ rfl w1.heap.size rfl _ _ _ _ (z0b t2.out) Tryz.underlying130 rfl (Q0s j3.out) ?_)
        |(refine z0e rfl 179 _ _ rfl w2 _ (hdA hp) _ rfl rfl rfl (Q1n j6.out) (Q0k rfl (z08 j6.out)) (z10 _) ?_)
        |(go_at_call 84;refine(jq.out _ (j7.fresh (f1.alloc _))).mono ?_;rintro e w2⟨rfl,hf2⟩;have jz:w1.heap.size<w2.heap.size:=(by have:=hf2.size;simp at this;omega);have f2:Hid (Q0a wr w2):=Mod.trans (f1.alloc _) hf2;have p2:=hid (hf2.at (z0b p1.out) (fun x=>x));have s2:=hid (hf2.at (z0b s1.out) (fun x=>x));have t2:=hid (hf2.at (z0a w1 _) (fun x=>x)))
        |(refine z0e rfl 130 _ _ rfl w1 _ (tkA bg1) _ rfl rfl rfl (Q0s j3.out) (Q0k rfl (z0u j3.out)) (z1e _) ?_)
        |(go_at_call 53;refine(BA.out _ jp.out).mono ?_;rintro e w1⟨rfl,hf1⟩;have js:wr.heap.size<w1.heap.size:=(by have:=hf1.size;simp at this;omega);have f1:Hid (Q0a wr w1):=Mod.trans ((mRf _ wr).alloc _) hf1;have p1:=hid (hf1.at ji.out (fun x=>x));have s1:=hid (hf1.at (z0a _ _) (fun x=>x));have k1:(w1.alloc (.cells (tkA bg1) 130 (0,0))).cell? ⟨wo.heap.size,0,none⟩=some (.int .i64 ph):=(by rw[Q0b (z0b p1.out) 0];rfl);have jo:(w1.alloc (.cells (tkA bg1) 130 (0,0))).cell? ⟨wr.heap.size,1,none⟩=some (.int .i64 sn):=(by rw[Q0b (z0b s1.out) 1];rfl))
        |(refine wpList_load_mid rfl 69 _ rfl gs (os+j*2) rfl [.bool true,.int .i64 sn] _ RS.out Tryz.underlying69 rfl Q9w ?_))
      all_goals
        rename_i hq;go_roundw
        case rel =>
          first
            | (refine⟨j+1,true,_,rfl,by go_num,by omega,hF6,?_,Mod.trans jb.out (Mod.trans (Mod.mono f5.out (fun _ _ x=>x.elim)) hm6),p6⟩
               have:=j0.out;rw[hq,Bool.or_true]at this;exact this)
            | (refine⟨j+1,gr1,_,rfl,by go_num,by omega,hF6,?_,Mod.trans jb.out (Mod.trans (Mod.mono f5.out (fun _ _ x=>x.elim)) hm6),p6⟩
               have:=j0.out;rw[hq,Bool.or_false]at this;exact this)
        exact jg
    have jw:j=psy.length:=by omega
    rw[jw,List.drop_length]at hres1;have j5:(hs1,gr1)=RR:=hres1;have j0:=hid j5;have kb:¬(j:Int)<(psy.length:Int):=by omega
    clear hres1 j5 hF1;go_wp2;go_roundw
    case rel =>
      refine⟨i+1,gr1,hs1,rfl,by go_num,by omega,j7,?_,jb⟩;have:=jc.out;rw[← j0.out]at this;exact this
    exact k0
  have jx:i=ps.length:=by omega
  rw[jx,List.drop_length]at hres;have j5:(hs',gr)=RES:=hres;have jc:=hid j5;have kc:¬(i:Int)<(ps.length:Int):=by omega
  clear hres hF;go_wp2;go_ret;exact⟨z0s (by rw[← jc.out]),by rw[← jc.out];exact HF.out,jj⟩
end Go.Proofs.YtcpceafmlgaodaaGreat
