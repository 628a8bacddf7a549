import Derived.Test.YtcpceafmlgaodaaGreatSe6
namespace Go.Proofs.YtcpceafmlgaodaaGreat
open Go.RowKit
set_option maxRecDepth 99999
set_option maxHeartbeats 0
set_option linter.all false
def Q8b(hs:List Hd)(ph:Int)(l:List Sy):List Bool:=if(Q2m hs l zero9).2 then orL (Q2m hs l zero9).1 (Q1i hs ph).fo else(Q2m hs l zero9).1
def Q5i(hs:List Hd)(ph sn:Int)(l:List Sy):Hd:={Q1i hs sn with fo:=orL (Q1i hs sn).fo (Q8b hs ph l)}
def Q2v(ph:Int):List Sy->List Hd->Bool->List Hd × Bool
  | [],hs,g=>(hs,g)
  | s :: l,hs,g=>if s.isH=false then Q2v ph l hs g else
      Q2v ph l (Q7m hs s.num (Q5i hs ph s.num l)) (g||Q6v hs s.num (Q5i hs ph s.num l))
def Q5b:List Pr->List Hd->Bool->List Hd × Bool
  | [],hs,g=>(hs,g)
  |p::l,hs,g=>Q5b l (Q2v p.head p.syms hs g).1 (Q2v p.head p.syms hs g).2
theorem Q5z.drop{w:World}{B gs os cap:Nat}{l:List Sy}(h:Q5z w B (.slice (some ⟨gs,os,none⟩) l.length cap) l)(k:Nat)(hk:k<=l.length) :
    Q5z w B (.slice (some ⟨gs,os+k*2,none⟩) (l.length-k) (cap-k)) (l.drop k):=by
  obtain⟨ao,c,h1,h2,h3,h4⟩:=h;rw[qI]at h1;obtain⟨rfl,_,rfl⟩:=h1;refine⟨some ⟨gs,os+k*2,none⟩,cap-k,by simp,by simp;omega,by omega,fun i hi=>?_⟩;simp only[qBx]at hi;obtain⟨g,o,e1,e2,e3⟩:=h4 (k+i) (by omega);simp only[qO,Addr.mk.injEq]at e1;obtain⟨rfl,rfl,_⟩:=e1;refine⟨gs,os+k*2,rfl,e2,?_⟩;have e:os+(k+i)*2=os+k*2+i*2:=by omega
  rw[e]at e3;simpa using e3
theorem Q5z.none{w:World}{B:Nat}{ao:Option Addr}{l:List Sy}(hl:l=[]){n:Nat}(hn:n=0):Q5z w B (.slice ao n 0) l:=by
  subst hl;subst hn;exact⟨ao,0,rfl,by simp,by unfold maxLen;omega,fun i hi=>by simp at hi⟩
theorem z1n{w:World}{g o:Nat}{vs:List Value}{b:Nat}(hb:b≠g):(w.setCells g o vs).heap[b]? = w.heap[b]? := by
  induction vs generalizing w o with
  |nil=>rfl
  |cons v vs ih=>rw[World.setCells,ih];exact heap_setCell_other v (by simpa using hb)
theorem z3d{hs:List Hd}(h:∀x∈hs,x.ok)(ph:Int)(l:List Sy):(Q8b hs ph l).length=9:=by
  unfold Q8b;have:=z09 h l zero9 rfl;split
  · exact z04 this (z0k h _).fo
  exact this
def leB:List Bool->List Bool->Prop
  | [],[]=>True
  |x::xs,y::ys=>(x=true->y=true)/\leB xs ys
  |_,_=>False
theorem z17:∀l:List Bool,leB l l
  | []=>trivial
  |x::l=>⟨fun h=>h,z17 l⟩
theorem z43:∀{a b c:List Bool},leB a b->leB b c->leB a c
  | [],[],[],_,_=>trivial
  |x::xs,y::ys,z::zs,h,k=>⟨fun e=>k.1 (h.1 e),z43 h.2 k.2⟩
theorem y15:∀{a b:List Bool},leB a b->a.length=b.length
  | [],[],_=>rfl
  |_::xs,_::ys,h=>by simp[y15 h.2]
theorem y0y:∀{a b c d:List Bool},leB a b->leB c d->leB (a++c) (b++d)
  | [],[],_,_,_,k=>k
  |_::xs,_::ys,_,_,h,k=>⟨h.1,y0y h.2 k⟩
def Q9b(l:List Bool):Nat:=(l.filter fun b=>!b).length
theorem y1u:∀{a b:List Bool},leB a b->Q9b b<=Q9b a/\(a≠b->Q9b b<Q9b a)
  | [],[],_=>⟨qR _,fun h=>absurd rfl h⟩
  |x::xs,y::ys,h=>by
    have ih:=y1u h.2;cases x<;>cases y
    · simp only[Q9b,qAj,Bool.not_false,qBb,qAy,ne_eq,qAu,true_and]at *
      exact⟨by omega,fun e=>by have:=ih.2 e;omega⟩
    · simp only[Q9b,qAj,Bool.not_false,Bool.not_true,qF,qBb,qAp,qAy]at *
      exact⟨by omega,fun _=>by omega⟩
    · have:=h.1 rfl;cases this
    simp only[Q9b,qAj,Bool.not_true,qF,qAp,ne_eq,qAu,true_and]at *;exact ih
theorem z89:∀{a b:List Bool},a.length=b.length->leB a (orL a b)
  | [],[],_=>trivial
  |x::xs,y::ys,h=>⟨fun e=>by simp[e],z89 (by simpa using h)⟩
theorem z4v:∀{a b:List Bool},leB a b->∀i,a.getD i false=true->b.getD i false=true
  | [],[],_,i,h=>by simp at h
  |x::xs,y::ys,h,0,e=>h.1 e
  |x::xs,y::ys,h,i+1,e=>by simpa using z4v h.2 i (by simpa using e)
theorem y8c:∀{a b:List Bool},a.length=b.length->(∀i,a.getD i false=true->b.getD i false=true)->leB a b
  | [],[],_,_=>trivial
  |x::xs,y::ys,h,k=>⟨fun e=>k 0 e,y8c (by simpa using h) (fun i e=>by simpa using k (i+1) (by simpa using e))⟩
theorem z3m:∀{a b:List Bool},a.length=b.length->∀i,(orL a b).getD i false=(a.getD i false||b.getD i false)
  | [],[],_,i=>by simp[orL]
  |x::xs,y::ys,h,0=>rfl
  |x::xs,y::ys,h,i+1=>by simpa [orL]using z3m (a:=xs) (b:=ys) (by simpa using h) i
def Hd.bits(h:Hd):List Bool:=h.nul::h.rch::h.fru::(h.fi++h.fo)
def Hd.le(a b:Hd):Prop:=leB a.bits b.bits
theorem Hd.le_refl(a:Hd):a.le a:=z17 _
theorem Hd.le_trans{a b c:Hd}(h:a.le b)(k:b.le c):a.le c:=z43 h k
theorem x5s{a b:Hd}(ha:a.ok)(hb:b.ok)(h:a.bits=b.bits):a=b:=by
  obtain⟨n,r,f,fi,fo⟩:=a;obtain⟨n',r',f',fi',fo'⟩:=b;simp only[Hd.bits,qAu]at h;obtain⟨rfl,rfl,rfl,h⟩:=h;have:=List.append_inj h (by rw[ha.fi,hb.fi]);obtain⟨rfl,rfl⟩:=this;rfl
def Hd.cnt(h:Hd):Nat:=Q9b h.bits
def Q66:List Hd->Nat
  | []=>0
  |h::l=>h.cnt+Q66 l
theorem y7t:∀(hs:List Hd) (k:Nat) (x:Hd) (hk:k<hs.length),Q66 (hs.set k x)+hs[k].cnt=Q66 hs+x.cnt
  |h::l,0,x,_=>by simp only[qEn,Q66,List.getElem_cons_zero];omega
  |h::l,k+1,x,hk=>by
    have:=y7t l k x (by simpa using hk);simp only[List.set_cons_succ,Q66,List.getElem_cons_succ];omega
theorem v0i{hs:List Hd}(hok:∀x∈hs,x.ok){n:Int}{x:Hd}(hx:x.ok)(hle:(Q1i hs n).le x) :
    Q66 (Q7m hs n x)<=Q66 hs/\(Q6v hs n x=true->Q66 (Q7m hs n x)<Q66 hs)/\(Q6v hs n x=false->Q7m hs n x=hs):=by
  unfold Q7m Q6v Q1i at *;by_cases h0:0<=n
  · rw[qAb h0]at hle ⊢
    rw[qAb h0];by_cases hk:n.toNat<hs.length
    · rw[qE hk]at hle ⊢
      simp only[qDa]at hle;have hc:=y7t hs n.toNat x hk;have hl:=y1u hle;have h1:(hs[n.toNat]).cnt=Q9b hs[n.toNat].bits:=rfl;have h2:x.cnt=Q9b x.bits:=rfl;refine⟨by omega,?_,?_⟩
      · intro hp
        have j0:hs[n.toNat].bits≠x.bits:=by
          intro e;have:=x5s (hok _ (by simp)) hx e;have h3:hdEq hs[n.toNat] x=true:=z72.2 this;simp[h3]at hp
        have:=hl.2 j0;omega
      intro hp;have:hdEq hs[n.toNat] x=true:=by simpa using hp
      rw[← z72.1 this,List.set_getElem_self]
    rw[qN (by omega),qEj (by omega)];exact⟨qR _,fun h=>(by cases h),fun _=>rfl⟩
  rw[qAa h0,qAa h0];exact⟨qR _,fun h=>(by cases h),fun _=>rfl⟩
structure Q2p(hs:List Hd)(r:List Hd × Bool)(g:Bool):Prop where
  ok:∀x∈r.1,x.ok
  len:r.1.length=hs.length
  cnt:Q66 r.1<=Q66 hs
  more:r.2=true->g=true∨Q66 r.1<Q66 hs
  same:r.2=false->g=false/\r.1=hs
theorem Q2p.refl{hs:List Hd}(h:∀x∈hs,x.ok)(g:Bool):Q2p hs (hs,g) g:=⟨h,rfl,qR _,fun e=>.inl e,fun e=>⟨e,rfl⟩⟩
theorem Q2p.put{hs:List Hd}(hok:∀x∈hs,x.ok){n:Int}{x:Hd}(hx:x.ok)(hle:(Q1i hs n).le x)(g:Bool):Q2p hs (Q7m hs n x,g||Q6v hs n x) g:=by
  obtain⟨h1,h2,h3⟩:=v0i hok hx hle;refine⟨y6x hok n hx,x65 _ _ _,h1,?_,?_⟩
  · intro e
    cases g
    · right;exact h2 (by simpa using e)
    left;rfl
  intro e;dsimp only at e;simp only[qBm]at e;exact⟨e.1,h3 e.2⟩
theorem Q2p.trans{hs:List Hd}{a b:List Hd × Bool}{g:Bool}(h:Q2p hs a g)(k:Q2p a.1 b a.2):Q2p hs b g:=by
  refine⟨k.ok,k.len.trans h.len,qCd k.cnt h.cnt,?_,?_⟩
  · intro e
    have c1:=h.cnt;have c2:=k.cnt;rcases k.more e with h1|h1
    · rcases h.more h1 with h2|h2
      · exact .inl h2
      right;omega
    right;omega
  intro e;obtain⟨e1,e2⟩:=k.same e;obtain⟨e3,e4⟩:=h.same e1;exact⟨e3,by rw[e2,e4]⟩
theorem y1t{h k:Hd}(h1:h.nul=true->k.nul=true)(h2:h.rch=true->k.rch=true)(h3:h.fru=true->k.fru=true)(h4:leB h.fi k.fi)(h5:leB h.fo k.fo):h.le k :=
  ⟨h1,h2,h3,y0y h4 h5⟩
theorem v1k{h:Hd}(hk:h.ok)(e:Bool){r:List Bool}(hr:r.length=9):h.le {h with nul:=h.nul||e,fi:=orL h.fi r} :=
  y1t (fun x=>by simp[x]) (fun x=>x) (fun x=>x) (z89 (by rw[hk.fi,hr])) (z17 _)
theorem x9u{h:Hd}(hk:h.ok){r:List Bool}(hr:r.length=9):h.le {h with fo:=orL h.fo r} :=
  y1t (fun x=>x) (fun x=>x) (fun x=>x) (z17 _) (z89 (by rw[hk.fo,hr]))
theorem x26(h:Hd):h.le {h with rch:=true}:=y1t (fun x=>x) (fun _=>rfl) (fun x=>x) (z17 _) (z17 _)
theorem x8g(h:Hd)(e:Bool):h.le {h with fru:=h.fru||e}:=y1t (fun x=>x) (fun x=>x) (fun x=>by simp[x]) (z17 _) (z17 _)
theorem z3r{hs:List Hd}(hok:∀x∈hs,x.ok)(p:Pr)(g:Bool):Q2p hs ((Q3e hs p).1,g||(Q3e hs p).2) g:=by
  unfold Q3e;refine Q2p.put hok ?_ ?_ g
  · exact⟨z04 (z0k hok _).fi (z09 hok _ _ rfl),(z0k hok _).fo⟩
  exact v1k (z0k hok _) _ (z09 hok _ _ rfl)
theorem z4x:∀(l:List Pr) {hs:List Hd}(_:∀x∈hs,x.ok) (g:Bool),Q2p hs (Q5a l hs g) g
  | [],_,hok,g=>Q2p.refl hok g
  |p::l,hs,hok,g=>by
    have h1:=z3r hok p g;exact h1.trans (z4x l h1.ok _)
theorem z4y{hs:List Hd}(hok:∀x∈hs,x.ok)(p:Pr)(g:Bool):Q2p hs ((Q4n hs p).1,g||(Q4n hs p).2) g:=by
  unfold Q4n;refine Q2p.put hok ?_ ?_ g
  · exact⟨(z0k hok p.head).fi,(z0k hok p.head).fo⟩
  exact x8g _ _
theorem z4z:∀(l:List Pr) {hs:List Hd}(_:∀x∈hs,x.ok) (g:Bool),Q2p hs (Q41 l hs g) g
  | [],_,hok,g=>Q2p.refl hok g
  |p::l,hs,hok,g=>by
    have h1:=z4y hok p g;exact h1.trans (z4z l h1.ok _)
theorem z25:∀(l:List Sy) {hs:List Hd}(_:∀x∈hs,x.ok) (g:Bool),Q2p hs (Q3f l hs g) g
  | [],_,hok,g=>Q2p.refl hok g
  |s::l,hs,hok,g=>by
    unfold Q3f;split
    · exact z25 l hok g
    have h1:Q2p hs (Q7m hs s.num {Q1i hs s.num with rch:=true},g||Q6v hs s.num {Q1i hs s.num with rch:=true}) g:=by
      refine Q2p.put hok ?_ ?_ g
      · exact⟨(z0k hok s.num).fi,(z0k hok s.num).fo⟩
      exact x26 _
    exact h1.trans (z25 l h1.ok _)
theorem z3s:∀(l:List Pr) {hs:List Hd}(_:∀x∈hs,x.ok) (g:Bool),Q2p hs (Q3j l hs g) g
  | [],_,hok,g=>Q2p.refl hok g
  |p::l,hs,hok,g=>by
    unfold Q3j;split
    · exact z3s l hok g
    have h1:=z25 p.syms hok g;exact h1.trans (z3s l h1.ok _)
theorem z26(ph:Int):∀(l:List Sy) {hs:List Hd}(_:∀x∈hs,x.ok) (g:Bool),Q2p hs (Q2v ph l hs g) g
  | [],_,hok,g=>Q2p.refl hok g
  |s::l,hs,hok,g=>by
    unfold Q2v;split
    · exact z26 ph l hok g
    have h1:Q2p hs (Q7m hs s.num (Q5i hs ph s.num l),g||Q6v hs s.num (Q5i hs ph s.num l)) g:=by
      refine Q2p.put hok ?_ ?_ g
      · exact⟨(z0k hok s.num).fi,z04 (z0k hok s.num).fo (z3d hok _ _)⟩
      exact x9u (z0k hok _) (z3d hok _ _)
    exact h1.trans (z26 ph l h1.ok _)
theorem z41:∀(l:List Pr) {hs:List Hd}(_:∀x∈hs,x.ok) (g:Bool),Q2p hs (Q5b l hs g) g
  | [],_,hok,g=>Q2p.refl hok g
  |p::l,hs,hok,g=>by
    have h1:=z26 p.head p.syms hok g;exact h1.trans (z41 l h1.ok _)
def Q71(step:List Hd->List Hd × Bool):Nat->List Hd->List Hd
  |0,hs=>hs
  |f+1,hs=>if(step hs).2 then Q71 step f (step hs).1 else(step hs).1
def Q40(step:List Hd->List Hd × Bool)(hs:List Hd):List Hd:=Q71 step (Q66 hs+1) hs
def Q75(ps:List Pr)(hs:List Hd):List Hd × Bool:=Q5a ps hs false
def Q5f(ps:List Pr)(hs:List Hd):List Hd × Bool:=Q5b ps hs false
def Q6t(ps:List Pr)(hs:List Hd):List Hd × Bool:=Q3j ps hs false
def Q7q(ps:List Pr)(hs:List Hd):List Hd × Bool:=Q41 ps hs false
def Q3w(ps:List Pr)(hs:List Hd):List Hd:=Q40 (Q7q ps) (Q40 (Q6t ps) (Q40 (Q5f ps) (Q40 (Q75 ps) hs)))
def Q4w(step:List Hd->List Hd × Bool):Prop:=∀hs:List Hd,(∀x∈hs,x.ok)->Q2p hs (step hs) false
theorem z2v(ps:List Pr):Q4w (Q75 ps):=fun _ h=>z4x ps h false
theorem z2b(ps:List Pr):Q4w (Q5f ps):=fun _ h=>z41 ps h false
theorem z2a(ps:List Pr):Q4w (Q6t ps):=fun _ h=>z3s ps h false
theorem z2c(ps:List Pr):Q4w (Q7q ps):=fun _ h=>z4z ps h false
theorem y37{step:List Hd->List Hd × Bool}(hg:Q4w step){I:List Hd->Prop}(hI:∀hs,(∀x∈hs,x.ok)->I hs->I (step hs).1) :
    ∀(f:Nat) (hs:List Hd),(∀x∈hs,x.ok)->Q66 hs<f->I hs->I (Q71 step f hs)/\(∀x∈Q71 step f hs,x.ok)/\(Q71 step f hs).length=hs.length/\step (Q71 step f hs)=(Q71 step f hs,false)
  |0,hs,_,hc,_=>by omega
  |f+1,hs,hok,hc,hi=>by
    have h1:=hg hs hok;unfold Q71;cases hq:(step hs).2
    · simp only[qF,qAp]
      have e:=(h1.same hq).2;have e2:step hs=(hs,false):=Prod.ext e hq;rw[e];exact⟨hi,hok,rfl,e2⟩
    simp only[qBb];have hl:Q66 (step hs).1<Q66 hs:=by
      rcases h1.more hq with h2|h2
      · cases h2
      exact h2
    have:=y37 hg hI f (step hs).1 h1.ok (by omega) (hI hs hok hi);exact⟨this.1,this.2.1,by rw[this.2.2.1,h1.len],this.2.2.2⟩
theorem z1m{step:List Hd->List Hd × Bool}(hg:Q4w step){I:List Hd->Prop}(hI:∀hs,(∀x∈hs,x.ok)->I hs->I (step hs).1){hs:List Hd}(hok:∀x∈hs,x.ok)(h:I hs) :
    I (Q40 step hs)/\(∀x∈Q40 step hs,x.ok)/\(Q40 step hs).length=hs.length/\step (Q40 step hs)=(Q40 step hs,false) :=
  y37 hg hI _ hs hok (by omega) h
def isFv(v:Value):Bool:=match v with
  | .bool false=>true
  |_=>false
def muW(vh:Value)(N:Nat)(w:World):Nat:=match vh with
  | .slice (some a) _ _=>(match w.heap[a.block]? with
    |some (.cells c _ _)=>((c.toList.take (N*21)).filter isFv).length
    |_=>0)
  |_=>0
def Q7z(v:Value):Nat:=match v with
  | .bool true=>1
  |_=>0
theorem z8u:∀l:List Bool,((l.map Value.bool).filter isFv).length=Q9b l
  | []=>rfl
  |x::l=>by
    have:=z8u l;cases x<;>simp_all[Q9b,isFv,qAj]
theorem z8v:∀hs:List Hd,((Q00 Hd.cells hs).filter isFv).length=Q66 hs
  | []=>rfl
  |h::l=>by
    have ih:=z8v l;have e:h.cells=h.bits.map Value.bool:=by simp[Hd.cells,Hd.bits,bls]
    have h1:=z8u h.bits;unfold Q00 at ih ⊢;rw[qDo,qBu,qP,ih,e,h1];rfl
theorem FA.mu{w:World}{b:Nat}{R H:Int}{vp vh:Value}{ps:List PV}{hs:List Hd}(h:FA w b R H vp vh ps hs):muW vh hs.length w=Q66 hs:=by
  obtain⟨h1,h2⟩:=h.own;rcases h2 with⟨rfl,h3⟩|⟨g,cap,cur,rfl,_,hb,_,_,_,ht⟩
  · have:hs=[]:=qBs h3
    subst this;rfl
  unfold muW;simp only[hb];rw[ht,z8v]
theorem FA.mu'{w:World}{b:Nat}{R H:Int}{vp vh:Value}{ps:List PV}{hs:List Hd}(h:FA w b R H vp vh ps hs){N:Nat}(hN:hs.length=N):muW vh N w=Q66 hs:=by
  rw[← hN];exact h.mu
def Q3k(step:List Hd->List Hd × Bool)(R1:List Hd)(g:Bool)(hs':List Hd):Prop:=if g then ∃f,Q71 step f hs'=R1/\Q66 hs'<f else hs'=R1
theorem Q3k.start(step:List Hd->List Hd × Bool)(hs:List Hd):Q3k step (Q40 step hs) true hs:=⟨Q66 hs+1,rfl,by omega⟩
theorem Q3k.next{step:List Hd->List Hd × Bool}(hg:Q4w step){R1 hs':List Hd}(hok:∀x∈hs',x.ok)(h:Q3k step R1 true hs'):Q3k step R1 (step hs').2 (step hs').1:=by
  obtain⟨f,h1,h2⟩:=h;obtain⟨f,rfl⟩:∃k,f=k+1:=⟨f-1,by omega⟩;unfold Q71 at h1;unfold Q3k;have h3:=hg hs' hok;cases hq:(step hs').2
  · rw[hq]at h1
    simpa using h1
  rw[hq]at h1;simp only[qBb]at h1 ⊢;refine⟨f,h1,?_⟩;rcases h3.more hq with h4|h4
  · cases h4
  omega
theorem Q3k.less{step:List Hd->List Hd × Bool}(hg:Q4w step){hs':List Hd}(hok:∀x∈hs',x.ok):2*Q66 (step hs').1+Q7z (.bool (step hs').2)<2*Q66 hs'+Q7z (.bool true):=by
  have h3:=hg hs' hok;have h4:=h3.cnt;cases hq:(step hs').2
  · simp[Q7z];omega
  have:Q66 (step hs').1<Q66 hs':=by
    rcases h3.more hq with h|h
    · cases h
    exact h
  simp[Q7z];omega
theorem x2l(w:World)(b:Nat)(R H:Int)(vp vh:Value)(ps:List PV)(hs:List Hd)(h:FA w b R H vp vh ps hs)(hps:ps.length<=1000) :
    Calls Tryz.prog 111 #[Q25 b] w fun e w'=>e=.returned (.bool (Q5b (Q0j ps) hs false).2)/\FA w' b R H vp vh ps (Q5b (Q0j ps) hs false).1/\Mod (Q18 vh) w w':=by
  have jw:=hid h;obtain⟨ao,cap,hv⟩:=z0d h.prs.row.own;subst hv;have k2:=h.cell 2;simp at k2;generalize hR:Q5b (Q0j ps) hs false=RES;have HR:=hid hR;clear hR h;go_enter Tryz.func111,Tryz.ntmps111
  go_wp2;go_loopw [3,5,6,7,8,9,10,11,18,25] (fun x3 _ _ _ _ _ _ _ x16 _ wr=>∃(i:Nat) (gr:Bool) (hs':List Hd),x3=.bool gr/\x16=.int .i64 i/\i<=ps.length/\FA wr b R H (.slice ao ps.length cap) vh ps hs'/\Q5b (Q0j (ps.drop i)) hs' gr=RES/\Mod (Q18 vh) w wr)
      (fun _ _ _ _ _ _ _ _ x _ _=>ps.length+1-(intOf x).toNat)
  case atStart=>exact⟨0,false,hs,rfl,rfl,by omega,jw.out,HR.out,mRf _ w⟩
  obtain⟨i,gr,hs',rfl,rfl,hi,hF,hres,hmod⟩:=hrel;obtain⟨wo,hwo⟩:∃wo,wo=wr:=⟨_,rfl⟩;subst hwo;have jx:=hid (Q15 (B:=ps.length+1) i (by omega));have ji:=hid hmod;have HF:=hid hF;clear hmod;by_cases hlt:i<ps.length
  · have k9:(i:Int)<(ps.length:Int):=by omega
    rw[qC hlt]at hres;obtain⟨gp,cap',hv'⟩:=Joins.ownsRow_form hF.prs.row.own (by omega);rw[qI]at hv';obtain⟨rfl,_,rfl⟩:=hv';have RG:Hid (wo.rangeAt gp (i*2) [.int .i64 ps[i].pr.head,ps[i].vs]):=hF.prs.row.range i hlt;have k8:=hF.size;have jl:=hid (hF.fresh ((mRf _ wo).alloc (.cells #[.int .i64 ps[i].pr.head,ps[i].vs] 118 (0,0))));have jf:Hid (∀(w1:World) (hs1:List Hd),FA w1 b R H (.slice (some ⟨gp,0,none⟩) ps.length cap) vh ps hs1->Q5z w1 b ps[i].vs ps[i].pr.syms):=fun w1 hs1 h=>h.prs.syms ps[i] (by simp);unfold Q0j at hres;rw[qCl]at hres;unfold Q5b at hres;generalize ps[i].pr=pr at hres RG jf jl;generalize ps[i].vs=pvs at RG jf jl;obtain⟨ph,psy⟩:=pr;dsimp only at hres RG jf jl;obtain⟨sao,scap,hsv,hsc1,jk,_⟩:=jf.out _ _ hF;subst hsv;unfold maxLen at jk;clear hF;generalize hRR:Q2v ph psy hs' gr=RR at hres;have jy:=hid hRR;have jc:=hid hres;clear hres hRR;go_wp2_with (first
      |(refine wpList_load_mid rfl 118 _ rfl gp (i*2) rfl [.int .i64 ph,.slice sao psy.length scap] _ RG.out Tryz.underlying118 rfl Q98 ?_))
    go_loopw [3,6,7,8,9,10,11,25] (fun x3 _ _ _ _ _ _ x30 wr=>∃(j:Nat) (gr1:Bool) (hs1:List Hd),x3=.bool gr1/\x30=.int .i64 j/\j<=psy.length/\FA wr b R H (.slice (some ⟨gp,0,none⟩) ps.length cap) vh ps hs1/\Q2v ph (psy.drop j) hs1 gr1=RR/\Mod (Q18 vh) w wr/\wr.heap[wo.heap.size]? = some (.cells #[.int .i64 ph,.slice sao psy.length scap] 118 (0,0)))
      (fun _ _ _ _ _ _ _ x _=>psy.length+1-(intOf x).toNat)
    case atStart=>exact⟨0,gr,hs',rfl,rfl,by omega,jl.out,jy.out,Mod.trans ji.out ((mRf _ wo).alloc _),z0a _ _⟩
    obtain⟨j,gr1,hs1,rfl,rfl,hj,hF1,hres1,hmod1,hpb0⟩:=hrel;have jo:=hid hpb0;have kd:=z0j hpb0;clear hpb0;have jh:=hid (Q15 (B:=psy.length+1) j (by omega));have jb:=hid hmod1;have j7:=hid hF1;clear hmod1;by_cases hlj:j<psy.length
    · have kb:(j:Int)<(psy.length:Int):=by omega
      rw[qC hlj]at hres1;obtain⟨ao2,cap2,hv2,hd1,hd2,hcells⟩:=jf.out _ _ hF1;rw[qI]at hv2;obtain⟨rfl,_,rfl⟩:=hv2;obtain⟨gs,os,rfl,hgs,hrs⟩:=hcells j hlj;have RS:Hid (wr.rangeAt gs (os+j*2) [.bool psy[j].isH,.int .i64 psy[j].num]):=hrs;unfold Q2v at hres1;generalize psy[j].isH=sh at hres1 RS;generalize psy[j].num=sn at hres1 RS;have k7:=hF1.size;clear hcells hrs;cases sh
      · rw[qAb rfl]at hres1
        have j0:=hid hres1;clear hres1 hF1;go_wp2_with (first
          |(refine wpList_load_mid rfl 69 _ rfl gs (os+j*2) rfl [.bool false,.int .i64 sn] _ RS.out Tryz.underlying69 rfl Q93 ?_))
        go_roundw
        case rel=>exact⟨j+1,gr1,hs1,rfl,by go_num,by omega,j7.fresh ((mRf _ wr).alloc _),j0.out,Mod.trans jb.out ((mRf _ wr).alloc _),z0b jo.out⟩
        exact jh.out
      rw[qAa (by simp)]at hres1;have jj:=hid (z0b (o:=.cells #[.bool true,.int .i64 sn] 69 (0,0)) jo.out);have c1:(wr.alloc (.cells #[.bool true,.int .i64 sn] 69 (0,0))).cell? ⟨wo.heap.size,1,none⟩=some (.slice (some ⟨gs,os,none⟩) psy.length scap):=by rw[Q0b jj.out 1];rfl
      have k6:wr.cell? ⟨wo.heap.size,1,none⟩=some (.slice (some ⟨gs,os,none⟩) psy.length scap):=by rw[Q0b jo.out 1];rfl
      have ju:=hid (hF1.fresh ((mRf _ wr).alloc (.cells #[.bool true,.int .i64 sn] 69 (0,0))));have jp:=hid ((jf.out _ _ ju.out).drop (j+1) (by omega));have jv:Hid (∀(W:World) (n:Nat),psy.length<=j+1->n=0->Q5z W b (.slice (some ⟨gs,os,none⟩) n 0) (psy.drop (j+1))):=fun W n h hn=>Q5z.none (by apply qAi;omega) hn;have jm:Hid (¬vh.ownBlock=some wo.heap.size):=fun e=>by have:=(HF.own.lt _ e).2;omega
      have BA:=hid (fun v hv=>z52 _ b R H _ vh ps hs1 b v (psy.drop (j+1)) ju.out (by simp;omega) hv);have jn:=hid (fun w (h:FA w b R H (.slice (some ⟨gp,0,none⟩) ps.length cap) vh ps hs1)=>z4i w b R H _ vh ps hs1 ph h);have jg:=hid (fun w (h:FA w b R H (.slice (some ⟨gp,0,none⟩) ps.length cap) vh ps hs1)=>z4i w b R H _ vh ps hs1 sn h);have PA:=hid (fun w (x:Hd) (hx:x.ok) (h:FA w b R H (.slice (some ⟨gp,0,none⟩) ps.length cap) vh ps hs1)=>y2f w b R H _ vh ps hs1 sn x hx h);have j3:=hid (z09 hF1.ok (psy.drop (j+1)) zero9 rfl);have j6:=hid (z0k hF1.ok ph);have j1:=hid (z0k hF1.ok sn);unfold Q5i Q8b at hres1;generalize Q2m hs1 (psy.drop (j+1)) zero9=bg at hres1 j3 BA;generalize Q1i hs1 ph=hp at hres1 j6 jn;generalize Q1i hs1 sn=hd at hres1 j1 jg;obtain⟨bg1,bg2⟩:=bg;dsimp only at hres1 j3 BA;clear hF1;rcases(show scap=j+1∨¬scap=j+1 by omega)with hsc|hsc
      · subst hsc
        clear jp;cases bg2
        · simp only[qF,qAp]at hres1
          have j4:=hid (z04 j1.fo j3.out);have j8:Hid (Hd.ok {hd with fo:=orL hd.fo (bg1)}):=⟨j1.fi,j4.out⟩;generalize hpb:Q6v hs1 sn {hd with fo:=orL hd.fo (bg1)}=pb at hres1;have jd:=hid hpb;have j0:=hid hres1;clear hres1 hpb;go_wp2_with (first
            |(go_at_call 121;refine(PA.out _ {hd with fo:=orL hd.fo (bg1)} j8.out (j7.fresh f5.out)).mono ?_;rintro e w6⟨rfl,hF6,hm6⟩;have p6:=hid (hm6.at p5.out jm.out);rw[jd.out])
            |(refine wpList_load_row rfl 179 _ rfl w4.heap.size rfl _ _ _ _ je.out Tryz.underlying179 rfl (Q1n j8.out) ?_)
            |(refine wpList_store_mid rfl 130 _ _ rfl w4.heap.size 12 (tkA (orL hd.fo (bg1))) rfl rfl (by rw[z0u j4.out];exact z4k j1.out ja.out (by omega)) (Q0s j4.out) (z1g _) ?_)
            |(go_at_call 54;have j2:=hf4.size;clear j2;refine(z1b _ hd.fo (bg1) j1.fo j3.out).mono ?_;rintro e w5⟨rfl,hf5⟩;have ja:=hid (hf5.at (z0a w4 _) (fun x=>x));have f5:Hid (Q0a wr (w5.setCells w4.heap.size 12 (tkA (orL hd.fo (bg1))).toList)):=Mod.setCells (by intro q;omega) _ _ _ (Mod.trans (f4.alloc _) hf5);have p5:Hid ((w5.setCells w4.heap.size 12 (tkA (orL hd.fo (bg1))).toList).heap[wo.heap.size]? = some (.cells #[.int .i64 ph,.slice (some ⟨gs,os,none⟩) psy.length (j+1)] 118 (0,0))):=(by unfold Hid;rw[z1n (by omega)];exact hf5.at (z0b p4.out) (fun x=>x));have k5:(w5.setCells w4.heap.size 12 (tkA (orL hd.fo (bg1))).toList).cell? ⟨wr.heap.size,1,none⟩=some (.int .i64 sn):=(by rw[z0z (by omega),Q0b (hf5.at (z0b s4.out) (fun x=>x)) 1];rfl);have je:Hid ((w5.setCells w4.heap.size 12 (tkA (orL hd.fo (bg1))).toList).heap[w4.heap.size]? = some (.cells (hdA {hd with fo:=orL hd.fo (bg1)}) 179 (0,0))):=(by unfold Hid;rw[z0p _ _ _ _ _ _ _ ja.out];rw[← z59 j1.out j4.out];rfl))
            |(refine wpList_load_row rfl 130 _ rfl w1.heap.size rfl _ _ _ _ (z0b t4.out) Tryz.underlying130 rfl (Q0s j3.out) ?_)
            |(refine wpList_load_mid rfl 130 _ rfl w4.heap.size 12 rfl (bls hd.fo) _ (Q4o j1.out (z0a _ _)) Tryz.underlying130 rfl (Q5j j1.fo) ?_)
            |(refine z0e rfl 179 _ _ rfl w4 _ (hdA hd) _ rfl rfl rfl (Q1n j1.out) (Q0k rfl (z07 j1.out)) (z1t _) ?_)
            |(go_at_call 84;refine(jg.out _ (j7.fresh (f1.alloc _))).mono ?_;rintro e w4⟨rfl,hf4⟩;have jr:w1.heap.size<w4.heap.size:=(by have h1:=hf4.size;simp at h1;first|omega|(have:=z0j t3.out;omega));have f4:Hid (Q0a wr w4):=Mod.trans (f1.alloc _) hf4;have p4:=hid (hf4.at (z0b p1.out) (fun x=>x));have s4:=hid (hf4.at (z0b s1.out) (fun x=>x));have t4:=hid (hf4.at (z0a w1 _) (fun x=>x)))
            |(refine z0e rfl 130 _ _ rfl w1 _ (tkA bg1) _ rfl rfl rfl (Q0s j3.out) (Q0k rfl (z0u j3.out)) (z1g _) ?_)
            |(go_at_call 53;refine(BA.out _ (jv.out _ _ (by omega) (by first|rfl|omega))).mono ?_;rintro e w1⟨rfl,hf1⟩;have jq:wr.heap.size<w1.heap.size:=(by have:=hf1.size;simp at this;omega);have f1:Hid (Q0a wr w1):=Mod.trans ((mRf _ wr).alloc _) hf1;have p1:=hid (hf1.at jj.out (fun x=>x));have s1:=hid (hf1.at (z0a _ _) (fun x=>x));have k1:(w1.alloc (.cells (tkA bg1) 130 (0,0))).cell? ⟨wo.heap.size,0,none⟩=some (.int .i64 ph):=(by rw[Q0b (z0b p1.out) 0];rfl);have js:(w1.alloc (.cells (tkA bg1) 130 (0,0))).cell? ⟨wr.heap.size,1,none⟩=some (.int .i64 sn):=(by rw[Q0b (z0b s1.out) 1];rfl))
            |(refine wpList_load_mid rfl 69 _ rfl gs (os+j*2) rfl [.bool true,.int .i64 sn] _ RS.out Tryz.underlying69 rfl Q93 ?_))
          all_goals
            rename_i hq;go_roundw
            case rel =>
              first
                | (refine⟨j+1,true,_,rfl,by go_num,by omega,hF6,?_,Mod.trans jb.out (Mod.trans (Mod.mono f5.out (fun _ _ x=>x.elim)) hm6),p6.out⟩
                   have:=j0.out;rw[hq,qDm]at this;exact this)
                | (refine⟨j+1,gr1,_,rfl,by go_num,by omega,hF6,?_,Mod.trans jb.out (Mod.trans (Mod.mono f5.out (fun _ _ x=>x.elim)) hm6),p6.out⟩
                   have:=j0.out;rw[hq,qCk]at this;exact this)
            exact jh.out
        simp only[qBb]at hres1;have j9:=hid (z04 j3.out j6.fo);have j4:=hid (z04 j1.fo j9.out);have j8:Hid (Hd.ok {hd with fo:=orL hd.fo (orL bg1 hp.fo)}):=⟨j1.fi,j4.out⟩;generalize hpb:Q6v hs1 sn {hd with fo:=orL hd.fo (orL bg1 hp.fo)}=pb at hres1;have jd:=hid hpb;have j0:=hid hres1;clear hres1 hpb;go_wp2_with (first
          |(go_at_call 121;refine(PA.out _ {hd with fo:=orL hd.fo (orL bg1 hp.fo)} j8.out (j7.fresh f5.out)).mono ?_;rintro e w6⟨rfl,hF6,hm6⟩;have p6:=hid (hm6.at p5.out jm.out);rw[jd.out])
          |(refine wpList_load_row rfl 179 _ rfl w4.heap.size rfl _ _ _ _ je.out Tryz.underlying179 rfl (Q1n j8.out) ?_)
          |(refine wpList_store_mid rfl 130 _ _ rfl w4.heap.size 12 (tkA (orL hd.fo (orL bg1 hp.fo))) rfl rfl (by rw[z0u j4.out];exact z4k j1.out ja.out (by omega)) (Q0s j4.out) (z1g _) ?_)
          |(go_at_call 54;have j2:=hf4.size;clear j2;refine(z1b _ hd.fo (orL bg1 hp.fo) j1.fo j9.out).mono ?_;rintro e w5⟨rfl,hf5⟩;have ja:=hid (hf5.at (z0a w4 _) (fun x=>x));have f5:Hid (Q0a wr (w5.setCells w4.heap.size 12 (tkA (orL hd.fo (orL bg1 hp.fo))).toList)):=Mod.setCells (by intro q;omega) _ _ _ (Mod.trans (f4.alloc _) hf5);have p5:Hid ((w5.setCells w4.heap.size 12 (tkA (orL hd.fo (orL bg1 hp.fo))).toList).heap[wo.heap.size]? = some (.cells #[.int .i64 ph,.slice (some ⟨gs,os,none⟩) psy.length (j+1)] 118 (0,0))):=(by unfold Hid;rw[z1n (by omega)];exact hf5.at (z0b p4.out) (fun x=>x));have k5:(w5.setCells w4.heap.size 12 (tkA (orL hd.fo (orL bg1 hp.fo))).toList).cell? ⟨wr.heap.size,1,none⟩=some (.int .i64 sn):=(by rw[z0z (by omega),Q0b (hf5.at (z0b s4.out) (fun x=>x)) 1];rfl);have je:Hid ((w5.setCells w4.heap.size 12 (tkA (orL hd.fo (orL bg1 hp.fo))).toList).heap[w4.heap.size]? = some (.cells (hdA {hd with fo:=orL hd.fo (orL bg1 hp.fo)}) 179 (0,0))):=(by unfold Hid;rw[z0p _ _ _ _ _ _ _ ja.out];rw[← z59 j1.out j4.out];rfl))
          |(refine wpList_load_row rfl 130 _ rfl w1.heap.size rfl _ _ _ _ (z0b t4.out) Tryz.underlying130 rfl (Q0s j9.out) ?_)
          |(refine wpList_load_mid rfl 130 _ rfl w4.heap.size 12 rfl (bls hd.fo) _ (Q4o j1.out (z0a _ _)) Tryz.underlying130 rfl (Q5j j1.fo) ?_)
          |(refine z0e rfl 179 _ _ rfl w4 _ (hdA hd) _ rfl rfl rfl (Q1n j1.out) (Q0k rfl (z07 j1.out)) (z1t _) ?_)
          |(go_at_call 84;refine(jg.out _ (j7.fresh f3.out)).mono ?_;rintro e w4⟨rfl,hf4⟩;have jr:w1.heap.size<w4.heap.size:=(by have h1:=hf4.size;simp at h1;first|omega|(have:=z0j t3.out;omega));have f4:Hid (Q0a wr w4):=Mod.trans f3.out hf4;have p4:=hid (hf4.at p3.out (fun x=>x));have s4:=hid (hf4.at s3.out (fun x=>x));have t4:=hid (hf4.at jt.out (fun x=>x)))
          |(refine wpList_store_row rfl 130 _ _ rfl w1.heap.size _ rfl rfl _ _ t3.out (Q0s j9.out) (Q0k (z0u j3.out) (z0u j9.out)) (z1g _) ?_)
          |(go_at_call 54;refine(z1b _ bg1 hp.fo j3.out j6.fo).mono ?_;rintro e w3⟨rfl,hf3⟩;have t3:=hid (hf3.at (z0b t2.out) (fun x=>x));have f3:Hid (Q0a wr (w3.setRow w1.heap.size (tkA (orL bg1 hp.fo)))):=(Mod.trans (f2.alloc _) hf3).setRow (by intro q;omega) _;have p3:=hid (z0r (g:=w1.heap.size) (cs:=tkA (orL bg1 hp.fo)) (hf3.at (z0b p2.out) (fun x=>x)) (by omega));have s3:=hid (z0r (g:=w1.heap.size) (cs:=tkA (orL bg1 hp.fo)) (hf3.at (z0b s2.out) (fun x=>x)) (by omega));have jt:=hid (setRow_heap _ _ _ (tkA (orL bg1 hp.fo)) _ _ t3.out);have k3:(w3.setRow w1.heap.size (tkA (orL bg1 hp.fo))).cell? ⟨wr.heap.size,1,none⟩=some (.int .i64 sn):=(by rw[Q0b s3.out 1];rfl))
          |(refine wpList_load_mid rfl 130 _ rfl w2.heap.size 12 rfl (bls hp.fo) _ (Q4o j6.out (z0a _ _)) Tryz.underlying130 rfl (Q5j j6.fo) ?_)
          |(refine wpList_load_row rfl 130 _ rfl w1.heap.size rfl _ _ _ _ (z0b t2.out) Tryz.underlying130 rfl (Q0s j3.out) ?_)
          |(refine z0e rfl 179 _ _ rfl w2 _ (hdA hp) _ rfl rfl rfl (Q1n j6.out) (Q0k rfl (z07 j6.out)) (z1t _) ?_)
          |(go_at_call 84;refine(jn.out _ (j7.fresh (f1.alloc _))).mono ?_;rintro e w2⟨rfl,hf2⟩;have k4:w1.heap.size<w2.heap.size:=(by have:=hf2.size;simp at this;omega);have f2:Hid (Q0a wr w2):=Mod.trans (f1.alloc _) hf2;have p2:=hid (hf2.at (z0b p1.out) (fun x=>x));have s2:=hid (hf2.at (z0b s1.out) (fun x=>x));have t2:=hid (hf2.at (z0a w1 _) (fun x=>x)))
          |(refine z0e rfl 130 _ _ rfl w1 _ (tkA bg1) _ rfl rfl rfl (Q0s j3.out) (Q0k rfl (z0u j3.out)) (z1g _) ?_)
          |(go_at_call 53;refine(BA.out _ (jv.out _ _ (by omega) (by first|rfl|omega))).mono ?_;rintro e w1⟨rfl,hf1⟩;have jq:wr.heap.size<w1.heap.size:=(by have:=hf1.size;simp at this;omega);have f1:Hid (Q0a wr w1):=Mod.trans ((mRf _ wr).alloc _) hf1;have p1:=hid (hf1.at jj.out (fun x=>x));have s1:=hid (hf1.at (z0a _ _) (fun x=>x));have k1:(w1.alloc (.cells (tkA bg1) 130 (0,0))).cell? ⟨wo.heap.size,0,none⟩=some (.int .i64 ph):=(by rw[Q0b (z0b p1.out) 0];rfl);have js:(w1.alloc (.cells (tkA bg1) 130 (0,0))).cell? ⟨wr.heap.size,1,none⟩=some (.int .i64 sn):=(by rw[Q0b (z0b s1.out) 1];rfl))
          |(refine wpList_load_mid rfl 69 _ rfl gs (os+j*2) rfl [.bool true,.int .i64 sn] _ RS.out Tryz.underlying69 rfl Q93 ?_))
        all_goals
          rename_i hq;go_roundw
          case rel =>
            first
              | (refine⟨j+1,true,_,rfl,by go_num,by omega,hF6,?_,Mod.trans jb.out (Mod.trans (Mod.mono f5.out (fun _ _ x=>x.elim)) hm6),p6.out⟩
                 have:=j0.out;rw[hq,qDm]at this;exact this)
              | (refine⟨j+1,gr1,_,rfl,by go_num,by omega,hF6,?_,Mod.trans jb.out (Mod.trans (Mod.mono f5.out (fun _ _ x=>x.elim)) hm6),p6.out⟩
                 have:=j0.out;rw[hq,qCk]at this;exact this)
          exact jh.out
      have jk:¬scap-(j+1)=0:=by omega
      cases bg2
      · simp only[qF,qAp]at hres1
        have j4:=hid (z04 j1.fo j3.out);have j8:Hid (Hd.ok {hd with fo:=orL hd.fo (bg1)}):=⟨j1.fi,j4.out⟩;generalize hpb:Q6v hs1 sn {hd with fo:=orL hd.fo (bg1)}=pb at hres1;have jd:=hid hpb;have j0:=hid hres1;clear hres1 hpb;go_wp2_with (first
          |(go_at_call 121;refine(PA.out _ {hd with fo:=orL hd.fo (bg1)} j8.out (j7.fresh f5.out)).mono ?_;rintro e w6⟨rfl,hF6,hm6⟩;have p6:=hid (hm6.at p5.out jm.out);rw[jd.out])
          |(refine wpList_load_row rfl 179 _ rfl w4.heap.size rfl _ _ _ _ je.out Tryz.underlying179 rfl (Q1n j8.out) ?_)
          |(refine wpList_store_mid rfl 130 _ _ rfl w4.heap.size 12 (tkA (orL hd.fo (bg1))) rfl rfl (by rw[z0u j4.out];exact z4k j1.out ja.out (by omega)) (Q0s j4.out) (z1g _) ?_)
          |(go_at_call 54;have j2:=hf4.size;clear j2;refine(z1b _ hd.fo (bg1) j1.fo j3.out).mono ?_;rintro e w5⟨rfl,hf5⟩;have ja:=hid (hf5.at (z0a w4 _) (fun x=>x));have f5:Hid (Q0a wr (w5.setCells w4.heap.size 12 (tkA (orL hd.fo (bg1))).toList)):=Mod.setCells (by intro q;omega) _ _ _ (Mod.trans (f4.alloc _) hf5);have p5:Hid ((w5.setCells w4.heap.size 12 (tkA (orL hd.fo (bg1))).toList).heap[wo.heap.size]? = some (.cells #[.int .i64 ph,.slice (some ⟨gs,os,none⟩) psy.length scap] 118 (0,0))):=(by unfold Hid;rw[z1n (by omega)];exact hf5.at (z0b p4.out) (fun x=>x));have k5:(w5.setCells w4.heap.size 12 (tkA (orL hd.fo (bg1))).toList).cell? ⟨wr.heap.size,1,none⟩=some (.int .i64 sn):=(by rw[z0z (by omega),Q0b (hf5.at (z0b s4.out) (fun x=>x)) 1];rfl);have je:Hid ((w5.setCells w4.heap.size 12 (tkA (orL hd.fo (bg1))).toList).heap[w4.heap.size]? = some (.cells (hdA {hd with fo:=orL hd.fo (bg1)}) 179 (0,0))):=(by unfold Hid;rw[z0p _ _ _ _ _ _ _ ja.out];rw[← z59 j1.out j4.out];rfl))
          |(refine wpList_load_row rfl 130 _ rfl w1.heap.size rfl _ _ _ _ (z0b t4.out) Tryz.underlying130 rfl (Q0s j3.out) ?_)
          |(refine wpList_load_mid rfl 130 _ rfl w4.heap.size 12 rfl (bls hd.fo) _ (Q4o j1.out (z0a _ _)) Tryz.underlying130 rfl (Q5j j1.fo) ?_)
          |(refine z0e rfl 179 _ _ rfl w4 _ (hdA hd) _ rfl rfl rfl (Q1n j1.out) (Q0k rfl (z07 j1.out)) (z1t _) ?_)
          |(go_at_call 84;refine(jg.out _ (j7.fresh (f1.alloc _))).mono ?_;rintro e w4⟨rfl,hf4⟩;have jr:w1.heap.size<w4.heap.size:=(by have h1:=hf4.size;simp at h1;first|omega|(have:=z0j t3.out;omega));have f4:Hid (Q0a wr w4):=Mod.trans (f1.alloc _) hf4;have p4:=hid (hf4.at (z0b p1.out) (fun x=>x));have s4:=hid (hf4.at (z0b s1.out) (fun x=>x));have t4:=hid (hf4.at (z0a w1 _) (fun x=>x)))
          |(refine z0e rfl 130 _ _ rfl w1 _ (tkA bg1) _ rfl rfl rfl (Q0s j3.out) (Q0k rfl (z0u j3.out)) (z1g _) ?_)
          |(go_at_call 53;refine(BA.out _ jp.out).mono ?_;rintro e w1⟨rfl,hf1⟩;have jq:wr.heap.size<w1.heap.size:=(by have:=hf1.size;simp at this;omega);have f1:Hid (Q0a wr w1):=Mod.trans ((mRf _ wr).alloc _) hf1;have p1:=hid (hf1.at jj.out (fun x=>x));have s1:=hid (hf1.at (z0a _ _) (fun x=>x));have k1:(w1.alloc (.cells (tkA bg1) 130 (0,0))).cell? ⟨wo.heap.size,0,none⟩=some (.int .i64 ph):=(by rw[Q0b (z0b p1.out) 0];rfl);have js:(w1.alloc (.cells (tkA bg1) 130 (0,0))).cell? ⟨wr.heap.size,1,none⟩=some (.int .i64 sn):=(by rw[Q0b (z0b s1.out) 1];rfl))
          |(refine wpList_load_mid rfl 69 _ rfl gs (os+j*2) rfl [.bool true,.int .i64 sn] _ RS.out Tryz.underlying69 rfl Q93 ?_))
        all_goals
          rename_i hq;go_roundw
          case rel =>
            first
              | (refine⟨j+1,true,_,rfl,by go_num,by omega,hF6,?_,Mod.trans jb.out (Mod.trans (Mod.mono f5.out (fun _ _ x=>x.elim)) hm6),p6.out⟩
                 have:=j0.out;rw[hq,qDm]at this;exact this)
              | (refine⟨j+1,gr1,_,rfl,by go_num,by omega,hF6,?_,Mod.trans jb.out (Mod.trans (Mod.mono f5.out (fun _ _ x=>x.elim)) hm6),p6.out⟩
                 have:=j0.out;rw[hq,qCk]at this;exact this)
          exact jh.out
      simp only[qBb]at hres1;have j9:=hid (z04 j3.out j6.fo);have j4:=hid (z04 j1.fo j9.out);have j8:Hid (Hd.ok {hd with fo:=orL hd.fo (orL bg1 hp.fo)}):=⟨j1.fi,j4.out⟩;generalize hpb:Q6v hs1 sn {hd with fo:=orL hd.fo (orL bg1 hp.fo)}=pb at hres1;have jd:=hid hpb;have j0:=hid hres1;clear hres1 hpb;go_wp2_with (first
        |(go_at_call 121;refine(PA.out _ {hd with fo:=orL hd.fo (orL bg1 hp.fo)} j8.out (j7.fresh f5.out)).mono ?_;rintro e w6⟨rfl,hF6,hm6⟩;have p6:=hid (hm6.at p5.out jm.out);rw[jd.out])
        |(refine wpList_load_row rfl 179 _ rfl w4.heap.size rfl _ _ _ _ je.out Tryz.underlying179 rfl (Q1n j8.out) ?_)
        |(refine wpList_store_mid rfl 130 _ _ rfl w4.heap.size 12 (tkA (orL hd.fo (orL bg1 hp.fo))) rfl rfl (by rw[z0u j4.out];exact z4k j1.out ja.out (by omega)) (Q0s j4.out) (z1g _) ?_)
        |(go_at_call 54;have j2:=hf4.size;clear j2;refine(z1b _ hd.fo (orL bg1 hp.fo) j1.fo j9.out).mono ?_;rintro e w5⟨rfl,hf5⟩;have ja:=hid (hf5.at (z0a w4 _) (fun x=>x));have f5:Hid (Q0a wr (w5.setCells w4.heap.size 12 (tkA (orL hd.fo (orL bg1 hp.fo))).toList)):=Mod.setCells (by intro q;omega) _ _ _ (Mod.trans (f4.alloc _) hf5);have p5:Hid ((w5.setCells w4.heap.size 12 (tkA (orL hd.fo (orL bg1 hp.fo))).toList).heap[wo.heap.size]? = some (.cells #[.int .i64 ph,.slice (some ⟨gs,os,none⟩) psy.length scap] 118 (0,0))):=(by unfold Hid;rw[z1n (by omega)];exact hf5.at (z0b p4.out) (fun x=>x));have k5:(w5.setCells w4.heap.size 12 (tkA (orL hd.fo (orL bg1 hp.fo))).toList).cell? ⟨wr.heap.size,1,none⟩=some (.int .i64 sn):=(by rw[z0z (by omega),Q0b (hf5.at (z0b s4.out) (fun x=>x)) 1];rfl);have je:Hid ((w5.setCells w4.heap.size 12 (tkA (orL hd.fo (orL bg1 hp.fo))).toList).heap[w4.heap.size]? = some (.cells (hdA {hd with fo:=orL hd.fo (orL bg1 hp.fo)}) 179 (0,0))):=(by unfold Hid;rw[z0p _ _ _ _ _ _ _ ja.out];rw[← z59 j1.out j4.out];rfl))
        |(refine wpList_load_row rfl 130 _ rfl w1.heap.size rfl _ _ _ _ (z0b t4.out) Tryz.underlying130 rfl (Q0s j9.out) ?_)
        |(refine wpList_load_mid rfl 130 _ rfl w4.heap.size 12 rfl (bls hd.fo) _ (Q4o j1.out (z0a _ _)) Tryz.underlying130 rfl (Q5j j1.fo) ?_)
        |(refine z0e rfl 179 _ _ rfl w4 _ (hdA hd) _ rfl rfl rfl (Q1n j1.out) (Q0k rfl (z07 j1.out)) (z1t _) ?_)
        |(go_at_call 84;refine(jg.out _ (j7.fresh f3.out)).mono ?_;rintro e w4⟨rfl,hf4⟩;have jr:w1.heap.size<w4.heap.size:=(by have h1:=hf4.size;simp at h1;first|omega|(have:=z0j t3.out;omega));have f4:Hid (Q0a wr w4):=Mod.trans f3.out hf4;have p4:=hid (hf4.at p3.out (fun x=>x));have s4:=hid (hf4.at s3.out (fun x=>x));have t4:=hid (hf4.at jt.out (fun x=>x)))
        |(refine wpList_store_row rfl 130 _ _ rfl w1.heap.size _ rfl rfl _ _ t3.out (Q0s j9.out) (Q0k (z0u j3.out) (z0u j9.out)) (z1g _) ?_)
        |(go_at_call 54;refine(z1b _ bg1 hp.fo j3.out j6.fo).mono ?_;rintro e w3⟨rfl,hf3⟩;have t3:=hid (hf3.at (z0b t2.out) (fun x=>x));have f3:Hid (Q0a wr (w3.setRow w1.heap.size (tkA (orL bg1 hp.fo)))):=(Mod.trans (f2.alloc _) hf3).setRow (by intro q;omega) _;have p3:=hid (z0r (g:=w1.heap.size) (cs:=tkA (orL bg1 hp.fo)) (hf3.at (z0b p2.out) (fun x=>x)) (by omega));have s3:=hid (z0r (g:=w1.heap.size) (cs:=tkA (orL bg1 hp.fo)) (hf3.at (z0b s2.out) (fun x=>x)) (by omega));have jt:=hid (setRow_heap _ _ _ (tkA (orL bg1 hp.fo)) _ _ t3.out);have k3:(w3.setRow w1.heap.size (tkA (orL bg1 hp.fo))).cell? ⟨wr.heap.size,1,none⟩=some (.int .i64 sn):=(by rw[Q0b s3.out 1];rfl))
        |(refine wpList_load_mid rfl 130 _ rfl w2.heap.size 12 rfl (bls hp.fo) _ (Q4o j6.out (z0a _ _)) Tryz.underlying130 rfl (Q5j j6.fo) ?_)
        |(refine wpList_load_row rfl 130 _ rfl w1.heap.size rfl _ _ _ _ (z0b t2.out) Tryz.underlying130 rfl (Q0s j3.out) ?_)
        |(refine z0e rfl 179 _ _ rfl w2 _ (hdA hp) _ rfl rfl rfl (Q1n j6.out) (Q0k rfl (z07 j6.out)) (z1t _) ?_)
        |(go_at_call 84;refine(jn.out _ (j7.fresh (f1.alloc _))).mono ?_;rintro e w2⟨rfl,hf2⟩;have k4:w1.heap.size<w2.heap.size:=(by have:=hf2.size;simp at this;omega);have f2:Hid (Q0a wr w2):=Mod.trans (f1.alloc _) hf2;have p2:=hid (hf2.at (z0b p1.out) (fun x=>x));have s2:=hid (hf2.at (z0b s1.out) (fun x=>x));have t2:=hid (hf2.at (z0a w1 _) (fun x=>x)))
        |(refine z0e rfl 130 _ _ rfl w1 _ (tkA bg1) _ rfl rfl rfl (Q0s j3.out) (Q0k rfl (z0u j3.out)) (z1g _) ?_)
        |(go_at_call 53;refine(BA.out _ jp.out).mono ?_;rintro e w1⟨rfl,hf1⟩;have jq:wr.heap.size<w1.heap.size:=(by have:=hf1.size;simp at this;omega);have f1:Hid (Q0a wr w1):=Mod.trans ((mRf _ wr).alloc _) hf1;have p1:=hid (hf1.at jj.out (fun x=>x));have s1:=hid (hf1.at (z0a _ _) (fun x=>x));have k1:(w1.alloc (.cells (tkA bg1) 130 (0,0))).cell? ⟨wo.heap.size,0,none⟩=some (.int .i64 ph):=(by rw[Q0b (z0b p1.out) 0];rfl);have js:(w1.alloc (.cells (tkA bg1) 130 (0,0))).cell? ⟨wr.heap.size,1,none⟩=some (.int .i64 sn):=(by rw[Q0b (z0b s1.out) 1];rfl))
        |(refine wpList_load_mid rfl 69 _ rfl gs (os+j*2) rfl [.bool true,.int .i64 sn] _ RS.out Tryz.underlying69 rfl Q93 ?_))
      all_goals
        rename_i hq;go_roundw
        case rel =>
          first
            | (refine⟨j+1,true,_,rfl,by go_num,by omega,hF6,?_,Mod.trans jb.out (Mod.trans (Mod.mono f5.out (fun _ _ x=>x.elim)) hm6),p6.out⟩
               have:=j0.out;rw[hq,qDm]at this;exact this)
            | (refine⟨j+1,gr1,_,rfl,by go_num,by omega,hF6,?_,Mod.trans jb.out (Mod.trans (Mod.mono f5.out (fun _ _ x=>x.elim)) hm6),p6.out⟩
               have:=j0.out;rw[hq,qCk]at this;exact this)
        exact jh.out
    have k0:j=psy.length:=by omega
    rw[k0,qBw]at hres1;have j5:(hs1,gr1)=RR:=hres1;have j0:=hid j5;have kc:¬(j:Int)<(psy.length:Int):=by omega
    clear hres1 j5 hF1;go_wp2;go_roundw
    case rel =>
      refine⟨i+1,gr1,hs1,rfl,by go_num,by omega,j7.out,?_,jb.out⟩;have:=jc.out;rw[← j0.out]at this;exact this
    exact jx.out
  have jz:i=ps.length:=by omega
  rw[jz,qBw]at hres;have j5:(hs',gr)=RES:=hres;have jc:=hid j5;have ka:¬(i:Int)<(ps.length:Int):=by omega
  clear hres hF;go_wp2;go_ret;exact⟨z0s (by rw[← jc.out]),by rw[← jc.out];exact HF.out,ji.out⟩
end Go.Proofs.YtcpceafmlgaodaaGreat
