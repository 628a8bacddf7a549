import Derived.Test.YtcpceafmlgaodaaGreatEbe
namespace Go.Proofs.YtcpceafmlgaodaaGreat
open Go.RowKit
set_option maxRecDepth 100000
set_option maxHeartbeats 16000000
set_option linter.unusedVariables false
set_option linter.unusedSimpArgs false
section
variable{ps:List Pr}{R H:Nat}{l:List Int}
theorem z2h(R:Nat)(ps:List Pr)(p:Nat):(Q0e R ps)[p]? = (ps[p]?).map fun q=>(q.head,q.syms.map(Q0v R)):=by unfold Q0e;rw[List.getElem?_map]
theorem z84(R:Nat)(ps:List Pr)(m:Itm):Q4r(Q0e R ps)m=((Q8t ps m).map(Q0v R)).getD(-1):=by
 unfold Q4r Q8t;rw[z2h];cases ps[m.p]? with
 |none=>rfl
 |some q=>simp
theorem y7g(hT:Q1c ps R H){m:Itm}{s:Sy}(h:Q8t ps m=some s):0<=s.num/\s.num<(if s.isH then(H:Int)else R):=by
 unfold Q8t at h;cases hq:ps[m.p]? with
 |none=>rw[hq]at h;cases h
 |some q =>
  rw[hq]at h;exact hT.sy q(List.mem_of_getElem? hq)s(List.mem_of_getElem? h)
theorem z75(hT:Q1c ps R H){m:Itm}:Q4r(Q0e R ps)m<0↔Q8t ps m=none:=by
 rw[z84];cases h:Q8t ps m with
 |none=>simp
 |some s =>
  have:=y7g hT h;simp only[Option.map_some,Option.getD_some,reduceCtorEq,iff_false];unfold Q0v;split<;>omega
theorem z6i(hT:Q1c ps R H){m:Itm}{X:Int}(h0:0<=X):Q4r(Q0e R ps)m=bs R+X↔Q8t ps m=some⟨true,X⟩:=by
 rw[z84];cases h:Q8t ps m with
 |none=>simp[bs]<;>omega
 |some s =>
  obtain⟨a,b⟩:=s;have:=y7g hT h;simp only[Option.map_some,Option.getD_some,Option.some.injEq,Sy.mk.injEq];unfold Q0v bs;cases a
  ·simp only[Bool.false_eq_true,if_false]at this ⊢;simp<;>omega
  simp only[if_true]at this ⊢;simp<;>omega
theorem z38(hT:Q1c ps R H){m:Itm}{t:Int}(h0:0<=t)(ht:t<R):Q4r(Q0e R ps)m=t↔Q8t ps m=some⟨false,t⟩:=by
 rw[z84];cases h:Q8t ps m with
 |none=>simp<;>omega
 |some s =>
  obtain⟨a,b⟩:=s;have:=y7g hT h;simp only[Option.map_some,Option.getD_some,Option.some.injEq,Sy.mk.injEq];unfold Q0v;cases a
  ·simp
  simp only[if_true]at this ⊢;simp<;>omega
theorem y87(hT:Q1c ps R H)(hm:∀p∈ps,p.syms.length<=6){P:List(List Itm)}{N:Nat}(hN:P.length=N)(hNl:N<=l.length)(hl:l.length<=60)(hx:∀(k:Nat)(Y:List Itm),P[k]? = some Y->∀m:Itm,m∈Y↔Q99 ps l k m):FillQ R(Q0e R ps)P(Q99 ps l N):=by
 have j0:(Q0e R ps).length=ps.length:=by unfold Q0e;simp
 refine⟨fun m hm'=>?_,fun m hm'=>?_,fun m p x h1 h2 h3=>?_,fun m x m' h1 h2 h3 h4 h5=>?_⟩
 ·obtain⟨h1,q,h2,h3⟩:=y27 hm';have:=hm q(List.mem_of_getElem? h2);have:=(qS h2).1;exact⟨by omega,by omega,by omega⟩
 ·have:=(y27 hm').1;omega
 ·rw[z2h]at h2;cases hq:ps[p]? with
  |none=>rw[hq]at h2;cases h2
  |some q' =>
   rw[hq]at h2;simp at h2;subst h2;have hs:=(z6i hT(hT.hd q'(List.mem_of_getElem? hq)).1).1 h3;obtain⟨_,q,hq1,_⟩:=y27 h1;rw[z3m hq1]at hs;rw[hN];exact x4c h1 hNl hq1 hs hq rfl
 rw[z2h]at h3;cases hq:ps[m.p]? with
 |none=>rw[hq]at h3;cases h3
 |some q =>
  rw[hq]at h3;simp at h3;subst h3;have hd:=(x8j h1 hq).1((z75 hT).1 h2);have hs:=(z6i hT(hT.hd q(List.mem_of_getElem? hq)).1).1 h5;have j1:It ps l N m.p q.syms.length m.f:=by rw[← hd];exact h1
  have hI:Q99 ps l m.f m':=by
   rcases h4 with h4|⟨e,h4⟩
   ·have hk:m.f<P.length:=by
     rcases Nat.lt_or_ge m.f P.length with z|z
     ·exact z
     rw[qD,qN z]at h4;cases h4
    rw[qD,qE hk]at h4;exact(hx m.f _(qE hk)m').1 h4
   rw[e,hN];exact h4
  obtain⟨_,q',hq',_⟩:=y27 hI;rw[z3m hq']at hs;exact x3s j1 hNl hq hI hq' hs
theorem y3t(hT:Q1c ps R H){P:List(List Itm)}{X:List Itm}(h:∀m∈X,Q6n R(Q0e R ps)P X m):Q9x ps(P++[X])P.length X:=by
 refine⟨fun m X' p' q' hm hs hq hh=>?_,fun m q m' Y hm hq hs hY hm' hs'=>?_⟩
 ·exact(h m hm).pred p'(q'.head,q'.syms.map(Q0v R))(by rw[z2h,hq];rfl)((z6i hT(hT.hd q'(List.mem_of_getElem? hq)).1).2(by rw[hh];exact hs))
 refine(h m hm).comp((z75 hT).2 hs)(q.head,q.syms.map(Q0v R))(by rw[z2h,hq];rfl)m' ?_((z6i hT(hT.hd q(List.mem_of_getElem? hq)).1).2 hs');unfold atS;rw[qD,hY];exact hm'
theorem y6y(R:Nat)(q:List Q1):∀(X:List Itm)(o:List Bool),o.length=R+1->(W0a R q X o).length=R+1/\∀t,(W0a R q X o).getD t false=true↔(o.getD t false=true∨∃m∈X,(t<R/\Q4r q m=t)∨(t=R/\Q4r q m<0/\m.f=0/\hdI q m=0))
 | [],o,ho=>⟨ho,fun t=>by simp[W0a]⟩
 |m::X,o,ho=>by
  obtain⟨r1,r2⟩:=y6y R q X(wanS R q o m)(by rw[x7m];exact ho);refine⟨r1,fun t=>?_⟩;rw[W0a,r2 t];have j0:(wanS R q o m).getD t false=true↔(o.getD t false=true∨(t<R/\Q4r q m=t)∨(t=R/\Q4r q m<0/\m.f=0/\hdI q m=0)):=by
   unfold wanS;by_cases h1:Q4r q m<0
   ·rw[if_pos h1];by_cases h2:m.f=0/\hdI q m=0
    ·rw[if_pos h2,z13 _ _ _ _ _(by omega)];by_cases h3:t=R
     ·rw[if_pos h3];simp[h3,h1,h2.1,h2.2]
     rw[if_neg h3];simp[h3];omega
    rw[if_neg h2];constructor
    ·exact .inl
    rintro(h|⟨h3,h4⟩|⟨h3,h4,h5,h6⟩)
    ·exact h
    ·omega
    exact absurd⟨h5,h6⟩h2
   rw[if_neg h1];by_cases h2:Q4r q m<R
   ·rw[if_pos h2,z13 _ _ _ _ _(by omega)];by_cases h3:t=(Q4r q m).toNat
    ·rw[if_pos h3];exact⟨fun _=>.inr(.inl⟨by omega,by omega⟩),fun _=>rfl⟩
    rw[if_neg h3];constructor
    ·exact .inl
    rintro(h|⟨h4,h5⟩|⟨h4,h5,_⟩)
    ·exact h
    ·omega
    omega
   rw[if_neg h2];constructor
   ·exact .inl
   rintro(h|⟨h4,h5⟩|⟨h4,h5,_⟩)
   ·exact h
   ·omega
   omega
  rw[j0];constructor
  ·rintro((h|h)|⟨m',h1,h2⟩)
   ·exact .inl h
   ·exact .inr⟨m,by simp,h⟩
   exact .inr⟨m',by simp[h1],h2⟩
  rintro(h|⟨m',h1,h2⟩)
  ·exact .inl(.inl h)
  rw[List.mem_cons]at h1;rcases h1 with rfl|h1
  ·exact .inl(.inr h2)
  exact .inr⟨m',h1,h2⟩
theorem y47(hT:Q1c ps R H){n:Nat}(hn:n<=l.length){P:List(List Itm)}{X:List Itm}(hP:P.length=n)(hI:Q3a ps l n(P++[X])) :
  (∀t:Nat,t<R->((W0a R(Q0e R ps)X(List.replicate(R+1)false)).getD t false=true↔Vb ps(l.take n)t))/\((W0a R(Q0e R ps)X(List.replicate(R+1)false)).getD R false=true↔Ve ps(l.take n)):=by
 have hl:(l.take n).length=n:=by rw[List.length_take];omega
 have h2:=hI.take(qR n);have hS:Q3a ps(l.take n)(l.take n).length(P++[X]):=by rw[hl];exact h2
 have hX:(P++[X])[(l.take n).length]? = some X:=by rw[hl,← hP,List.getElem?_append_right(qR _)];simp
 have hz:∀t,(List.replicate(R+1)false).getD t false=false:=fun t=>by
  rw[qD,List.getElem?_replicate];split<;>rfl
 obtain⟨_,hw⟩:=y6y R(Q0e R ps)X(List.replicate(R+1)false)(by simp);constructor
 ·intro t ht;rw[hw t,← hS.next hX,hz t];constructor
  ·rintro(h|⟨m,h1,h2|h2⟩)
   ·cases h
   ·exact⟨m,h1,(z38 hT(by omega)(by omega)).1 h2.2⟩
   omega
  rintro⟨m,h1,h2⟩;exact .inr⟨m,h1,.inl⟨ht,(z38 hT(by omega)(by omega)).2 h2⟩⟩
 rw[hw R,← hS.fin hX,hz R];have hh:∀(m:Itm)(q:Pr),ps[m.p]? = some q->hdI(Q0e R ps)m=q.head:=fun m q hq=>by
  unfold hdI;rw[z2h,hq];rfl
 constructor
 ·rintro(h|⟨m,h1,h2|⟨_,h2,h3,h4⟩⟩)
  ·cases h
  ·omega
  obtain⟨_,q,hq,_⟩:=y27((hS.iff _ X hX m).1 h1);exact⟨m,h1,q,hq,(z75 hT).1 h2,h3,by rw[← hh m q hq];exact h4⟩
 rintro⟨m,h1,q,hq,h2,h3,h4⟩;exact .inr⟨m,h1,.inr⟨rfl,(z75 hT).2 h2,h3,by rw[hh m q hq];exact h4⟩⟩
theorem v0z(hT:Q1c ps R H){n:Nat}(hn:n<=l.length){P:List(List Itm)}{X:List Itm}(hP:P.length=n)(hI:Q3a ps l n(P++[X])){c:Int}(h0:0<=c)(hc:c<R):Q4p(Q0e R ps)c X≠[]↔Vb ps(l.take n)c.toNat:=by
 have hl:(l.take n).length=n:=by rw[List.length_take];omega
 have h2:=hI.take(qR n);have hS:Q3a ps(l.take n)(l.take n).length(P++[X]):=by rw[hl];exact h2
 have hX:(P++[X])[(l.take n).length]? = some X:=by rw[hl,← hP,List.getElem?_append_right(qR _)];simp
 rw[← hS.next hX,show((c.toNat:Nat):Int)=c by omega];constructor
 ·intro h;obtain⟨y,hy⟩:=List.exists_mem_of_ne_nil _ h;obtain⟨m,h1,h2,_⟩:=z6m.1 hy;exact⟨m,h1,(z38 hT h0 hc).1 h2⟩
 rintro⟨m,h1,h2⟩e;have:=z6m(q:=Q0e R ps)(c:=c)(l:=X)(y:=mvI m);rw[e]at this;exact absurd(this.2⟨m,h1,(z38 hT h0 hc).2 h2,rfl⟩)(by simp)
theorem x4e(hT:Q1c ps R H){n:Nat}(hn:n<l.length){P:List(List Itm)}{X X':List Itm}(hP:P.length=n)(hI:Q3a ps l n(P++[X]))(h0:0<=l[n])(hc:l[n]<R)(hg:Q4z(Q99 ps l(n+1))(Q4p(Q0e R ps)l[n]X)X')(hd:∀m∈X',Q6n R(Q0e R ps)(P++[X])X' m):Q3a ps l(n+1)((P++[X])++[X']):=by
 have hF:=y3t hT hd;rw[List.length_append,hP]at hF;refine y8p(by omega)(by rw[List.length_append,hP];rfl)(fun k Y hk m=>hI.iff k Y hk m)hg.q hF(fun e=>by omega)(fun k Y m t e hk hm hs ht=>?_);have e2:k=n:=by omega
 subst e2;have hY:Y=X:=by
  rw[← hP,List.getElem?_append_right(qR _)]at hk;simpa using hk.symm
 subst hY;rw[qE hn]at ht;injection ht with ht;subst ht;exact hg.mem(z6m.2⟨m,hm,(z38 hT h0 hc).2 hs,rfl⟩)
theorem x0c(hT:Q1c ps R H){X':List Itm}(hg:Q4z(Q99 ps l 0) []X')(hd:∀m∈X',Q6n R(Q0e R ps) []X' m)(h0:∀(p:Nat)(x:Q1),(Q0e R ps)[p]? = some x->x.1=0->(⟨p,0,0⟩:Itm)∈X'):Q3a ps l 0([]++[X']):=by
 have hF:=y3t hT hd;exact y8p(Nat.zero_le _)rfl(fun k Y hk=>by simp at hk)hg.q hF(fun _ p q hp hq=>h0 p(q.head,q.syms.map(Q0v R))(by rw[z2h,hp];rfl)hq)(fun k Y m t e=>by omega)
theorem x3a(hT:Q1c ps R H){D:List Mat}(hD:Q5b ps l D){p:Nat}{x:Q1}(hx:(Q0e R ps)[p]? = some x){i:Nat}(hi:i<=l.length):Q5b ps l(addR R l D x i):=by
 intro h a j e;unfold addR Q93 atM at e;rw[z2h]at hx;cases hq:ps[p]? with
 |none=>rw[hq]at hx;cases hx
 |some q =>
  rw[hq]at hx;simp at hx;subst hx;have j0:=List.mem_of_getElem? hq;dsimp only at e;have old:((D.getD h []).getD a []).getD j false=true->Ds ps l [⟨true,(h:Int)⟩]a j:=fun e=>hD h a j e;rcases Nat.lt_or_ge q.head.toNat D.length with hh|hh
  ·rw[z12 _ _ _ _ _ hh]at e;split at e
   ·rename_i eh;rcases Nat.lt_or_ge i(D.getD q.head.toNat []).length with hi2|hi2
    ·rw[z12 _ _ _ _ _ hi2]at e;split at e
     ·rename_i ei;subst ei;have hj:j<l.length+1:=by
       rcases Nat.lt_or_ge j(l.length+1)with z|z
       ·exact z
       rw[qD,qN(by rw[z2j];exact z)]at e;cases e
      rw[z9y hj,Bool.or_eq_true]at e;rcases e with e|e
      ·rw[eh];exact hD _ _ _ e
      obtain⟨_,r2⟩:=x4g(bs R)l D hD.wide(q.syms.map(Q0v R))hi;have hr:=(r2 j hj).1 e;obtain⟨d1,d2,B,b1,b2⟩:=y77 hT hD(hT.sy q j0)hi hr;have j1:=hT.hd q j0;refine⟨d1,d2,⟨false,(p:Int)⟩::B,?_,by simpa [Q0d]using b2⟩;rw[eh,show((q.head.toNat:Nat):Int)=q.head by omega,z3k hq,List.append_nil];exact b1
     rw[eh];exact hD _ _ _ e
    rw[List.set_eq_of_length_le hi2]at e;rw[eh];exact hD _ _ _ e
   exact old e
  rw[List.set_eq_of_length_le hh]at e;exact old e
theorem x02(n:Nat):Q5b ps l(List.replicate H(sqF n)):=by
 intro h i j e;unfold atM at e;exfalso;have h1:((List.replicate H(sqF n)).getD h []).getD i []=List.replicate n false∨((List.replicate H(sqF n)).getD h []).getD i []=[]:=by
  have e0:(List.replicate H(sqF n)).getD h []=sqF n∨(List.replicate H(sqF n)).getD h []=[]:=by
   rw[qD,List.getElem?_replicate];split
   ·exact .inl rfl
   exact .inr rfl
  rcases e0 with e0|e0
  ·rw[e0];unfold sqF;rw[qD,List.getElem?_replicate];split
   ·exact .inl rfl
   exact .inr rfl
  rw[e0];exact .inr(by simp)
 rcases h1 with h1|h1
 ·rw[h1,qD,List.getElem?_replicate]at e;split at e<;>cases e
 rw[h1]at e;simp at e
theorem x1v(hT:Q1c ps R H){D:List Mat}(hD:Q5b ps l D)(hc:CloD R(Q0e R ps)l D):Q9u R ps l D:=by
 intro q hq i j hi hr;obtain⟨p,hp⟩:=List.getElem?_of_mem hq;have hm:=hc p(q.head,q.syms.map(Q0v R))i(by rw[z2h,hp];rfl)hi;have hj:=x8b hD.wide _ i j hi hr;obtain⟨_,r2⟩:=x4g(bs R)l D hD.wide(q.syms.map(Q0v R))hi;have hs:=(r2 j(by omega)).2 hr;unfold atM;cases hx:((D.getD q.head.toNat []).getD i []).getD j false with
 |true=>rfl
 |false =>
  have:=(y7b(n:=l.length+1)).2⟨j,by omega,hs,hx⟩;rw[hm]at this;cases this
theorem x1k{rb:List Int->Nat->Nat->Bool}{T:Int->Nat->Nat->List Nd}:∀(ys:List Sy),(∀s∈ys,0<=s.num/\s.num<(if s.isH then(H:Int)else R))->∀i j,Q9j(bs R)rb T(ys.map(Q0v R))i j=rowN(fun ys i j=>rb(ys.map(Q0v R))i j)T ys i j
 | [],_,_,_=>rfl
 |y::ys,hv,i,j=>by
  have hy:=hv y(by simp);have ih:=x1k(rb:=rb)(T:=T)ys(fun s hs=>hv s(by simp[hs]));rw[List.map_cons,Q9j,rowN,ih];have e1:toC rb(Q0v R y)(ys.map(Q0v R))i j=toF(fun ys i j=>rb(ys.map(Q0v R))i j)y ys i j:=rfl;rw[e1];congr 1;cases hb:y.isH
  ·rw[hb]at hy;simp only[Bool.false_eq_true,if_false]at hy;rw[z36 hb,if_pos(by unfold bs;omega),if_pos rfl]
  have:=z1p(R:=R)hb;rw[hb,if_pos rfl]at hy;rw[if_neg(by unfold bs;omega),if_neg(by simp),show Q0v R y-bs R=y.num by unfold bs;omega]
theorem y7v(hT:Q1c ps R H){rb:List Int->Nat->Nat->Bool}:∀(f:Nat)(h:Int)(i j:Nat),Q5i(bs R)(Q0e R ps)rb f h i j=Q8i ps(fun ys i j=>rb(ys.map(Q0v R))i j)f h i j
 |0,_,_,_=>rfl
 |f+1,h,i,j=>by
  have ef:Q89(Q0e R ps)rb h i j=Q7m ps(fun ys i j=>rb(ys.map(Q0v R))i j)h i j:=by
   unfold Q89 Q7m Q0e;rw[List.findIdx_map];rfl
  have et:Q5i(bs R)(Q0e R ps)rb f=Q8i ps(fun ys i j=>rb(ys.map(Q0v R))i j)f:=by
   funext h i j;exact y7v hT f h i j
  rw[Q5i,Q8i,ef,z2h,et];cases hq:ps[Q7m ps(fun ys i j=>rb(ys.map(Q0v R))i j)h i j]? with
  |none=>rfl
  |some q =>
   simp only[Option.map_some];rw[x1k q.syms(hT.sy q(List.mem_of_getElem? hq))]
end
theorem v10(l:List Bool)(n i:Nat)(acc:List Int)(h:i<n):risL l(n-i)i acc=risL l(n-(i+1))(i+1)(if l.getD i false=true then acc++[(i:Int)]else acc):=by
 rw[show n-i=(n-(i+1))+1 by omega];rfl
def RisRet(w:World)(l:List Int)(e:Ending)(w':World):Prop:=∃v,e=.returned v/\Q2c w' w.heap.size v l/\Q0a w w'
theorem y0v(w:World)(g n:Nat)(l:List Bool)(hB:Q13 w g l)(hl:l.length=n)(hn:n<=100) :
  Calls Tryz.prog 37#[bsl g n]w fun e w'=>RisRet w(risF l)e w':=by
 obtain⟨i1,hi1,hy0,hy1,hy2⟩:=Q63;have HB:=hid hB;have HL:=hid hl;have hV:risL l n 0 []=risF l:=by unfold risF;rw[hl]
 generalize risF l=V at hV;have HV:=hid hV;clear hB hl hV;go_enter Tryz.func37,Tryz.ntmps37
 go_wp2;go_loopw [3,4](fun x3 x4 wr=>∃(i:Nat)(acc:List Int),x4=.int .i64 i/\i<=n/\acc.length<=i/\wr.ownsRow w.heap.size 3 1 x3 acc.length(Q56 acc)/\Q0a w wr/\risL l(n-i)i acc=V)
   (fun _ x _=>1001-(intOf x).toNat)
 case atStart=>exact⟨0,[],rfl,by omega,by simp,World.ownsRow_nil _ _ _ _,mRf _ _,HV.out⟩
 obtain⟨i,acc,rfl,hi,hal,hown,hfr,hrec⟩:=hrel;have j1:=hid(Q2a(B:=1001)i(by omega));have HF:=hid hfr;have HO:=hid hown;obtain⟨ao,cp,hv⟩:=z0d hown;subst hv;have j4:w.heap.size<=wr.heap.size:=hfr.size;by_cases hlt:i<n
 ·have k1:(i:Int)<(n:Int):=by omega
  rw[v10 _ _ _ _ hlt]at hrec;have c1:=(HB.out.fresh hfr).cell(j:=i)(by rw[HL.out];exact hlt);generalize l.getD i false=lb at hrec c1;have j0:=hid hrec;clear hrec hown hfr;cases lb
  ·go_wp2;go_roundw
   case rel=>exact⟨i+1,acc,by go_num,by omega,by omega,HO.out,HF.out,j0.out⟩
   exact j1.out
  go_wp2_with(first
   |(at_builtin;refine z0g _ rfl _ _ 22 rfl w.heap.size 3 i1 _ 1 8 Tryz.underlying22 hi1 hy0 hy1 hy2 rfl(by decide)(.slice ao acc.length cp)acc.length(Q56 acc)rfl(World.ownsRow.alloc HO.out _)⟨wr.heap.size,0,none⟩1 1 [.int .i64 i]rfl rfl(z0l rfl)(by intro u hu;simp at hu;subst hu;rfl)(by unfold maxLen;omega)(by omega)(by simp;omega)?_;intro v9 w4 hown2 hgrow hblk;have j3:=hid hown2;have j2:=hid(Mod.grown(S:=fun _=>False)(HF.out.alloc _)hgrow(fun k hk hlt=>by have:=(HO.out.lt k hk).1;omega));clear hown2 hgrow hblk))
  go_roundw
  case rel=>exact⟨i+1,acc++[(i:Int)],by go_num,by omega,by simp;omega,by have:=j3.out;simpa [Q56]using this,j2.out,j0.out⟩
  exact j1.out
 have k1:¬(i:Int)<(n:Int):=by omega
 have hz:n-i=0:=by omega
 rw[hz]at hrec;have j0:=hid hrec;clear hrec hown hfr hz;go_wp2;go_ret;refine⟨_,rfl,?_,HF.out⟩;have:=j0.out;unfold risL at this;rw[← this];exact HO.out
section
variable{ps:List Pr}{R H:Nat}{l:List Int}{G:W0f}{n i:Nat}{P:List(List Itm)}{X:List Itm}
def Q79(ps:List Pr)(R:Nat)(X:List Itm):List Bool:=W0a R(Q0e R ps)X(List.replicate(R+1)false)
theorem y25:(Q79 ps R X).length=R+1:=(y6y R(Q0e R ps)X _(by simp)).1
theorem x8w(hT:Q1c ps R H)(hR:R<=8)(hn:i<=l.length)(hP:P.length=i)(hI:Q3a ps l i(P++[X])){W:List Bool}(w1:∀t,t<R->(W.getD t false=true↔Vb ps(l.take i)t))(w2:W.getD R false=true↔Ve ps(l.take i))(w3:∀t,R<t->W.getD t false=false):risF(Q79 ps R X)=Q3e W:=by
 obtain⟨z1,z2⟩:=y47 hT hn hP hI;refine y97(fun t=>?_)(by rw[y25];omega);rw[Bool.eq_iff_iff];unfold Q79;rcases Nat.lt_trichotomy t R with h|h|h
 ·rw[z1 t h,w1 t h]
 ·subst h;rw[z2,w2]
 rw[w3 t h,qD,qN(by have:=y25(ps:=ps)(R:=R)(X:=X);unfold Q79 at this;omega)];rfl
theorem x03(hT:Q1c ps R H)(hR:R<=8)(hG:GrowIs ps R l G n)(hP:P.length=i)(hI:Q3a ps l i(P++[X]))(hi:i<l.length)(hin:i<=n)(h0:0<=l[i])(hc:l[i]<R) :
  (Q4p(Q0e R ps)l[i]X=[]->G=⟨10,risF(Q79 ps R X),i,[]⟩)/\(Q4p(Q0e R ps)l[i]X≠[]->i+1<=n):=by
 have hx:=v0z hT(by omega:i<=l.length)hP hI h0 hc;constructor
 ·intro e;have j0:¬Vb ps(l.take i)l[i].toNat:=fun q=>hx.2 q e;have j1:n=i:=by
   rcases Nat.lt_or_ge i n with z|z
   ·exact absurd(hG.each i hi z)j0
   omega
  subst j1;rcases hG.or with⟨e1,_⟩|⟨W,e1,e2,e3,e4,_⟩
  ·omega
  rw[x8w hT hR(by omega)hP hI e2 e3 e4];exact e1
 intro e;have hv:=hx.1 e;rcases Nat.lt_or_ge i n with z|z
 ·exact z
 exfalso;obtain rfl:n=i:=by omega
 rcases hG.or with⟨e1,_⟩|⟨W,_,_,_,_,e5,_⟩
 ·omega
 exact e5 hi hv
theorem x5p(hT:Q1c ps R H)(hR:R<=8)(hG:GrowIs ps R l G n)(hP:P.length=l.length)(hI:Q3a ps l l.length(P++[X]))(hin:l.length<=n) :
  ((Q79 ps R X).getD R false=false->G=⟨10,risF(Q79 ps R X),l.length,[]⟩)/\((Q79 ps R X).getD R false=true->∃A,G=⟨0,[],0,A⟩/\Q1f ps A [⟨true,0⟩]=some []/\Q0d A=l):=by
 have hn:n=l.length:=by have:=hG.le;omega
 subst hn;obtain⟨_,z2⟩:=y47 hT(qR _)hP hI;rw[List.take_length]at z2;constructor
 ·intro e;rcases hG.or with⟨_,e2,_⟩|⟨W,e1,e2,e3,e4,_⟩
  ·have:=z2.2 e2;unfold Q79 at e;rw[e]at this;cases this
  rw[x8w hT hR(qR _)hP hI e2 e3 e4];exact e1
 intro e;have j0:=z2.1 e;rcases hG.or with⟨_,_,A,e3,e4,e5⟩|⟨W,_,_,_,_,_,e6⟩
 ·exact⟨A,e3,e4,e5⟩
 exact absurd j0(e6 rfl)
end
def ZpRet(ps:List Pr)(G:W0f)(w:World)(e:Ending)(w':World):Prop:=∃vn vw,e=.returned(.tuple#[.agg(Q3y vn vw G.place),.int .i64 G.err])/\Q0a w w'/\Q3z w' w.heap.size vn(Q2d ps G.st)/\Q2c w' w.heap.size vw G.wanted
theorem y94(w:World)(b R H:Nat)(ps:List Pr)(hs:List Hd)(hTb:Tab ps R H hs)(hS:Q35 w b R H(Q0e R ps))(hQ:QOk R H(Q0e R ps))(ka:Option Addr)(kc:Nat)(l:List Int)(hk:Q02 w(.slice ka l.length kc)l)(hl:l.length<=60)(hkk:Q0y R l=true) :
  Calls Tryz.prog 17#[.pointer(some⟨b,0,none⟩),.slice ka l.length kc]w fun e w'=>ZpRet ps(Q6q ps hs R H l 0 [⟨true,0⟩] [])w e w':=by
 have hT:=hTb.g.tab;have hR:=hTb.hR;have jt:∀p∈ps,p.syms.length<=6:=fun p hp=>(hTb.syms p hp).1;obtain⟨n,hG⟩:=v0g hTb hkk;have jm:=(y6c hTb l 0 [⟨true,0⟩] []hTb.start.1 hTb.start.2(by simp)hkk(by omega)(by simp)(by simp)).1;have k7:=fun(rc:List Sy->Nat->Nat->Bool)(h:RcIs ps l R H rc)(A:List St)h1 h2=>x6i hTb hl h(A:=A)h1 h2;generalize Q6q ps hs R H l 0 [⟨true,0⟩] []=G at hG jm ⊢;have j9:=hQ.p20;have HK:=hid hk;obtain⟨ak,ck,ek,hck,hcell⟩:=hk;rw[qI]at ek;obtain⟨rfl,_,rfl⟩:=ek;have kh:=hid hcell;have k1:∀(i:Nat)(hi:i<l.length),0<=l[i]/\l[i]<R:=fun i hi=>by
  unfold Q0y at hkk;rw[List.all_eq_true]at hkk;have:=hkk l[i](List.getElem_mem hi);simpa using this
 have j7:=hid k1;have HT:=hid hT;have HM:=hid jt;have HG:=hid hG;have k9:=hid k7;have k3:=hid jm;have HS:=hid hS;have HQ:=hid hQ;obtain⟨a0,c0,a1,c1,a2,c2,v3,v4,sv,hN⟩:=hS;have kp:=hid hN.k0;have js:Q0a w(w.alloc(.cells(Q3y(.slice none 0 0)(.slice none 0 0)0)25)):=(mRf _ w).alloc _;have kf:=z0a w(.cells(Q3y(.slice none 0 0)(.slice none 0 0)0)25);have CT:=hid(x09 _ b R H(Q0e R ps)(Q99 ps l 0)(HS.out.fresh js)hQ(y87 hT jt rfl(Nat.zero_le _)hl(fun k Y hY=>by simp at hY))(fun p x hx h0=>by
  rw[z2h]at hx;cases hq:ps[p]? with
  |none=>rw[hq]at hx;cases hx
  |some q =>
   rw[hq]at hx;simp at hx;subst hx;exact x33 hq h0))
 have j5:=hid js;have j1:=hid kf;clear hT hG k7 jm hcell k1 jt hQ hN js kf hkk hTb hs;go_enter Tryz.func17,Tryz.ntmps17
 go_upto_region 2 with(first
  |(go_at_call 35;refine(CT.out).mono ?_;rintro e w2⟨cb,gs,cap,X0,rfl,hC,hgr,hdn,hin⟩;have HC:=hid hC;have j8:=hid hgr;have kd:=hid hdn;have ju:=hid hin;clear hC hgr hdn hin))
 generalize(w.alloc(.cells(Q3y(.slice none 0 0)(.slice none 0 0)0)25))=w1 at j5 j1 HC;have k5:=hid(x0c HT.out j8.out kd.out ju.out);have jc:=hid(fun(N:Nat)(P:List(List Itm))(h1:P.length=N)(h2:N<=l.length)(h3:∀(k:Nat)(Y:List Itm),P[k]? = some Y->∀m:Itm,m∈Y↔Q99 ps l k m)=>y87 HT.out HM.out h1 h2 hl h3);have k2:Hid(∀Y∈[]++[X0],Q8p(Q0e R ps)Y):=hid(fun Y hY=>by
  simp at hY;subst hY;exact⟨j8.out.len(jc.out 0 []rfl(Nat.zero_le _)(fun k Y hY=>by simp at hY)).b j9,fun m hm=>by
   have:=(jc.out 0 []rfl(Nat.zero_le _)(fun k Y hY=>by simp at hY)).b m(j8.out.q m hm);exact⟨this.1,this.2.1⟩⟩)
 clear CT kd ju;go_wp2;go_loopw [7,8,9](fun x7 _ _ wr=>∃(i gs cap:Nat)(P:List(List Itm))(X:List Itm),x7=.int .i64 i/\i<=l.length/\i<=n/\P.length=i/\ChG w1 wr cb gs cap b(P++[X])/\Q3a ps l i(P++[X])/\X.Nodup/\∀Y∈P++[X],Q8p(Q0e R ps)Y)
   (fun x _ _ _=>1001-(intOf x).toNat)
 case atStart=>exact⟨0,gs,cap,[],X0,rfl,by omega,by omega,rfl,HC.out,k5.out,j8.out.nd,k2.out⟩
 obtain⟨i,gs2,cap2,P,X,rfl,hi,hin,hP,hC,hI,hnd,hXb⟩:=hrel;have kn:=hid(Q2a(B:=1001)i(by omega));have ki:=hid hC;have HI:=hid hI;have kj:=hid hnd;have ke:=hid hXb;have HP:=hid hP;have jf:Q0a w1 wr:=by
  obtain⟨vs,z⟩:=hC;exact z.fr
 have jo:=hid jf;have je:=hid(j5.out.trans jf);have kq:=hid(jf.at j1.out(fun x=>x));have WN:=hid(y6f w1 · cb gs2 cap2 b R H(Q0e R ps)P X(HS.out.fresh j5.out)HQ.out · (by rw[hP];omega)(hXb X(by simp)));have jq:=hid(y25(ps:=ps)(R:=R)(X:=X));clear hI hnd hXb HC k5 j8 k2 jf;by_cases hlt:i<l.length
 ·have s1:(i:Int)<(l.length:Int):=by omega
  obtain⟨gk,ok,rfl,y1⟩:=kh.out i hlt;have y2:=Q0j je.out y1;obtain⟨st1,st2⟩:=x03 HT.out hR HG.out HP.out HI.out hlt hin(j7.out i hlt).1(j7.out i hlt).2;have TK:=hid(x3m w1 wr cb gs2 cap2 b R H(Q0e R ps)P X l[i](Q99 ps l(i+1))(HS.out.fresh j5.out)HQ.out hC kj.out(by rw[hP];omega)ke.out(jc.out(i+1)(P++[X])(by rw[List.length_append,HP.out];rfl)(by omega)(fun k Y hY m=>HI.out.iff k Y hY m))(fun m hm hsc=>by
   have k6:=(HI.out.iff i X(by rw[← HP.out,List.getElem?_append_right(qR _)];simp)m).1 hm;have k8:=(z38 HT.out(j7.out i hlt).1(j7.out i hlt).2).1 hsc;obtain⟨_,q,hq,_⟩:=y27 k6;rw[z3m hq]at k8;exact x2h k6 hq k8(qE hlt)))
  have SN:=hid(fun(X':List Itm)(hg:Q4z(Q99 ps l(i+1))(Q4p(Q0e R ps)l[i]X)X')(hd:∀m∈X',Q6n R(Q0e R ps)(P++[X])X' m)=>(⟨x4e HT.out hlt HP.out HI.out(j7.out i hlt).1(j7.out i hlt).2 hg hd,hg.nd,(fun Y hY=>by
   rw[List.mem_append]at hY;rcases hY with hY|hY
   ·exact ke.out Y hY
   rw[List.mem_singleton]at hY;subst hY;have hb:=(jc.out(i+1)(P++[X])(by rw[List.length_append,HP.out];rfl)(by omega)(fun k Y hY m=>HI.out.iff k Y hY m)).b;exact⟨hg.len hb j9,fun m hm=>⟨(hb m(hg.q m hm)).1,(hb m(hg.q m hm)).2.1⟩⟩)⟩:Q3a ps l(i+1)((P++[X])++[X'])/\X'.Nodup/\∀Y∈(P++[X])++[X'],Q8p(Q0e R ps)Y))
  unfold TkRet at TK;have jh:=hid st1;have jd:=hid st2;generalize l[i]=c at y1 y2 TK SN jh jd;clear y1 st1 st2 hC hP;by_cases hnx:Q4p(Q0e R ps)c X=[]
  ·have jz:=jh.out hnx;have jp:=hid hnx;have j0:=hid jz;have RI:=hid(fun(W:World)(g:Nat)(hB:Q13 W g(Q79 ps R X))=>y0v W g(R+1)(Q79 ps R X)hB jq.out(by omega));generalize hris:risF(Q79 ps R X)=RS at j0 RI;clear hnx jz SN jh jd hris;go_wp2_with(first
    |(go_at_call 36;refine(TK.out).mono ?_;rintro e w3 hz;obtain⟨_,rfl,hC3⟩:=hz.elim id(fun z=>absurd jp.out z.1);have ji:=hid hC3;clear hz hC3)
    |(go_at_call 38;refine(WN.out _ ji.out).mono ?_;rintro e w4⟨g4,rfl,hB4,hf4⟩;have jn:=hid hB4;have jw:=hid(ji.out.fresh hf4);clear hB4 hf4)
    |(go_at_call 37;refine(RI.out _ g4 jn.out).mono ?_;rintro e w5⟨v5,rfl,ho5,hf5⟩;obtain⟨wa,wc,hv5⟩:=z0d ho5;subst hv5;have ja:=hid ho5;have j3:Hid(Q0a w1 w5):=hid(by obtain⟨vs,z⟩:=jw.out;exact z.fr.trans hf5);have j2:=hid(j3.out.at j1.out(fun x=>x));have j4:w.heap.size<w4.heap.size:=(by obtain⟨vs,z⟩:=jw.out;exact z0j(z.fr.at j1.out(fun x=>x)));clear ho5 hf5)
    |(refine wpList_store_row rfl 25 _ _ rfl w.heap.size(Q3y(.slice none 0 0)(.slice wa RS.length wc)i)rfl rfl _ _ j2.out Q2o rfl(z1r _ _ _ rfl rfl)?_))
   refine bodyPost_ret(z0m rfl _ _ w.heap.size 25(Q3y(.slice none 0 0)(.slice wa RS.length wc)i)(0,0)_ rfl(setRow_heap _ _ _ _ _ _ j2.out)Tryz.underlying25 rfl Q2o)rfl ?_;refine⟨.slice none 0 0,.slice wa RS.length wc,by rw[j0.out];rfl,(j5.out.trans j3.out).setRow(fun h=>absurd h(Nat.lt_irrefl _))_,?_,?_⟩
   ·rw[j0.out];exact World.ownsRow_nil _ _ _ _
   rw[j0.out];refine z0f(z0c ja.out(fun g hg=>?_))(Nat.le_of_lt j4);have:=(ja.out.lt g hg).1;exact setRow_other _ _ _ _(by omega)
  have km:=jd.out hnx;have jp:=hid hnx;clear hnx jh jd WN;go_wp2_with(first
   |(go_at_call 36;refine(TK.out).mono ?_;rintro e w3 hz;obtain⟨_,rfl,gs3,cap3,X',hC3,hg3,hd3⟩:=hz.elim(fun z=>absurd z.1 jp.out)id;have ji:=hid hC3;have jl:=hid(SN.out X' hg3 hd3);clear hz hC3 hg3 hd3))
  go_roundw
  case rel=>exact⟨i+1,gs3,cap3,P++[X],X',by go_num,by omega,km,by rw[List.length_append,HP.out];rfl,ji.out,jl.out.1,jl.out.2.1,jl.out.2.2⟩
  exact kn.out
 have s1:¬(i:Int)<(l.length:Int):=by omega
 obtain rfl:i=l.length:=by omega
 obtain⟨en1,en2⟩:=x5p HT.out hR HG.out HP.out HI.out hin;have jv:=hid(WN.out wr ki.out);have RI:=hid(fun(W:World)(g:Nat)(hB:Q13 W g(Q79 ps R X))=>y0v W g(R+1)(Q79 ps R X)hB jq.out(by omega));have jg:=hid en1;have jj:=hid en2;have j6:Hid(Calls Tryz.prog 38#[.pointer(some⟨cb,0,none⟩)]wr fun e w'=>WnRet wr R(Q79 ps R X)e w'):=hid jv.out;unfold WnRet at j6;have CR:Hid(∀(W:World)(g:Nat),Q13 W g(Q79 ps R X)->W.cell?⟨g,R,none⟩=some(.bool((Q79 ps R X).getD R false))):=hid(fun W g hB=>hB.cell(j:=R)(by rw[jq.out];omega));have HZ:Hid(∀W,Q0a wr W->W.cell?⟨b,0,none⟩=some(.slice a0 R c0)):=hid(fun W hW=>Q0j(je.out.trans hW)kp.out);have SP:=hid(fun(W:World)(hW:Q0a wr W)=>x47 W b R H(Q0e R ps)ka kc l(Q5b ps l)(HS.out.fresh(je.out.trans hW))HQ.out(HK.out.fresh(je.out.trans hW))hl(x02(l.length+1))(fun D p x i h1 _ h3 h4=>x3a HT.out h1 h3 h4));have TR:Hid(∀(A:List St),(Q2d ps A).length<=1000000000000->Q1f ps A [⟨true,0⟩]=some []->Q0d A=l->∀(W:World)(sb:Nat)(da:Option Addr)(dc:Nat)(D:List Mat),SpR W sb b R H(Q0e R ps)ka kc l da dc D->Q5b ps l D->CloD R(Q0e R ps)l D->Calls Tryz.prog 40#[.pointer(some⟨sb,0,none⟩),.int .i64 0,.int .i64 0,.int .i64 l.length,.int .i64 2000]W fun e w'=>NdRet W(Q2d ps A)e w'):=hid(fun A hA h1 h2 W sb da dc D hSp hSo hCl=>by
  have e:Q5i(bs R)(Q0e R ps)(rcB R l D)2000 0 0 l.length=Q2d ps A:=by
   rw[y7v HT.out];exact k9.out _(v2o HT.out hSo(x1v HT.out hSo hCl))A h1 h2
  have:=y8x sb b R H(Q0e R ps)ka kc l da dc D HQ.out hl 2000(qR _)W 0 0 l.length hSp(Nat.zero_le _)(qR _)(by rw[e];exact hA);rw[e]at this;exact this)
 have ko:(R:Int)<((R+1:Nat):Int):=by omega
 generalize R+1=r1 at j6 RI ko;generalize(Q79 ps R X).getD R false=bR at jg jj CR;clear en1 en2 hC WN jv k9;cases bR
 ·have j0:=hid(jg.out rfl);generalize hris:risF(Q79 ps R X)=RS at j0 RI;generalize Q79 ps R X=WR at j6 RI CR;clear jg jj SP TR hris;go_wp2_with(first
   |(go_at_call 38;refine(j6.out).mono ?_;rintro e w4⟨g4,rfl,hB4,hf4⟩;have jn:=hid hB4;have c4:=CR.out w4 g4 hB4;have z4:=HZ.out w4 hf4;have jb:=hid(jo.out.trans hf4);clear hB4 hf4)
   |(go_at_call 37;refine(RI.out _ g4 jn.out).mono ?_;rintro e w5⟨v5,rfl,ho5,hf5⟩;obtain⟨wa,wc,hv5⟩:=z0d ho5;subst hv5;have ja:=hid ho5;have j3:=hid(jb.out.trans hf5);have j2:=hid(j3.out.at j1.out(fun x=>x));have j4:w.heap.size<w4.heap.size:=z0j(jb.out.at j1.out(fun x=>x));clear ho5 hf5)
   |(refine wpList_store_row rfl 25 _ _ rfl w.heap.size(Q3y(.slice none 0 0)(.slice wa RS.length wc)l.length)rfl rfl _ _ j2.out Q2o rfl(z1r _ _ _ rfl rfl)?_))
  refine bodyPost_ret(z0m rfl _ _ w.heap.size 25(Q3y(.slice none 0 0)(.slice wa RS.length wc)l.length)(0,0)_ rfl(setRow_heap _ _ _ _ _ _ j2.out)Tryz.underlying25 rfl Q2o)rfl ?_;refine⟨.slice none 0 0,.slice wa RS.length wc,by rw[j0.out];rfl,(j5.out.trans j3.out).setRow(fun h=>absurd h(Nat.lt_irrefl _))_,?_,?_⟩
  ·rw[j0.out];exact World.ownsRow_nil _ _ _ _
  rw[j0.out];refine z0f(z0c ja.out(fun g hg=>?_))(Nat.le_of_lt j4);have:=(ja.out.lt g hg).1;exact setRow_other _ _ _ _(by omega)
 obtain⟨A,hGA,hA1,hA2⟩:=jj.out rfl;have j0:=hid hGA;have k4:(Q2d ps A).length<=1000000000000:=by
  rw[z62];have:=k3.out;rw[hGA]at this;dsimp only at this;omega
 have kb:=hid(TR.out A k4 hA1 hA2);generalize hNF:Q2d ps A=NF at kb;have kk:=hid hNF;generalize Q79 ps R X=WR at j6 CR;unfold SpnRet at SP;clear jg jj TR hGA hA1 hA2 k4 hNF RI k3;go_wp2_with(first
  |(go_at_call 38;refine(j6.out).mono ?_;rintro e w4⟨g4,rfl,hB4,hf4⟩;have c4:=CR.out w4 g4 hB4;have z4:=HZ.out w4 hf4;have jb:=hid hf4;clear hB4 hf4)
  |(go_at_call 39;refine(SP.out _ jb.out).mono ?_;rintro e w5⟨sb,da,dc,D,rfl,hSp,hf5,hSo,hCl⟩;have kg:=hid hSp;have jy:=hid(jb.out.trans hf5);have kl:=hid hSo;have jr:=hid hCl;clear hSp hf5 hSo hCl)
  |(go_at_call 40;refine(kb.out _ sb da dc D kg.out kl.out jr.out).mono ?_;rintro e w6⟨v6,rfl,ho6,hf6⟩;obtain⟨na,nc,hv6⟩:=z0d ho6;subst hv6;have jx:=hid ho6;have j3:=hid(jo.out.trans(jy.out.trans hf6));have j2:=hid(j3.out.at j1.out(fun x=>x));have jk:w.heap.size<w5.heap.size:=z0j((jo.out.trans jy.out).at j1.out(fun x=>x));clear ho6 hf6)
  |(refine wpList_store_row rfl 25 _ _ rfl w.heap.size(Q3y(.slice na NF.length nc)(.slice none 0 0)0)rfl rfl _ _ j2.out Q2o rfl(z1r _ _ _ rfl rfl)?_))
 refine bodyPost_ret(z0m rfl _ _ w.heap.size 25(Q3y(.slice na NF.length nc)(.slice none 0 0)0)(0,0)_ rfl(setRow_heap _ _ _ _ _ _ j2.out)Tryz.underlying25 rfl Q2o)rfl ?_;refine⟨.slice na NF.length nc,.slice none 0 0,by rw[j0.out];rfl,(j5.out.trans j3.out).setRow(fun h=>absurd h(Nat.lt_irrefl _))_,?_,?_⟩
 ·rw[j0.out];show Q3z _ _ _(Q2d ps A);rw[kk.out];refine z0f(z0c jx.out(fun g hg=>?_))(Nat.le_of_lt jk);have:=(jx.out.lt g hg).1;exact setRow_other _ _ _ _(by omega)
 rw[j0.out];exact World.ownsRow_nil _ _ _ _
end Go.Proofs.YtcpceafmlgaodaaGreat
