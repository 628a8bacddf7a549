import Derived.Test.YtcpceafmlgaodaaGreatVi1
namespace Go.Proofs.YtcpceafmlgaodaaGreat
open Go.RowKit
set_option linter.unusedVariables false
set_option linter.unusedSimpArgs false
theorem z5m{X Y l:List Int}{f n:Nat}(h:X++Y=(l.drop f).take(n-f))(hn:n<=l.length)(hf:f<=n):X=(l.drop f).take X.length/\Y=(l.drop(f+X.length)).take(n-(f+X.length))/\f+X.length<=n:=by
  have hl:X.length+Y.length=n-f:=by
    have:=congrArg List.length h;rw[List.length_append,List.length_take,List.length_drop]at this;omega
  refine⟨?_,?_,by omega⟩
  · have e:(X++Y).take X.length=X:=List.take_left
    rw[h,List.take_take,Nat.min_eq_left(by omega)]at e;exact e.symm
  have e:(X++Y).drop X.length=Y:=List.drop_left;rw[h,List.drop_take,List.drop_drop]at e;rw[← e,show n-(f+X.length)=n-f-X.length by omega]
theorem z6q{s:St}(hs:s.leaf=false)(h:0<=s.num):s=⟨false,(s.num.toNat:Int)⟩:=by
  obtain⟨a,b⟩:=s;dsimp only at hs h ⊢;rw[hs];congr 1;omega
section
variable{ps:List Pr}
theorem spine:∀(A:List St)(k:List Sy)(Y:Sy)(γ:List Sy),Q1f ps A k=some(Y::γ) ->
    (∃a,k=a++Y::γ/\Q1f ps A a=some []) ∨
    (∃(p:Nat)(q:Pr)(d:Nat)(A' B':List St)(γ':List Sy),ps[p]? = some q/\q.syms[d]? = some Y/\γ=q.syms.drop(d+1)++γ'/\A=A'++⟨false,(p:Int)⟩::B'/\Q1f ps A' k=some(⟨true,q.head⟩::γ')/\Q1f ps B'(q.syms.take d)=some [])
  | [],k,Y,γ,h=>by
    cases h;exact .inl⟨[],rfl,rfl⟩
  |s::A,k,Y,γ,h=>by
    cases hs:s.leaf
    · obtain⟨y,k',q,rfl,h1,h2,h3,h4,h5⟩:=z05 hs h
      have j0:=z6q hs h2;have hy:y=⟨true,q.head⟩:=by
        obtain⟨a,b⟩:=y;dsimp only at h1 h4;rw[h1,h4]
      have step:∀z,Q1f ps(s::A)(y::z)=Q1f ps A(q.syms++z):=fun z=>by
        simp only[Q1f,hs,Bool.false_eq_true,if_false];rw[if_pos⟨h1,h2⟩,h3];simp only[];rw[if_pos h4]
      rcases spine A(q.syms++k')Y γ h5 with⟨a,e,hr⟩|⟨p2,q2,d2,A',B',γ',e1,e2,e3,e4,e5,e6⟩
      · rcases List.append_eq_append_iff.1 e with⟨a2,e1,e2⟩|⟨b,e1,e2⟩
        · subst e1
          exact .inl⟨y::a2,by rw[e2];rfl,by rw[step];exact hr⟩
        cases b with
        |nil =>
          rw[List.append_nil]at e1;rw[List.nil_append]at e2;exact .inl⟨[y],by rw[← e2];rfl,by rw[step,List.append_nil,e1];exact hr⟩
        |cons z b =>
          rw[List.cons_append,List.cons.injEq]at e2;obtain⟨rfl,e2⟩:=e2;refine .inr⟨s.num.toNat,q,a.length,[],A,k',h3,by rw[e1];simp,?_,by rw[List.nil_append,← j0],by rw[← hy];rfl,?_⟩
          · rw[e1,e2];simp
          rw[e1,List.take_left];exact hr
      refine .inr⟨p2,q2,d2,s::A',B',γ',e1,e2,e3,by rw[e4];rfl,?_,e6⟩;have:Q1f ps(s::A')(y::k')=Q1f ps A'(q.syms++k'):=by
        simp only[Q1f,hs,Bool.false_eq_true,if_false];rw[if_pos⟨h1,h2⟩,h3];simp only[];rw[if_pos h4]
      rw[this];exact e5
    obtain⟨y,k',rfl,h1,h2,h3⟩:=z08 hs h;have step:∀(A:List St)z,Q1f ps(s::A)(y::z)=Q1f ps A z:=fun A z=>by
      simp only[Q1f,hs,if_true];rw[if_pos⟨h1,h2⟩]
    rcases spine A k' Y γ h3 with⟨a,e,hr⟩|⟨p2,q2,d2,A',B',γ',e1,e2,e3,e4,e5,e6⟩
    · exact .inl⟨y::a,by rw[e];rfl,by rw[step];exact hr⟩
    exact .inr⟨p2,q2,d2,s::A',B',γ',e1,e2,e3,by rw[e4];rfl,by rw[step];exact e5,e6⟩
def It(ps:List Pr)(l:List Int)(n p d f:Nat):Prop :=
  ∃q,ps[p]? = some q/\d<=q.syms.length/\f<=n/\(∃B,Q1f ps B(q.syms.take d)=some []/\Q0d B=(l.drop f).take(n-f))/\(∃A γ,Q1f ps A [⟨true,0⟩]=some(⟨true,q.head⟩::γ)/\Q0d A=l.take f)
theorem z3k{p:Nat}{q:Pr}{B:List St}{γ:List Sy}(hp:ps[p]? = some q):Q1f ps(⟨false,(p:Int)⟩::B)(⟨true,q.head⟩::γ)=Q1f ps B(q.syms++γ):=by
  simp only[Q1f,Bool.false_eq_true,if_false];rw[if_pos⟨trivial,by omega⟩,Int.toNat_natCast,hp];simp
theorem It.at'{l:List Int}{n p d f:Nat}(h:It ps l n p d f)(hn:n<=l.length):∃q A γ,ps[p]? = some q/\Q0d A=l.take n/\Q1f ps A [⟨true,0⟩]=some(q.syms.drop d++γ):=by
  obtain⟨q,hp,hd,hf,⟨B,b1,b2⟩,A,γ,a1,a2⟩:=h;refine⟨q,A++⟨false,(p:Int)⟩::B,γ,hp,?_,?_⟩
  · rw[z0o,a2]
    have:Q0d(⟨false,(p:Int)⟩::B)=Q0d B:=by simp[Q0d]
    rw[this,b2,← List.take_add,show f+(n-f)=n by omega]
  rw[z1c,a1,Option.bind_some,z3k hp];have:=z21 B _ _(q.syms.drop d++γ)b1;rw[← List.append_assoc,List.take_append_drop,List.nil_append]at this;exact this
theorem x33{l:List Int}{p:Nat}{q:Pr}(hp:ps[p]? = some q)(hh:q.head=0):It ps l 0 p 0 0 :=
  ⟨q,hp,Nat.zero_le _,qR _,⟨[],rfl,by simp[Q0d]⟩,[],[],by rw[hh];rfl,by simp[Q0d]⟩
theorem z92{q:Pr}{d:Nat}{Y:Sy}(h:q.syms[d]? = some Y):q.syms.take(d+1)=q.syms.take d++[Y]:=by
  rw[List.take_add_one,h];rfl
theorem x2h{l:List Int}{n p d f:Nat}{q:Pr}{t:Int}(h:It ps l n p d f)(hp:ps[p]? = some q)(hs:q.syms[d]? = some⟨false,t⟩)(ht:l[n]? = some t):It ps l(n+1)p(d+1)f:=by
  obtain⟨q',hp',hd,hf,⟨B,b1,b2⟩,c⟩:=h;rw[hp,Option.some.injEq]at hp';subst hp';have j0:=(qS hs).1;refine⟨q,hp,j0,by omega,⟨B++[⟨true,t⟩],?_,?_⟩,c⟩
  · rw[z92 hs]
    refine y4j b1 ?_;simp[Q1f]
  rw[z0o,b2,show n+1-f=(n-f)+1 by omega,List.take_add_one,List.getElem?_drop,show f+(n-f)=n by omega,ht];rfl
theorem x4c{l:List Int}{n p d f p':Nat}{q q':Pr}{X:Int}(h:It ps l n p d f)(hn:n<=l.length)(hp:ps[p]? = some q)(hs:q.syms[d]? = some⟨true,X⟩)(hp':ps[p']? = some q')(hh:q'.head=X):It ps l n p' 0 n:=by
  obtain⟨q2,A,γ,e1,e2,e3⟩:=h.at' hn;rw[hp,Option.some.injEq]at e1;subst e1;obtain⟨hdl,hdq⟩:=qS hs;refine⟨q',hp',Nat.zero_le _,qR _,⟨[],by simp[Q1f],by simp[Q0d]⟩,A,q.syms.drop(d+1)++γ,?_,e2⟩;rw[e3,qC hdl,hdq,hh];rfl
theorem x3s{l:List Int}{n p f p' d' f':Nat}{q q':Pr}(h:It ps l n p q.syms.length f)(hn:n<=l.length)(hp:ps[p]? = some q)(h':It ps l f p' d' f')(hp':ps[p']? = some q')(hs:q'.syms[d']? = some⟨true,q.head⟩):It ps l n p'(d'+1)f':=by
  obtain⟨q2,e1,_,hf,⟨B,b1,b2⟩,_⟩:=h;rw[hp,Option.some.injEq]at e1;subst e1;obtain⟨q3,e1,hd3,hf3,⟨B',b3,b4⟩,c⟩:=h';rw[hp',Option.some.injEq]at e1;subst e1;have j0:=(qS hs).1;refine⟨q',hp',j0,by omega,⟨B'++⟨false,(p:Int)⟩::B,?_,?_⟩,c⟩
  · rw[z92 hs]
    refine y4j b3 ?_;rw[z3k hp,List.append_nil];rw[List.take_length]at b1;exact b1
  have:Q0d(⟨false,(p:Int)⟩::B)=Q0d B:=by simp[Q0d]
  rw[z0o,this,b4,b2];have e:l.drop f=(l.drop f').drop(f-f'):=by rw[List.drop_drop,show f'+(f-f')=f by omega]
  rw[e,← List.take_add,show f-f'+(n-f)=n-f' by omega]
structure Clo(ps:List Pr)(l:List Int)(N:Nat)(S:Nat->Nat->Nat->Nat->Prop):Prop where
  init:∀p q,ps[p]? = some q->q.head=0->S 0 p 0 0
  scan:∀n p d f q t,n<N->S n p d f->ps[p]? = some q->q.syms[d]? = some⟨false,t⟩->l[n]? = some t->S(n+1)p(d+1)f
  pred:∀n p d f q p' q',n<=N->S n p d f->ps[p]? = some q->q.syms[d]? = some⟨true,q'.head⟩->ps[p']? = some q'->S n p' 0 n
  comp:∀n p f q p' d' f' q',n<=N->S n p q.syms.length f->ps[p]? = some q->S f p' d' f'->ps[p']? = some q'->q'.syms[d']? = some⟨true,q.head⟩->S n p'(d'+1)f'
theorem x4j{l:List Int}{N:Nat}{S:Nat->Nat->Nat->Nat->Prop}(h:Clo ps l N S)(hNl:N<=l.length):∀(T b n p d f:Nat)(q:Pr)(A B:List St)(γ:List Sy),n<=N->ps[p]? = some q->d<=q.syms.length->f<=n->Q1f ps B(q.syms.take d)=some []->Q0d B=(l.drop f).take(n-f) ->
    Q1f ps A [⟨true,0⟩]=some(⟨true,q.head⟩::γ)->Q0d A=l.take f->A.length+B.length=T->B.length=b->S n p d f:=by
  intro T;induction T using Nat.strongRecOn with
  |_ T ihT =>
    intro b;induction b using Nat.strongRecOn with
    |_ b ihb =>
      intro n p d f q A B γ hnN hp hd hf hB hlB hA hlA hT hb;cases d with
      |zero =>
        rw[List.take_zero]at hB;have jc:=z20 hB;subst jc;have j4:f=n:=by
          have:=congrArg List.length hlB;rw[List.length_take,List.length_drop]at this;simp[Q0d]at this;omega
        subst j4;by_cases hA0:A=[]
        · subst hA0
          have e:([⟨true,0⟩]:List Sy)=⟨true,q.head⟩::γ:=by simpa [Q1f]using hA
          rw[List.cons.injEq,Sy.mk.injEq]at e;have je:f=0:=by
            have:=congrArg List.length hlA;rw[List.length_take]at this;simp[Q0d]at this;omega
          subst je;exact h.init p q hp e.1.2.symm
        rcases spine A [⟨true,0⟩]⟨true,q.head⟩ γ hA with⟨a,e,hr⟩|⟨p2,q2,d2,A',B',γ',e1,e2,e3,e4,e5,e6⟩
        · cases a with
          |nil=>exact absurd(z20 hr)hA0
          |cons z a=>simp at e
        have jg:Q0d A'++Q0d B'=(l.drop 0).take(f-0):=by
          rw[List.drop_zero,Nat.sub_zero,← hlA,e4,z0o];congr 1
        obtain⟨c1,c2,c3⟩:=z5m jg(by omega)(by omega);rw[List.drop_zero]at c1;rw[Nat.zero_add]at c2 c3;have j8:A.length=A'.length+(B'.length+1):=by rw[e4];simp
        have ji:=(qS e2).1;have hS:=ihT(A'.length+B'.length)(by simp at hT;omega)B'.length f p2 d2(Q0d A').length q2 A' B' γ' hnN e1(by omega)c3 e6 c2 e5 c1 rfl rfl;exact h.pred f p2 d2 _ q2 p q hnN hS e1 e2 hp
      |succ d =>
        have j3:d<q.syms.length:=hd;have hY:q.syms[d]? = some q.syms[d]:=qE j3;rw[z92 hY]at hB;obtain⟨B1,B2,rfl,h1,h2⟩:=z2x ps B(q.syms.take d) [q.syms[d]]hB;rw[z0o]at hlB;obtain⟨c1,c2,c3⟩:=z5m hlB(by omega)hf;generalize hm:f+(Q0d B1).length=m at c2 c3;have jd:(Q0d B1).length=m-f:=by omega
        rw[jd]at c1;generalize q.syms[d]=Y at hY h2;rw[List.length_append]at hT hb;cases B2 with
        |nil=>simp[Q1f]at h2
        |cons s B3 =>
          have j1:=ihT(A.length+B1.length)(by simp at hT;omega)B1.length m p d f q A B1 γ(by omega)hp(by omega)(by omega)h1 c1 hA hlA rfl rfl;cases hs:s.leaf
          · obtain⟨y,k',q2,e0,y1,y2,y3,y4,y5⟩:=z05 hs h2
            rw[List.cons.injEq]at e0;obtain⟨rfl,rfl⟩:=e0;rw[List.append_nil]at y5;have j5:=z6q hs y2;have j2:Y=⟨true,q2.head⟩:=by
              obtain⟨a,b⟩:=Y;dsimp only at y1 y4;rw[y1,y4]
            have jb:Q0d B3=(l.drop m).take(n-m):=by
              rw[← c2,j5];simp[Q0d]
            have j9:Q1f ps(A++⟨false,(p:Int)⟩::B1) [⟨true,0⟩]=some(⟨true,q2.head⟩::(q.syms.drop(d+1)++γ)):=by
              rw[z1c,hA,Option.bind_some,z3k hp];have:=z21 B1 _ _(q.syms.drop d++γ)h1;rw[← List.append_assoc,List.take_append_drop,List.nil_append]at this;rw[this,qC j3,(qS hY).2,j2];rfl
            have j0:Q0d(A++⟨false,(p:Int)⟩::B1)=l.take m:=by
              rw[z0o,hlA];have:Q0d(⟨false,(p:Int)⟩::B1)=Q0d B1:=by simp[Q0d]
              rw[this,c1,← List.take_add,show f+(m-f)=m by omega]
            have jf:=ihb B3.length(by simp at hb;omega)n s.num.toNat q2.syms.length m q2(A++⟨false,(p:Int)⟩::B1)B3 _ hnN y3(qR _)c3(by rw[List.take_length];exact y5)jb j9 j0(by simp at hT ⊢;omega)rfl;exact h.comp n s.num.toNat m q2 p d f q hnN jf y3 j1 hp(by rw[hY,j2])
          obtain⟨y,k',e0,y1,y2,y3⟩:=z08 hs h2;rw[List.cons.injEq]at e0;obtain⟨rfl,rfl⟩:=e0;have j7:=z20 y3;subst j7;have ja:Q0d [s]=[s.num]:=by simp[Q0d,hs]
          rw[ja]at c2;have jh:n=m+1:=by
            have:=congrArg List.length c2;rw[List.length_take,List.length_drop]at this;simp at this;omega
          subst jh;have j6:l[m]? = some s.num:=by
            rw[show m+1-m=1 by omega]at c2;have:=congrArg(fun x=>x[0]?)c2;simp only[List.getElem?_cons_zero]at this;rw[List.getElem?_take,if_pos(by omega),List.getElem?_drop,Nat.add_zero]at this;exact this.symm
          refine h.scan m p d f q s.num(by omega)j1 hp ?_ j6;rw[hY];obtain⟨a,b⟩:=Y;dsimp only at y1 y2;rw[y1,y2]
theorem Clo.all{l:List Int}{N:Nat}{S:Nat->Nat->Nat->Nat->Prop}(h:Clo ps l N S)(hNl:N<=l.length){n p d f:Nat}(hn:n<=N)(hI:It ps l n p d f):S n p d f:=by
  obtain⟨q,hp,hd,hf,⟨B,b1,b2⟩,A,γ,a1,a2⟩:=hI;exact x4j h hNl _ _ n p d f q A B γ hn hp hd hf b1 b2 a1 a2 rfl rfl
theorem x7z{l:List Int}{t:Nat}:Vb ps l t↔∃p q d f,It ps l l.length p d f/\ps[p]? = some q/\q.syms[d]? = some⟨false,(t:Int)⟩:=by
  constructor
  · rintro⟨A,β,h1,h2⟩
    rcases spine A [⟨true,0⟩]⟨false,t⟩ β h2 with⟨a,e,hr⟩|⟨p,q,d,A',B',γ',e1,e2,e3,e4,e5,e6⟩
    · cases a with
      |nil=>simp at e
      |cons z a=>simp at e
    have j0:Q0d A'++Q0d B'=(l.drop 0).take(l.length-0):=by
      rw[List.drop_zero,Nat.sub_zero,List.take_length,← h1,e4,z0o];congr 1
    obtain⟨c1,c2,c3⟩:=z5m j0(qR _)(by omega);rw[List.drop_zero]at c1;rw[Nat.zero_add]at c2 c3;have j1:=(qS e2).1;exact⟨p,q,d,(Q0d A').length,⟨q,e1,by omega,c3,⟨B',e6,c2⟩,A',γ',e5,c1⟩,e1,e2⟩
  rintro⟨p,q,d,f,h1,h2,h3⟩;obtain⟨q2,A,γ,e1,e2,e3⟩:=h1.at'(qR _);rw[h2,Option.some.injEq]at e1;subst e1;obtain⟨hdl,hdq⟩:=qS h3;refine⟨A,q.syms.drop(d+1)++γ,by rw[e2,List.take_length],?_⟩;rw[e3,qC hdl,hdq];rfl
theorem x53{l:List Int}:Ve ps l↔∃p q,It ps l l.length p q.syms.length 0/\ps[p]? = some q/\q.head=0:=by
  constructor
  · rintro⟨A,h1,h2⟩
    cases A with
    |nil=>simp[Q1f]at h2
    |cons s A =>
      cases hs:s.leaf
      · obtain⟨y,k',q,e0,y1,y2,y3,y4,y5⟩:=z05 hs h2
        rw[List.cons.injEq]at e0;obtain⟨rfl,rfl⟩:=e0;rw[List.append_nil]at y5;have j0:=z6q hs y2;refine⟨s.num.toNat,q,⟨q,y3,qR _,Nat.zero_le _,⟨A,by rw[List.take_length];exact y5,?_⟩,[],[],by rw[y4];rfl,by simp[Q0d]⟩,y3,y4⟩;rw[List.drop_zero,Nat.sub_zero,List.take_length,← h1,j0];simp[Q0d]
      obtain⟨y,k',e0,y1,y2,y3⟩:=z08 hs h2;rw[List.cons.injEq]at e0;obtain⟨rfl,_⟩:=e0;cases y1
  rintro⟨p,q,h1,h2,h3⟩;obtain⟨q2,e1,_,_,⟨B,b1,b2⟩,_⟩:=h1;rw[h2,Option.some.injEq]at e1;subst e1;refine⟨⟨false,(p:Int)⟩::B,?_,?_⟩
  · have:Q0d(⟨false,(p:Int)⟩::B)=Q0d B:=by simp[Q0d]
    rw[this,b2,List.drop_zero,Nat.sub_zero,List.take_length]
  rw[← h3,z3k h2,List.append_nil];rw[List.take_length]at b1;exact b1
end
def Ds(ps:List Pr)(l:List Int)(ys:List Sy)(i j:Nat):Prop:=i<=j/\j<=l.length/\∃B,Q1f ps B ys=some []/\Q0d B=(l.drop i).take(j-i)
def toL(g:Nat->Bool):Nat->Nat->Nat
  |0,t=>t
  |f+1,t=>if g t=true then t else toL g f(t+1)
theorem x73(g:Nat->Bool)(m:Nat)(hg:g m=true)(hne:∀t,t<m->g t=true->False):∀(f t:Nat),t<=m->m<=t+f->toL g f t=m
  |0,t,h1,h2=>by unfold toL;omega
  |f+1,t,h1,h2=>by
    unfold toL;by_cases e:t=m
    · subst e;rw[if_pos hg]
    rw[if_neg(fun q=>hne t(by omega)q)];exact x73 g m hg hne f(t+1)(by omega)(by omega)
def toF(rc:List Sy->Nat->Nat->Bool)(y:Sy)(ys:List Sy)(i j:Nat):Nat:=toL(fun t=>rc [y]i t&&rc ys t j)(j-i)i
def rowN(rc:List Sy->Nat->Nat->Bool)(T:Int->Nat->Nat->List Nd):List Sy->Nat->Nat->List Nd
  | [],_,_=>[]
  |y::ys,i,j=>(if y.isH=false then [⟨-1,y.num,i,1⟩]else T y.num i(toF rc y ys i j))++rowN rc T ys(toF rc y ys i j)j
def Q7m(ps:List Pr)(rc:List Sy->Nat->Nat->Bool)(h:Int)(i j:Nat):Nat:=ps.findIdx fun q=>q.head==h&&rc q.syms i j
def Q8i(ps:List Pr)(rc:List Sy->Nat->Nat->Bool):Nat->Int->Nat->Nat->List Nd
  |0,_,_,_=>[]
  |f+1,h,i,j=>match ps[Q7m ps rc h i j]? with
    |some q=>⟨(Q7m ps rc h i j:Int),-1,i,((rowN rc(Q8i ps rc f)q.syms i j).length:Int)+1⟩::rowN rc(Q8i ps rc f)q.syms i j
    |none=>[]
theorem y89:∀(n:Nat)(V:List Int),V.Nodup->(∀v∈V,0<=v/\v<(n:Int))->V.length<=n
  |0,[],_,_=>qR _
  |0,v::V,_,h=>by
    have:=h v(by simp);omega
  |n+1,V,hn,h=>by
    have h1:=y89 n(V.erase(n:Int))(hn.erase _)(fun v hv=>by
      have hm:=(List.Nodup.mem_erase_iff hn).1 hv;have:=h v hm.2;have:=hm.1;omega)
    rw[List.length_erase]at h1;split at h1
    · omega
    omega
section
variable{ps:List Pr}{l:List Int}
theorem z6u:∀(A B C D:List St)(ys:List Sy),A++B=C++D->Q1f ps A ys=some []->Q1f ps C ys=some []->A=C
  | [],B,C,D,ys,_,h1,h2=>by
    cases h1;exact(z20 h2).symm
  |s::A,B,[],D,ys,_,h1,h2=>by
    cases h2;exact z20 h1
  |s::A,B,c::C,D,ys,e,h1,h2=>by
    rw[List.cons_append,List.cons_append,List.cons.injEq]at e;obtain⟨rfl,e⟩:=e;congr 1;cases hs:s.leaf
    · obtain⟨y,k',q,rfl,g1,g2,g3,g4,g5⟩:=z05 hs h1
      obtain⟨y',k2,q',e0,f1,f2,f3,f4,f5⟩:=z05 hs h2;rw[List.cons.injEq]at e0;obtain⟨_,rfl⟩:=e0;rw[g3,Option.some.injEq]at f3;subst f3;exact z6u A B C D _ e g5 f5
    obtain⟨y,k',rfl,g1,g2,g3⟩:=z08 hs h1;obtain⟨y',k2,e0,f1,f2,f3⟩:=z08 hs h2;rw[List.cons.injEq]at e0;obtain⟨_,rfl⟩:=e0;exact z6u A B C D _ e g3 f3
def Ctx(ps:List Pr)(l:List Int)(ys:List Sy)(i j:Nat):Prop:=∃A0 γ A1,Q1f ps A0 [⟨true,0⟩]=some(ys++γ)/\Q0d A0=l.take i/\Q1f ps A1 γ=some []/\Q0d A1=l.drop j
def Uni(ps:List Pr)(l:List Int):Prop:=∀A A',Q1f ps A [⟨true,0⟩]=some []->Q1f ps A' [⟨true,0⟩]=some []->Q0d A=l->Q0d A'=l->A=A'
theorem Ctx.one{ys:List Sy}{i j:Nat}(hU:Uni ps l)(h:Ctx ps l ys i j)(hij:i<=j){B B':List St}(h1:Q1f ps B ys=some [])(h2:Q1f ps B' ys=some [])(l1:Q0d B=(l.drop i).take(j-i))(l2:Q0d B'=(l.drop i).take(j-i)):B=B':=by
  obtain⟨A0,γ,A1,a1,a2,a3,a4⟩:=h;have j0:∀X,Q1f ps X ys=some []->Q0d X=(l.drop i).take(j-i)->Q1f ps(A0++(X++A1)) [⟨true,0⟩]=some []/\Q0d(A0++(X++A1))=l:=fun X hX lX=>by
    refine⟨?_,?_⟩
    · rw[z1c,a1,Option.bind_some,z1c,z21 X ys [] γ hX];exact a3
    rw[z0o,z0o,a2,lX,a4,← List.append_assoc,← List.take_add,show i+(j-i)=j by omega,List.take_append_drop]
  have e:=hU _ _(j0 B h1 l1).1(j0 B' h2 l2).1(j0 B h1 l1).2(j0 B' h2 l2).2;have e2:=List.append_cancel_left e;exact List.append_cancel_right e2
theorem z4l{p:Int}{B:List St}:Q0d(⟨false,p⟩::B)=Q0d B:=by simp[Q0d]
theorem Ctx.prod{h:Int}{i j p:Nat}{q:Pr}(hc:Ctx ps l [⟨true,h⟩]i j)(hp:ps[p]? = some q)(hh:q.head=h):Ctx ps l q.syms i j:=by
  obtain⟨A0,γ,A1,a1,a2,a3,a4⟩:=hc;subst hh;refine⟨A0++[⟨false,(p:Int)⟩],γ,A1,?_,by rw[z0o,a2,z4l];simp[Q0d],a3,a4⟩;rw[z1c,a1,Option.bind_some,List.singleton_append,z3k hp];rfl
theorem Ctx.first{y:Sy}{ys:List Sy}{i j m:Nat}{B2:List St}(hc:Ctx ps l(y::ys)i j)(hmj:m<=j)(h2:Q1f ps B2 ys=some [])(l2:Q0d B2=(l.drop m).take(j-m)):Ctx ps l [y]i m:=by
  obtain⟨A0,γ,A1,a1,a2,a3,a4⟩:=hc;refine⟨A0,ys++γ,B2++A1,by rw[a1];rfl,a2,?_,?_⟩
  · rw[z1c,z21 B2 ys [] γ h2];exact a3
  rw[z0o,l2,a4];have:l.drop j=(l.drop m).drop(j-m):=by rw[List.drop_drop,show m+(j-m)=j by omega]
  rw[this,List.take_append_drop]
theorem Ctx.rest{y:Sy}{ys:List Sy}{i j m:Nat}{B1:List St}(hc:Ctx ps l(y::ys)i j)(him:i<=m)(h1:Q1f ps B1 [y]=some [])(l1:Q0d B1=(l.drop i).take(m-i)):Ctx ps l ys m j:=by
  obtain⟨A0,γ,A1,a1,a2,a3,a4⟩:=hc;refine⟨A0++B1,γ,A1,?_,?_,a3,a4⟩
  · rw[z1c,a1,Option.bind_some]
    have:=z21 B1 [y] [](ys++γ)h1;exact this
  rw[z0o,a2,l1,← List.take_add,show i+(m-i)=m by omega]
def RcIs(ps:List Pr)(l:List Int)(R H:Nat)(rc:List Sy->Nat->Nat->Bool):Prop:=∀(ys:List Sy)(i j:Nat),Q3f R H ys->i<=l.length->(rc ys i j=true↔Ds ps l ys i j)
theorem v17{R H:Nat}{rc:List Sy->Nat->Nat->Bool}(hrc:RcIs ps l R H rc)(hU:Uni ps l){y:Sy}{ys:List Sy}(hv:Q3f R H(y::ys)){i j m:Nat}{B1 B2:List St}(hc:Ctx ps l(y::ys)i j)(him:i<=m)(hmj:m<=j)(hj:j<=l.length)(h1:Q1f ps B1 [y]=some [])(h2:Q1f ps B2 ys=some [])
    (l1:Q0d B1=(l.drop i).take(m-i))(l2:Q0d B2=(l.drop m).take(j-m)):toF rc y ys i j=m:=by
  have join:∀(t:Nat)(X Y:List St),i<=t->t<=j->Q1f ps X [y]=some []->Q1f ps Y ys=some []->Q0d X=(l.drop i).take(t-i)->Q0d Y=(l.drop t).take(j-t)->Q1f ps(X++Y)(y::ys)=some []/\Q0d(X++Y)=(l.drop i).take(j-i):=fun t X Y ht1 ht2 q1 q2 q3 q4=>by
    refine⟨?_,?_⟩
    · rw[z1c,show y::ys=[y]++ys from rfl,z21 X [y] []ys q1];exact q2
    rw[z0o,q3,q4];have:l.drop t=(l.drop i).drop(t-i):=by rw[List.drop_drop,show i+(t-i)=t by omega]
    rw[this,← List.take_add,show t-i+(j-t)=j-i by omega]
  have j0:∀(t:Nat)(X:List St),i<=t->t<=l.length->Q0d X=(l.drop i).take(t-i)->(Q0d X).length=t-i:=fun t X ht1 ht2 q=>by
    rw[q,List.length_take,List.length_drop];omega
  have j1:Q3f R H [y]:=fun s hs=>hv s(by rw[List.mem_singleton]at hs;subst hs;simp);have j2:Q3f R H ys:=fun s hs=>hv s(by simp[hs]);refine x73 _ m ?_(fun t ht hg=>?_)_ _ him(by omega)
  · rw[Bool.and_eq_true]
    exact⟨(hrc [y]i m j1(by omega)).2⟨him,by omega,B1,h1,l1⟩,(hrc ys m j j2(by omega)).2⟨hmj,hj,B2,h2,l2⟩⟩
  rw[Bool.and_eq_true]at hg;by_cases hi:i<=t
  · obtain⟨g1,g2,X,x1,x2⟩:=(hrc [y]i t j1(by omega)).1 hg.1
    obtain⟨g3,g4,Y,y1,y2⟩:=(hrc ys t j j2(by omega)).1 hg.2;have e:=hc.one hU(by omega)(join t X Y hi(by omega)x1 y1 x2 y2).1(join m B1 B2 him hmj h1 h2 l1 l2).1(join t X Y hi(by omega)x1 y1 x2 y2).2(join m B1 B2 him hmj h1 h2 l1 l2).2;have e2:=z6u X Y B1 B2 [y]e x1 h1;have q1:=j0 t X hi(by omega)x2;have q2:=j0 m B1 him(by omega)l1;rw[e2]at q1;omega
  have:=((hrc [y]i t j1(by omega)).1 hg.1).1;omega
theorem x75{R H:Nat}{rc:List Sy->Nat->Nat->Bool}(hrc:RcIs ps l R H rc)(hU:Uni ps l)(T:Int->Nat->Nat->List Nd):∀(ys:List Sy)(i j:Nat)(B:List St),Q3f R H ys->Ctx ps l ys i j->i<=j->j<=l.length->Q1f ps B ys=some []->Q0d B=(l.drop i).take(j-i) ->
    (∀(y:Sy)(i' j':Nat)(B1:List St),y.isH=true->i<=i'->i'<=j'->j'<=j->B1.length<=B.length->Q1f ps B1 [y]=some []->Q0d B1=(l.drop i').take(j'-i')->Ctx ps l [y]i' j'->T y.num i' j'=Q4j ps B1 i')->rowN rc T ys i j=Q4j ps B i
  | [],i,j,B,_,_,_,_,h,_,_=>by
    rw[z20 h];rfl
  |y::ys,i,j,B,hv,hc,hij,hj,h,hl,hT=>by
    obtain⟨B1,B2,rfl,h1,h2⟩:=z2x ps B [y]ys h;rw[z0o]at hl;obtain⟨c1,c2,c3⟩:=z5m hl hj hij;generalize hm:i+(Q0d B1).length=m at c2 c3;have j1:(Q0d B1).length=m-i:=by omega
    rw[j1]at c1;have j0:i<=m:=by omega
    have j2:=v17 hrc hU hv hc j0 c3 hj h1 h2 c1 c2;rw[x0x ps i h1,j1,show i+(m-i)=m by omega];unfold rowN;rw[j2,x75 hrc hU T ys m j B2(fun s hs=>hv s(by simp[hs]))(hc.rest j0 h1 c1)c3 hj h2 c2(fun y' i' j' X q1 q2 q3 q4 q5 q6 q7 q8=>hT y' i' j' X q1(by omega)q3 q4(by rw[List.length_append];omega)q6 q7 q8)];congr 1;cases hy:y.isH
    · rw[if_pos rfl]
      cases B1 with
      |nil=>simp[Q1f]at h1
      |cons s B3 =>
        cases hs:s.leaf
        · obtain⟨z,k',q,e0,g1,_⟩:=z05 hs h1
          rw[List.cons.injEq]at e0;rw[← e0.1,hy]at g1;cases g1
        obtain⟨z,k',e0,g1,g2,g3⟩:=z08 hs h1;rw[List.cons.injEq]at e0;obtain⟨rfl,rfl⟩:=e0;rw[z20 g3];obtain⟨a,b⟩:=s;dsimp only at hs g2;rw[hs,g2,y5z]
    rw[if_neg(by simp)];exact hT y i m B1 hy(qR _)j0 c3(by rw[List.length_append];omega)h1 c1(hc.first c3 h2 c2)
theorem y51{rc:List Sy->Nat->Nat->Bool}{R H:Nat}(hT:Q1c ps R H)(hH:H<=8)(hrc:RcIs ps l R H rc)(hU:Uni ps l):∀(f:Nat)(h:Int)(i j:Nat)(V:List Int)(B:List St),Q1f ps B [⟨true,h⟩]=some []->i<=j->j<=l.length->Q0d B=(l.drop i).take(j-i)->Ctx ps l [⟨true,h⟩]i j ->
    V.Nodup->(∀v∈V,0<=v/\v<H)->(∀v∈V,∃X,Q1f ps X [⟨true,v⟩]=some []/\Q0d X=(l.drop i).take(j-i)/\Ctx ps l [⟨true,v⟩]i j/\B.length<=X.length)->V.length<=8->(j-i)*8+9<=f+V.length->Q8i ps rc f h i j=Q4j ps B i
  |0,h,i,j,V,B,h1,hij,hj,hl,hc,v1,v2,v3,v4,hf=>by omega
  |f+1,h,i,j,V,B,h1,hij,hj,hl,hc,v1,v2,v3,v4,hf=>by
    cases B with
    |nil=>simp[Q1f]at h1
    |cons s B =>
      cases hs:s.leaf
      · obtain⟨y,k',q,e0,g1,g2,g3,g4,g5⟩:=z05 hs h1
        rw[List.cons.injEq]at e0;obtain⟨rfl,rfl⟩:=e0;rw[List.append_nil]at g5;dsimp only at g4;have j2:=z6q hs g2;have j8:Q0d B=(l.drop i).take(j-i):=by rw[← hl,j2,z4l]
        -- the production that is found
        have j3:(q.head==h&&rc q.syms i j)=true:=by
          rw[Bool.and_eq_true,beq_iff_eq];exact⟨g4,(hrc q.syms i j(hT.sy q(List.mem_of_getElem? g3))(by omega)).2⟨hij,hj,B,g5,j8⟩⟩
        have j6:Q7m ps rc h i j<ps.length:=List.findIdx_lt_length_of_exists⟨q,List.mem_of_getElem? g3,j3⟩;have j7:=List.findIdx_getElem(w:=j6);rw[Bool.and_eq_true,beq_iff_eq]at j7;obtain⟨f1,f2⟩:=j7;obtain⟨_,_,X,x1,x2⟩:=(hrc _ i j(hT.sy _(List.getElem_mem j6))(by omega)).1 f2;have jc:ps[Q7m ps rc h i j]? = some(ps[Q7m ps rc h i j]'hlt):=qE j6;have hX:Q1f ps(⟨false,(Q7m ps rc h i j:Int)⟩::X) [⟨true,h⟩]=some []:=by
          have:=z3k(B:=X)(γ:=[])jc;have e:(ps[Q7m ps rc h i j]'hlt).head=h:=f1;rw[e]at this;rw[this,List.append_nil];exact x1
        have e:=hc.one hU hij hX h1(by rw[z4l];exact x2)hl;rw[List.cons.injEq]at e;have j9:Q7m ps rc h i j=s.num.toNat:=by
          have:=e.1;rw[j2,St.mk.injEq]at this;omega
        have j4:rowN rc(Q8i ps rc f)q.syms i j=Q4j ps B i:=by
         refine x75 hrc hU(Q8i ps rc f)q.syms i j B(hT.sy q(List.mem_of_getElem? g3))(hc.prod g3 g4)hij hj g5 j8(fun y i' j' B1 q1 q2 q3 q4 q5 q6 q7 q8=>?_);obtain⟨yh,yn⟩:=y;dsimp only at q1;subst q1;have j5:0<=yn/\yn<H:=by
           cases B1 with
           |nil=>simp[Q1f]at q6
           |cons z Z =>
             cases hz:z.leaf
             · obtain⟨y',k2,q',e0,w1,w2,w3,w4,w5⟩:=z05 hz q6
               rw[List.cons.injEq]at e0;have:=hT.hd q'(List.mem_of_getElem? w3);rw[← e0.1]at w4;dsimp only at w4;omega
             obtain⟨y',k2,e0,w1,w2,w3⟩:=z08 hz q6;rw[List.cons.injEq]at e0;rw[← e0.1]at w1;cases w1
         have j0:∃X,Q1f ps X [⟨true,yn⟩]=some []/\Q0d X=(l.drop i').take(j'-i')/\Ctx ps l [⟨true,yn⟩]i' j'/\B1.length<=X.length:=⟨B1,q6,q7,q8,qR _⟩;by_cases same:i'=i/\j'=j
         · obtain⟨rfl,rfl⟩:=same
           have j1:yn ∉ V:=fun hm=>by
             obtain⟨X,y1,y2,y3,y4⟩:=v3 yn hm;have e:=y3.one hU hij q6 y1 q7 y2;rw[e]at q5;simp only[List.length_cons]at y4;omega
           have jb:(yn::V).length<=8:=by
             have ja:(yn::V).Nodup:=List.nodup_cons.2⟨j1,v1⟩;refine y89 8 _ ja(fun v hv=>?_);have hb:0<=v/\v<H:=by
               rcases List.mem_cons.1 hv with rfl|hv
               · exact j5
               exact v2 v hv
             omega
           refine y51 hT hH hrc hU f yn i' j'(yn::V)B1 q6 q3 hj q7 q8(List.nodup_cons.2⟨j1,v1⟩)(fun v hv=>?_)(fun v hv=>?_)jb(by rw[List.length_cons];omega)
           · rcases List.mem_cons.1 hv with rfl|hv
             · exact j5
             exact v2 v hv
           rcases List.mem_cons.1 hv with rfl|hv
           · exact j0
           obtain⟨X,y1,y2,y3,y4⟩:=v3 v hv;exact⟨X,y1,y2,y3,by simp only[List.length_cons]at y4;omega⟩
         refine y51 hT hH hrc hU f yn i' j' [yn]B1 q6 q3(by omega)q7 q8(by simp)(fun v hv=>?_)(fun v hv=>?_)(by simp)(by simp only[List.length_singleton];omega)
         · rw[List.mem_singleton]at hv;subst hv;exact j5
         rw[List.mem_singleton]at hv;subst hv;exact j0
        unfold Q8i;rw[j9,g3];dsimp only;rw[j4];have e9:=h1;rw[j2]at e9;rw[j2,y69 ps i e9,x0k];rfl
      obtain⟨y,k',e0,g1,g2,g3⟩:=z08 hs h1;rw[List.cons.injEq]at e0;rw[← e0.1]at g1;cases g1
end
section
variable{ps:List Pr}{R H:Nat}{hs:List Hd}
theorem v0j(h:Tab ps R H hs){k:List Sy}(hk:Q3f R H k){t:Nat}(ht:R<t):(Q57 hs R k).getD t false=false:=by
  rw[z3u h.ok h.hR k hk t];unfold Q6s;have h1:Q30(hN hs)(fun X=>hF hs X t)t k=false:=by
    cases hb:Q30(hN hs)(fun X=>hF hs X t)t k with
    |false=>rfl
    |true =>
      obtain⟨a,s,b,rfl,_,hs1⟩:=z1q hb;cases hx:s.isH
      · rw[hx]at hs1
        simp only[Bool.false_eq_true,if_false,beq_iff_eq]at hs1;have:=hk s(by simp);rw[hx]at this;simp only[Bool.false_eq_true,if_false]at this;omega
      rw[hx]at hs1;simp only[if_true]at hs1;have:=h.g.bF _ _ hs1;omega
  rw[h1,show(t==R)=false by simp;omega];simp
structure GrowIs(ps:List Pr)(R:Nat)(l:List Int)(G:W0f)(n:Nat):Prop where
  le:n<=l.length
  each:∀i(hi:i<l.length),i<n->Vb ps(l.take i)l[i].toNat
  or:(n=l.length/\Ve ps l/\∃A,G=⟨0,[],0,A⟩/\Q1f ps A [⟨true,0⟩]=some []/\Q0d A=l) ∨
    (∃W:List Bool,G=⟨10,Q3e W,n,[]⟩/\(∀t,t<R->(W.getD t false=true↔Vb ps(l.take n)t))/\(W.getD R false=true↔Ve ps(l.take n))/\(∀t,R<t->W.getD t false=false)/\(∀hi:n<l.length,¬Vb ps(l.take n)l[n].toNat)/\(n=l.length->¬Ve ps l))
theorem x6u(h:Tab ps R H hs){l:List Int}(hk:Q0y R l=true):∀(n:Nat),n<=l.length->(∃r,thr ps hs R H(l.take n) [⟨true,0⟩] []=some r)->∀i(hi:i<l.length),i<n->Vb ps(l.take i)l[i].toNat:=by
  intro n hn hr i hi hin;obtain⟨r,hr⟩:=hr;have j0:∀j,Q0y R(l.take j)=true:=fun j=>y02 hk j;obtain⟨r1,hr1⟩:=y12 _ _ _ r hr(i+1);rw[List.take_take,Nat.min_eq_left(by omega),List.take_add_one,qE hi]at hr1;rw[show(some l[i]).toList=[l[i]]from rfl,y70]at hr1;obtain⟨r2,hr2⟩:=y12 _ _ _ r hr i;rw[List.take_take,Nat.min_eq_left(by omega)]at hr2;rw[hr2,Option.bind_some]at hr1;split at hr1
  · rename_i hw
    have hb:0<=l[i]/\l[i]<R:=by
      unfold Q0y at hk;rw[List.all_eq_true]at hk;have:=hk l[i](List.getElem_mem hi);simpa using this
    exact(z90 h(j0 i)hr2(by omega)).1 hw
  cases hr1
theorem v0g(h:Tab ps R H hs){l:List Int}(hk:Q0y R l=true):∃n,GrowIs ps R l(Q6q ps hs R H l 0 [⟨true,0⟩] [])n:=by
  obtain⟨n,r,h1,h2,h3⟩:=y7o(ps:=ps)(hs:=hs)(R:=R)(H:=H)l 0 [⟨true,0⟩] [];have j0:=y02 hk n;refine⟨n,h1,x6u h hk n h1⟨r,h2⟩,?_⟩;obtain⟨A,z1,z2,z3,z4,z5⟩:=z6j h _ _ _ r j0 h.start.1 h.start.2(by simp)h2;rcases h3 with⟨e1,e2,e3⟩|⟨e1,e2,e3,e4,e5,e6⟩
  · have j1:=(y19 h j0 h2).1 e2
    rw[e1,List.take_length]at j1;refine .inl⟨e1,j1,?_⟩;obtain⟨A',a1,a2⟩:=j1;exact⟨A',by rw[z8d h l A' 0 _ []a1 h.start.1 h.start.2(by simp)a2];rfl,a2,a1⟩
  refine .inr⟨Q57 hs R r.1,?_,fun t ht=>z90 h j0 h2 ht,y19 h j0 h2,fun t ht=>v0j h z4 ht,fun hi hv=>?_,fun hn hv=>?_⟩
  · rw[Nat.zero_add]at e2
    generalize Q6q ps hs R H l 0 [⟨true,0⟩] []=G at e1 e2 e3 e4;obtain⟨g1,g2,g3,g4⟩:=G;dsimp only at e1 e2 e3 e4;rw[e1,e2,e3,e4]
  · have hb:0<=l[n]/\l[n]<R:=by
      unfold Q0y at hk;rw[List.all_eq_true]at hk;have:=hk l[n](List.getElem_mem hi);simpa using this
    have:=(z90 h j0 h2(t:=l[n].toNat)(by omega)).2 hv;rw[e5 hi]at this;cases this
  have j2:Ve ps(l.take n):=by rw[hn,List.take_length];exact hv
  have:=(y19 h j0 h2).2 j2;rw[e6 hn]at this;cases this
theorem v14(h:Tab ps R H hs)(l:List Int):Uni ps l:=fun A A' h1 h2 l1 l2=>by
  have e1:=z8d h l A 0 _ []l1 h.start.1 h.start.2(by simp)h1;have e2:=z8d h l A' 0 _ []l2 h.start.1 h.start.2(by simp)h2;rw[e1,W0f.mk.injEq]at e2;have:=e2.2.2.2;simpa using this
end
def Q81(l:List Int)(D:Int->Nat->Nat->Prop)(y:Sy)(i j:Nat):Prop:=if y.isH=true then D y.num i j else l[i]? = some y.num/\j=i+1
def RR(l:List Int)(D:Int->Nat->Nat->Prop):List Sy->Nat->Nat->Prop
  | [],i,j=>i=j
  |y::ys,i,j=>∃m,Q81 l D y i m/\RR l D ys m j
section
variable{ps:List Pr}{l:List Int}{D:Int->Nat->Nat->Prop}
theorem y8t(hD:∀h i j,D h i j->Ds ps l [⟨true,h⟩]i j):∀(ys:List Sy)(i j:Nat),i<=l.length->RR l D ys i j->Ds ps l ys i j
  | [],i,j,hi,h=>by
    cases h;exact⟨qR _,hi,[],rfl,by simp[Q0d]⟩
  |y::ys,i,j,hi,h=>by
    obtain⟨m,h1,h2⟩:=h;have hy:Ds ps l [y]i m:=by
      unfold Q81 at h1;obtain⟨a,b⟩:=y;cases a
      · simp only[Bool.false_eq_true,if_false]at h1
        obtain⟨h3,rfl⟩:=h1;have j0:=(qS h3).1;refine⟨by omega,j0,[⟨true,b⟩],by simp[Q1f],?_⟩;rw[show i+1-i=0+1 by omega,List.take_add_one,List.getElem?_drop,Nat.add_zero,h3];simp[Q0d]
      simp only[if_true]at h1;exact hD b i m h1
    obtain⟨g1,g2,B1,b1,b2⟩:=hy;obtain⟨g3,g4,B2,b3,b4⟩:=y8t hD ys m j g2 h2;refine⟨by omega,g4,B1++B2,?_,?_⟩
    · rw[z1c,show y::ys=[y]++ys from rfl,z21 B1 [y] []ys b1];exact b3
    rw[z0o,b2,b4];have:l.drop m=(l.drop i).drop(m-i):=by rw[List.drop_drop,show i+(m-i)=m by omega]
    rw[this,← List.take_add,show m-i+(j-m)=j-i by omega]
theorem x9g(hc:∀q∈ps,∀i j,i<=l.length->RR l D q.syms i j->D q.head i j):∀(n:Nat)(B:List St)(ys:List Sy)(i j:Nat),B.length<=n->Q1f ps B ys=some []->i<=j->j<=l.length->Q0d B=(l.drop i).take(j-i)->RR l D ys i j:=by
  intro n;induction n with
  |zero =>
    intro B ys i j hn h hij hj hl;have:B=[]:=List.eq_nil_of_length_eq_zero(by omega);subst this;have:ys=[]:=by simpa [Q1f]using h
    subst this;have:=congrArg List.length hl;rw[List.length_take,List.length_drop]at this;simp[Q0d]at this;show i=j;omega
  |succ n ih =>
    intro B ys i j hn h hij hj hl;cases ys with
    |nil =>
      have:=z20 h;subst this;have:=congrArg List.length hl;rw[List.length_take,List.length_drop]at this;simp[Q0d]at this;show i=j;omega
    |cons y ys =>
      cases B with
      |nil=>simp[Q1f]at h
      |cons s B =>
        rw[List.length_cons]at hn;cases hs:s.leaf
        · obtain⟨z,k',q,e0,g1,g2,g3,g4,g5⟩:=z05 hs h
          rw[List.cons.injEq]at e0;obtain⟨rfl,rfl⟩:=e0;obtain⟨B1,B2,rfl,h1,h2⟩:=z2x ps B q.syms ys g5;have j1:=z6q hs g2;rw[j1,z4l,z0o]at hl;obtain⟨c1,c2,c3⟩:=z5m hl hj hij;rw[List.length_append]at hn;generalize hm:i+(Q0d B1).length=m at c2 c3;have j2:(Q0d B1).length=m-i:=by omega
          rw[j2]at c1;have r1:=ih B1 q.syms i m(by omega)h1(by omega)(by omega)c1;have r2:=ih B2 ys m j(by omega)h2 c3 hj c2;refine⟨m,?_,r2⟩;unfold Q81;rw[if_pos g1,← g4];exact hc q(List.mem_of_getElem? g3)i m(by omega)r1
        obtain⟨z,k',e0,g1,g2,g3⟩:=z08 hs h;rw[List.cons.injEq]at e0;obtain⟨rfl,rfl⟩:=e0;have j0:Q0d(s::B)=s.num::Q0d B:=by simp[Q0d,hs]
        rw[j0,show s.num::Q0d B=[s.num]++Q0d B from rfl]at hl;obtain⟨c1,c2,c3⟩:=z5m hl hj hij;rw[List.length_singleton]at c1 c2 c3;refine⟨i+1,?_,ih B ys(i+1)j(by omega)g3 c3 hj c2⟩;unfold Q81;rw[if_neg(by rw[g1];simp),g2];refine⟨?_,rfl⟩;have:=congrArg(fun x=>x[0]?)c1;simp only[List.getElem?_cons_zero]at this;rw[List.getElem?_take,if_pos(by omega),List.getElem?_drop,Nat.add_zero]at this;exact this.symm
end
end Go.Proofs.YtcpceafmlgaodaaGreat
