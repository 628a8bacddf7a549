import Derived.Test.YtcpceafmlgaodaaGreatEa2
namespace Go.Proofs.YtcpceafmlgaodaaGreat
open Go.RowKit
set_option maxRecDepth 100000
set_option maxHeartbeats 16000000
set_option linter.unusedVariables false
set_option linter.unusedSimpArgs false
def Q8t(ps:List Pr)(m:Itm):Option Sy:=(ps[m.p]?).bind fun q=>q.syms[m.d]?
def Q99(ps:List Pr)(l:List Int)(n:Nat)(m:Itm):Prop:=It ps l n m.p m.d m.f
structure Q3a(ps:List Pr)(l:List Int)(n:Nat)(L:List(List Itm)):Prop where
 len:L.length=n+1
 iff:∀(k:Nat)(X:List Itm),L[k]? = some X->∀m:Itm,m∈X↔Q99 ps l k m
structure Q9x(ps:List Pr)(L:List(List Itm))(n:Nat)(X:List Itm):Prop where
 pred:∀(m:Itm)(h:Int)(p':Nat)(q':Pr),m∈X->Q8t ps m=some⟨true,h⟩->ps[p']? = some q'->q'.head=h->⟨p',0,n⟩∈X
 comp:∀(m:Itm)(q:Pr)(m':Itm)(Y:List Itm),m∈X->ps[m.p]? = some q->Q8t ps m=none->L[m.f]? = some Y->m'∈Y->Q8t ps m'=some⟨true,q.head⟩->⟨m'.p,m'.d+1,m'.f⟩∈X
section
variable{ps:List Pr}{l:List Int}
theorem y27{n p d f:Nat}(h:It ps l n p d f):f<=n/\∃q,ps[p]? = some q/\d<=q.syms.length:=by
 obtain⟨q,h1,h2,h3,_⟩:=h;exact⟨h3,q,h1,h2⟩
theorem z3m{m:Itm}{q:Pr}(h:ps[m.p]? = some q):Q8t ps m=q.syms[m.d]? := by unfold Q8t;rw[h];rfl
theorem x8j{n:Nat}{m:Itm}{q:Pr}(h:Q99 ps l n m)(hq:ps[m.p]? = some q):Q8t ps m=none↔m.d=q.syms.length:=by
 rw[z3m hq];obtain⟨_,q',e,hd⟩:=y27 h;rw[hq,Option.some.injEq]at e;subst e;constructor
 ·intro e;have:=List.getElem?_eq_none_iff.1 e;omega
 intro e;exact qN(by omega)
theorem y8p{N:Nat}{L:List(List Itm)}{X:List Itm}(hNl:N<=l.length)(hL:L.length=N)(hx:∀(k:Nat)(Y:List Itm),L[k]? = some Y->∀m:Itm,m∈Y↔Q99 ps l k m)(hs:∀m∈X,Q99 ps l N m)(hF:Q9x ps(L++[X])N X)
  (h0:N=0->∀p q,ps[p]? = some q->q.head=0->⟨p,0,0⟩∈X)
  (h1:∀(n:Nat)(Y:List Itm)(m:Itm)(t:Int),N=n+1->L[n]? = some Y->m∈Y->Q8t ps m=some⟨false,t⟩->l[n]? = some t->⟨m.p,m.d+1,m.f⟩∈X):Q3a ps l N(L++[X]):=by
 have j1:∀k,k<N->∃Y,L[k]? = some Y/\(L++[X])[k]? = some Y:=fun k hk=>by
  have:k<L.length:=by omega
  exact⟨L[k],qE this,by rw[List.getElem?_append_left this,qE this]⟩
 have j0:(L++[X])[N]? = some X:=by rw[List.getElem?_append_right(by omega),hL,Nat.sub_self];rfl
 have j4:Clo ps l N(fun n p d f=>∃Y,(L++[X])[n]? = some Y/\(⟨p,d,f⟩:Itm)∈Y):=by
  have j3:∀n p d f,n<=N->(∃Y,(L++[X])[n]? = some Y/\(⟨p,d,f⟩:Itm)∈Y)->It ps l n p d f:=fun n p d f hn⟨Y,y1,y2⟩=>by
   rcases Nat.lt_or_ge n N with q|q
   ·obtain⟨Z,z1,z2⟩:=j1 n q;rw[y1,Option.some.injEq]at z2;subst z2;exact(hx n Y z1 _).1 y2
   obtain rfl:n=N:=by omega
   rw[j0,Option.some.injEq]at y1;subst y1;exact hs _ y2
  have j2:∀n p d f,n<N->It ps l n p d f->∃Y,(L++[X])[n]? = some Y/\(⟨p,d,f⟩:Itm)∈Y:=fun n p d f hn h=>by
   obtain⟨Z,z1,z2⟩:=j1 n hn;exact⟨Z,z2,(hx n Z z1⟨p,d,f⟩).2 h⟩
  refine⟨fun p q hp hq=>?_,fun n p d f q t hn hS hp hsy ht=>?_,fun n p d f q p' q' hn hS hp hsy hp'=>?_,fun n p f q p' d' f' q' hn hS hp hS' hp' hsy=>?_⟩
  ·rcases Nat.eq_zero_or_pos N with e|e
   ·subst e;exact⟨X,j0,h0 rfl p q hp hq⟩
   exact j2 0 p 0 0 e(x33 hp hq)
  ·rcases Nat.lt_or_ge(n+1)N with q1|q1
   ·exact j2 _ _ _ _ q1(x2h(j3 n p d f(by omega)hS)hp hsy ht)
   obtain⟨Y,y1,y2⟩:=hS;obtain⟨Z,z1,z2⟩:=j1 n hn;rw[y1,Option.some.injEq]at z2;subst z2;have e:n+1=N:=by omega
   rw[e];exact⟨X,j0,h1 n Y⟨p,d,f⟩t e.symm z1 y2(by rw[z3m(m:=⟨p,d,f⟩)hp];exact hsy)ht⟩
  ·rcases Nat.lt_or_ge n N with q1|q1
   ·exact j2 _ _ _ _ q1(x4c(j3 n p d f hn hS)(by omega)hp hsy hp' rfl)
   obtain rfl:n=N:=by omega
   obtain⟨Y,y1,y2⟩:=hS;rw[j0,Option.some.injEq]at y1;subst y1;exact⟨X,j0,hF.pred⟨p,d,f⟩q'.head p' q' y2(by rw[z3m(m:=⟨p,d,f⟩)hp];exact hsy)hp' rfl⟩
  rcases Nat.lt_or_ge n N with q1|q1
  ·have hI:=j3 n p q.syms.length f hn hS;have:=(y27 hI).1;exact j2 _ _ _ _ q1(x3s hI(by omega)hp(j3 f p' d' f'(by omega)hS')hp' hsy)
  obtain rfl:n=N:=by omega
  obtain⟨Y,y1,y2⟩:=hS;rw[j0,Option.some.injEq]at y1;subst y1;obtain⟨Y',w1,w2⟩:=hS';refine⟨X,j0,hF.comp⟨p,q.syms.length,f⟩q⟨p',d',f'⟩Y' y2 hp ?_ w1 w2(by rw[z3m(m:=⟨p',d',f'⟩)hp'];exact hsy)⟩;rw[z3m(m:=⟨p,q.syms.length,f⟩)hp];exact qN(qR _)
 refine⟨by rw[List.length_append,hL];rfl,fun k Y hk m=>?_⟩;have j5:k<=N:=by
  have:=(qS hk).1;rw[List.length_append,List.length_singleton]at this;omega
 constructor
 ·intro hm;rcases Nat.lt_or_ge k N with q|q
  ·obtain⟨Z,z1,z2⟩:=j1 k q;rw[hk,Option.some.injEq]at z2;subst z2;exact(hx k Y z1 m).1 hm
  obtain rfl:k=N:=by omega
  rw[j0,Option.some.injEq]at hk;subst hk;exact hs m hm
 intro hm;obtain⟨Z,z1,z2⟩:=j4.all hNl j5 hm;rw[hk,Option.some.injEq]at z1;subst z1;exact z2
theorem Q3a.next{L:List(List Itm)}{X:List Itm}(h:Q3a ps l l.length L)(hX:L[l.length]? = some X){t:Nat}:(∃m∈X,Q8t ps m=some⟨false,(t:Int)⟩)↔Vb ps l t:=by
 rw[x7z];constructor
 ·rintro⟨m,hm,hs⟩;have hI:=(h.iff _ X hX m).1 hm;obtain⟨_,q,hq,_⟩:=y27 hI;exact⟨m.p,q,m.d,m.f,hI,hq,by rw[← z3m hq];exact hs⟩
 rintro⟨p,q,d,f,hI,hq,hs⟩;exact⟨⟨p,d,f⟩,(h.iff _ X hX⟨p,d,f⟩).2 hI,by rw[z3m(m:=⟨p,d,f⟩)hq];exact hs⟩
theorem Q3a.fin{L:List(List Itm)}{X:List Itm}(h:Q3a ps l l.length L)(hX:L[l.length]? = some X):(∃m∈X,∃q,ps[m.p]? = some q/\Q8t ps m=none/\m.f=0/\q.head=0)↔Ve ps l:=by
 rw[x53];constructor
 ·rintro⟨m,hm,q,hq,hs,hf,hh⟩;have hI:=(h.iff _ X hX m).1 hm;have hd:=(x8j hI hq).1 hs;obtain⟨p,d,f⟩:=m;dsimp only at hf hd hq;subst hf hd;exact⟨p,q,hI,hq,hh⟩
 rintro⟨p,q,hI,hq,hh⟩;refine⟨⟨p,q.syms.length,0⟩,(h.iff _ X hX⟨p,q.syms.length,0⟩).2 hI,q,hq,?_,rfl,hh⟩;rw[z3m(m:=⟨p,q.syms.length,0⟩)hq];exact qN(qR _)
theorem x99{n p d f k:Nat}(hnk:n<=k):It ps(l.take k)n p d f↔It ps l n p d f:=by
 have e1:∀f,f<=n->(l.take k).take f=l.take f:=fun f hf=>by rw[List.take_take,Nat.min_eq_left(by omega)]
 have e2:∀f,f<=n->((l.take k).drop f).take(n-f)=(l.drop f).take(n-f):=fun f hf=>by
  rw[List.drop_take,List.take_take,Nat.min_eq_left(by omega)]
 unfold It;constructor
 ·rintro⟨q,h1,h2,h3,⟨B,b1,b2⟩,A,γ,a1,a2⟩;exact⟨q,h1,h2,h3,⟨B,b1,by rw[← e2 f h3];exact b2⟩,A,γ,a1,by rw[← e1 f h3];exact a2⟩
 rintro⟨q,h1,h2,h3,⟨B,b1,b2⟩,A,γ,a1,a2⟩;exact⟨q,h1,h2,h3,⟨B,b1,by rw[e2 f h3];exact b2⟩,A,γ,a1,by rw[e1 f h3];exact a2⟩
theorem Q3a.take{n k:Nat}{L:List(List Itm)}(h:Q3a ps l n L)(hnk:n<=k):Q3a ps(l.take k)n L:=by
 refine⟨h.len,fun j X hX m=>?_⟩;have hj:j<=n:=by
  have:=(qS hX).1;have:=h.len;omega
 rw[h.iff j X hX m];exact(x99(by omega)).symm
end
theorem x6i{ps:List Pr}{R H:Nat}{hs:List Hd}(h:Tab ps R H hs){l:List Int}(hl:l.length<=60){rc:List Sy->Nat->Nat->Bool}(hrc:RcIs ps l R H rc){A:List St}(h1:Q1f ps A [⟨true,0⟩]=some [])(h2:Q0d A=l):Q8i ps rc 2000 0 0 l.length=Q2d ps A:=by
 have j0:Q0d A=(l.drop 0).take(l.length-0):=by rw[List.drop_zero,Nat.sub_zero,List.take_length];exact h2
 have hc:Ctx ps l [⟨true,0⟩]0 l.length:=⟨[],[],[],rfl,by simp[Q0d],rfl,by simp[Q0d]⟩;have j1:0<H:=h.h0;have:=y51(R:=R)(H:=H)h.g.tab h.hH hrc(v14 h l)2000 0 0 l.length [0]A h1(Nat.zero_le _)(qR _)j0 hc(by simp)(fun v hv=>by
  rw[List.mem_singleton]at hv;subst hv;omega)(fun v hv=>by
  rw[List.mem_singleton]at hv;subst hv;exact⟨A,h1,j0,hc,qR _⟩)(by simp)(by simp only[List.length_singleton];omega)
 rw[this,y6w]
def spJ(base:Int)(l:List Int)(D:List Mat)(c:Int)(frm:List Bool)(n:Nat):Nat->Nat->List Bool->List Bool
 |0,_,out=>out
 |f+1,i,out=>spJ base l D c frm n f(i+1)(if frm.getD i false=true then(if c<base then(if l[i]? = some c then out.set(i+1)true else out)else orI out((D.getD(c-base).toNat []).getD i [])n n)else out)
def spF(base:Int)(l:List Int)(D:List Mat)(c:Int)(frm:List Bool)(n:Nat):List Bool:=spJ base l D c frm n n 0(List.replicate n false)
def spP(base:Int)(l:List Int)(D:List Mat)(c:Int)(i j:Nat):Prop:=if c<base then l[i]? = some c/\j=i+1 else atM(D.getD(c-base).toNat [])i j=true
theorem x76(base:Int)(l:List Int)(D:List Mat)(c:Int)(frm:List Bool)(n:Nat)(hn:n=l.length+1):∀(f i:Nat)(out:List Bool),out.length=n->(spJ base l D c frm n f i out).length=n/\∀j,j<n->((spJ base l D c frm n f i out).getD j false=true↔out.getD j false=true∨∃k,i<=k/\k<i+f/\frm.getD k false=true/\spP base l D c k j)
 |0,i,out,hl=>⟨hl,fun j hj=>⟨.inl,fun h=>by
   rcases h with h|⟨k,h1,h2,_⟩
   ·exact h
   omega⟩⟩
 |f+1,i,out,hl=>by
  unfold spJ;have hl2:(if frm.getD i false=true then(if c<base then(if l[i]? = some c then out.set(i+1)true else out)else orI out((D.getD(c-base).toNat []).getD i [])n n)else out).length=n:=by
   split
   ·split
    ·split
     ·rw[List.length_set];exact hl
     exact hl
    exact z2j _ _ _ _
   exact hl
  obtain⟨r1,r2⟩:=x76 base l D c frm n hn f(i+1)_ hl2;refine⟨r1,fun j hj=>?_⟩;rw[r2 j hj];have j0:((if frm.getD i false=true then(if c<base then(if l[i]? = some c then out.set(i+1)true else out)else orI out((D.getD(c-base).toNat []).getD i [])n n)else out).getD j false=true)↔(out.getD j false=true∨(frm.getD i false=true/\spP base l D c i j)):=by
   unfold spP;by_cases h1:frm.getD i false=true
   ·rw[if_pos h1];by_cases h2:c<base
    ·rw[if_pos h2,if_pos h2];by_cases h3:l[i]? = some c
     ·have j1:=(qS h3).1;rw[if_pos h3,z13 _ _ _ _ _(by omega)];by_cases h4:j=i+1
      ·rw[if_pos h4];exact⟨fun _=>.inr⟨h1,h3,h4⟩,fun _=>rfl⟩
      rw[if_neg h4];exact⟨.inl,fun q=>q.elim id(fun q=>absurd q.2.2 h4)⟩
     rw[if_neg h3];exact⟨.inl,fun q=>q.elim id(fun q=>absurd q.2.1 h3)⟩
    rw[if_neg h2,if_neg h2,z9y hj,Bool.or_eq_true];unfold atM;exact⟨fun q=>q.imp id(fun q=>⟨h1,q⟩),fun q=>q.imp id(fun q=>q.2)⟩
   rw[if_neg h1];exact⟨.inl,fun q=>q.elim id(fun q=>absurd q.1 h1)⟩
  rw[j0];constructor
  ·rintro((h|⟨h1,h2⟩)|⟨k,h1,h2,h3⟩)
   ·exact .inl h
   ·exact .inr⟨i,by omega,by omega,h1,h2⟩
   exact .inr⟨k,by omega,by omega,h3⟩
  rintro(h|⟨k,h1,h2,h3⟩)
  ·exact .inl(.inl h)
  by_cases e:k=i
  ·subst e;exact .inl(.inr h3)
  exact .inr⟨k,by omega,by omega,h3⟩
theorem x8k(base:Int)(l:List Int)(D:List Mat)(c:Int)(frm:List Bool){n:Nat}(hn:n=l.length+1):(spF base l D c frm n).length=n/\∀j,j<n->((spF base l D c frm n).getD j false=true↔∃k,k<n/\frm.getD k false=true/\spP base l D c k j):=by
 obtain⟨r1,r2⟩:=x76 base l D c frm n hn n 0(List.replicate n false)(by simp);refine⟨r1,fun j hj=>?_⟩;unfold spF;rw[r2 j hj];constructor
 ·rintro(h|⟨k,_,h2,h3⟩)
  ·rw[qD]at h;simp[hj]at h
  exact⟨k,by omega,h3⟩
 rintro⟨k,h1,h2⟩;exact .inr⟨k,by omega,by omega,h2⟩
def rhF(base:Int)(l:List Int)(D:List Mat)(n:Nat):List Int->List Bool->List Bool
 | [],s=>s
 |c::cs,s=>rhF base l D n cs(spF base l D c s n)
def rhP(base:Int)(l:List Int)(D:List Mat):List Int->Nat->Nat->Prop
 | [],i,j=>i=j
 |c::cs,i,j=>∃m,spP base l D c i m/\rhP base l D cs m j
def Wide(l:List Int)(D:List Mat):Prop:=∀h i j,atM(D.getD h [])i j=true->j<=l.length
theorem x8z{base:Int}{l:List Int}{D:List Mat}(hD:Wide l D){c:Int}{i j:Nat}(h:spP base l D c i j):j<=l.length:=by
 unfold spP at h;split at h
 ·have:=(qS h.1).1;omega
 exact hD _ _ _ h
theorem x8v(base:Int)(l:List Int)(D:List Mat)(hD:Wide l D){n:Nat}(hn:n=l.length+1):∀(cs:List Int)(s:List Bool),s.length=n->(rhF base l D n cs s).length=n/\∀j,j<n->((rhF base l D n cs s).getD j false=true↔∃i,i<n/\s.getD i false=true/\rhP base l D cs i j)
 | [],s,hs=>⟨hs,fun j hj=>⟨fun h=>⟨j,hj,h,rfl⟩,fun⟨i,h1,h2,h3⟩=>by cases h3;exact h2⟩⟩
 |c::cs,s,hs=>by
  obtain⟨q1,q2⟩:=x8k base l D c s hn;obtain⟨r1,r2⟩:=x8v base l D hD hn cs(spF base l D c s n)q1;refine⟨r1,fun j hj=>?_⟩;unfold rhF;rw[r2 j hj];constructor
  ·rintro⟨m,h1,h2,h3⟩;obtain⟨k,k1,k2,k3⟩:=(q2 m h1).1 h2;exact⟨k,k1,k2,m,k3,h3⟩
  rintro⟨k,k1,k2,m,k3,h3⟩;have hm:m<n:=by have:=x8z hD k3;omega
  exact⟨m,hm,(q2 m hm).2⟨k,k1,k2,k3⟩,h3⟩
def rcF(base:Int)(l:List Int)(D:List Mat)(cs:List Int)(i:Nat):List Bool:=rhF base l D(l.length+1)cs((List.replicate(l.length+1)false).set i true)
theorem x4g(base:Int)(l:List Int)(D:List Mat)(hD:Wide l D)(cs:List Int){i:Nat}(hi:i<=l.length):(rcF base l D cs i).length=l.length+1/\∀j,j<l.length+1->((rcF base l D cs i).getD j false=true↔rhP base l D cs i j):=by
 obtain⟨r1,r2⟩:=x8v base l D hD rfl cs((List.replicate(l.length+1)false).set i true)(by simp);refine⟨r1,fun j hj=>?_⟩;unfold rcF;rw[r2 j hj];constructor
 ·rintro⟨k,k1,k2,k3⟩;rw[z13 _ _ _ _ _(by simp;omega)]at k2;split at k2
  ·rename_i e;subst e;exact k3
  rw[qD]at k2;simp[k1]at k2
 intro h;refine⟨i,by omega,?_,h⟩;rw[z13 _ _ _ _ _(by simp;omega),if_pos rfl]
section
variable{ps:List Pr}{R H:Nat}
theorem x8b{base:Int}{l:List Int}{D:List Mat}(hD:Wide l D):∀(cs:List Int)(i j:Nat),i<=l.length->rhP base l D cs i j->j<=l.length
 | [],i,j,hi,h=>by cases h;exact hi
 |c::cs,i,j,hi,⟨m,h1,h2⟩=>x8b hD cs m j(x8z hD h1)h2
theorem y2e{l:List Int}{D:List Mat}:∀(ys:List Sy),(∀s∈ys,0<=s.num/\s.num<(if s.isH then(H:Int)else R))->∀i j,rhP(bs R)l D(ys.map(Q0v R))i j↔RR l(fun h i j=>atM(D.getD h.toNat [])i j=true)ys i j
 | [],_,i,j=>Iff.rfl
 |y::ys,hv,i,j=>by
  have ih:=y2e(l:=l)(D:=D)ys(fun s hs=>hv s(by simp[hs]));have hy:=hv y(by simp);have j0:∀m,spP(bs R)l D(Q0v R y)i m↔Q81 l(fun h i j=>atM(D.getD h.toNat [])i j=true)y i m:=fun m=>by
   unfold spP Q81 Q0v bs;obtain⟨a,b⟩:=y;cases a
   ·simp only[Bool.false_eq_true,if_false]at hy ⊢;rw[if_pos(by omega)]
   simp only[if_true]at hy ⊢;rw[if_neg(by omega),show(R:Int)+1+b-((R:Int)+1)=b by omega]
  rw[List.map_cons];constructor
  ·rintro⟨m,h1,h2⟩;exact⟨m,(j0 m).1 h1,(ih m j).1 h2⟩
  rintro⟨m,h1,h2⟩;exact⟨m,(j0 m).2 h1,(ih m j).2 h2⟩
def Q5b(ps:List Pr)(l:List Int)(D:List Mat):Prop:=∀(h i j:Nat),atM(D.getD h [])i j=true->Ds ps l [⟨true,(h:Int)⟩]i j
def Q9u(R:Nat)(ps:List Pr)(l:List Int)(D:List Mat):Prop:=∀q∈ps,∀i j,i<=l.length->rhP(bs R)l D(q.syms.map(Q0v R))i j->atM(D.getD q.head.toNat [])i j=true
theorem Q5b.wide{l:List Int}{D:List Mat}(h:Q5b ps l D):Wide l D:=fun k i j e=>(h k i j e).2.1
theorem y77{l:List Int}{D:List Mat}(hT:Q1c ps R H)(hD:Q5b ps l D){ys:List Sy}(hv:Q3f R H ys){i j:Nat}(hi:i<=l.length)(h:rhP(bs R)l D(ys.map(Q0v R))i j):Ds ps l ys i j:=by
 have h2:=(y2e(R:=R)(H:=H)ys hv i j).1 h;have j0:∀(ys:List Sy)(i j:Nat),Q3f R H ys->i<=l.length->RR l(fun h i j=>atM(D.getD h.toNat [])i j=true)ys i j->RR l(fun h i j=>0<=h/\atM(D.getD h.toNat [])i j=true)ys i j:=by
  intro ys;induction ys with
  |nil=>intro i j _ _ q;exact q
  |cons y ys ih =>
   intro i j hv hi⟨m,q1,q2⟩;have hy:=hv y(by simp);have hm:Q81 l(fun h i j=>0<=h/\atM(D.getD h.toNat [])i j=true)y i m/\m<=l.length:=by
    unfold Q81 at q1 ⊢;split at q1
    ·rename_i e;rw[if_pos e];exact⟨⟨hy.1,q1⟩,hD.wide _ _ _ q1⟩
    rename_i e;rw[if_neg e];have:=(qS q1.1).1;exact⟨q1,by omega⟩
   exact⟨m,hm.1,ih m j(fun s hs=>hv s(by simp[hs]))hm.2 q2⟩
 refine y8t(D:=fun h i j=>0<=h/\atM(D.getD h.toNat [])i j=true)(fun h i j⟨q1,q2⟩=>?_)ys i j hi(j0 ys i j hv hi h2);have:=hD h.toNat i j q2;rw[show((h.toNat:Nat):Int)=h by omega]at this;exact this
theorem v2o{l:List Int}{D:List Mat}(hT:Q1c ps R H)(hD:Q5b ps l D)(hc:Q9u R ps l D):RcIs ps l R H(fun ys i j=>(rcF(bs R)l D(ys.map(Q0v R))i).getD j false):=by
 intro ys i j hv hi;obtain⟨r1,r2⟩:=x4g(bs R)l D hD.wide(ys.map(Q0v R))hi;constructor
 ·intro e;have hj:j<l.length+1:=by
   rcases Nat.lt_or_ge j(l.length+1)with q|q
   ·exact q
   dsimp only at e;rw[qD,qN(by omega)]at e;cases e
  exact y77 hT hD hv hi((r2 j hj).1 e)
 rintro⟨h1,h2,B,b1,b2⟩;refine(r2 j(by omega)).2((y2e(R:=R)(H:=H)ys hv i j).2 ?_);refine x9g(ps:=ps)(fun q hq i j hi hr=>?_)B.length B ys i j(qR _)b1 h1 h2 b2;exact hc q hq i j hi((y2e(R:=R)(H:=H)q.syms(hT.sy q hq)i j).2 hr)
end
def RowD(w:World)(n:Nat)(da:Option Addr)(h i:Nat)(r:List Bool):Prop :=
 ∃gd gh ch g,da=some⟨gd,0,none⟩/\w.cell?⟨gd,h,none⟩=some(.slice(some⟨gh,0,none⟩)n ch)/\w.cell?⟨gh,i,none⟩=some(bsl g n)/\Q13 w g r/\r.length=n
theorem RowD.fresh{w w':World}{n:Nat}{da:Option Addr}{h i:Nat}{r:List Bool}(hr:RowD w n da h i r)(hf:Q0a w w'):RowD w' n da h i r:=by
 obtain⟨gd,gh,ch,g,h1,h2,h3,h4,h5⟩:=hr;exact⟨gd,gh,ch,g,h1,Q0j hf h2,Q0j hf h3,h4.fresh hf,h5⟩
structure SpR(w:World)(sb b R H:Nat)(q:List Q1)(ka:Option Addr)(kc:Nat)(l:List Int)(da:Option Addr)(dc:Nat)(D:List Mat):Prop where
 c0:w.cell?⟨sb,0,none⟩=some(.pointer(some⟨b,0,none⟩))
 c1:w.cell?⟨sb,1,none⟩=some(.slice ka l.length kc)
 c2:w.cell?⟨sb,2,none⟩=some(.slice da H dc)
 s:Q35 w b R H q
 k:Q02 w(.slice ka l.length kc)l
 rows:∀h i:Nat,h<H->i<=l.length->RowD w(l.length+1)da h i((D.getD h []).getD i [])
theorem SpR.fresh{w w':World}{sb b R H:Nat}{q:List Q1}{ka:Option Addr}{kc:Nat}{l:List Int}{da:Option Addr}{dc:Nat}{D:List Mat}(h:SpR w sb b R H q ka kc l da dc D)(hf:Q0a w w'):SpR w' sb b R H q ka kc l da dc D :=
 ⟨Q0j hf h.c0,Q0j hf h.c1,Q0j hf h.c2,h.s.fresh hf,h.k.fresh hf,fun a i h1 h2=>(h.rows a i h1 h2).fresh hf⟩
theorem v2k(base:Int)(l:List Int)(D:List Mat)(c:Int)(frm:List Bool)(n i:Nat)(out:List Bool)(h:i<n):spJ base l D c frm n(n-i)i out=spJ base l D c frm n(n-(i+1))(i+1)(if frm.getD i false=true then(if c<base then(if l[i]? = some c then out.set(i+1)true else out)else orI out((D.getD(c-base).toNat []).getD i [])n n)else out):=by
 rw[show n-i=(n-(i+1))+1 by omega];rfl
def BRet(w:World)(n:Nat)(l:List Bool)(e:Ending)(w':World):Prop:=∃g,e=.returned(bsl g n)/\Q13 w' g l/\Q0a w w'
theorem x3r(w:World)(sb b R H:Nat)(q:List Q1)(ka:Option Addr)(kc:Nat)(l:List Int)(da:Option Addr)(dc:Nat)(D:List Mat)(hS:SpR w sb b R H q ka kc l da dc D)(hQ:QOk R H q)(hl:l.length<=60)(gf:Nat)(frm:List Bool)(hB:Q13 w gf frm)(hfl:frm.length=l.length+1)(c:Int)(hc:0<=c/\c<(R:Int)+1+H) :
  Calls Tryz.prog 97#[.pointer(some⟨sb,0,none⟩),.int .i64 c,bsl gf(l.length+1)]w fun e w'=>BRet w(l.length+1)(spF(bs R)l D c frm(l.length+1))e w':=by
 have jg:=hQ.r8;have je:=hQ.h8;obtain⟨a0,c0,a1,c1,a2,c2,v3,v4,sv,hN⟩:=hS.s;have HS:=hid hS;have j6:=hid hN.k0;have HB:=hid hB;have j4:=hid hfl;have HC:=hid hc;have mk:=fun w=>run_make_row'(P:=Tryz.prog)90 4(.bool false)1 Tryz.underlying90(by kernel_rfl)rfl .i64 .i64(l.length+1)(by omega)(by omega)w;have UN:=hid(fun(W:World)(ga gb:Nat)(xs ys:List Bool)(h1:Q13 W ga xs)(h2:Q13 W gb ys)(h3:xs.length=l.length+1)(h4:ys.length=l.length+1)=>z2q W ga gb(l.length+1)xs ys h1 h2 h3 h4(by omega));unfold spF;generalize hV:spJ(bs R)l D c frm(l.length+1)(l.length+1)0(List.replicate(l.length+1)false)=V;have HV:=hid hV;have jf:=hB.lt;generalize hn:l.length+1=n at mk UN HV j4 ⊢;have j5:n=l.length+1:=hn.symm;have j3:=hid j5;have j9:n<=61:=by omega
 clear hS hN hB hfl hc hV hn j5;go_enter Tryz.func97,Tryz.ntmps97
 go_wp2;go_loopw [7,8](fun x7 x8 wr=>∃(i g:Nat)(out:List Bool),x8=.int .i64 i/\x7=bsl g n/\i<=n/\w.heap.size<=g/\Q13 wr g out/\out.length=n/\Q0a w wr/\spJ(bs R)l D c frm n(n-i)i out=V)
   (fun _ x _=>1001-(intOf x).toNat)
 case atStart =>
  refine⟨0,w.heap.size,List.replicate n false,rfl,rfl,by omega,qR _,?_,by simp,(mRf _ w).alloc _,HV.out⟩;rw[z02];exact z0a _ _
 obtain⟨i,g,out,rfl,rfl,hi,hg,hO,hol,hfr,hrec⟩:=hrel;have j2:=hid(Q2a(B:=1001)i(by omega));have HO:=hid hO;have j1:=hid hol;have HF:=hid hfr;clear hO hol mk HV;by_cases hlt:i<n
 ·have s1:(i:Int)<(n:Int):=by omega
  rw[v2k _ _ _ _ _ _ _ _ hlt]at hrec;have f1:=(HB.out.fresh hfr).cell(j:=i)(by rw[j4.out];exact hlt);have hS:=HS.out.fresh hfr;have d0:=hS.c0;have d1:=hS.c1;have d2:=hS.c2;have BA:=hid(z1i wr b R a0 c0(Q0j hfr j6.out)(by omega));generalize frm.getD i false=fb at hrec f1;cases fb
  ·rw[if_neg(by simp)]at hrec;have j0:=hid hrec;clear hrec hS hfr;go_wp2;go_roundw
   case rel=>exact⟨i+1,g,out,by go_num,rfl,by omega,hg,HO.out,j1.out,HF.out,j0.out⟩
   exact j2.out
  rw[if_pos rfl]at hrec;by_cases hcb:c<bs R
  ·rw[if_pos hcb]at hrec;by_cases hil:i<l.length
   ·have s2:(i:Int)<(l.length:Int):=by omega
    obtain⟨ak,ck,ek,hck,cellk⟩:=hS.k;rw[qI]at ek;obtain⟨rfl,_,rfl⟩:=ek;obtain⟨gk,ok,rfl,y1⟩:=cellk i hil;rw[qE hil]at hrec;generalize l[i]=x at hrec y1;by_cases hxc:x=c
    ·subst hxc;rw[if_pos rfl]at hrec;have j0:=hid hrec;have ja:=j3.out;have o1:=HO.out.cell(j:=i+1)(by rw[j1.out];omega);have o2:=HO.out.frozen(i+1);have s3:((i+1:Nat):Int)<(n:Int):=by omega
     have s4:(i:Int)+1<(n:Int):=by omega
     have jb:IntKind.i64.wrap((i:Int)+1)=((i+1:Nat):Int):=by rw[IntKind.wrap_i64];omega
     have HP:=hid(HO.out.put(i+1)true);clear hrec hS cellk ja;go_wp2_with(first
      |(go_at_call 34;refine(BA.out).mono ?_;rintro e w'⟨rfl,hw⟩;rw[hw];clear hw))
     go_roundw
     case rel=>exact⟨i+1,g,_,by go_num,rfl,by omega,hg,HP.out,by simp[j1.out],HF.out.setCell(fun h=>absurd h(by dsimp only;omega))_,j0.out⟩
     exact j2.out
    rw[if_neg(by simp[hxc])]at hrec;have j0:=hid hrec;clear hrec hS cellk;go_wp2_with(first
     |(go_at_call 34;refine(BA.out).mono ?_;rintro e w'⟨rfl,hw⟩;rw[hw];clear hw))
    go_roundw
    case rel=>exact⟨i+1,g,out,by go_num,rfl,by omega,hg,HO.out,j1.out,HF.out,j0.out⟩
    exact j2.out
   have s2:¬(i:Int)<(l.length:Int):=by omega
   rw[qN(by omega),if_neg(by simp)]at hrec;have j0:=hid hrec;clear hrec hS;go_wp2_with(first
    |(go_at_call 34;refine(BA.out).mono ?_;rintro e w'⟨rfl,hw⟩;rw[hw];clear hw))
   go_roundw
   case rel=>exact⟨i+1,g,out,by go_num,rfl,by omega,hg,HO.out,j1.out,HF.out,j0.out⟩
   exact j2.out
  rw[if_neg hcb]at hrec;have j8:=HC.out;obtain⟨j,hj⟩:∃j:Nat,c-bs R=j:=⟨(c-bs R).toNat,by omega⟩;have jd:j<H:=by unfold bs at hj;omega
  rw[hj,Int.toNat_natCast]at hrec;obtain⟨gd,gh,ch,g2,e1,e2,e3,hB2,hl2⟩:=hS.rows j i jd(by have:=j3.out;omega);subst e1;generalize(D.getD j []).getD i []=dr at hrec hB2 hl2;rw[← j3.out]at e2 e3 hl2;have s3:(j:Int)<(H:Int):=by omega
  have jb:IntKind.i64.wrap(c-bs R)=(j:Int):=by rw[IntKind.wrap_i64];unfold bs at hj ⊢;omega
  have j0:=hid hrec;have UX:=hid(fun(W:World)(hW:Q0a wr W)=>UN.out W g g2 out dr(HO.out.fresh hW)(hB2.fresh hW)j1.out hl2);have BQ:=hid(fun(W:World)(hW:Q0a wr W)=>z1i W b R a0 c0(Q0j(HF.out.trans hW)j6.out)(by omega));clear hrec hS hB2 hl2 hj j8;go_upto_region 9 with(first
   |(go_at_call 34;refine(BA.out).mono ?_;rintro e w'⟨rfl,hw⟩;rw[hw];clear hw))
  go_region_with(first
   |(go_at_call 34;refine(BQ.out _(by first|exact(mRf _ wr).drew|exact mRf _ wr)).mono ?_;rintro e w'⟨rfl,hw⟩;rw[hw];clear hw)
   |(go_at_call 70;refine(UX.out _(by first|exact(mRf _ wr).drew|exact mRf _ wr)).mono ?_;rintro e w3⟨rfl,hf3,hB3⟩;have j7:=hid hB3;have jc:=hid(((mRf _ wr).drew).trans hf3);clear hB3 hf3))
  all_goals
   go_wp2;go_roundw
   case rel=>exact⟨i+1,_,_,by go_num,rfl,by omega,HF.out.size,j7.out,z2j _ _ _ _,HF.out.trans jc.out,j0.out⟩
   exact j2.out
 have s1:¬(i:Int)<(n:Int):=by omega
 have hz:n-i=0:=by omega
 rw[hz]at hrec;have j0:=hid hrec;clear hrec hz;go_wp2;go_ret;refine⟨g,rfl,?_,HF.out⟩;have:=j0.out;unfold spJ at this;rw[← this];exact HO.out
theorem x5o(l:List Bool)(i:Nat)(b:Bool):(Q38 l).toArray.setIfInBounds i(.bool b)=(Q38(l.set i b)).toArray:=by simp[Q38,List.map_set]
theorem x6a(base:Int)(l:List Int)(D:List Mat)(n:Nat)(cs:List Int)(k:Nat)(s:List Bool)(h:k<cs.length):rhF base l D n(cs.drop k)s=rhF base l D n(cs.drop(k+1))(spF base l D cs[k]s n):=by
 rw[qC h];rfl
theorem y20(base:Int)(l:List Int)(D:List Mat)(c:Int)(frm:List Bool):(spF base l D c frm(l.length+1)).length=l.length+1:=(x8k base l D c frm rfl).1
theorem z8g(w:World)(sb b R H:Nat)(q:List Q1)(ka:Option Addr)(kc:Nat)(l:List Int)(da:Option Addr)(dc:Nat)(D:List Mat)(hS:SpR w sb b R H q ka kc l da dc D)(hQ:QOk R H q)(hl:l.length<=60)(v:Value)(cs:List Int)(hv:Q02 w v cs)(hcl:cs.length<=1000)(hcs:∀c∈cs,0<=c/\c<(R:Int)+1+H)(i:Nat)(hi:i<=l.length) :
  Calls Tryz.prog 75#[.pointer(some⟨sb,0,none⟩),v,.int .i64 i]w fun e w'=>BRet w(l.length+1)(rcF(bs R)l D cs i)e w':=by
 obtain⟨ao,cap,rfl,hcap,hcell⟩:=hv;have ST:=hid(fun(W:World)(hW:Q0a w W)(gf:Nat)(frm:List Bool)(h1:Q13 W gf frm)(h2:frm.length=l.length+1)(c:Int)(h3:0<=c/\c<(R:Int)+1+H)=>x3r W sb b R H q ka kc l da dc D(hS.fresh hW)hQ hl gf frm h1 h2 c h3);have HC:=hid hcell;have j4:=hid hcs;have d1:=hS.c1;have mk:=fun w=>run_make_row'(P:=Tryz.prog)90 4(.bool false)1 Tryz.underlying90(by kernel_rfl)rfl .i64 .i64(l.length+1)(by omega)(by omega)w;have SL:=hid(fun c s=>y20(bs R)l D c s);unfold rcF;generalize hV:rhF(bs R)l D(l.length+1)cs((List.replicate(l.length+1)false).set i true)=V;have HV:=hid hV;have j7:IntKind.i64.wrap((l.length:Int)+1)=((l.length+1:Nat):Int):=by rw[IntKind.wrap_i64];omega
 have j1:Q13(w.alloc(.cells(madeCells#[.bool false](l.length+1))4))w.heap.size(List.replicate(l.length+1)false):=by rw[z02];exact z0a _ _
 have b1:=j1.cell(j:=i)(by simp;omega);have b2:=j1.frozen i;generalize hn:l.length+1=n at mk ST SL HV j7 b1 b2 ⊢;have s0:(i:Int)<(n:Int):=by omega
 have j5:n<=61:=by omega
 clear hcell hcs hV hS hQ j1 hn;go_enter Tryz.func75,Tryz.ntmps75
 go_wp2;go_loopw [7,8](fun x7 x8 wr=>∃(k g:Nat)(s:List Bool),x8=.int .i64 k/\x7=bsl g n/\k<=cs.length/\Q13 wr g s/\s.length=n/\Q0a w wr/\rhF(bs R)l D n(cs.drop k)s=V)
   (fun _ x _=>1001-(intOf x).toNat)
 case atStart=>exact⟨0,w.heap.size,_,rfl,rfl,by omega,by rw[z02,x5o];exact z0a _ _,by simp,(mRf _ w).alloc _,HV.out⟩
 obtain⟨k,g,s,rfl,rfl,hk,hB,hsl,hfr,hrec⟩:=hrel;have jb:=hid(Q2a(B:=1001)k(by omega));have HB:=hid hB;have HF:=hid hfr;have j6:=hid hsl;clear hB hsl mk HV b1 b2;by_cases hlt:k<cs.length
 ·have s1:(k:Int)<(cs.length:Int):=by omega
  rw[x6a _ _ _ _ _ _ _ hlt]at hrec;obtain⟨g1,o1,rfl,y1⟩:=HC.out k hlt;have y2:=Q0j hfr y1;have j2:=j4.out cs[k](List.getElem_mem hlt);generalize cs[k]=c at hrec y1 y2 j2;have j0:=hid hrec;have ja:=hid(ST.out wr hfr g s HB.out j6.out c j2);have j8:=hid(SL.out c s);clear hrec y1;go_wp2_with(first
   |(go_at_call 97;refine(ja.out).mono ?_;rintro e w3⟨g3,rfl,hB3,hf3⟩;have j3:=hid hB3;have j9:=hid hf3;clear hB3 hf3))
  go_roundw
  case rel=>exact⟨k+1,g3,_,by go_num,rfl,by omega,j3.out,j8.out,HF.out.trans j9.out,j0.out⟩
  exact jb.out
 have s1:¬(k:Int)<(cs.length:Int):=by omega
 rw[List.drop_eq_nil_of_le(by omega)]at hrec;have j0:=hid hrec;clear hrec;go_wp2;go_ret;refine⟨g,rfl,?_,HF.out⟩;have:=j0.out;unfold rhF at this;rw[← this];exact HB.out
end Go.Proofs.YtcpceafmlgaodaaGreat
