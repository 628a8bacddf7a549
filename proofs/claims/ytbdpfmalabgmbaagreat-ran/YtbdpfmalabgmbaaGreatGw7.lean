import Derived.Test.YtbdpfmalabgmbaaGreatTwd
namespace Go.Proofs.YtbdpfmalabgmbaaGreat
open Go.RowKit
set_option linter.all false
theorem z26{ps:List Pr}:∀(A:List St) (ys r k:List Sy),Q1i ps A ys=some r->Q1i ps A (ys++k)=some (r++k)
  | [],ys,r,k,h=>by cases h;rfl
  |s::A,ys,r,k,h=>by
    cases hs:s.leaf
    · obtain⟨y,k',p,rfl,h1,h2,h3,h4,h5⟩:=z05 hs h
      have:=z26 A _ _ k h5;simp only[qBh,Q1i,hs,qF,qAz];rw[qAb ⟨h1,h2⟩,h3];simp only[];rw[qAb h4,← qAs];exact this
    obtain⟨y,k',rfl,h1,h2,h3⟩:=z09 hs h;simp only[qBh,Q1i,hs,qBn];rw[qAb ⟨h1,h2⟩];exact z26 A _ _ k h3
theorem y5s{ps:List Pr}{A T:List St}{ys:List Sy}{y:Sy}(h1:Q1i ps A ys=some [])(h2:Q1i ps T [y]=some []):Q1i ps (A++T) (ys++[y])=some []:=by
  rw[z1g,z26 A ys [] [y] h1];exact h2
attribute [local go_sem ↓] z17
section
variable {ps:List Pr}{R H:Nat}{hs:List Hd}
theorem y7r(h:Tab ps R H hs):∀(l:List Int) (A:List St) (k β:List Sy) (st:List St),Q0d A=l->Q4z (hN hs) (hF hs) (hO hs) R k->Q3d R H k->(∀s∈st,0<=s.num/\s.num<=127)->Q1i ps A k=some β ->
    ∃k' st' C,thr ps hs R H l k st=some (k',st')/\(∀x∈C,x.leaf=false)/\Q1i ps C k'=some β/\Q4z (hN hs) (hF hs) (hO hs) R k'/\Q3d R H k'
  | [],A,k,β,st,hl,h1,h2,h3,hru=>⟨k,st,A,rfl,y1i hl,hru,h1,h2⟩
  |t::l,A,k,β,st,hl,h1,h2,h3,hru=>by
    obtain⟨B,C,rfl,hB,hC⟩:=z4o hl;have j0:=y9g h.g.tab _ _ _ h2 hru ⟨true,t⟩ (by simp);obtain⟨n,rfl⟩:∃n:Nat,t=n:=⟨t.toNat,by have:=j0.1;dsimp only at this;omega⟩;have j1:n<=R:=by have:=j0.2.1 rfl;dsimp only at this;omega
    have j2:Q6u (hN hs) (hF hs) R k n=true:=by unfold Q6u;rw[h.g.runFirst B k _ hB hru];rfl
    have hw:(Q57 hs R k).getD n false=true:=by rw[z30 h.ok h.hR k h2 n];exact j2
    obtain⟨s1,_,_,s4,s5,s6,_⟩:=h.step j1 h1 h2 h3 hw;rw[z3a (R:=R) (H:=H) (t:=n) (ch:=chL (Q6d (ps.zip (Q0r hs ps)) 72)) (ch':=chF hs ps) (fun X x0 x1=>z8u x0 (by have:=h.hH;omega) (by have:=h.hR;omega)) (fun p hp=>(h.syms p hp).2) _ _ _ h2]at s1;obtain⟨f,k',e1,e⟩:=h.g.runTo j1 B k β st h1 hB hru;have m1:=z19 _ _ _ _ s1 (max f (Q2y H k.length)) (by omega);have m2:=z19 _ _ _ _ e (max f (Q2y H k.length)) (by omega);rw[m1,qO]at m2;rw[m2]at s4 s5 s6;unfold thr;rw[qAo,qAb hw,m2];exact y7r h l C k' β _ hC s4 s5 s6 e1
theorem z6u(h:Tab ps R H hs):∀(l:List Int) (k:List Sy) (st:List St) (r:List Sy × List St),Q1z R l=true->Q4z (hN hs) (hF hs) (hO hs) R k->Q3d R H k->(∀s∈st,0<=s.num/\s.num<=127)->thr ps hs R H l k st=some r ->
    ∃A,Q0d A=l/\Q1i ps A k=some r.1/\Q4z (hN hs) (hF hs) (hO hs) R r.1/\Q3d R H r.1/\∀s∈r.2,0<=s.num/\s.num<=127
  | [],k,st,r,_,h1,h2,h3,hr=>by
    cases hr;exact⟨[],rfl,rfl,h1,h2,h3⟩
  |t::l,k,st,r,h4,h1,h2,h3,hr=>by
    have h5:(0<=t/\t<R)/\Q1z R l=true:=by
      unfold Q1z at h4 ⊢;simpa using h4
    unfold thr at hr;split at hr
    · rename_i hw
      have j1:t.toNat<=R:=by omega
      obtain⟨s1,_,_,s4,s5,s6,_⟩:=h.step j1 h1 h2 h3 hw;have j0:=s1;rw[z3a (R:=R) (H:=H) (t:=t.toNat) (ch:=chL (Q6d (ps.zip (Q0r hs ps)) 72)) (ch':=chF hs ps) (fun X x0 x1=>z8u x0 (by have:=h.hH;omega) (by have:=h.hR;omega)) (fun p hp=>(h.syms p hp).2) _ _ _ h2]at j0;have j2:=hw;rw[z30 h.ok h.hR k h2]at j2;obtain⟨ns,e1,e2⟩:=h.g.leaf j1 k h1 h2 j2 st j0;obtain⟨j3,e3,e4⟩:=y2h (t:=t.toNat) (fun X hX=>by obtain⟨p,q1,q2,_⟩:=h.g.chr X t.toNat hX;exact⟨p,q1,q2⟩) _ _ _ _ j0;have en:j3=ns:=by rw[e1]at e3;exact(qFt e3).symm
      subst en;rcases e2 with⟨_,q1⟩|⟨q,_⟩
      · obtain⟨A,z1,z2,z3⟩:=z6u h l _ _ r h5.2 s4 s5 s6 hr
        refine⟨j3++A,by rw[z0o,q1,z1,show((t.toNat:Nat):Int)=t by omega];rfl,?_,z3⟩;rw[z1g,e4];exact z2
      omega
    cases hr
def Vb(ps:List Pr)(l:List Int)(t:Nat):Prop:=∃A β,Q0d A=l/\Q1i ps A [⟨true,0⟩]=some (⟨false,t⟩::β)
def Ve(ps:List Pr)(l:List Int):Prop:=∃A,Q0d A=l/\Q1i ps A [⟨true,0⟩]=some []
theorem y0n(h:Tab ps R H hs){l:List Int}(hk:Q1z R l=true){r:List Sy × List St}(hr:thr ps hs R H l [⟨true,0⟩] []=some r){t:Nat}(ht:t<R):(Q57 hs R r.1).getD t false=true↔Vb ps l t:=by
  obtain⟨A,z1,z2,z3,z4,z5⟩:=z6u h l _ _ r hk h.start.1 h.start.2 (by simp) hr;rw[z30 h.ok h.hR r.1 z4 t];constructor
  · intro hw
    have j2:(Q57 hs R r.1).getD t false=true:=by rw[z30 h.ok h.hR r.1 z4 t];exact hw
    obtain⟨s1,_⟩:=h.step (by omega:t<=R) z3 z4 z5 j2;have j0:=s1;rw[z3a (R:=R) (H:=H) (t:=t) (ch:=chL (Q6d (ps.zip (Q0r hs ps)) 72)) (ch':=chF hs ps) (fun X x0 x1=>z8u x0 (by have:=h.hH;omega) (by have:=h.hR;omega)) (fun p hp=>(h.syms p hp).2) _ _ _ z4]at j0;obtain⟨ns,e1,e2⟩:=h.g.leaf (by omega) r.1 z3 z4 hw r.2 j0;obtain⟨j3,e3,e4⟩:=y2h (t:=t) (fun X hX=>by obtain⟨p,q1,q2,_⟩:=h.g.chr X t hX;exact⟨p,q1,q2⟩) _ _ _ _ j0;have en:j3=ns:=by rw[e1]at e3;exact(qFt e3).symm
    subst en;rcases e2 with⟨_,q1⟩|⟨q,_⟩
    · obtain⟨B,C,rfl,hB,hC⟩:=z4o q1
      rw[z1g]at e4;cases hb:Q1i ps B r.1 with
      |none=>rw[hb]at e4;cases e4
      |some β =>
        rw[hb,qDn]at e4;obtain⟨y,k',rfl,y1,y2,_⟩:=z09 rfl e4;refine⟨A++B,k',by rw[z0o,z1,z3d hB,qBd],?_⟩;rw[z1g,z2,qDn,hb];obtain⟨yh,yn⟩:=y;dsimp only at y1 y2;rw[y1,y2]
    omega
  rintro⟨A',β,q1,q2⟩;obtain⟨k',j4,C,e1,e2,e3,e4,e5⟩:=y7r h l A' [⟨true,0⟩] _ [] q1 h.start.1 h.start.2 (by simp) q2;rw[hr,qO]at e1;have j1:r.1=k':=by rw[e1]
  rw[j1];have:Q1i ps (C++⟨true,(t:Int)⟩::[]) k'=some β:=by
    rw[z1g,e3,qDn];simp[Q1i]
  unfold Q6u;rw[h.g.runFirst C k' _ e2 this];rfl
theorem y3k(h:Tab ps R H hs){l:List Int}(hk:Q1z R l=true){r:List Sy × List St}(hr:thr ps hs R H l [⟨true,0⟩] []=some r):(Q57 hs R r.1).getD R false=true↔Ve ps l:=by
  obtain⟨A,z1,z2,z3,z4,z5⟩:=z6u h l _ _ r hk h.start.1 h.start.2 (by simp) hr;rw[z30 h.ok h.hR r.1 z4 R];constructor
  · intro hw
    have j3:(Q57 hs R r.1).getD R false=true:=by rw[z30 h.ok h.hR r.1 z4 R];exact hw
    obtain⟨s1,_⟩:=h.step (qR R) z3 z4 z5 j3;have j0:=s1;rw[z3a (R:=R) (H:=H) (t:=R) (ch:=chL (Q6d (ps.zip (Q0r hs ps)) 72)) (ch':=chF hs ps) (fun X x0 x1=>z8u x0 (by have:=h.hH;omega) (by have:=h.hR;omega)) (fun p hp=>(h.syms p hp).2) _ _ _ z4]at j0;obtain⟨ns,e1,e2⟩:=h.g.leaf (qR _) r.1 z3 z4 hw r.2 j0;obtain⟨j1,e3,e4⟩:=y2h (t:=R) (fun X hX=>by obtain⟨p,q1,q2,_⟩:=h.g.chr X R hX;exact⟨p,q1,q2⟩) _ _ _ _ j0;have en:j1=ns:=by rw[e1]at e3;exact(qFt e3).symm
    subst en;rcases e2 with⟨q,_⟩|⟨_,q1,q2⟩
    · omega
    refine⟨A++j1,by rw[z0o,z1,q1,qBd],?_⟩;rw[z1g,z2,qDn,e4,q2]
  rintro⟨A',q1,q2⟩;obtain⟨k',j4,C,e1,e2,e3,e4,e5⟩:=y7r h l A' [⟨true,0⟩] _ [] q1 h.start.1 h.start.2 (by simp) q2;rw[hr,qO]at e1;have j2:r.1=k':=by rw[e1]
  rw[j2];unfold Q6u;rw[h.g.runNull C k' e2 e3];simp
theorem y9q:∀(l:List Int) (k:List Sy) (st:List St) (t:Int),thr ps hs R H (l++[t]) k st=(thr ps hs R H l k st).bind (fun r=>if(Q57 hs R r.1).getD t.toNat false=true then some (Q7w ps hs H t.toNat r.1 r.2) else none)
  | [],k,st,t=>by
    rw[qCh,thr];simp only[thr,qDn]
  |x::l,k,st,t=>by
    rw[qBh,thr,thr];split
    · exact y9q l _ _ t
    rfl
end
theorem z5h{X Y l:List Int}{f n:Nat}(h:X++Y=(l.drop f).take (n-f))(hn:n<=l.length)(hf:f<=n):X=(l.drop f).take X.length/\Y=(l.drop (f+X.length)).take (n-(f+X.length))/\f+X.length<=n:=by
  have hl:X.length+Y.length=n-f:=by
    have:=qEn List.length h;rw[qP,qCo,qCt]at this;omega
  refine⟨?_,?_,by omega⟩
  · have e:(X++Y).take X.length=X:=List.take_left
    rw[h,List.take_take,qFe (by omega)]at e;exact e.symm
  have e:(X++Y).drop X.length=Y:=List.drop_left;rw[h,List.drop_take,List.drop_drop]at e;rw[← e,show n-(f+X.length)=n-f-X.length by omega]
theorem z6n{s:St}(hs:s.leaf=false)(h:0<=s.num):s=⟨false,(s.num.toNat:Int)⟩:=by
  obtain⟨a,b⟩:=s;dsimp only at hs h ⊢;rw[hs];congr 1;omega
section
variable {ps:List Pr}
theorem spine:∀(A:List St) (k:List Sy) (Y:Sy) (γ:List Sy),Q1i ps A k=some (Y::γ) ->
    (∃a,k=a++Y::γ/\Q1i ps A a=some []) ∨
    (∃(p:Nat) (q:Pr) (d:Nat) (A' B':List St) (γ':List Sy),ps[p]? = some q/\q.syms[d]? = some Y/\γ=q.syms.drop (d+1)++γ'/\A=A'++⟨false,(p:Int)⟩::B'/\Q1i ps A' k=some (⟨true,q.head⟩::γ')/\Q1i ps B' (q.syms.take d)=some [])
  | [],k,Y,γ,h=>by
    cases h;exact .inl ⟨[],rfl,rfl⟩
  |s::A,k,Y,γ,h=>by
    cases hs:s.leaf
    · obtain⟨y,k',q,rfl,h1,h2,h3,h4,h5⟩:=z05 hs h
      have j0:=z6n hs h2;have hy:y=⟨true,q.head⟩:=by
        obtain⟨a,b⟩:=y;dsimp only at h1 h4;rw[h1,h4]
      have step:∀z,Q1i ps (s::A) (y::z)=Q1i ps A (q.syms++z):=fun z=>by
        simp only[Q1i,hs,qF,qAz];rw[qAb ⟨h1,h2⟩,h3];simp only[];rw[qAb h4]
      rcases spine A (q.syms++k') Y γ h5 with⟨a,e,hr⟩|⟨p2,q2,d2,A',B',γ',e1,e2,e3,e4,e5,e6⟩
      · rcases List.append_eq_append_iff.1 e with⟨a2,e1,e2⟩|⟨b,e1,e2⟩
        · subst e1
          exact .inl ⟨y::a2,by rw[e2];rfl,by rw[step];exact hr⟩
        cases b with
        |nil =>
          rw[qBd]at e1;rw[qCh]at e2;exact .inl ⟨[y],by rw[← e2];rfl,by rw[step,qBd,e1];exact hr⟩
        |cons z b =>
          rw[qBh,qBe]at e2;obtain⟨rfl,e2⟩:=e2;refine .inr ⟨s.num.toNat,q,a.length,[],A,k',h3,by rw[e1];simp,?_,by rw[qCh,← j0],by rw[← hy];rfl,?_⟩
          · rw[e1,e2];simp
          rw[e1,List.take_left];exact hr
      refine .inr ⟨p2,q2,d2,s::A',B',γ',e1,e2,e3,by rw[e4];rfl,?_,e6⟩;have:Q1i ps (s::A') (y::k')=Q1i ps A' (q.syms++k'):=by
        simp only[Q1i,hs,qF,qAz];rw[qAb ⟨h1,h2⟩,h3];simp only[];rw[qAb h4]
      rw[this];exact e5
    obtain⟨y,k',rfl,h1,h2,h3⟩:=z09 hs h;have step:∀(A:List St) z,Q1i ps (s::A) (y::z)=Q1i ps A z:=fun A z=>by
      simp only[Q1i,hs,qBn];rw[qAb ⟨h1,h2⟩]
    rcases spine A k' Y γ h3 with⟨a,e,hr⟩|⟨p2,q2,d2,A',B',γ',e1,e2,e3,e4,e5,e6⟩
    · exact .inl ⟨y::a,by rw[e];rfl,by rw[step];exact hr⟩
    exact .inr ⟨p2,q2,d2,s::A',B',γ',e1,e2,e3,by rw[e4];rfl,by rw[step];exact e5,e6⟩
def It(ps:List Pr)(l:List Int)(n p d f:Nat):Prop :=
  ∃q,ps[p]? = some q/\d<=q.syms.length/\f<=n/\(∃B,Q1i ps B (q.syms.take d)=some []/\Q0d B=(l.drop f).take (n-f))/\(∃A γ,Q1i ps A [⟨true,0⟩]=some (⟨true,q.head⟩::γ)/\Q0d A=l.take f)
theorem z3p{p:Nat}{q:Pr}{B:List St}{γ:List Sy}(hp:ps[p]? = some q):Q1i ps (⟨false,(p:Int)⟩::B) (⟨true,q.head⟩::γ)=Q1i ps B (q.syms++γ):=by
  simp only[Q1i,qF,qAz];rw[qAb ⟨trivial,by omega⟩,qAo,hp];simp
theorem It.at'{l:List Int}{n p d f:Nat}(h:It ps l n p d f)(hn:n<=l.length):∃q A γ,ps[p]? = some q/\Q0d A=l.take n/\Q1i ps A [⟨true,0⟩]=some (q.syms.drop d++γ):=by
  obtain⟨q,hp,hd,hf,⟨B,b1,b2⟩,A,γ,a1,a2⟩:=h;refine⟨q,A++⟨false,(p:Int)⟩::B,γ,hp,?_,?_⟩
  · rw[z0o,a2]
    have:Q0d (⟨false,(p:Int)⟩::B)=Q0d B:=by simp[Q0d]
    rw[this,b2,← qFv,show f+(n-f)=n by omega]
  rw[z1g,a1,qDn,z3p hp];have:=z26 B _ _ (q.syms.drop d++γ) b1;rw[← qAs,qFb,qCh]at this;exact this
theorem x3f{l:List Int}{p:Nat}{q:Pr}(hp:ps[p]? = some q)(hh:q.head=0):It ps l 0 p 0 0 :=
  ⟨q,hp,qBq _,qR _,⟨[],rfl,by simp[Q0d]⟩,[],[],by rw[hh];rfl,by simp[Q0d]⟩
theorem y0i{q:Pr}{d:Nat}{Y:Sy}(h:q.syms[d]? = some Y):q.syms.take (d+1)=q.syms.take d++[Y]:=by
  rw[qCu,h];rfl
theorem x3h{l:List Int}{n p d f:Nat}{q:Pr}{t:Int}(h:It ps l n p d f)(hp:ps[p]? = some q)(hs:q.syms[d]? = some ⟨false,t⟩)(ht:l[n]? = some t):It ps l (n+1) p (d+1) f:=by
  obtain⟨q',j0,hd,hf,⟨B,b1,b2⟩,c⟩:=h;rw[hp,qO]at j0;subst j0;have j1:=(qS hs).1;refine⟨q,hp,j1,by omega,⟨B++[⟨true,t⟩],?_,?_⟩,c⟩
  · rw[y0i hs]
    refine y5s b1 ?_;simp[Q1i]
  rw[z0o,b2,show n+1-f=(n-f)+1 by omega,qCu,qDx,show f+(n-f)=n by omega,ht];rfl
theorem x3g{l:List Int}{n p d f p':Nat}{q q':Pr}{X:Int}(h:It ps l n p d f)(hn:n<=l.length)(hp:ps[p]? = some q)(hs:q.syms[d]? = some ⟨true,X⟩)(hp':ps[p']? = some q')(hh:q'.head=X):It ps l n p' 0 n:=by
  obtain⟨q2,A,γ,e1,e2,e3⟩:=h.at' hn;rw[hp,qO]at e1;subst e1;obtain⟨j0,j1⟩:=qS hs;refine⟨q',hp',qBq _,qR _,⟨[],by simp[Q1i],by simp[Q0d]⟩,A,q.syms.drop (d+1)++γ,?_,e2⟩;rw[e3,qC j0,j1,hh];rfl
theorem x3e{l:List Int}{n p f p' d' f':Nat}{q q':Pr}(h:It ps l n p q.syms.length f)(hn:n<=l.length)(hp:ps[p]? = some q)(h':It ps l f p' d' f')(hp':ps[p']? = some q')(hs:q'.syms[d']? = some ⟨true,q.head⟩):It ps l n p' (d'+1) f':=by
  obtain⟨q2,e1,_,hf,⟨B,b1,b2⟩,_⟩:=h;rw[hp,qO]at e1;subst e1;obtain⟨q3,e1,j1,j2,⟨B',b3,b4⟩,c⟩:=h';rw[hp',qO]at e1;subst e1;have j0:=(qS hs).1;refine⟨q',hp',j0,by omega,⟨B'++⟨false,(p:Int)⟩::B,?_,?_⟩,c⟩
  · rw[y0i hs]
    refine y5s b3 ?_;rw[z3p hp,qBd];rw[qAw]at b1;exact b1
  have:Q0d (⟨false,(p:Int)⟩::B)=Q0d B:=by simp[Q0d]
  rw[z0o,this,b4,b2];have e:l.drop f=(l.drop f').drop (f-f'):=by rw[List.drop_drop,show f'+(f-f')=f by omega]
  rw[e,← qFv,show f-f'+(n-f)=n-f' by omega]
structure Clo(ps:List Pr)(l:List Int)(N:Nat)(S:Nat->Nat->Nat->Nat->Prop):Prop where
  init:∀p q,ps[p]? = some q->q.head=0->S 0 p 0 0
  scan:∀n p d f q t,n<N->S n p d f->ps[p]? = some q->q.syms[d]? = some ⟨false,t⟩->l[n]? = some t->S (n+1) p (d+1) f
  pred:∀n p d f q p' q',n<=N->S n p d f->ps[p]? = some q->q.syms[d]? = some ⟨true,q'.head⟩->ps[p']? = some q'->S n p' 0 n
  comp:∀n p f q p' d' f' q',n<=N->S n p q.syms.length f->ps[p]? = some q->S f p' d' f'->ps[p']? = some q'->q'.syms[d']? = some ⟨true,q.head⟩->S n p' (d'+1) f'
theorem x3d{l:List Int}{N:Nat}{S:Nat->Nat->Nat->Nat->Prop}(h:Clo ps l N S)(hNl:N<=l.length):∀(T b n p d f:Nat) (q:Pr) (A B:List St) (γ:List Sy),n<=N->ps[p]? = some q->d<=q.syms.length->f<=n->Q1i ps B (q.syms.take d)=some []->Q0d B=(l.drop f).take (n-f) ->
    Q1i ps A [⟨true,0⟩]=some (⟨true,q.head⟩::γ)->Q0d A=l.take f->A.length+B.length=T->B.length=b->S n p d f:=by
  intro T;induction T using Nat.strongRecOn with
  |_ T ihT =>
    intro b;induction b using Nat.strongRecOn with
    |_ b ihb =>
      intro n p d f q A B γ j1 hp hd hf hB j3 hA j0 hT hb;cases d with
      |zero =>
        rw[List.take_zero]at hB;have j9:=z27 hB;subst j9;have jd:f=n:=by
          have:=qEn List.length j3;rw[qCo,qCt]at this;simp[Q0d]at this;omega
        subst jd;by_cases j4:A=[]
        · subst j4
          have e:([⟨true,0⟩]:List Sy)=⟨true,q.head⟩::γ:=by simpa [Q1i]using hA
          rw[qBe,Sy.mk.injEq]at e;have jc:f=0:=by
            have:=qEn List.length j0;rw[qCo]at this;simp[Q0d]at this;omega
          subst jc;exact h.init p q hp e.1.2.symm
        rcases spine A [⟨true,0⟩] ⟨true,q.head⟩ γ hA with⟨a,e,hr⟩|⟨p2,q2,d2,A',B',γ',e1,e2,e3,e4,e5,e6⟩
        · cases a with
          |nil=>exact absurd (z27 hr) j4
          |cons z a=>simp at e
        have je:Q0d A'++Q0d B'=(l.drop 0).take (f-0):=by
          rw[qEc,Nat.sub_zero,← j0,e4,z0o];congr 1
        obtain⟨c1,c2,c3⟩:=z5h je (by omega) (by omega);rw[qEc]at c1;rw[qBy]at c2 c3;have jg:A.length=A'.length+(B'.length+1):=by rw[e4];simp
        have jm:=(qS e2).1;have hS:=ihT (A'.length+B'.length) (by simp at hT;omega) B'.length f p2 d2 (Q0d A').length q2 A' B' γ' j1 e1 (by omega) c3 e6 c2 e5 c1 rfl rfl;exact h.pred f p2 d2 _ q2 p q j1 hS e1 e2 hp
      |succ d =>
        have j7:d<q.syms.length:=hd;have hY:q.syms[d]? = some q.syms[d]:=qE j7;rw[y0i hY]at hB;obtain⟨B1,B2,rfl,h1,h2⟩:=z20 ps B (q.syms.take d) [q.syms[d]] hB;rw[z0o]at j3;obtain⟨c1,c2,c3⟩:=z5h j3 (by omega) hf;generalize hm:f+(Q0d B1).length=m at c2 c3;have jj:(Q0d B1).length=m-f:=by omega
        rw[jj]at c1;generalize q.syms[d]=Y at hY h2;rw[qP]at hT hb;cases B2 with
        |nil=>simp[Q1i]at h2
        |cons s B3 =>
          have j5:=ihT (A.length+B1.length) (by simp at hT;omega) B1.length m p d f q A B1 γ (by omega) hp (by omega) (by omega) h1 c1 hA j0 rfl rfl;cases hs:s.leaf
          · obtain⟨y,k',q2,e0,y1,y2,y3,y4,y5⟩:=z05 hs h2
            rw[qBe]at e0;obtain⟨rfl,rfl⟩:=e0;rw[qBd]at y5;have jl:=z6n hs y2;have j6:Y=⟨true,q2.head⟩:=by
              obtain⟨a,b⟩:=Y;dsimp only at y1 y4;rw[y1,y4]
            have jf:Q0d B3=(l.drop m).take (n-m):=by
              rw[← c2,jl];simp[Q0d]
            have j8:Q1i ps (A++⟨false,(p:Int)⟩::B1) [⟨true,0⟩]=some (⟨true,q2.head⟩::(q.syms.drop (d+1)++γ)):=by
              rw[z1g,hA,qDn,z3p hp];have:=z26 B1 _ _ (q.syms.drop d++γ) h1;rw[← qAs,qFb,qCh]at this;rw[this,qC j7,(qS hY).2,j6];rfl
            have j2:Q0d (A++⟨false,(p:Int)⟩::B1)=l.take m:=by
              rw[z0o,j0];have:Q0d (⟨false,(p:Int)⟩::B1)=Q0d B1:=by simp[Q0d]
              rw[this,c1,← qFv,show f+(m-f)=m by omega]
            have jb:=ihb B3.length (by simp at hb;omega) n s.num.toNat q2.syms.length m q2 (A++⟨false,(p:Int)⟩::B1) B3 _ j1 y3 (qR _) c3 (by rw[qAw];exact y5) jf j8 j2 (by simp at hT ⊢;omega) rfl;exact h.comp n s.num.toNat m q2 p d f q j1 jb y3 j5 hp (by rw[hY,j6])
          obtain⟨y,k',e0,y1,y2,y3⟩:=z09 hs h2;rw[qBe]at e0;obtain⟨rfl,rfl⟩:=e0;have ja:=z27 y3;subst ja;have ji:Q0d [s]=[s.num]:=by simp[Q0d,hs]
          rw[ji]at c2;have jk:n=m+1:=by
            have:=qEn List.length c2;rw[qCo,qCt]at this;simp at this;omega
          subst jk;have jh:l[m]? = some s.num:=by
            rw[show m+1-m=1 by omega]at c2;have:=qEn (fun x=>x[0]?) c2;simp only[qCv]at this;rw[List.getElem?_take,qAb (by omega),qDx,Nat.add_zero]at this;exact this.symm
          refine h.scan m p d f q s.num (by omega) j5 hp ?_ jh;rw[hY];obtain⟨a,b⟩:=Y;dsimp only at y1 y2;rw[y1,y2]
theorem Clo.all{l:List Int}{N:Nat}{S:Nat->Nat->Nat->Nat->Prop}(h:Clo ps l N S)(hNl:N<=l.length){n p d f:Nat}(hn:n<=N)(hI:It ps l n p d f):S n p d f:=by
  obtain⟨q,hp,hd,hf,⟨B,b1,b2⟩,A,γ,a1,a2⟩:=hI;exact x3d h hNl _ _ n p d f q A B γ hn hp hd hf b1 b2 a1 a2 rfl rfl
theorem x8c{l:List Int}{t:Nat}:Vb ps l t↔∃p q d f,It ps l l.length p d f/\ps[p]? = some q/\q.syms[d]? = some ⟨false,(t:Int)⟩:=by
  constructor
  · rintro⟨A,β,h1,h2⟩
    rcases spine A [⟨j3,0⟩] ⟨false,t⟩ β h2 with⟨a,e,hr⟩|⟨p,q,d,A',B',γ',e1,e2,e3,e4,e5,e6⟩
    · cases a with
      |nil=>simp at e
      |cons z a=>simp at e
    have j2:Q0d A'++Q0d B'=(l.drop 0).take (l.length-0):=by
      rw[qEc,Nat.sub_zero,qAw,← h1,e4,z0o];congr 1
    obtain⟨c1,c2,c3⟩:=z5h j2 (qR _) (by omega);rw[qEc]at c1;rw[qBy]at c2 c3;have j4:=(qS e2).1;exact⟨p,q,d,(Q0d A').length,⟨q,e1,by omega,c3,⟨B',e6,c2⟩,A',γ',e5,c1⟩,e1,e2⟩
  rintro⟨p,q,d,f,h1,h2,h3⟩;obtain⟨q2,A,γ,e1,e2,e3⟩:=h1.at' (qR _);rw[h2,qO]at e1;subst e1;obtain⟨j0,j1⟩:=qS h3;refine⟨A,q.syms.drop (d+1)++γ,by rw[e2,qAw],?_⟩;rw[e3,qC j0,j1];rfl
theorem x8d{l:List Int}:Ve ps l↔∃p q,It ps l l.length p q.syms.length 0/\ps[p]? = some q/\q.head=0:=by
  constructor
  · rintro⟨A,h1,h2⟩
    cases A with
    |nil=>simp[Q1i]at h2
    |cons s A =>
      cases hs:s.leaf
      · obtain⟨y,k',q,e0,y1,y2,y3,y4,y5⟩:=z05 hs h2
        rw[qBe]at e0;obtain⟨rfl,rfl⟩:=e0;rw[qBd]at y5;have j0:=z6n hs y2;refine⟨s.num.toNat,q,⟨q,y3,qR _,qBq _,⟨A,by rw[qAw];exact y5,?_⟩,[],[],by rw[y4];rfl,by simp[Q0d]⟩,y3,y4⟩;rw[qEc,Nat.sub_zero,qAw,← h1,j0];simp[Q0d]
      obtain⟨y,k',e0,y1,y2,y3⟩:=z09 hs h2;rw[qBe]at e0;obtain⟨rfl,_⟩:=e0;cases y1
  rintro⟨p,q,h1,h2,h3⟩;obtain⟨q2,e1,_,_,⟨B,b1,b2⟩,_⟩:=h1;rw[h2,qO]at e1;subst e1;refine⟨⟨false,(p:Int)⟩::B,?_,?_⟩
  · have:Q0d (⟨false,(p:Int)⟩::B)=Q0d B:=by simp[Q0d]
    rw[this,b2,qEc,Nat.sub_zero,qAw]
  rw[← h3,z3p h2,qBd];rw[qAw]at b1;exact b1
end
def Ds(ps:List Pr)(l:List Int)(ys:List Sy)(i j:Nat):Prop:=i<=j/\j<=l.length/\∃B,Q1i ps B ys=some []/\Q0d B=(l.drop i).take (j-i)
def toL(g:Nat->Bool):Nat->Nat->Nat
  |0,t=>t
  |f+1,t=>if g t=true then t else toL g f (t+1)
theorem x9f(g:Nat->Bool)(m:Nat)(hg:g m=true)(hne:∀t,t<m->g t=true->False):∀(f t:Nat),t<=m->m<=t+f->toL g f t=m
  |0,t,h1,h2=>by unfold toL;omega
  |f+1,t,h1,h2=>by
    unfold toL;by_cases e:t=m
    · subst e;rw[qAb hg]
    rw[qAa (fun q=>hne t (by omega) q)];exact x9f g m hg hne f (t+1) (by omega) (by omega)
def toF(rc:List Sy->Nat->Nat->Bool)(y:Sy)(ys:List Sy)(i j:Nat):Nat:=toL (fun t=>rc [y] i t&&rc ys t j) (j-i) i
def rowN(rc:List Sy->Nat->Nat->Bool)(T:Int->Nat->Nat->List Nd):List Sy->Nat->Nat->List Nd
  | [],_,_=>[]
  |y::ys,i,j=>(if y.isH=false then [⟨-1,y.num,i,1⟩] else T y.num i (toF rc y ys i j))++rowN rc T ys (toF rc y ys i j) j
def Q7u(ps:List Pr)(rc:List Sy->Nat->Nat->Bool)(h:Int)(i j:Nat):Nat:=ps.findIdx fun q=>q.head==h&&rc q.syms i j
def Q8j(ps:List Pr)(rc:List Sy->Nat->Nat->Bool):Nat->Int->Nat->Nat->List Nd
  |0,_,_,_=>[]
  |f+1,h,i,j=>match ps[Q7u ps rc h i j]? with
    |some q=>⟨(Q7u ps rc h i j:Int),-1,i,((rowN rc (Q8j ps rc f) q.syms i j).length:Int)+1⟩::rowN rc (Q8j ps rc f) q.syms i j
    |none=>[]
theorem y87:∀(n:Nat) (V:List Int),V.Nodup->(∀v∈V,0<=v/\v<(n:Int))->V.length<=n
  |0,[],_,_=>qR _
  |0,v::V,_,h=>by
    have:=h v (by simp);omega
  |n+1,V,hn,h=>by
    have h1:=y87 n (V.erase (n:Int)) (hn.erase _) (fun v hv=>by
      have hm:=(List.Nodup.mem_erase_iff hn).1 hv;have:=h v hm.2;have:=hm.1;omega)
    rw[List.length_erase]at h1;split at h1
    · omega
    omega
section
variable {ps:List Pr}{l:List Int}
theorem z7f:∀(A B C D:List St) (ys:List Sy),A++B=C++D->Q1i ps A ys=some []->Q1i ps C ys=some []->A=C
  | [],B,C,D,ys,_,h1,h2=>by
    cases h1;exact(z27 h2).symm
  |s::A,B,[],D,ys,_,h1,h2=>by
    cases h2;exact z27 h1
  |s::A,B,c::C,D,ys,e,h1,h2=>by
    rw[qBh,qBh,qBe]at e;obtain⟨rfl,e⟩:=e;congr 1;cases hs:s.leaf
    · obtain⟨y,k',q,rfl,g1,g2,g3,g4,g5⟩:=z05 hs h1
      obtain⟨y',k2,q',e0,f1,f2,f3,f4,f5⟩:=z05 hs h2;rw[qBe]at e0;obtain⟨_,rfl⟩:=e0;rw[g3,qO]at f3;subst f3;exact z7f A B C D _ e g5 f5
    obtain⟨y,k',rfl,g1,g2,g3⟩:=z09 hs h1;obtain⟨y',k2,e0,f1,f2,f3⟩:=z09 hs h2;rw[qBe]at e0;obtain⟨_,rfl⟩:=e0;exact z7f A B C D _ e g3 f3
def Ctx(ps:List Pr)(l:List Int)(ys:List Sy)(i j:Nat):Prop:=∃A0 γ A1,Q1i ps A0 [⟨true,0⟩]=some (ys++γ)/\Q0d A0=l.take i/\Q1i ps A1 γ=some []/\Q0d A1=l.drop j
def Uni(ps:List Pr)(l:List Int):Prop:=∀A A',Q1i ps A [⟨true,0⟩]=some []->Q1i ps A' [⟨true,0⟩]=some []->Q0d A=l->Q0d A'=l->A=A'
theorem Ctx.one{ys:List Sy}{i j:Nat}(hU:Uni ps l)(h:Ctx ps l ys i j)(hij:i<=j){B B':List St}(h1:Q1i ps B ys=some [])(h2:Q1i ps B' ys=some [])(l1:Q0d B=(l.drop i).take (j-i))(l2:Q0d B'=(l.drop i).take (j-i)):B=B':=by
  obtain⟨A0,γ,A1,a1,a2,a3,a4⟩:=h;have j0:∀X,Q1i ps X ys=some []->Q0d X=(l.drop i).take (j-i)->Q1i ps (A0++(X++A1)) [⟨true,0⟩]=some []/\Q0d (A0++(X++A1))=l:=fun X hX lX=>by
    refine⟨?_,?_⟩
    · rw[z1g,a1,qDn,z1g,z26 X ys [] γ hX];exact a3
    rw[z0o,z0o,a2,lX,a4,← qAs,← qFv,show i+(j-i)=j by omega,qFb]
  have e:=hU _ _ (j0 B h1 l1).1 (j0 B' h2 l2).1 (j0 B h1 l1).2 (j0 B' h2 l2).2;have e2:=qFt e;exact List.append_cancel_right e2
theorem z4p{p:Int}{B:List St}:Q0d (⟨false,p⟩::B)=Q0d B:=by simp[Q0d]
theorem Ctx.prod{h:Int}{i j p:Nat}{q:Pr}(hc:Ctx ps l [⟨true,h⟩] i j)(hp:ps[p]? = some q)(hh:q.head=h):Ctx ps l q.syms i j:=by
  obtain⟨A0,γ,A1,a1,a2,a3,a4⟩:=hc;subst hh;refine⟨A0++[⟨false,(p:Int)⟩],γ,A1,?_,by rw[z0o,a2,z4p];simp[Q0d],a3,a4⟩;rw[z1g,a1,qDn,List.singleton_append,z3p hp];rfl
theorem Ctx.first{y:Sy}{ys:List Sy}{i j m:Nat}{B2:List St}(hc:Ctx ps l (y::ys) i j)(hmj:m<=j)(h2:Q1i ps B2 ys=some [])(l2:Q0d B2=(l.drop m).take (j-m)):Ctx ps l [y] i m:=by
  obtain⟨A0,γ,A1,a1,a2,a3,a4⟩:=hc;refine⟨A0,ys++γ,B2++A1,by rw[a1];rfl,a2,?_,?_⟩
  · rw[z1g,z26 B2 ys [] γ h2];exact a3
  rw[z0o,l2,a4];have:l.drop j=(l.drop m).drop (j-m):=by rw[List.drop_drop,show m+(j-m)=j by omega]
  rw[this,qFb]
theorem Ctx.rest{y:Sy}{ys:List Sy}{i j m:Nat}{B1:List St}(hc:Ctx ps l (y::ys) i j)(him:i<=m)(h1:Q1i ps B1 [y]=some [])(l1:Q0d B1=(l.drop i).take (m-i)):Ctx ps l ys m j:=by
  obtain⟨A0,γ,A1,a1,a2,a3,a4⟩:=hc;refine⟨A0++B1,γ,A1,?_,?_,a3,a4⟩
  · rw[z1g,a1,qDn]
    have:=z26 B1 [y] [] (ys++γ) h1;exact this
  rw[z0o,a2,l1,← qFv,show i+(m-i)=m by omega]
def RcIs(ps:List Pr)(l:List Int)(R H:Nat)(rc:List Sy->Nat->Nat->Bool):Prop:=∀(ys:List Sy) (i j:Nat),Q3d R H ys->i<=l.length->(rc ys i j=true↔Ds ps l ys i j)
theorem v3e{R H:Nat}{rc:List Sy->Nat->Nat->Bool}(hrc:RcIs ps l R H rc)(hU:Uni ps l){y:Sy}{ys:List Sy}(hv:Q3d R H (y::ys)){i j m:Nat}{B1 B2:List St}(hc:Ctx ps l (y::ys) i j)(him:i<=m)(hmj:m<=j)(hj:j<=l.length)(h1:Q1i ps B1 [y]=some [])(h2:Q1i ps B2 ys=some [])
    (l1:Q0d B1=(l.drop i).take (m-i)) (l2:Q0d B2=(l.drop m).take (j-m)):toF rc y ys i j=m:=by
  have join:∀(t:Nat) (X Y:List St),i<=t->t<=j->Q1i ps X [y]=some []->Q1i ps Y ys=some []->Q0d X=(l.drop i).take (t-i)->Q0d Y=(l.drop t).take (j-t)->Q1i ps (X++Y) (y::ys)=some []/\Q0d (X++Y)=(l.drop i).take (j-i):=fun t X Y ht1 ht2 q1 q2 q3 q4=>by
    refine⟨?_,?_⟩
    · rw[z1g,show y::ys=[y]++ys from rfl,z26 X [y] [] ys q1];exact q2
    rw[z0o,q3,q4];have:l.drop t=(l.drop i).drop (t-i):=by rw[List.drop_drop,show i+(t-i)=t by omega]
    rw[this,← qFv,show t-i+(j-t)=j-i by omega]
  have j0:∀(t:Nat) (X:List St),i<=t->t<=l.length->Q0d X=(l.drop i).take (t-i)->(Q0d X).length=t-i:=fun t X ht1 ht2 q=>by
    rw[q,qCo,qCt];omega
  have j1:Q3d R H [y]:=fun s hs=>hv s (by rw[qM]at hs;subst hs;simp);have j2:Q3d R H ys:=fun s hs=>hv s (by simp[hs]);refine x9f _ m ?_ (fun t ht hg=>?_) _ _ him (by omega)
  · rw[qAd]
    exact⟨(hrc [y] i m j1 (by omega)).2 ⟨him,by omega,B1,h1,l1⟩,(hrc ys m j j2 (by omega)).2 ⟨hmj,hj,B2,h2,l2⟩⟩
  rw[qAd]at hg;by_cases hi:i<=t
  · obtain⟨g1,g2,X,x1,x2⟩:=(hrc [y] i t j1 (by omega)).1 hg.1
    obtain⟨g3,g4,Y,y1,y2⟩:=(hrc ys t j j2 (by omega)).1 hg.2;have e:=hc.one hU (by omega) (join t X Y hi (by omega) x1 y1 x2 y2).1 (join m B1 B2 him hmj h1 h2 l1 l2).1 (join t X Y hi (by omega) x1 y1 x2 y2).2 (join m B1 B2 him hmj h1 h2 l1 l2).2;have e2:=z7f X Y B1 B2 [y] e x1 h1;have q1:=j0 t X hi (by omega) x2;have q2:=j0 m B1 him (by omega) l1;rw[e2]at q1;omega
  have:=((hrc [y] i t j1 (by omega)).1 hg.1).1;omega
theorem x89{R H:Nat}{rc:List Sy->Nat->Nat->Bool}(hrc:RcIs ps l R H rc)(hU:Uni ps l)(T:Int->Nat->Nat->List Nd):∀(ys:List Sy) (i j:Nat) (B:List St),Q3d R H ys->Ctx ps l ys i j->i<=j->j<=l.length->Q1i ps B ys=some []->Q0d B=(l.drop i).take (j-i) ->
    (∀(y:Sy) (i' j':Nat) (B1:List St),y.isH=true->i<=i'->i'<=j'->j'<=j->B1.length<=B.length->Q1i ps B1 [y]=some []->Q0d B1=(l.drop i').take (j'-i')->Ctx ps l [y] i' j'->T y.num i' j'=Q4h ps B1 i')->rowN rc T ys i j=Q4h ps B i
  | [],i,j,B,_,_,_,_,h,_,_=>by
    rw[z27 h];rfl
  |y::ys,i,j,B,hv,hc,hij,hj,h,hl,hT=>by
    obtain⟨B1,B2,rfl,h1,h2⟩:=z20 ps B [y] ys h;rw[z0o]at hl;obtain⟨c1,c2,c3⟩:=z5h hl hj hij;generalize hm:i+(Q0d B1).length=m at c2 c3;have j1:(Q0d B1).length=m-i:=by omega
    rw[j1]at c1;have j0:i<=m:=by omega
    have j2:=v3e hrc hU hv hc j0 c3 hj h1 h2 c1 c2;rw[x0s ps i h1,j1,show i+(m-i)=m by omega];unfold rowN;rw[j2,x89 hrc hU T ys m j B2 (fun s hs=>hv s (by simp[hs])) (hc.rest j0 h1 c1) c3 hj h2 c2 (fun y' i' j' X q1 q2 q3 q4 q5 q6 q7 q8=>hT y' i' j' X q1 (by omega) q3 q4 (by rw[qP];omega) q6 q7 q8)];congr 1;cases hy:y.isH
    · rw[qAb rfl]
      cases B1 with
      |nil=>simp[Q1i]at h1
      |cons s B3 =>
        cases hs:s.leaf
        · obtain⟨z,k',q,e0,g1,_⟩:=z05 hs h1
          rw[qBe]at e0;rw[← e0.1,hy]at g1;cases g1
        obtain⟨z,k',e0,g1,g2,g3⟩:=z09 hs h1;rw[qBe]at e0;obtain⟨rfl,rfl⟩:=e0;rw[z27 g3];obtain⟨a,b⟩:=s;dsimp only at hs g2;rw[hs,g2,y65]
    rw[qAa (by simp)];exact hT y i m B1 hy (qR _) j0 c3 (by rw[qP];omega) h1 c1 (hc.first c3 h2 c2)
theorem y7s{rc:List Sy->Nat->Nat->Bool}{R H:Nat}(hT:Q1d ps R H)(hH:H<=8)(hrc:RcIs ps l R H rc)(hU:Uni ps l):∀(f:Nat) (h:Int) (i j:Nat) (V:List Int) (B:List St),Q1i ps B [⟨true,h⟩]=some []->i<=j->j<=l.length->Q0d B=(l.drop i).take (j-i)->Ctx ps l [⟨true,h⟩] i j ->
    V.Nodup->(∀v∈V,0<=v/\v<H)->(∀v∈V,∃X,Q1i ps X [⟨true,v⟩]=some []/\Q0d X=(l.drop i).take (j-i)/\Ctx ps l [⟨true,v⟩] i j/\B.length<=X.length)->V.length<=8->(j-i)*8+9<=f+V.length->Q8j ps rc f h i j=Q4h ps B i
  |0,h,i,j,V,B,h1,hij,hj,hl,hc,v1,v2,v3,v4,hf=>by omega
  |f+1,h,i,j,V,B,h1,hij,hj,hl,hc,v1,v2,v3,v4,hf=>by
    cases B with
    |nil=>simp[Q1i]at h1
    |cons s B =>
      cases hs:s.leaf
      · obtain⟨y,k',q,e0,g1,g2,g3,g4,g5⟩:=z05 hs h1
        rw[qBe]at e0;obtain⟨rfl,rfl⟩:=e0;rw[qBd]at g5;dsimp only at g4;have j2:=z6n hs g2;have j8:Q0d B=(l.drop i).take (j-i):=by rw[← hl,j2,z4p]
        -- the production that is found
        have j3:(q.head==h&&rc q.syms i j)=true:=by
          rw[qAd,qBi];exact⟨g4,(hrc q.syms i j (hT.sy q (qAi g3)) (by omega)).2 ⟨hij,hj,B,g5,j8⟩⟩
        have j4:Q7u ps rc h i j<ps.length:=qFw ⟨q,qAi g3,j3⟩;have j7:=qDz (w:=j4);rw[qAd,qBi]at j7;obtain⟨f1,f2⟩:=j7;obtain⟨_,_,X,x1,x2⟩:=(hrc _ i j (hT.sy _ (qG j4)) (by omega)).1 f2;have jb:ps[Q7u ps rc h i j]? = some (ps[Q7u ps rc h i j]'hlt):=qE j4;have hX:Q1i ps (⟨false,(Q7u ps rc h i j:Int)⟩::X) [⟨true,h⟩]=some []:=by
          have:=z3p (B:=X) (γ:=[]) jb;have e:(ps[Q7u ps rc h i j]'hlt).head=h:=f1;rw[e]at this;rw[this,qBd];exact x1
        have e:=hc.one hU hij hX h1 (by rw[z4p];exact x2) hl;rw[qBe]at e;have jc:Q7u ps rc h i j=s.num.toNat:=by
          have:=e.1;rw[j2,St.mk.injEq]at this;omega
        have j5:rowN rc (Q8j ps rc f) q.syms i j=Q4h ps B i:=by
         refine x89 hrc hU (Q8j ps rc f) q.syms i j B (hT.sy q (qAi g3)) (hc.prod g3 g4) hij hj g5 j8 (fun y i' j' B1 q1 q2 q3 q4 q5 q6 q7 q8=>?_);obtain⟨yh,yn⟩:=y;dsimp only at q1;subst q1;have j6:0<=yn/\yn<H:=by
           cases B1 with
           |nil=>simp[Q1i]at q6
           |cons z Z =>
             cases hz:z.leaf
             · obtain⟨y',k2,q',e0,w1,w2,w3,w4,w5⟩:=z05 hz q6
               rw[qBe]at e0;have:=hT.hd q' (qAi w3);rw[← e0.1]at w4;dsimp only at w4;omega
             obtain⟨y',k2,e0,w1,w2,w3⟩:=z09 hz q6;rw[qBe]at e0;rw[← e0.1]at w1;cases w1
         have j1:∃X,Q1i ps X [⟨true,yn⟩]=some []/\Q0d X=(l.drop i').take (j'-i')/\Ctx ps l [⟨true,yn⟩] i' j'/\B1.length<=X.length:=⟨B1,q6,q7,q8,qR _⟩;by_cases same:i'=i/\j'=j
         · obtain⟨rfl,rfl⟩:=same
           have j0:yn ∉ V:=fun hm=>by
             obtain⟨X,y1,y2,y3,y4⟩:=v3 yn hm;have e:=y3.one hU hij q6 y1 q7 y2;rw[e]at q5;simp only[qBk]at y4;omega
           have j9:(yn::V).length<=8:=by
             have ja:(yn::V).Nodup:=List.nodup_cons.2 ⟨j0,v1⟩;refine y87 8 _ ja (fun v hv=>?_);have hb:0<=v/\v<H:=by
               rcases qBu.1 hv with rfl|hv
               · exact j6
               exact v2 v hv
             omega
           refine y7s hT hH hrc hU f yn i' j' (yn::V) B1 q6 q3 hj q7 q8 (List.nodup_cons.2 ⟨j0,v1⟩) (fun v hv=>?_) (fun v hv=>?_) j9 (by rw[qBk];omega)
           · rcases qBu.1 hv with rfl|hv
             · exact j6
             exact v2 v hv
           rcases qBu.1 hv with rfl|hv
           · exact j1
           obtain⟨X,y1,y2,y3,y4⟩:=v3 v hv;exact⟨X,y1,y2,y3,by simp only[qBk]at y4;omega⟩
         refine y7s hT hH hrc hU f yn i' j' [yn] B1 q6 q3 (by omega) q7 q8 (by simp) (fun v hv=>?_) (fun v hv=>?_) (by simp) (by simp only[qAj];omega)
         · rw[qM]at hv;subst hv;exact j6
         rw[qM]at hv;subst hv;exact j1
        unfold Q8j;rw[jc,g3];dsimp only;rw[j5];have e9:=h1;rw[j2]at e9;rw[j2,y66 ps i e9,x0t];rfl
      obtain⟨y,k',e0,g1,g2,g3⟩:=z09 hs h1;rw[qBe]at e0;rw[← e0.1]at g1;cases g1
end
section
variable {ps:List Pr}{R H:Nat}{hs:List Hd}
theorem v1t(h:Tab ps R H hs){k:List Sy}(hk:Q3d R H k){t:Nat}(ht:R<t):(Q57 hs R k).getD t false=false:=by
  rw[z30 h.ok h.hR k hk t];unfold Q6u;have h1:Q3y (hN hs) (fun X=>hF hs X t) t k=false:=by
    cases hb:Q3y (hN hs) (fun X=>hF hs X t) t k with
    |false=>rfl
    |true =>
      obtain⟨a,s,b,rfl,_,j0⟩:=z1s hb;cases hx:s.isH
      · rw[hx]at j0
        simp only[qF,qAz,qBi]at j0;have:=hk s (by simp);rw[hx]at this;simp only[qF,qAz]at this;omega
      rw[hx]at j0;simp only[qBn]at j0;have:=h.g.bF _ _ j0;omega
  rw[h1,show(t==R)=false by simp;omega];simp
structure GrowIs(ps:List Pr)(R:Nat)(l:List Int)(G:GOut)(n:Nat):Prop where
  le:n<=l.length
  each:∀i (hi:i<l.length),i<n->Vb ps (l.take i) l[i].toNat
  or:(n=l.length/\Ve ps l/\∃A,G=⟨0,[],0,A⟩/\Q1i ps A [⟨true,0⟩]=some []/\Q0d A=l) ∨
    (∃W:List Bool,G=⟨10,Q3e W,n,[]⟩/\(∀t,t<R->(W.getD t false=true↔Vb ps (l.take n) t))/\(W.getD R false=true↔Ve ps (l.take n))/\(∀t,R<t->W.getD t false=false)/\(∀hi:n<l.length,¬Vb ps (l.take n) l[n].toNat)/\(n=l.length->¬Ve ps l))
theorem x79(h:Tab ps R H hs){l:List Int}(hk:Q1z R l=true):∀(n:Nat),n<=l.length->(∃r,thr ps hs R H (l.take n) [⟨true,0⟩] []=some r)->∀i (hi:i<l.length),i<n->Vb ps (l.take i) l[i].toNat:=by
  intro n hn hr i hi j3;obtain⟨r,hr⟩:=hr;have j2:∀j,Q1z R (l.take j)=true:=fun j=>y1g hk j;obtain⟨r1,j0⟩:=y3i _ _ _ r hr (i+1);rw[List.take_take,qFe (by omega),qCu,qE hi]at j0;rw[show(some l[i]).toList=[l[i]] from rfl,y9q]at j0;obtain⟨r2,j1⟩:=y3i _ _ _ r hr i;rw[List.take_take,qFe (by omega)]at j1;rw[j1,qDn]at j0;split at j0
  · rename_i hw
    have hb:0<=l[i]/\l[i]<R:=by
      unfold Q1z at hk;rw[qAy]at hk;have:=hk l[i] (qG hi);simpa using this
    exact(y0n h (j2 i) j1 (by omega)).1 hw
  cases j0
theorem v0c(h:Tab ps R H hs){l:List Int}(hk:Q1z R l=true):∃n,GrowIs ps R l (Q6k ps hs R H l 0 [⟨true,0⟩] []) n:=by
  obtain⟨n,r,h1,h2,h3⟩:=y8q (ps:=ps) (hs:=hs) (R:=R) (H:=H) l 0 [⟨true,0⟩] [];have j0:=y1g hk n;refine⟨n,h1,x79 h hk n h1 ⟨r,h2⟩,?_⟩;obtain⟨A,z1,z2,z3,z4,z5⟩:=z6u h _ _ _ r j0 h.start.1 h.start.2 (by simp) h2;rcases h3 with⟨e1,e2,e3⟩|⟨e1,e2,e3,e4,e5,e6⟩
  · have j1:=(y3k h j0 h2).1 e2
    rw[e1,qAw]at j1;refine .inl ⟨e1,j1,?_⟩;obtain⟨A',a1,a2⟩:=j1;exact⟨A',by rw[z8b h l A' 0 _ [] a1 h.start.1 h.start.2 (by simp) a2];rfl,a2,a1⟩
  refine .inr ⟨Q57 hs R r.1,?_,fun t ht=>y0n h j0 h2 ht,y3k h j0 h2,fun t ht=>v1t h z4 ht,fun hi hv=>?_,fun hn hv=>?_⟩
  · rw[qBy]at e2
    generalize Q6k ps hs R H l 0 [⟨true,0⟩] []=G at e1 e2 e3 e4;obtain⟨g1,g2,g3,g4⟩:=G;dsimp only at e1 e2 e3 e4;rw[e1,e2,e3,e4]
  · have hb:0<=l[n]/\l[n]<R:=by
      unfold Q1z at hk;rw[qAy]at hk;have:=hk l[n] (qG hi);simpa using this
    have:=(y0n h j0 h2 (t:=l[n].toNat) (by omega)).2 hv;rw[e5 hi]at this;cases this
  have j2:Ve ps (l.take n):=by rw[hn,qAw];exact hv
  have:=(y3k h j0 h2).2 j2;rw[e6 hn]at this;cases this
theorem v2x(h:Tab ps R H hs)(l:List Int):Uni ps l:=fun A A' h1 h2 l1 l2=>by
  have e1:=z8b h l A 0 _ [] l1 h.start.1 h.start.2 (by simp) h1;have e2:=z8b h l A' 0 _ [] l2 h.start.1 h.start.2 (by simp) h2;rw[e1,GOut.mk.injEq]at e2;have:=e2.2.2.2;simpa using this
end
def Q9j(l:List Int)(D:Int->Nat->Nat->Prop)(y:Sy)(i j:Nat):Prop:=if y.isH=true then D y.num i j else l[i]? = some y.num/\j=i+1
def RR(l:List Int)(D:Int->Nat->Nat->Prop):List Sy->Nat->Nat->Prop
  | [],i,j=>i=j
  |y::ys,i,j=>∃m,Q9j l D y i m/\RR l D ys m j
section
variable {ps:List Pr}{l:List Int}{D:Int->Nat->Nat->Prop}
theorem y9f(hD:∀h i j,D h i j->Ds ps l [⟨true,h⟩] i j):∀(ys:List Sy) (i j:Nat),i<=l.length->RR l D ys i j->Ds ps l ys i j
  | [],i,j,hi,h=>by
    cases h;exact⟨qR _,hi,[],rfl,by simp[Q0d]⟩
  |y::ys,i,j,hi,h=>by
    obtain⟨m,h1,h2⟩:=h;have hy:Ds ps l [y] i m:=by
      unfold Q9j at h1;obtain⟨a,b⟩:=y;cases a
      · simp only[qF,qAz]at h1
        obtain⟨h3,rfl⟩:=h1;have j0:=(qS h3).1;refine⟨by omega,j0,[⟨true,b⟩],by simp[Q1i],?_⟩;rw[show i+1-i=0+1 by omega,qCu,qDx,Nat.add_zero,h3];simp[Q0d]
      simp only[qBn]at h1;exact hD b i m h1
    obtain⟨g1,g2,B1,b1,b2⟩:=hy;obtain⟨g3,g4,B2,b3,b4⟩:=y9f hD ys m j g2 h2;refine⟨by omega,g4,B1++B2,?_,?_⟩
    · rw[z1g,show y::ys=[y]++ys from rfl,z26 B1 [y] [] ys b1];exact b3
    rw[z0o,b2,b4];have:l.drop m=(l.drop i).drop (m-i):=by rw[List.drop_drop,show i+(m-i)=m by omega]
    rw[this,← qFv,show m-i+(j-m)=j-i by omega]
theorem v1g(hc:∀q∈ps,∀i j,i<=l.length->RR l D q.syms i j->D q.head i j):∀(n:Nat) (B:List St) (ys:List Sy) (i j:Nat),B.length<=n->Q1i ps B ys=some []->i<=j->j<=l.length->Q0d B=(l.drop i).take (j-i)->RR l D ys i j:=by
  intro n;induction n with
  |zero =>
    intro B ys i j hn h j0 hj hl;have:B=[]:=qCm (by omega);subst this;have:ys=[]:=by simpa [Q1i]using h
    subst this;have:=qEn List.length hl;rw[qCo,qCt]at this;simp[Q0d]at this;show i=j;omega
  |succ n ih =>
    intro B ys i j hn h j0 hj hl;cases ys with
    |nil =>
      have:=z27 h;subst this;have:=qEn List.length hl;rw[qCo,qCt]at this;simp[Q0d]at this;show i=j;omega
    |cons y ys =>
      cases B with
      |nil=>simp[Q1i]at h
      |cons s B =>
        rw[qBk]at hn;cases hs:s.leaf
        · obtain⟨z,k',q,e0,g1,g2,g3,g4,g5⟩:=z05 hs h
          rw[qBe]at e0;obtain⟨rfl,rfl⟩:=e0;obtain⟨B1,B2,rfl,h1,h2⟩:=z20 ps B q.syms ys g5;have j3:=z6n hs g2;rw[j3,z4p,z0o]at hl;obtain⟨c1,c2,c3⟩:=z5h hl hj j0;rw[qP]at hn;generalize hm:i+(Q0d B1).length=m at c2 c3;have j2:(Q0d B1).length=m-i:=by omega
          rw[j2]at c1;have r1:=ih B1 q.syms i m (by omega) h1 (by omega) (by omega) c1;have r2:=ih B2 ys m j (by omega) h2 c3 hj c2;refine⟨m,?_,r2⟩;unfold Q9j;rw[qAb g1,← g4];exact hc q (qAi g3) i m (by omega) r1
        obtain⟨z,k',e0,g1,g2,g3⟩:=z09 hs h;rw[qBe]at e0;obtain⟨rfl,rfl⟩:=e0;have j1:Q0d (s::B)=s.num::Q0d B:=by simp[Q0d,hs]
        rw[j1,show s.num::Q0d B=[s.num]++Q0d B from rfl]at hl;obtain⟨c1,c2,c3⟩:=z5h hl hj j0;rw[qAj]at c1 c2 c3;refine⟨i+1,?_,ih B ys (i+1) j (by omega) g3 c3 hj c2⟩;unfold Q9j;rw[qAa (by rw[g1];simp),g2];refine⟨?_,rfl⟩;have:=qEn (fun x=>x[0]?) c1;simp only[qCv]at this;rw[List.getElem?_take,qAb (by omega),qDx,Nat.add_zero]at this;exact this.symm
end
end Go.Proofs.YtbdpfmalabgmbaaGreat
