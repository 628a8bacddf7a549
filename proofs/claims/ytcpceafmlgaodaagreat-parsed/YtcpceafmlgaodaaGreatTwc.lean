import Derived.Test.YtcpceafmlgaodaaGreatGw2
namespace Go.Proofs.YtcpceafmlgaodaaGreat
open Go.RowKit
set_option linter.all false
theorem x3z(s:ByteArray)(kinds:List Int)(vk:Value)(w:World)(hs:s.size<=maxLen)(hk:Q0z w vk kinds)(hm:kinds.length<=maxLen) :
    Calls Tryz.prog 4 #[.string s,vk] w fun e w'=>Q2c s (Q2f s kinds) w e w':=by
  by_cases hl:60<kinds.length
  · have e:Q2f s kinds=Q65 1:=by unfold Q2f;rw[qAb hl]
    rw[e];exact x0a s kinds vk w hk hl hm
  by_cases hc:(Q0t s).1=0
  · exact y99 s kinds vk w hs hk (by omega) hc
  have e:Q2f s kinds=Q65 (Q0t s).1:=by unfold Q2f;rw[qAa hl,qAb hc]
  rw[e];exact x31 s kinds vk w hs hk (by omega) hc
theorem y6j{ps:List Pr}{R H:Nat}{hs:List Hd}(h:Tab ps R H hs):∀(l:List Int) (a:Nat) (k:List Sy) (st:List St),Q4t (hN hs) (hF hs) (hO hs) R k->Q27 R H k->(∀s∈st,0<=s.num/\s.num<=127)->Q0w R l=true ->
    a+l.length<=60->k.length<=1+48*a->st.length<=a*2000000000->(Q6a ps hs R H l a k st).st.length<=61*2000000000/\(Q6a ps hs R H l a k st).wanted.length<=9
  | [],a,k,st,h1,h2,h3,_,h5,h6,h7=>by
    unfold Q6a;split
    · rename_i hw
      obtain⟨_,s2,s3,_,_,_,s7⟩:=h.step (qR _) h1 h2 h3 hw;simp only[qDp,Nat.add_zero]at h5;obtain⟨_,_,q3,_⟩:=Q9q h5 h6 h7 s3 s2 s7;refine⟨qCd q3 (qBv _ (by omega)),by simp⟩
    exact⟨by simp,z38 _⟩
  |t::l,a,k,st,h1,h2,h3,h4,h5,h6,h7=>by
    have h8:(0<=t/\t<R)/\Q0w R l=true:=by
      unfold Q0w at h4 ⊢;simpa using h4
    simp only[qAy]at h5;unfold Q6a;split
    · rename_i hw
      obtain⟨_,s2,s3,s4,s5,s6,s7⟩:=h.step (t:=t.toNat) (by omega) h1 h2 h3 hw;obtain⟨_,_,q3,q4⟩:=Q9q (show a<=60 by omega) h6 h7 s3 s2 s7;exact y6j h l (a+1) _ _ s4 s5 s6 h8.2 (by omega) q4 q3
    exact⟨by simp,z38 _⟩
theorem x9k{s:ByteArray}(hc:(Q0t s).1=0)(hcl:Q26 s=[])(l:List Int)(hk:Q0w (nR s) l=true)(hl:l.length<=60):(Q70 s l).st.length<=61*2000000000/\(Q70 s l).wanted.length<=9:=by
  have hT:=x44 hc hcl;exact y6j hT l 0 _ _ hT.start.1 hT.start.2 (by simp) hk (by omega) (by simp) (by simp)
def thr(ps:List Pr)(hs:List Hd)(R H:Nat):List Int->List Sy->List St->Option (List Sy × List St)
  | [],k,st=>some (k,st)
  |t::l,k,st=>if(Q5y hs R k).getD t.toNat false then thr ps hs R H l (Q7h ps hs H t.toNat k st).1 (Q7h ps hs H t.toNat k st).2 else none
section
variable {ps:List Pr}{hs:List Hd}{R H:Nat}
theorem y20:∀(l:List Int) (k:List Sy) (st:List St) (r:List Sy × List St),thr ps hs R H l k st=some r->∀j,∃r',thr ps hs R H (l.take j) k st=some r'
  | [],k,st,r,h,j=>⟨_,by rw[List.take_nil];rfl⟩
  |t::l,k,st,r,h,0=>⟨_,rfl⟩
  |t::l,k,st,r,h,j+1=>by
    unfold thr at h;split at h
    · rename_i hw
      obtain⟨r',h'⟩:=y20 l _ _ r h j;exact⟨r',by rw[List.take_succ_cons,thr,qAb hw];exact h'⟩
    cases h
theorem y74:∀(l:List Int) (a:Nat) (k:List Sy) (st:List St),∃(n:Nat) (r:List Sy × List St),n<=l.length/\thr ps hs R H (l.take n) k st=some r /\
    ((n=l.length/\(Q5y hs R r.1).getD R false=true/\(Q6a ps hs R H l a k st).err=0) ∨
     ((Q6a ps hs R H l a k st).err=10/\(Q6a ps hs R H l a k st).place=a+n/\(Q6a ps hs R H l a k st).st=[]/\(Q6a ps hs R H l a k st).wanted=Q28 (Q5y hs R r.1) /\
      (∀h:n<l.length,(Q5y hs R r.1).getD l[n].toNat false=false)/\(n=l.length->(Q5y hs R r.1).getD R false=false)))
  | [],a,k,st=>by
    refine⟨0,(k,st),qR _,rfl,?_⟩;unfold Q6a;split
    · rename_i hw;exact .inl ⟨rfl,hw,rfl⟩
    rename_i hw;exact .inr ⟨rfl,rfl,rfl,rfl,fun h=>absurd h (by simp),fun _=>by simpa using hw⟩
  |t::l,a,k,st=>by
    unfold Q6a;split
    · rename_i hw
      obtain⟨n,r,h1,h2,h3⟩:=y74 l (a+1) (Q7h ps hs H t.toNat k st).1 (Q7h ps hs H t.toNat k st).2;refine⟨n+1,r,by simpa using h1,by rw[List.take_succ_cons,thr,qAb hw];exact h2,?_⟩;rcases h3 with⟨e1,e2,e3⟩|⟨e1,e2,e3,e4,e5,e6⟩
      · exact .inl ⟨by simp[e1],e2,e3⟩
      exact .inr ⟨e1,by rw[e2];omega,e3,e4,fun h=>by simpa using e5 (by simpa using h),fun h=>e6 (by simpa using h)⟩
    rename_i hw;exact⟨0,(k,st),qBg _,rfl,.inr ⟨rfl,rfl,rfl,rfl,fun _=>by simpa using hw,fun h=>by simp at h⟩⟩
end
theorem y0x{R:Int}{l:List Int}(h:Q0w R l=true)(n:Nat):Q0w R (l.take n)=true:=by
  unfold Q0w at h ⊢;rw[qAn]at h ⊢;exact fun x hx=>h x (qEd hx)
section
variable {ps:List Pr}{R H:Nat}{hs:List Hd}
theorem y69(h:Tab ps R H hs):∀(l:List Int) (A:List St) (k β:List Sy) (st:List St),Q0d A=l->Q4t (hN hs) (hF hs) (hO hs) R k->Q27 R H k->(∀s∈st,0<=s.num/\s.num<=127)->Q1f ps A k=some β ->
    ∃k' st' C,thr ps hs R H l k st=some (k',st')/\(∀x∈C,x.leaf=false)/\Q1f ps C k'=some β/\Q4t (hN hs) (hF hs) (hO hs) R k'/\Q27 R H k'
  | [],A,k,β,st,hl,h1,h2,h3,hru=>⟨k,st,A,rfl,y0z hl,hru,h1,h2⟩
  |t::l,A,k,β,st,hl,h1,h2,h3,hru=>by
    obtain⟨B,C,rfl,hB,hC⟩:=z4m hl;have j0:=y8t h.g.tab _ _ _ h2 hru ⟨true,t⟩ (by simp);obtain⟨n,rfl⟩:∃n:Nat,t=n:=⟨t.toNat,by have:=j0.1;dsimp only at this;omega⟩;have j1:n<=R:=by have:=j0.2.1 rfl;dsimp only at this;omega
    have j2:Q6j (hN hs) (hF hs) R k n=true:=by unfold Q6j;rw[h.g.runFirst B k _ hB hru];rfl
    have hw:(Q5y hs R k).getD n false=true:=by rw[z3w h.ok h.hR k h2 n];exact j2
    obtain⟨s1,_,_,s4,s5,s6,_⟩:=h.step j1 h1 h2 h3 hw;rw[z24 (R:=R) (H:=H) (t:=n) (ch:=chL (Q53 (ps.zip (Q0p hs ps)) 72)) (ch':=chF hs ps) (fun X x0 x1=>z8j x0 (by have:=h.hH;omega) (by have:=h.hR;omega)) (fun p hp=>(h.syms p hp).2) _ _ _ h2]at s1;obtain⟨f,k',e1,e⟩:=h.g.runTo j1 B k β st h1 hB hru;have m1:=z15 _ _ _ _ s1 (max f (Q2u H k.length)) (by omega);have m2:=z15 _ _ _ _ e (max f (Q2u H k.length)) (by omega);rw[m1,qO]at m2;rw[m2]at s4 s5 s6;unfold thr;rw[qAl,qAb hw,m2];exact y69 h l C k' β _ hC s4 s5 s6 e1
theorem z6l(h:Tab ps R H hs):∀(l:List Int) (k:List Sy) (st:List St) (r:List Sy × List St),Q0w R l=true->Q4t (hN hs) (hF hs) (hO hs) R k->Q27 R H k->(∀s∈st,0<=s.num/\s.num<=127)->thr ps hs R H l k st=some r ->
    ∃A,Q0d A=l/\Q1f ps A k=some r.1/\Q4t (hN hs) (hF hs) (hO hs) R r.1/\Q27 R H r.1/\∀s∈r.2,0<=s.num/\s.num<=127
  | [],k,st,r,_,h1,h2,h3,hr=>by
    cases hr;exact⟨[],rfl,rfl,h1,h2,h3⟩
  |t::l,k,st,r,h4,h1,h2,h3,hr=>by
    have h5:(0<=t/\t<R)/\Q0w R l=true:=by
      unfold Q0w at h4 ⊢;simpa using h4
    unfold thr at hr;split at hr
    · rename_i hw
      have j1:t.toNat<=R:=by omega
      obtain⟨s1,_,_,s4,s5,s6,_⟩:=h.step j1 h1 h2 h3 hw;have j0:=s1;rw[z24 (R:=R) (H:=H) (t:=t.toNat) (ch:=chL (Q53 (ps.zip (Q0p hs ps)) 72)) (ch':=chF hs ps) (fun X x0 x1=>z8j x0 (by have:=h.hH;omega) (by have:=h.hR;omega)) (fun p hp=>(h.syms p hp).2) _ _ _ h2]at j0;have j2:=hw;rw[z3w h.ok h.hR k h2]at j2;obtain⟨ns,e1,e2⟩:=h.g.leaf j1 k h1 h2 j2 st j0;obtain⟨ns',e3,e4⟩:=y1z (t:=t.toNat) (fun X hX=>by obtain⟨p,q1,q2,_⟩:=h.g.chr X t.toNat hX;exact⟨p,q1,q2⟩) _ _ _ _ j0;have en:ns'=ns:=by rw[e1]at e3;exact(qEl e3).symm
      subst en;rcases e2 with⟨_,q1⟩|⟨q,_⟩
      · obtain⟨A,z1,z2,z3⟩:=z6l h l _ _ r h5.2 s4 s5 s6 hr
        refine⟨ns'++A,by rw[z0o,q1,z1,show((t.toNat:Nat):Int)=t by omega];rfl,?_,z3⟩;rw[z1f,e4];exact z2
      omega
    cases hr
def Vb(ps:List Pr)(l:List Int)(t:Nat):Prop:=∃A β,Q0d A=l/\Q1f ps A [⟨true,0⟩]=some (⟨false,t⟩::β)
def Ve(ps:List Pr)(l:List Int):Prop:=∃A,Q0d A=l/\Q1f ps A [⟨true,0⟩]=some []
theorem z97(h:Tab ps R H hs){l:List Int}(hk:Q0w R l=true){r:List Sy × List St}(hr:thr ps hs R H l [⟨true,0⟩] []=some r){t:Nat}(ht:t<R):(Q5y hs R r.1).getD t false=true↔Vb ps l t:=by
  obtain⟨A,z1,z2,z3,z4,z5⟩:=z6l h l _ _ r hk h.start.1 h.start.2 (by simp) hr;rw[z3w h.ok h.hR r.1 z4 t];constructor
  · intro hw
    have j2:(Q5y hs R r.1).getD t false=true:=by rw[z3w h.ok h.hR r.1 z4 t];exact hw
    obtain⟨s1,_⟩:=h.step (by omega:t<=R) z3 z4 z5 j2;have j0:=s1;rw[z24 (R:=R) (H:=H) (t:=t) (ch:=chL (Q53 (ps.zip (Q0p hs ps)) 72)) (ch':=chF hs ps) (fun X x0 x1=>z8j x0 (by have:=h.hH;omega) (by have:=h.hR;omega)) (fun p hp=>(h.syms p hp).2) _ _ _ z4]at j0;obtain⟨ns,e1,e2⟩:=h.g.leaf (by omega) r.1 z3 z4 hw r.2 j0;obtain⟨ns',e3,e4⟩:=y1z (t:=t) (fun X hX=>by obtain⟨p,q1,q2,_⟩:=h.g.chr X t hX;exact⟨p,q1,q2⟩) _ _ _ _ j0;have en:ns'=ns:=by rw[e1]at e3;exact(qEl e3).symm
    subst en;rcases e2 with⟨_,q1⟩|⟨q,_⟩
    · obtain⟨B,C,rfl,hB,hC⟩:=z4m q1
      rw[z1f]at e4;cases hb:Q1f ps B r.1 with
      |none=>rw[hb]at e4;cases e4
      |some β =>
        rw[hb,qCn]at e4;obtain⟨y,k',rfl,y1,y2,_⟩:=z08 rfl e4;refine⟨A++B,k',by rw[z0o,z1,z27 hB,qAt],?_⟩;rw[z1f,z2,qCn,hb];obtain⟨yh,yn⟩:=y;dsimp only at y1 y2;rw[y1,y2]
    omega
  rintro⟨A',β,q1,q2⟩;obtain⟨k',st',C,e1,e2,e3,e4,e5⟩:=y69 h l A' [⟨true,0⟩] _ [] q1 h.start.1 h.start.2 (by simp) q2;rw[hr,qO]at e1;have j1:r.1=k':=by rw[e1]
  rw[j1];have:Q1f ps (C++⟨true,(t:Int)⟩::[]) k'=some β:=by
    rw[z1f,e3,qCn];simp[Q1f]
  unfold Q6j;rw[h.g.runFirst C k' _ e2 this];rfl
theorem y22(h:Tab ps R H hs){l:List Int}(hk:Q0w R l=true){r:List Sy × List St}(hr:thr ps hs R H l [⟨true,0⟩] []=some r):(Q5y hs R r.1).getD R false=true↔Ve ps l:=by
  obtain⟨A,z1,z2,z3,z4,z5⟩:=z6l h l _ _ r hk h.start.1 h.start.2 (by simp) hr;rw[z3w h.ok h.hR r.1 z4 R];constructor
  · intro hw
    have j2:(Q5y hs R r.1).getD R false=true:=by rw[z3w h.ok h.hR r.1 z4 R];exact hw
    obtain⟨s1,_⟩:=h.step (qR R) z3 z4 z5 j2;have j0:=s1;rw[z24 (R:=R) (H:=H) (t:=R) (ch:=chL (Q53 (ps.zip (Q0p hs ps)) 72)) (ch':=chF hs ps) (fun X x0 x1=>z8j x0 (by have:=h.hH;omega) (by have:=h.hR;omega)) (fun p hp=>(h.syms p hp).2) _ _ _ z4]at j0;obtain⟨ns,e1,e2⟩:=h.g.leaf (qR _) r.1 z3 z4 hw r.2 j0;obtain⟨ns',e3,e4⟩:=y1z (t:=R) (fun X hX=>by obtain⟨p,q1,q2,_⟩:=h.g.chr X R hX;exact⟨p,q1,q2⟩) _ _ _ _ j0;have en:ns'=ns:=by rw[e1]at e3;exact(qEl e3).symm
    subst en;rcases e2 with⟨q,_⟩|⟨_,q1,q2⟩
    · omega
    refine⟨A++ns',by rw[z0o,z1,q1,qAt],?_⟩;rw[z1f,z2,qCn,e4,q2]
  rintro⟨A',q1,q2⟩;obtain⟨k',st',C,e1,e2,e3,e4,e5⟩:=y69 h l A' [⟨true,0⟩] _ [] q1 h.start.1 h.start.2 (by simp) q2;rw[hr,qO]at e1;have j1:r.1=k':=by rw[e1]
  rw[j1];unfold Q6j;rw[h.g.runNull C k' e2 e3];simp
theorem y82:∀(l:List Int) (k:List Sy) (st:List St) (t:Int),thr ps hs R H (l++[t]) k st=(thr ps hs R H l k st).bind (fun r=>if(Q5y hs R r.1).getD t.toNat false=true then some (Q7h ps hs H t.toNat r.1 r.2) else none)
  | [],k,st,t=>by
    rw[qBq,thr];simp only[thr,qCn]
  |x::l,k,st,t=>by
    rw[qAw,thr,thr];split
    · exact y82 l _ _ t
    rfl
end
theorem z5c{X Y l:List Int}{f n:Nat}(h:X++Y=(l.drop f).take (n-f))(hn:n<=l.length)(hf:f<=n):X=(l.drop f).take X.length/\Y=(l.drop (f+X.length)).take (n-(f+X.length))/\f+X.length<=n:=by
  have hl:X.length+Y.length=n-f:=by
    have:=qDn List.length h;rw[qP,qBo,qBx]at this;omega
  refine⟨?_,?_,by omega⟩
  · have e:(X++Y).take X.length=X:=List.take_left
    rw[h,qEf,qDq (by omega)]at e;exact e.symm
  have e:(X++Y).drop X.length=Y:=List.drop_left;rw[h,List.drop_take,List.drop_drop]at e;rw[← e,show n-(f+X.length)=n-f-X.length by omega]
theorem z6e{s:St}(hs:s.leaf=false)(h:0<=s.num):s=⟨false,(s.num.toNat:Int)⟩:=by
  obtain⟨a,b⟩:=s;dsimp only at hs h ⊢;rw[hs];congr 1;omega
section
variable {ps:List Pr}
theorem spine:∀(A:List St) (k:List Sy) (Y:Sy) (γ:List Sy),Q1f ps A k=some (Y::γ) ->
    (∃a,k=a++Y::γ/\Q1f ps A a=some []) ∨
    (∃(p:Nat) (q:Pr) (d:Nat) (A' B':List St) (γ':List Sy),ps[p]? = some q/\q.syms[d]? = some Y/\γ=q.syms.drop (d+1)++γ'/\A=A'++⟨false,(p:Int)⟩::B'/\Q1f ps A' k=some (⟨true,q.head⟩::γ')/\Q1f ps B' (q.syms.take d)=some [])
  | [],k,Y,γ,h=>by
    cases h;exact .inl ⟨[],rfl,rfl⟩
  |s::A,k,Y,γ,h=>by
    cases hs:s.leaf
    · obtain⟨y,k',q,rfl,h1,h2,h3,h4,h5⟩:=z05 hs h
      have j0:=z6e hs h2;have hy:y=⟨true,q.head⟩:=by
        obtain⟨a,b⟩:=y;dsimp only at h1 h4;rw[h1,h4]
      have step:∀z,Q1f ps (s::A) (y::z)=Q1f ps A (q.syms++z):=fun z=>by
        simp only[Q1f,hs,qF,qAp];rw[qAb ⟨h1,h2⟩,h3];simp only[];rw[qAb h4]
      rcases spine A (q.syms++k') Y γ h5 with⟨a,e,hr⟩|⟨p2,q2,d2,A',B',γ',e1,e2,e3,e4,e5,e6⟩
      · rcases List.append_eq_append_iff.1 e with⟨a2,e1,e2⟩|⟨b,e1,e2⟩
        · subst e1
          exact .inl ⟨y::a2,by rw[e2];rfl,by rw[step];exact hr⟩
        cases b with
        |nil =>
          rw[qAt]at e1;rw[qBq]at e2;exact .inl ⟨[y],by rw[← e2];rfl,by rw[step,qAt,e1];exact hr⟩
        |cons z b =>
          rw[qAw,qAu]at e2;obtain⟨rfl,e2⟩:=e2;refine .inr ⟨s.num.toNat,q,a.length,[],A,k',h3,by rw[e1];simp,?_,by rw[qBq,← j0],by rw[← hy];rfl,?_⟩
          · rw[e1,e2];simp
          rw[e1,List.take_left];exact hr
      refine .inr ⟨p2,q2,d2,s::A',B',γ',e1,e2,e3,by rw[e4];rfl,?_,e6⟩;have:Q1f ps (s::A') (y::k')=Q1f ps A' (q.syms++k'):=by
        simp only[Q1f,hs,qF,qAp];rw[qAb ⟨h1,h2⟩,h3];simp only[];rw[qAb h4]
      rw[this];exact e5
    obtain⟨y,k',rfl,h1,h2,h3⟩:=z08 hs h;have step:∀(A:List St) z,Q1f ps (s::A) (y::z)=Q1f ps A z:=fun A z=>by
      simp only[Q1f,hs,qBb];rw[qAb ⟨h1,h2⟩]
    rcases spine A k' Y γ h3 with⟨a,e,hr⟩|⟨p2,q2,d2,A',B',γ',e1,e2,e3,e4,e5,e6⟩
    · exact .inl ⟨y::a,by rw[e];rfl,by rw[step];exact hr⟩
    exact .inr ⟨p2,q2,d2,s::A',B',γ',e1,e2,e3,by rw[e4];rfl,by rw[step];exact e5,e6⟩
def It(ps:List Pr)(l:List Int)(n p d f:Nat):Prop :=
  ∃q,ps[p]? = some q/\d<=q.syms.length/\f<=n/\(∃B,Q1f ps B (q.syms.take d)=some []/\Q0d B=(l.drop f).take (n-f))/\(∃A γ,Q1f ps A [⟨true,0⟩]=some (⟨true,q.head⟩::γ)/\Q0d A=l.take f)
theorem z3k{p:Nat}{q:Pr}{B:List St}{γ:List Sy}(hp:ps[p]? = some q):Q1f ps (⟨false,(p:Int)⟩::B) (⟨true,q.head⟩::γ)=Q1f ps B (q.syms++γ):=by
  simp only[Q1f,qF,qAp];rw[qAb ⟨trivial,by omega⟩,qAl,hp];simp
theorem It.at'{l:List Int}{n p d f:Nat}(h:It ps l n p d f)(hn:n<=l.length):∃q A γ,ps[p]? = some q/\Q0d A=l.take n/\Q1f ps A [⟨true,0⟩]=some (q.syms.drop d++γ):=by
  obtain⟨q,hp,hd,hf,⟨B,b1,b2⟩,A,γ,a1,a2⟩:=h;refine⟨q,A++⟨false,(p:Int)⟩::B,γ,hp,?_,?_⟩
  · rw[z0o,a2]
    have:Q0d (⟨false,(p:Int)⟩::B)=Q0d B:=by simp[Q0d]
    rw[this,b2,← qEo,show f+(n-f)=n by omega]
  rw[z1f,a1,qCn,z3k hp];have:=z20 B _ _ (q.syms.drop d++γ) b1;rw[← qAh,qDz,qBq]at this;exact this
theorem x2x{l:List Int}{p:Nat}{q:Pr}(hp:ps[p]? = some q)(hh:q.head=0):It ps l 0 p 0 0 :=
  ⟨q,hp,qBg _,qR _,⟨[],rfl,by simp[Q0d]⟩,[],[],by rw[hh];rfl,by simp[Q0d]⟩
theorem z93{q:Pr}{d:Nat}{Y:Sy}(h:q.syms[d]? = some Y):q.syms.take (d+1)=q.syms.take d++[Y]:=by
  rw[qCc,h];rfl
theorem x2z{l:List Int}{n p d f:Nat}{q:Pr}{t:Int}(h:It ps l n p d f)(hp:ps[p]? = some q)(hs:q.syms[d]? = some ⟨false,t⟩)(ht:l[n]? = some t):It ps l (n+1) p (d+1) f:=by
  obtain⟨q',hp',hd,hf,⟨B,b1,b2⟩,c⟩:=h;rw[hp,qO]at hp';subst hp';have j0:=(qS hs).1;refine⟨q,hp,j0,by omega,⟨B++[⟨true,t⟩],?_,?_⟩,c⟩
  · rw[z93 hs]
    refine y5a b1 ?_;simp[Q1f]
  rw[z0o,b2,show n+1-f=(n-f)+1 by omega,qCc,qCq,show f+(n-f)=n by omega,ht];rfl
theorem x2y{l:List Int}{n p d f p':Nat}{q q':Pr}{X:Int}(h:It ps l n p d f)(hn:n<=l.length)(hp:ps[p]? = some q)(hs:q.syms[d]? = some ⟨true,X⟩)(hp':ps[p']? = some q')(hh:q'.head=X):It ps l n p' 0 n:=by
  obtain⟨q2,A,γ,e1,e2,e3⟩:=h.at' hn;rw[hp,qO]at e1;subst e1;obtain⟨hdl,hdq⟩:=qS hs;refine⟨q',hp',qBg _,qR _,⟨[],by simp[Q1f],by simp[Q0d]⟩,A,q.syms.drop (d+1)++γ,?_,e2⟩;rw[e3,qC hdl,hdq,hh];rfl
theorem x2w{l:List Int}{n p f p' d' f':Nat}{q q':Pr}(h:It ps l n p q.syms.length f)(hn:n<=l.length)(hp:ps[p]? = some q)(h':It ps l f p' d' f')(hp':ps[p']? = some q')(hs:q'.syms[d']? = some ⟨true,q.head⟩):It ps l n p' (d'+1) f':=by
  obtain⟨q2,e1,_,hf,⟨B,b1,b2⟩,_⟩:=h;rw[hp,qO]at e1;subst e1;obtain⟨q3,e1,hd3,hf3,⟨B',b3,b4⟩,c⟩:=h';rw[hp',qO]at e1;subst e1;have j0:=(qS hs).1;refine⟨q',hp',j0,by omega,⟨B'++⟨false,(p:Int)⟩::B,?_,?_⟩,c⟩
  · rw[z93 hs]
    refine y5a b3 ?_;rw[z3k hp,qAt];rw[qAr]at b1;exact b1
  have:Q0d (⟨false,(p:Int)⟩::B)=Q0d B:=by simp[Q0d]
  rw[z0o,this,b4,b2];have e:l.drop f=(l.drop f').drop (f-f'):=by rw[List.drop_drop,show f'+(f-f')=f by omega]
  rw[e,← qEo,show f-f'+(n-f)=n-f' by omega]
structure Clo(ps:List Pr)(l:List Int)(N:Nat)(S:Nat->Nat->Nat->Nat->Prop):Prop where
  init:∀p q,ps[p]? = some q->q.head=0->S 0 p 0 0
  scan:∀n p d f q t,n<N->S n p d f->ps[p]? = some q->q.syms[d]? = some ⟨false,t⟩->l[n]? = some t->S (n+1) p (d+1) f
  pred:∀n p d f q p' q',n<=N->S n p d f->ps[p]? = some q->q.syms[d]? = some ⟨true,q'.head⟩->ps[p']? = some q'->S n p' 0 n
  comp:∀n p f q p' d' f' q',n<=N->S n p q.syms.length f->ps[p]? = some q->S f p' d' f'->ps[p']? = some q'->q'.syms[d']? = some ⟨true,q.head⟩->S n p' (d'+1) f'
theorem x2v{l:List Int}{N:Nat}{S:Nat->Nat->Nat->Nat->Prop}(h:Clo ps l N S)(hNl:N<=l.length):∀(T b n p d f:Nat) (q:Pr) (A B:List St) (γ:List Sy),n<=N->ps[p]? = some q->d<=q.syms.length->f<=n->Q1f ps B (q.syms.take d)=some []->Q0d B=(l.drop f).take (n-f) ->
    Q1f ps A [⟨true,0⟩]=some (⟨true,q.head⟩::γ)->Q0d A=l.take f->A.length+B.length=T->B.length=b->S n p d f:=by
  intro T;induction T using Nat.strongRecOn with
  |_ T ihT =>
    intro b;induction b using Nat.strongRecOn with
    |_ b ihb =>
      intro n p d f q A B γ hnN hp hd hf hB hlB hA hlA hT hb;cases d with
      |zero =>
        rw[List.take_zero]at hB;have j5:=z21 hB;subst j5;have j9:f=n:=by
          have:=qDn List.length hlB;rw[qBo,qBx]at this;simp[Q0d]at this;omega
        subst j9;by_cases hA0:A=[]
        · subst hA0
          have e:([⟨true,0⟩]:List Sy)=⟨true,q.head⟩::γ:=by simpa [Q1f]using hA
          rw[qAu,Sy.mk.injEq]at e;have j8:f=0:=by
            have:=qDn List.length hlA;rw[qBo]at this;simp[Q0d]at this;omega
          subst j8;exact h.init p q hp e.1.2.symm
        rcases spine A [⟨true,0⟩] ⟨true,q.head⟩ γ hA with⟨a,e,hr⟩|⟨p2,q2,d2,A',B',γ',e1,e2,e3,e4,e5,e6⟩
        · cases a with
          |nil=>exact absurd (z21 hr) hA0
          |cons z a=>simp at e
        have ja:Q0d A'++Q0d B'=(l.drop 0).take (f-0):=by
          rw[qDe,Nat.sub_zero,← hlA,e4,z0o];congr 1
        obtain⟨c1,c2,c3⟩:=z5c ja (by omega) (by omega);rw[qDe]at c1;rw[qBi]at c2 c3;have jc:A.length=A'.length+(B'.length+1):=by rw[e4];simp
        have ji:=(qS e2).1;have hS:=ihT (A'.length+B'.length) (by simp at hT;omega) B'.length f p2 d2 (Q0d A').length q2 A' B' γ' hnN e1 (by omega) c3 e6 c2 e5 c1 rfl rfl;exact h.pred f p2 d2 _ q2 p q hnN hS e1 e2 hp
      |succ d =>
        have j3:d<q.syms.length:=hd;have hY:q.syms[d]? = some q.syms[d]:=qE j3;rw[z93 hY]at hB;obtain⟨B1,B2,rfl,h1,h2⟩:=z2t ps B (q.syms.take d) [q.syms[d]] hB;rw[z0o]at hlB;obtain⟨c1,c2,c3⟩:=z5c hlB (by omega) hf;generalize hm:f+(Q0d B1).length=m at c2 c3;have jf:(Q0d B1).length=m-f:=by omega
        rw[jf]at c1;generalize q.syms[d]=Y at hY h2;rw[qP]at hT hb;cases B2 with
        |nil=>simp[Q1f]at h2
        |cons s B3 =>
          have j1:=ihT (A.length+B1.length) (by simp at hT;omega) B1.length m p d f q A B1 γ (by omega) hp (by omega) (by omega) h1 c1 hA hlA rfl rfl;cases hs:s.leaf
          · obtain⟨y,k',q2,e0,y1,y2,y3,y4,y5⟩:=z05 hs h2
            rw[qAu]at e0;obtain⟨rfl,rfl⟩:=e0;rw[qAt]at y5;have jh:=z6e hs y2;have j2:Y=⟨true,q2.head⟩:=by
              obtain⟨a,b⟩:=Y;dsimp only at y1 y4;rw[y1,y4]
            have jb:Q0d B3=(l.drop m).take (n-m):=by
              rw[← c2,jh];simp[Q0d]
            have j4:Q1f ps (A++⟨false,(p:Int)⟩::B1) [⟨true,0⟩]=some (⟨true,q2.head⟩::(q.syms.drop (d+1)++γ)):=by
              rw[z1f,hA,qCn,z3k hp];have:=z20 B1 _ _ (q.syms.drop d++γ) h1;rw[← qAh,qDz,qBq]at this;rw[this,qC j3,(qS hY).2,j2];rfl
            have j0:Q0d (A++⟨false,(p:Int)⟩::B1)=l.take m:=by
              rw[z0o,hlA];have:Q0d (⟨false,(p:Int)⟩::B1)=Q0d B1:=by simp[Q0d]
              rw[this,c1,← qEo,show f+(m-f)=m by omega]
            have j7:=ihb B3.length (by simp at hb;omega) n s.num.toNat q2.syms.length m q2 (A++⟨false,(p:Int)⟩::B1) B3 _ hnN y3 (qR _) c3 (by rw[qAr];exact y5) jb j4 j0 (by simp at hT ⊢;omega) rfl;exact h.comp n s.num.toNat m q2 p d f q hnN j7 y3 j1 hp (by rw[hY,j2])
          obtain⟨y,k',e0,y1,y2,y3⟩:=z08 hs h2;rw[qAu]at e0;obtain⟨rfl,rfl⟩:=e0;have j6:=z21 y3;subst j6;have je:Q0d [s]=[s.num]:=by simp[Q0d,hs]
          rw[je]at c2;have jg:n=m+1:=by
            have:=qDn List.length c2;rw[qBo,qBx]at this;simp at this;omega
          subst jg;have jd:l[m]? = some s.num:=by
            rw[show m+1-m=1 by omega]at c2;have:=qDn (fun x=>x[0]?) c2;simp only[qBz]at this;rw[List.getElem?_take,qAb (by omega),qCq,Nat.add_zero]at this;exact this.symm
          refine h.scan m p d f q s.num (by omega) j1 hp ?_ jd;rw[hY];obtain⟨a,b⟩:=Y;dsimp only at y1 y2;rw[y1,y2]
theorem Clo.all{l:List Int}{N:Nat}{S:Nat->Nat->Nat->Nat->Prop}(h:Clo ps l N S)(hNl:N<=l.length){n p d f:Nat}(hn:n<=N)(hI:It ps l n p d f):S n p d f:=by
  obtain⟨q,hp,hd,hf,⟨B,b1,b2⟩,A,γ,a1,a2⟩:=hI;exact x2v h hNl _ _ n p d f q A B γ hn hp hd hf b1 b2 a1 a2 rfl rfl
theorem x7r{l:List Int}{t:Nat}:Vb ps l t↔∃p q d f,It ps l l.length p d f/\ps[p]? = some q/\q.syms[d]? = some ⟨false,(t:Int)⟩:=by
  constructor
  · rintro⟨A,β,h1,h2⟩
    rcases spine A [⟨true,0⟩] ⟨false,t⟩ β h2 with⟨a,e,hr⟩|⟨p,q,d,A',B',γ',e1,e2,e3,e4,e5,e6⟩
    · cases a with
      |nil=>simp at e
      |cons z a=>simp at e
    have j0:Q0d A'++Q0d B'=(l.drop 0).take (l.length-0):=by
      rw[qDe,Nat.sub_zero,qAr,← h1,e4,z0o];congr 1
    obtain⟨c1,c2,c3⟩:=z5c j0 (qR _) (by omega);rw[qDe]at c1;rw[qBi]at c2 c3;have j1:=(qS e2).1;exact⟨p,q,d,(Q0d A').length,⟨q,e1,by omega,c3,⟨B',e6,c2⟩,A',γ',e5,c1⟩,e1,e2⟩
  rintro⟨p,q,d,f,h1,h2,h3⟩;obtain⟨q2,A,γ,e1,e2,e3⟩:=h1.at' (qR _);rw[h2,qO]at e1;subst e1;obtain⟨hdl,hdq⟩:=qS h3;refine⟨A,q.syms.drop (d+1)++γ,by rw[e2,qAr],?_⟩;rw[e3,qC hdl,hdq];rfl
theorem x7s{l:List Int}:Ve ps l↔∃p q,It ps l l.length p q.syms.length 0/\ps[p]? = some q/\q.head=0:=by
  constructor
  · rintro⟨A,h1,h2⟩
    cases A with
    |nil=>simp[Q1f]at h2
    |cons s A =>
      cases hs:s.leaf
      · obtain⟨y,k',q,e0,y1,y2,y3,y4,y5⟩:=z05 hs h2
        rw[qAu]at e0;obtain⟨rfl,rfl⟩:=e0;rw[qAt]at y5;have j0:=z6e hs y2;refine⟨s.num.toNat,q,⟨q,y3,qR _,qBg _,⟨A,by rw[qAr];exact y5,?_⟩,[],[],by rw[y4];rfl,by simp[Q0d]⟩,y3,y4⟩;rw[qDe,Nat.sub_zero,qAr,← h1,j0];simp[Q0d]
      obtain⟨y,k',e0,y1,y2,y3⟩:=z08 hs h2;rw[qAu]at e0;obtain⟨rfl,_⟩:=e0;cases y1
  rintro⟨p,q,h1,h2,h3⟩;obtain⟨q2,e1,_,_,⟨B,b1,b2⟩,_⟩:=h1;rw[h2,qO]at e1;subst e1;refine⟨⟨false,(p:Int)⟩::B,?_,?_⟩
  · have:Q0d (⟨false,(p:Int)⟩::B)=Q0d B:=by simp[Q0d]
    rw[this,b2,qDe,Nat.sub_zero,qAr]
  rw[← h3,z3k h2,qAt];rw[qAr]at b1;exact b1
end
def Ds(ps:List Pr)(l:List Int)(ys:List Sy)(i j:Nat):Prop:=i<=j/\j<=l.length/\∃B,Q1f ps B ys=some []/\Q0d B=(l.drop i).take (j-i)
def toL(g:Nat->Bool):Nat->Nat->Nat
  |0,t=>t
  |f+1,t=>if g t=true then t else toL g f (t+1)
theorem x8s(g:Nat->Bool)(m:Nat)(hg:g m=true)(hne:∀t,t<m->g t=true->False):∀(f t:Nat),t<=m->m<=t+f->toL g f t=m
  |0,t,h1,h2=>by unfold toL;omega
  |f+1,t,h1,h2=>by
    unfold toL;by_cases e:t=m
    · subst e;rw[qAb hg]
    rw[qAa (fun q=>hne t (by omega) q)];exact x8s g m hg hne f (t+1) (by omega) (by omega)
def toF(rc:List Sy->Nat->Nat->Bool)(y:Sy)(ys:List Sy)(i j:Nat):Nat:=toL (fun t=>rc [y] i t&&rc ys t j) (j-i) i
def rowN(rc:List Sy->Nat->Nat->Bool)(T:Int->Nat->Nat->List Nd):List Sy->Nat->Nat->List Nd
  | [],_,_=>[]
  |y::ys,i,j=>(if y.isH=false then [⟨-1,y.num,i,1⟩] else T y.num i (toF rc y ys i j))++rowN rc T ys (toF rc y ys i j) j
def Q7f(ps:List Pr)(rc:List Sy->Nat->Nat->Bool)(h:Int)(i j:Nat):Nat:=ps.findIdx fun q=>q.head==h&&rc q.syms i j
def Q77(ps:List Pr)(rc:List Sy->Nat->Nat->Bool):Nat->Int->Nat->Nat->List Nd
  |0,_,_,_=>[]
  |f+1,h,i,j=>match ps[Q7f ps rc h i j]? with
    |some q=>⟨(Q7f ps rc h i j:Int),-1,i,((rowN rc (Q77 ps rc f) q.syms i j).length:Int)+1⟩::rowN rc (Q77 ps rc f) q.syms i j
    |none=>[]
theorem y8k:∀(n:Nat) (V:List Int),V.Nodup->(∀v∈V,0<=v/\v<(n:Int))->V.length<=n
  |0,[],_,_=>qR _
  |0,v::V,_,h=>by
    have:=h v (by simp);omega
  |n+1,V,hn,h=>by
    have h1:=y8k n (V.erase (n:Int)) (hn.erase _) (fun v hv=>by
      have hm:=(List.Nodup.mem_erase_iff hn).1 hv;have:=h v hm.2;have:=hm.1;omega)
    rw[List.length_erase]at h1;split at h1
    · omega
    omega
section
variable {ps:List Pr}{l:List Int}
theorem z66:∀(A B C D:List St) (ys:List Sy),A++B=C++D->Q1f ps A ys=some []->Q1f ps C ys=some []->A=C
  | [],B,C,D,ys,_,h1,h2=>by
    cases h1;exact(z21 h2).symm
  |s::A,B,[],D,ys,_,h1,h2=>by
    cases h2;exact z21 h1
  |s::A,B,c::C,D,ys,e,h1,h2=>by
    rw[qAw,qAw,qAu]at e;obtain⟨rfl,e⟩:=e;congr 1;cases hs:s.leaf
    · obtain⟨y,k',q,rfl,g1,g2,g3,g4,g5⟩:=z05 hs h1
      obtain⟨y',k2,q',e0,f1,f2,f3,f4,f5⟩:=z05 hs h2;rw[qAu]at e0;obtain⟨_,rfl⟩:=e0;rw[g3,qO]at f3;subst f3;exact z66 A B C D _ e g5 f5
    obtain⟨y,k',rfl,g1,g2,g3⟩:=z08 hs h1;obtain⟨y',k2,e0,f1,f2,f3⟩:=z08 hs h2;rw[qAu]at e0;obtain⟨_,rfl⟩:=e0;exact z66 A B C D _ e g3 f3
def Ctx(ps:List Pr)(l:List Int)(ys:List Sy)(i j:Nat):Prop:=∃A0 γ A1,Q1f ps A0 [⟨true,0⟩]=some (ys++γ)/\Q0d A0=l.take i/\Q1f ps A1 γ=some []/\Q0d A1=l.drop j
def Uni(ps:List Pr)(l:List Int):Prop:=∀A A',Q1f ps A [⟨true,0⟩]=some []->Q1f ps A' [⟨true,0⟩]=some []->Q0d A=l->Q0d A'=l->A=A'
theorem Ctx.one{ys:List Sy}{i j:Nat}(hU:Uni ps l)(h:Ctx ps l ys i j)(hij:i<=j){B B':List St}(h1:Q1f ps B ys=some [])(h2:Q1f ps B' ys=some [])(l1:Q0d B=(l.drop i).take (j-i))(l2:Q0d B'=(l.drop i).take (j-i)):B=B':=by
  obtain⟨A0,γ,A1,a1,a2,a3,a4⟩:=h;have j0:∀X,Q1f ps X ys=some []->Q0d X=(l.drop i).take (j-i)->Q1f ps (A0++(X++A1)) [⟨true,0⟩]=some []/\Q0d (A0++(X++A1))=l:=fun X hX lX=>by
    refine⟨?_,?_⟩
    · rw[z1f,a1,qCn,z1f,z20 X ys [] γ hX];exact a3
    rw[z0o,z0o,a2,lX,a4,← qAh,← qEo,show i+(j-i)=j by omega,qDz]
  have e:=hU _ _ (j0 B h1 l1).1 (j0 B' h2 l2).1 (j0 B h1 l1).2 (j0 B' h2 l2).2;have e2:=qEl e;exact List.append_cancel_right e2
theorem z4n{p:Int}{B:List St}:Q0d (⟨false,p⟩::B)=Q0d B:=by simp[Q0d]
theorem Ctx.prod{h:Int}{i j p:Nat}{q:Pr}(hc:Ctx ps l [⟨true,h⟩] i j)(hp:ps[p]? = some q)(hh:q.head=h):Ctx ps l q.syms i j:=by
  obtain⟨A0,γ,A1,a1,a2,a3,a4⟩:=hc;subst hh;refine⟨A0++[⟨false,(p:Int)⟩],γ,A1,?_,by rw[z0o,a2,z4n];simp[Q0d],a3,a4⟩;rw[z1f,a1,qCn,List.singleton_append,z3k hp];rfl
theorem Ctx.first{y:Sy}{ys:List Sy}{i j m:Nat}{B2:List St}(hc:Ctx ps l (y::ys) i j)(hmj:m<=j)(h2:Q1f ps B2 ys=some [])(l2:Q0d B2=(l.drop m).take (j-m)):Ctx ps l [y] i m:=by
  obtain⟨A0,γ,A1,a1,a2,a3,a4⟩:=hc;refine⟨A0,ys++γ,B2++A1,by rw[a1];rfl,a2,?_,?_⟩
  · rw[z1f,z20 B2 ys [] γ h2];exact a3
  rw[z0o,l2,a4];have:l.drop j=(l.drop m).drop (j-m):=by rw[List.drop_drop,show m+(j-m)=j by omega]
  rw[this,qDz]
theorem Ctx.rest{y:Sy}{ys:List Sy}{i j m:Nat}{B1:List St}(hc:Ctx ps l (y::ys) i j)(him:i<=m)(h1:Q1f ps B1 [y]=some [])(l1:Q0d B1=(l.drop i).take (m-i)):Ctx ps l ys m j:=by
  obtain⟨A0,γ,A1,a1,a2,a3,a4⟩:=hc;refine⟨A0++B1,γ,A1,?_,?_,a3,a4⟩
  · rw[z1f,a1,qCn]
    have:=z20 B1 [y] [] (ys++γ) h1;exact this
  rw[z0o,a2,l1,← qEo,show i+(m-i)=m by omega]
def RcIs(ps:List Pr)(l:List Int)(R H:Nat)(rc:List Sy->Nat->Nat->Bool):Prop:=∀(ys:List Sy) (i j:Nat),Q27 R H ys->i<=l.length->(rc ys i j=true↔Ds ps l ys i j)
theorem v2h{R H:Nat}{rc:List Sy->Nat->Nat->Bool}(hrc:RcIs ps l R H rc)(hU:Uni ps l){y:Sy}{ys:List Sy}(hv:Q27 R H (y::ys)){i j m:Nat}{B1 B2:List St}(hc:Ctx ps l (y::ys) i j)(him:i<=m)(hmj:m<=j)(hj:j<=l.length)(h1:Q1f ps B1 [y]=some [])(h2:Q1f ps B2 ys=some [])
    (l1:Q0d B1=(l.drop i).take (m-i)) (l2:Q0d B2=(l.drop m).take (j-m)):toF rc y ys i j=m:=by
  have join:∀(t:Nat) (X Y:List St),i<=t->t<=j->Q1f ps X [y]=some []->Q1f ps Y ys=some []->Q0d X=(l.drop i).take (t-i)->Q0d Y=(l.drop t).take (j-t)->Q1f ps (X++Y) (y::ys)=some []/\Q0d (X++Y)=(l.drop i).take (j-i):=fun t X Y ht1 ht2 q1 q2 q3 q4=>by
    refine⟨?_,?_⟩
    · rw[z1f,show y::ys=[y]++ys from rfl,z20 X [y] [] ys q1];exact q2
    rw[z0o,q3,q4];have:l.drop t=(l.drop i).drop (t-i):=by rw[List.drop_drop,show i+(t-i)=t by omega]
    rw[this,← qEo,show t-i+(j-t)=j-i by omega]
  have j0:∀(t:Nat) (X:List St),i<=t->t<=l.length->Q0d X=(l.drop i).take (t-i)->(Q0d X).length=t-i:=fun t X ht1 ht2 q=>by
    rw[q,qBo,qBx];omega
  have j1:Q27 R H [y]:=fun s hs=>hv s (by rw[qM]at hs;subst hs;simp);have j2:Q27 R H ys:=fun s hs=>hv s (by simp[hs]);refine x8s _ m ?_ (fun t ht hg=>?_) _ _ him (by omega)
  · rw[qAc]
    exact⟨(hrc [y] i m j1 (by omega)).2 ⟨him,by omega,B1,h1,l1⟩,(hrc ys m j j2 (by omega)).2 ⟨hmj,hj,B2,h2,l2⟩⟩
  rw[qAc]at hg;by_cases hi:i<=t
  · obtain⟨g1,g2,X,x1,x2⟩:=(hrc [y] i t j1 (by omega)).1 hg.1
    obtain⟨g3,g4,Y,y1,y2⟩:=(hrc ys t j j2 (by omega)).1 hg.2;have e:=hc.one hU (by omega) (join t X Y hi (by omega) x1 y1 x2 y2).1 (join m B1 B2 him hmj h1 h2 l1 l2).1 (join t X Y hi (by omega) x1 y1 x2 y2).2 (join m B1 B2 him hmj h1 h2 l1 l2).2;have e2:=z66 X Y B1 B2 [y] e x1 h1;have q1:=j0 t X hi (by omega) x2;have q2:=j0 m B1 him (by omega) l1;rw[e2]at q1;omega
  have:=((hrc [y] i t j1 (by omega)).1 hg.1).1;omega
theorem x8m{R H:Nat}{rc:List Sy->Nat->Nat->Bool}(hrc:RcIs ps l R H rc)(hU:Uni ps l)(T:Int->Nat->Nat->List Nd):∀(ys:List Sy) (i j:Nat) (B:List St),Q27 R H ys->Ctx ps l ys i j->i<=j->j<=l.length->Q1f ps B ys=some []->Q0d B=(l.drop i).take (j-i) ->
    (∀(y:Sy) (i' j':Nat) (B1:List St),y.isH=true->i<=i'->i'<=j'->j'<=j->B1.length<=B.length->Q1f ps B1 [y]=some []->Q0d B1=(l.drop i').take (j'-i')->Ctx ps l [y] i' j'->T y.num i' j'=Q4a ps B1 i')->rowN rc T ys i j=Q4a ps B i
  | [],i,j,B,_,_,_,_,h,_,_=>by
    rw[z21 h];rfl
  |y::ys,i,j,B,hv,hc,hij,hj,h,hl,hT=>by
    obtain⟨B1,B2,rfl,h1,h2⟩:=z2t ps B [y] ys h;rw[z0o]at hl;obtain⟨c1,c2,c3⟩:=z5c hl hj hij;generalize hm:i+(Q0d B1).length=m at c2 c3;have j1:(Q0d B1).length=m-i:=by omega
    rw[j1]at c1;have j0:i<=m:=by omega
    have j2:=v2h hrc hU hv hc j0 c3 hj h1 h2 c1 c2;rw[y96 ps i h1,j1,show i+(m-i)=m by omega];unfold rowN;rw[j2,x8m hrc hU T ys m j B2 (fun s hs=>hv s (by simp[hs])) (hc.rest j0 h1 c1) c3 hj h2 c2 (fun y' i' j' X q1 q2 q3 q4 q5 q6 q7 q8=>hT y' i' j' X q1 (by omega) q3 q4 (by rw[qP];omega) q6 q7 q8)];congr 1;cases hy:y.isH
    · rw[qAb rfl]
      cases B1 with
      |nil=>simp[Q1f]at h1
      |cons s B3 =>
        cases hs:s.leaf
        · obtain⟨z,k',q,e0,g1,_⟩:=z05 hs h1
          rw[qAu]at e0;rw[← e0.1,hy]at g1;cases g1
        obtain⟨z,k',e0,g1,g2,g3⟩:=z08 hs h1;rw[qAu]at e0;obtain⟨rfl,rfl⟩:=e0;rw[z21 g3];obtain⟨a,b⟩:=s;dsimp only at hs g2;rw[hs,g2,y6o]
    rw[qAa (by simp)];exact hT y i m B1 hy (qR _) j0 c3 (by rw[qP];omega) h1 c1 (hc.first c3 h2 c2)
theorem y7a{rc:List Sy->Nat->Nat->Bool}{R H:Nat}(hT:Q1b ps R H)(hH:H<=8)(hrc:RcIs ps l R H rc)(hU:Uni ps l):∀(f:Nat) (h:Int) (i j:Nat) (V:List Int) (B:List St),Q1f ps B [⟨true,h⟩]=some []->i<=j->j<=l.length->Q0d B=(l.drop i).take (j-i)->Ctx ps l [⟨true,h⟩] i j ->
    V.Nodup->(∀v∈V,0<=v/\v<H)->(∀v∈V,∃X,Q1f ps X [⟨true,v⟩]=some []/\Q0d X=(l.drop i).take (j-i)/\Ctx ps l [⟨true,v⟩] i j/\B.length<=X.length)->V.length<=8->(j-i)*8+9<=f+V.length->Q77 ps rc f h i j=Q4a ps B i
  |0,h,i,j,V,B,h1,hij,hj,hl,hc,v1,v2,v3,v4,hf=>by omega
  |f+1,h,i,j,V,B,h1,hij,hj,hl,hc,v1,v2,v3,v4,hf=>by
    cases B with
    |nil=>simp[Q1f]at h1
    |cons s B =>
      cases hs:s.leaf
      · obtain⟨y,k',q,e0,g1,g2,g3,g4,g5⟩:=z05 hs h1
        rw[qAu]at e0;obtain⟨rfl,rfl⟩:=e0;rw[qAt]at g5;dsimp only at g4;have j2:=z6e hs g2;have j7:Q0d B=(l.drop i).take (j-i):=by rw[← hl,j2,z4n]
        -- the production that is found
        have j3:(q.head==h&&rc q.syms i j)=true:=by
          rw[qAc,qAx];exact⟨g4,(hrc q.syms i j (hT.sy q (qAd g3)) (by omega)).2 ⟨hij,hj,B,g5,j7⟩⟩
        have hlt:Q7f ps rc h i j<ps.length:=qEq ⟨q,qAd g3,j3⟩;have j6:=qDb (w:=hlt);rw[qAc,qAx]at j6;obtain⟨f1,f2⟩:=j6;obtain⟨_,_,X,x1,x2⟩:=(hrc _ i j (hT.sy _ (qG hlt)) (by omega)).1 f2;have ja:ps[Q7f ps rc h i j]? = some (ps[Q7f ps rc h i j]'hlt):=qE hlt;have hX:Q1f ps (⟨false,(Q7f ps rc h i j:Int)⟩::X) [⟨true,h⟩]=some []:=by
          have:=z3k (B:=X) (γ:=[]) ja;have e:(ps[Q7f ps rc h i j]'hlt).head=h:=f1;rw[e]at this;rw[this,qAt];exact x1
        have e:=hc.one hU hij hX h1 (by rw[z4n];exact x2) hl;rw[qAu]at e;have jb:Q7f ps rc h i j=s.num.toNat:=by
          have:=e.1;rw[j2,St.mk.injEq]at this;omega
        have j4:rowN rc (Q77 ps rc f) q.syms i j=Q4a ps B i:=by
         refine x8m hrc hU (Q77 ps rc f) q.syms i j B (hT.sy q (qAd g3)) (hc.prod g3 g4) hij hj g5 j7 (fun y i' j' B1 q1 q2 q3 q4 q5 q6 q7 q8=>?_);obtain⟨yh,yn⟩:=y;dsimp only at q1;subst q1;have j5:0<=yn/\yn<H:=by
           cases B1 with
           |nil=>simp[Q1f]at q6
           |cons z Z =>
             cases hz:z.leaf
             · obtain⟨y',k2,q',e0,w1,w2,w3,w4,w5⟩:=z05 hz q6
               rw[qAu]at e0;have:=hT.hd q' (qAd w3);rw[← e0.1]at w4;dsimp only at w4;omega
             obtain⟨y',k2,e0,w1,w2,w3⟩:=z08 hz q6;rw[qAu]at e0;rw[← e0.1]at w1;cases w1
         have j1:∃X,Q1f ps X [⟨true,yn⟩]=some []/\Q0d X=(l.drop i').take (j'-i')/\Ctx ps l [⟨true,yn⟩] i' j'/\B1.length<=X.length:=⟨B1,q6,q7,q8,qR _⟩;by_cases same:i'=i/\j'=j
         · obtain⟨rfl,rfl⟩:=same
           have j0:yn ∉ V:=fun hm=>by
             obtain⟨X,y1,y2,y3,y4⟩:=v3 yn hm;have e:=y3.one hU hij q6 y1 q7 y2;rw[e]at q5;simp only[qAy]at y4;omega
           have j8:(yn::V).length<=8:=by
             have j9:(yn::V).Nodup:=List.nodup_cons.2 ⟨j0,v1⟩;refine y8k 8 _ j9 (fun v hv=>?_);have hb:0<=v/\v<H:=by
               rcases qBc.1 hv with rfl|hv
               · exact j5
               exact v2 v hv
             omega
           refine y7a hT hH hrc hU f yn i' j' (yn::V) B1 q6 q3 hj q7 q8 (List.nodup_cons.2 ⟨j0,v1⟩) (fun v hv=>?_) (fun v hv=>?_) j8 (by rw[qAy];omega)
           · rcases qBc.1 hv with rfl|hv
             · exact j5
             exact v2 v hv
           rcases qBc.1 hv with rfl|hv
           · exact j1
           obtain⟨X,y1,y2,y3,y4⟩:=v3 v hv;exact⟨X,y1,y2,y3,by simp only[qAy]at y4;omega⟩
         refine y7a hT hH hrc hU f yn i' j' [yn] B1 q6 q3 (by omega) q7 q8 (by simp) (fun v hv=>?_) (fun v hv=>?_) (by simp) (by simp only[qAf];omega)
         · rw[qM]at hv;subst hv;exact j5
         rw[qM]at hv;subst hv;exact j1
        unfold Q77;rw[jb,g3];dsimp only;rw[j4];have e9:=h1;rw[j2]at e9;rw[j2,y6p ps i e9,y97];rfl
      obtain⟨y,k',e0,g1,g2,g3⟩:=z08 hs h1;rw[qAu]at e0;rw[← e0.1]at g1;cases g1
end
section
variable {ps:List Pr}{R H:Nat}{hs:List Hd}
theorem v0y(h:Tab ps R H hs){k:List Sy}(hk:Q27 R H k){t:Nat}(ht:R<t):(Q5y hs R k).getD t false=false:=by
  rw[z3w h.ok h.hR k hk t];unfold Q6j;have h1:Q3s (hN hs) (fun X=>hF hs X t) t k=false:=by
    cases hb:Q3s (hN hs) (fun X=>hF hs X t) t k with
    |false=>rfl
    |true =>
      obtain⟨a,s,b,rfl,_,hs1⟩:=z1q hb;cases hx:s.isH
      · rw[hx]at hs1
        simp only[qF,qAp,qAx]at hs1;have:=hk s (by simp);rw[hx]at this;simp only[qF,qAp]at this;omega
      rw[hx]at hs1;simp only[qBb]at hs1;have:=h.g.bF _ _ hs1;omega
  rw[h1,show(t==R)=false by simp;omega];simp
structure GrowIs(ps:List Pr)(R:Nat)(l:List Int)(G:Q95)(n:Nat):Prop where
  le:n<=l.length
  each:∀i (hi:i<l.length),i<n->Vb ps (l.take i) l[i].toNat
  or:(n=l.length/\Ve ps l/\∃A,G=⟨0,[],0,A⟩/\Q1f ps A [⟨true,0⟩]=some []/\Q0d A=l) ∨
    (∃W:List Bool,G=⟨10,Q28 W,n,[]⟩/\(∀t,t<R->(W.getD t false=true↔Vb ps (l.take n) t))/\(W.getD R false=true↔Ve ps (l.take n))/\(∀t,R<t->W.getD t false=false)/\(∀hi:n<l.length,¬Vb ps (l.take n) l[n].toNat)/\(n=l.length->¬Ve ps l))
theorem x7p(h:Tab ps R H hs){l:List Int}(hk:Q0w R l=true):∀(n:Nat),n<=l.length->(∃r,thr ps hs R H (l.take n) [⟨true,0⟩] []=some r)->∀i (hi:i<l.length),i<n->Vb ps (l.take i) l[i].toNat:=by
  intro n hn hr i hi hin;obtain⟨r,hr⟩:=hr;have j0:∀j,Q0w R (l.take j)=true:=fun j=>y0x hk j;obtain⟨r1,hr1⟩:=y20 _ _ _ r hr (i+1);rw[qEf,qDq (by omega),qCc,qE hi]at hr1;rw[show(some l[i]).toList=[l[i]] from rfl,y82]at hr1;obtain⟨r2,hr2⟩:=y20 _ _ _ r hr i;rw[qEf,qDq (by omega)]at hr2;rw[hr2,qCn]at hr1;split at hr1
  · rename_i hw
    have hb:0<=l[i]/\l[i]<R:=by
      unfold Q0w at hk;rw[qAn]at hk;have:=hk l[i] (qG hi);simpa using this
    exact(z97 h (j0 i) hr2 (by omega)).1 hw
  cases hr1
theorem x9l(h:Tab ps R H hs){l:List Int}(hk:Q0w R l=true):∃n,GrowIs ps R l (Q6a ps hs R H l 0 [⟨true,0⟩] []) n:=by
  obtain⟨n,r,h1,h2,h3⟩:=y74 (ps:=ps) (hs:=hs) (R:=R) (H:=H) l 0 [⟨true,0⟩] [];have j0:=y0x hk n;refine⟨n,h1,x7p h hk n h1 ⟨r,h2⟩,?_⟩;obtain⟨A,z1,z2,z3,z4,z5⟩:=z6l h _ _ _ r j0 h.start.1 h.start.2 (by simp) h2;rcases h3 with⟨e1,e2,e3⟩|⟨e1,e2,e3,e4,e5,e6⟩
  · have j1:=(y22 h j0 h2).1 e2
    rw[e1,qAr]at j1;refine .inl ⟨e1,j1,?_⟩;obtain⟨A',a1,a2⟩:=j1;exact⟨A',by rw[z71 h l A' 0 _ [] a1 h.start.1 h.start.2 (by simp) a2];rfl,a2,a1⟩
  refine .inr ⟨Q5y hs R r.1,?_,fun t ht=>z97 h j0 h2 ht,y22 h j0 h2,fun t ht=>v0y h z4 ht,fun hi hv=>?_,fun hn hv=>?_⟩
  · rw[qBi]at e2
    generalize Q6a ps hs R H l 0 [⟨true,0⟩] []=G at e1 e2 e3 e4;obtain⟨g1,g2,g3,g4⟩:=G;dsimp only at e1 e2 e3 e4;rw[e1,e2,e3,e4]
  · have hb:0<=l[n]/\l[n]<R:=by
      unfold Q0w at hk;rw[qAn]at hk;have:=hk l[n] (qG hi);simpa using this
    have:=(z97 h j0 h2 (t:=l[n].toNat) (by omega)).2 hv;rw[e5 hi]at this;cases this
  have j2:Ve ps (l.take n):=by rw[hn,qAr];exact hv
  have:=(y22 h j0 h2).2 j2;rw[e6 hn]at this;cases this
theorem v12(h:Tab ps R H hs)(l:List Int):Uni ps l:=fun A A' h1 h2 l1 l2=>by
  have e1:=z71 h l A 0 _ [] l1 h.start.1 h.start.2 (by simp) h1;have e2:=z71 h l A' 0 _ [] l2 h.start.1 h.start.2 (by simp) h2;rw[e1,Q95.mk.injEq]at e2;have:=e2.2.2.2;simpa using this
end
def Q82(l:List Int)(D:Int->Nat->Nat->Prop)(y:Sy)(i j:Nat):Prop:=if y.isH=true then D y.num i j else l[i]? = some y.num/\j=i+1
def RR(l:List Int)(D:Int->Nat->Nat->Prop):List Sy->Nat->Nat->Prop
  | [],i,j=>i=j
  |y::ys,i,j=>∃m,Q82 l D y i m/\RR l D ys m j
section
variable {ps:List Pr}{l:List Int}{D:Int->Nat->Nat->Prop}
theorem y8s(hD:∀h i j,D h i j->Ds ps l [⟨true,h⟩] i j):∀(ys:List Sy) (i j:Nat),i<=l.length->RR l D ys i j->Ds ps l ys i j
  | [],i,j,hi,h=>by
    cases h;exact⟨qR _,hi,[],rfl,by simp[Q0d]⟩
  |y::ys,i,j,hi,h=>by
    obtain⟨m,h1,h2⟩:=h;have hy:Ds ps l [y] i m:=by
      unfold Q82 at h1;obtain⟨a,b⟩:=y;cases a
      · simp only[qF,qAp]at h1
        obtain⟨h3,rfl⟩:=h1;have j0:=(qS h3).1;refine⟨by omega,j0,[⟨true,b⟩],by simp[Q1f],?_⟩;rw[show i+1-i=0+1 by omega,qCc,qCq,Nat.add_zero,h3];simp[Q0d]
      simp only[qBb]at h1;exact hD b i m h1
    obtain⟨g1,g2,B1,b1,b2⟩:=hy;obtain⟨g3,g4,B2,b3,b4⟩:=y8s hD ys m j g2 h2;refine⟨by omega,g4,B1++B2,?_,?_⟩
    · rw[z1f,show y::ys=[y]++ys from rfl,z20 B1 [y] [] ys b1];exact b3
    rw[z0o,b2,b4];have:l.drop m=(l.drop i).drop (m-i):=by rw[List.drop_drop,show i+(m-i)=m by omega]
    rw[this,← qEo,show m-i+(j-m)=j-i by omega]
theorem v0p(hc:∀q∈ps,∀i j,i<=l.length->RR l D q.syms i j->D q.head i j):∀(n:Nat) (B:List St) (ys:List Sy) (i j:Nat),B.length<=n->Q1f ps B ys=some []->i<=j->j<=l.length->Q0d B=(l.drop i).take (j-i)->RR l D ys i j:=by
  intro n;induction n with
  |zero =>
    intro B ys i j hn h hij hj hl;have:B=[]:=qBs (by omega);subst this;have:ys=[]:=by simpa [Q1f]using h
    subst this;have:=qDn List.length hl;rw[qBo,qBx]at this;simp[Q0d]at this;show i=j;omega
  |succ n ih =>
    intro B ys i j hn h hij hj hl;cases ys with
    |nil =>
      have:=z21 h;subst this;have:=qDn List.length hl;rw[qBo,qBx]at this;simp[Q0d]at this;show i=j;omega
    |cons y ys =>
      cases B with
      |nil=>simp[Q1f]at h
      |cons s B =>
        rw[qAy]at hn;cases hs:s.leaf
        · obtain⟨z,k',q,e0,g1,g2,g3,g4,g5⟩:=z05 hs h
          rw[qAu]at e0;obtain⟨rfl,rfl⟩:=e0;obtain⟨B1,B2,rfl,h1,h2⟩:=z2t ps B q.syms ys g5;have j2:=z6e hs g2;rw[j2,z4n,z0o]at hl;obtain⟨c1,c2,c3⟩:=z5c hl hj hij;rw[qP]at hn;generalize hm:i+(Q0d B1).length=m at c2 c3;have j1:(Q0d B1).length=m-i:=by omega
          rw[j1]at c1;have r1:=ih B1 q.syms i m (by omega) h1 (by omega) (by omega) c1;have r2:=ih B2 ys m j (by omega) h2 c3 hj c2;refine⟨m,?_,r2⟩;unfold Q82;rw[qAb g1,← g4];exact hc q (qAd g3) i m (by omega) r1
        obtain⟨z,k',e0,g1,g2,g3⟩:=z08 hs h;rw[qAu]at e0;obtain⟨rfl,rfl⟩:=e0;have j0:Q0d (s::B)=s.num::Q0d B:=by simp[Q0d,hs]
        rw[j0,show s.num::Q0d B=[s.num]++Q0d B from rfl]at hl;obtain⟨c1,c2,c3⟩:=z5c hl hj hij;rw[qAf]at c1 c2 c3;refine⟨i+1,?_,ih B ys (i+1) j (by omega) g3 c3 hj c2⟩;unfold Q82;rw[qAa (by rw[g1];simp),g2];refine⟨?_,rfl⟩;have:=qDn (fun x=>x[0]?) c1;simp only[qBz]at this;rw[List.getElem?_take,qAb (by omega),qCq,Nat.add_zero]at this;exact this.symm
end
def Q8n(ps:List Pr)(m:Itm):Option Sy:=(ps[m.p]?).bind fun q=>q.syms[m.d]?
def Q9u(ps:List Pr)(l:List Int)(n:Nat)(m:Itm):Prop:=It ps l n m.p m.d m.f
structure Q23(ps:List Pr)(l:List Int)(n:Nat)(L:List (List Itm)):Prop where
  len:L.length=n+1
  iff:∀(k:Nat) (X:List Itm),L[k]? = some X->∀m:Itm,m∈X↔Q9u ps l k m
structure Q9i(ps:List Pr)(L:List (List Itm))(n:Nat)(X:List Itm):Prop where
  pred:∀(m:Itm) (h:Int) (p':Nat) (q':Pr),m∈X->Q8n ps m=some ⟨true,h⟩->ps[p']? = some q'->q'.head=h->⟨p',0,n⟩∈X
  comp:∀(m:Itm) (q:Pr) (m':Itm) (Y:List Itm),m∈X->ps[m.p]? = some q->Q8n ps m=none->L[m.f]? = some Y->m'∈Y->Q8n ps m'=some ⟨true,q.head⟩->⟨m'.p,m'.d+1,m'.f⟩∈X
section
variable {ps:List Pr}{l:List Int}
theorem y13{n p d f:Nat}(h:It ps l n p d f):f<=n/\∃q,ps[p]? = some q/\d<=q.syms.length:=by
  obtain⟨q,h1,h2,h3,_⟩:=h;exact⟨h3,q,h1,h2⟩
theorem z3o{m:Itm}{q:Pr}(h:ps[m.p]? = some q):Q8n ps m=q.syms[m.d]? := by unfold Q8n;rw[h];rfl
theorem x8f{n:Nat}{m:Itm}{q:Pr}(h:Q9u ps l n m)(hq:ps[m.p]? = some q):Q8n ps m=none↔m.d=q.syms.length:=by
  rw[z3o hq];obtain⟨_,q',e,hd⟩:=y13 h;rw[hq,qO]at e;subst e;constructor
  · intro e
    have:=List.getElem?_eq_none_iff.1 e;omega
  intro e;exact qN (by omega)
theorem y8u{N:Nat}{L:List (List Itm)}{X:List Itm}(hNl:N<=l.length)(hL:L.length=N)(hx:∀(k:Nat) (Y:List Itm),L[k]? = some Y->∀m:Itm,m∈Y↔Q9u ps l k m)(hs:∀m∈X,Q9u ps l N m)(hF:Q9i ps (L++[X]) N X)
    (h0:N=0->∀p q,ps[p]? = some q->q.head=0->⟨p,0,0⟩∈X)
    (h1:∀(n:Nat) (Y:List Itm) (m:Itm) (t:Int),N=n+1->L[n]? = some Y->m∈Y->Q8n ps m=some ⟨false,t⟩->l[n]? = some t->⟨m.p,m.d+1,m.f⟩∈X):Q23 ps l N (L++[X]):=by
  have j2:∀k,k<N->∃Y,L[k]? = some Y/\(L++[X])[k]? = some Y:=fun k hk=>by
    have:k<L.length:=by omega
    exact⟨L[k],qE this,by rw[qAe this,qE this]⟩
  have j0:(L++[X])[N]? = some X:=by rw[qAg (by omega),hL,qCu];rfl
  have j4:Clo ps l N (fun n p d f=>∃Y,(L++[X])[n]? = some Y/\(⟨p,d,f⟩:Itm)∈Y):=by
    have j3:∀n p d f,n<=N->(∃Y,(L++[X])[n]? = some Y/\(⟨p,d,f⟩:Itm)∈Y)->It ps l n p d f:=fun n p d f hn ⟨Y,y1,y2⟩=>by
      rcases qBn n N with q|q
      · obtain⟨Z,z1,z2⟩:=j2 n q
        rw[y1,qO]at z2;subst z2;exact(hx n Y z1 _).1 y2
      obtain rfl:n=N:=by omega
      rw[j0,qO]at y1;subst y1;exact hs _ y2
    have j1:∀n p d f,n<N->It ps l n p d f->∃Y,(L++[X])[n]? = some Y/\(⟨p,d,f⟩:Itm)∈Y:=fun n p d f hn h=>by
      obtain⟨Z,z1,z2⟩:=j2 n hn;exact⟨Z,z2,(hx n Z z1 ⟨p,d,f⟩).2 h⟩
    refine⟨fun p q hp hq=>?_,fun n p d f q t hn hS hp hsy ht=>?_,fun n p d f q p' q' hn hS hp hsy hp'=>?_,fun n p f q p' d' f' q' hn hS hp hS' hp' hsy=>?_⟩
    · rcases Nat.eq_zero_or_pos N with e|e
      · subst e
        exact⟨X,j0,h0 rfl p q hp hq⟩
      exact j1 0 p 0 0 e (x2x hp hq)
    · rcases qBn (n+1) N with q1|q1
      · exact j1 _ _ _ _ q1 (x2z (j3 n p d f (by omega) hS) hp hsy ht)
      obtain⟨Y,y1,y2⟩:=hS;obtain⟨Z,z1,z2⟩:=j2 n hn;rw[y1,qO]at z2;subst z2;have e:n+1=N:=by omega
      rw[e];exact⟨X,j0,h1 n Y ⟨p,d,f⟩ t e.symm z1 y2 (by rw[z3o (m:=⟨p,d,f⟩) hp];exact hsy) ht⟩
    · rcases qBn n N with q1|q1
      · exact j1 _ _ _ _ q1 (x2y (j3 n p d f hn hS) (by omega) hp hsy hp' rfl)
      obtain rfl:n=N:=by omega
      obtain⟨Y,y1,y2⟩:=hS;rw[j0,qO]at y1;subst y1;exact⟨X,j0,hF.pred ⟨p,d,f⟩ q'.head p' q' y2 (by rw[z3o (m:=⟨p,d,f⟩) hp];exact hsy) hp' rfl⟩
    rcases qBn n N with q1|q1
    · have hI:=j3 n p q.syms.length f hn hS
      have:=(y13 hI).1;exact j1 _ _ _ _ q1 (x2w hI (by omega) hp (j3 f p' d' f' (by omega) hS') hp' hsy)
    obtain rfl:n=N:=by omega
    obtain⟨Y,y1,y2⟩:=hS;rw[j0,qO]at y1;subst y1;obtain⟨Y',w1,w2⟩:=hS';refine⟨X,j0,hF.comp ⟨p,q.syms.length,f⟩ q ⟨p',d',f'⟩ Y' y2 hp ?_ w1 w2 (by rw[z3o (m:=⟨p',d',f'⟩) hp'];exact hsy)⟩;rw[z3o (m:=⟨p,q.syms.length,f⟩) hp];exact qN (qR _)
  refine⟨by rw[qP,hL];rfl,fun k Y hk m=>?_⟩;have j5:k<=N:=by
    have:=(qS hk).1;rw[qP,qAf]at this;omega
  constructor
  · intro hm
    rcases qBn k N with q|q
    · obtain⟨Z,z1,z2⟩:=j2 k q
      rw[hk,qO]at z2;subst z2;exact(hx k Y z1 m).1 hm
    obtain rfl:k=N:=by omega
    rw[j0,qO]at hk;subst hk;exact hs m hm
  intro hm;obtain⟨Z,z1,z2⟩:=j4.all hNl j5 hm;rw[hk,qO]at z1;subst z1;exact z2
theorem Q23.next{L:List (List Itm)}{X:List Itm}(h:Q23 ps l l.length L)(hX:L[l.length]? = some X){t:Nat}:(∃m∈X,Q8n ps m=some ⟨false,(t:Int)⟩)↔Vb ps l t:=by
  rw[x7r];constructor
  · rintro⟨m,hm,hs⟩
    have hI:=(h.iff _ X hX m).1 hm;obtain⟨_,q,hq,_⟩:=y13 hI;exact⟨m.p,q,m.d,m.f,hI,hq,by rw[← z3o hq];exact hs⟩
  rintro⟨p,q,d,f,hI,hq,hs⟩;exact⟨⟨p,d,f⟩,(h.iff _ X hX ⟨p,d,f⟩).2 hI,by rw[z3o (m:=⟨p,d,f⟩) hq];exact hs⟩
theorem Q23.fin{L:List (List Itm)}{X:List Itm}(h:Q23 ps l l.length L)(hX:L[l.length]? = some X):(∃m∈X,∃q,ps[m.p]? = some q/\Q8n ps m=none/\m.f=0/\q.head=0)↔Ve ps l:=by
  rw[x7s];constructor
  · rintro⟨m,hm,q,hq,hs,hf,hh⟩
    have hI:=(h.iff _ X hX m).1 hm;have hd:=(x8f hI hq).1 hs;obtain⟨p,d,f⟩:=m;dsimp only at hf hd hq;subst hf hd;exact⟨p,q,hI,hq,hh⟩
  rintro⟨p,q,hI,hq,hh⟩;refine⟨⟨p,q.syms.length,0⟩,(h.iff _ X hX ⟨p,q.syms.length,0⟩).2 hI,q,hq,?_,rfl,hh⟩;rw[z3o (m:=⟨p,q.syms.length,0⟩) hq];exact qN (qR _)
theorem x9q{n p d f k:Nat}(hnk:n<=k):It ps (l.take k) n p d f↔It ps l n p d f:=by
  have e1:∀f,f<=n->(l.take k).take f=l.take f:=fun f hf=>by rw[qEf,qDq (by omega)]
  have e2:∀f,f<=n->((l.take k).drop f).take (n-f)=(l.drop f).take (n-f):=fun f hf=>by
    rw[List.drop_take,qEf,qDq (by omega)]
  unfold It;constructor
  · rintro⟨q,h1,h2,h3,⟨B,b1,b2⟩,A,γ,a1,a2⟩
    exact⟨q,h1,h2,h3,⟨B,b1,by rw[← e2 f h3];exact b2⟩,A,γ,a1,by rw[← e1 f h3];exact a2⟩
  rintro⟨q,h1,h2,h3,⟨B,b1,b2⟩,A,γ,a1,a2⟩;exact⟨q,h1,h2,h3,⟨B,b1,by rw[e2 f h3];exact b2⟩,A,γ,a1,by rw[e1 f h3];exact a2⟩
theorem Q23.take{n k:Nat}{L:List (List Itm)}(h:Q23 ps l n L)(hnk:n<=k):Q23 ps (l.take k) n L:=by
  refine⟨h.len,fun j X hX m=>?_⟩;have hj:j<=n:=by
    have:=(qS hX).1;have:=h.len;omega
  rw[h.iff j X hX m];exact(x9q (by omega)).symm
end
theorem x7q{ps:List Pr}{R H:Nat}{hs:List Hd}(h:Tab ps R H hs){l:List Int}(hl:l.length<=60){rc:List Sy->Nat->Nat->Bool}(hrc:RcIs ps l R H rc){A:List St}(h1:Q1f ps A [⟨true,0⟩]=some [])(h2:Q0d A=l):Q77 ps rc 2000 0 0 l.length=Q17 ps A:=by
  have j0:Q0d A=(l.drop 0).take (l.length-0):=by rw[qDe,Nat.sub_zero,qAr];exact h2
  have hc:Ctx ps l [⟨true,0⟩] 0 l.length:=⟨[],[],[],rfl,by simp[Q0d],rfl,by simp[Q0d]⟩;have j1:0<H:=h.h0;have:=y7a (R:=R) (H:=H) h.g.tab h.hH hrc (v12 h l) 2000 0 0 l.length [0] A h1 (qBg _) (qR _) j0 hc (by simp) (fun v hv=>by
    rw[qM]at hv;subst hv;omega) (fun v hv=>by
    rw[qM]at hv;subst hv;exact⟨A,h1,j0,hc,qR _⟩) (by simp) (by simp only[qAf];omega)
  rw[this,y6q]
def spJ(base:Int)(l:List Int)(D:List Mat)(c:Int)(frm:List Bool)(n:Nat):Nat->Nat->List Bool->List Bool
  |0,_,out=>out
  |f+1,i,out=>spJ base l D c frm n f (i+1) (if frm.getD i false=true then(if c<base then(if l[i]? = some c then out.set (i+1) true else out) else orI out ((D.getD (c-base).toNat []).getD i []) n n) else out)
def spF(base:Int)(l:List Int)(D:List Mat)(c:Int)(frm:List Bool)(n:Nat):List Bool:=spJ base l D c frm n n 0 (List.replicate n false)
def spP(base:Int)(l:List Int)(D:List Mat)(c:Int)(i j:Nat):Prop:=if c<base then l[i]? = some c/\j=i+1 else atM (D.getD (c-base).toNat []) i j=true
theorem x8o(base:Int)(l:List Int)(D:List Mat)(c:Int)(frm:List Bool)(n:Nat)(hn:n=l.length+1):∀(f i:Nat) (out:List Bool),out.length=n->(spJ base l D c frm n f i out).length=n/\∀j,j<n->((spJ base l D c frm n f i out).getD j false=true↔out.getD j false=true∨∃k,i<=k/\k<i+f/\frm.getD k false=true/\spP base l D c k j)
  |0,i,out,hl=>⟨hl,fun j hj=>⟨.inl,fun h=>by
      rcases h with h|⟨k,h1,h2,_⟩
      · exact h
      omega⟩⟩
  |f+1,i,out,hl=>by
    unfold spJ;have hl2:(if frm.getD i false=true then(if c<base then(if l[i]? = some c then out.set (i+1) true else out) else orI out ((D.getD (c-base).toNat []).getD i []) n n) else out).length=n:=by
      split
      · split
        · split
          · rw[qBd];exact hl
          exact hl
        exact z2l _ _ _ _
      exact hl
    obtain⟨r1,r2⟩:=x8o base l D c frm n hn f (i+1) _ hl2;refine⟨r1,fun j hj=>?_⟩;rw[r2 j hj];have j0:((if frm.getD i false=true then(if c<base then(if l[i]? = some c then out.set (i+1) true else out) else orI out ((D.getD (c-base).toNat []).getD i []) n n) else out).getD j false=true)↔(out.getD j false=true∨(frm.getD i false=true/\spP base l D c i j)):=by
      unfold spP;by_cases h1:frm.getD i false=true
      · rw[qAb h1]
        by_cases h2:c<base
        · rw[qAb h2,qAb h2]
          by_cases h3:l[i]? = some c
          · have j1:=(qS h3).1
            rw[qAb h3,z16 _ _ _ _ _ (by omega)];by_cases h4:j=i+1
            · rw[qAb h4];exact⟨fun _=>.inr ⟨h1,h3,h4⟩,fun _=>rfl⟩
            rw[qAa h4];exact⟨.inl,fun q=>q.elim id (fun q=>absurd q.2.2 h4)⟩
          rw[qAa h3];exact⟨.inl,fun q=>q.elim id (fun q=>absurd q.2.1 h3)⟩
        rw[qAa h2,qAa h2,z9k hj,qAk];unfold atM;exact⟨fun q=>q.imp id (fun q=>⟨h1,q⟩),fun q=>q.imp id (fun q=>q.2)⟩
      rw[qAa h1];exact⟨.inl,fun q=>q.elim id (fun q=>absurd q.1 h1)⟩
    rw[j0];constructor
    · rintro((h|⟨h1,h2⟩)|⟨k,h1,h2,h3⟩)
      · exact .inl h
      · exact .inr ⟨i,by omega,by omega,h1,h2⟩
      exact .inr ⟨k,by omega,by omega,h3⟩
    rintro(h|⟨k,h1,h2,h3⟩)
    · exact .inl (.inl h)
    by_cases e:k=i
    · subst e;exact .inl (.inr h3)
    exact .inr ⟨k,by omega,by omega,h3⟩
theorem x8n(base:Int)(l:List Int)(D:List Mat)(c:Int)(frm:List Bool){n:Nat}(hn:n=l.length+1):(spF base l D c frm n).length=n/\∀j,j<n->((spF base l D c frm n).getD j false=true↔∃k,k<n/\frm.getD k false=true/\spP base l D c k j):=by
  obtain⟨r1,r2⟩:=x8o base l D c frm n hn n 0 (List.replicate n false) (by simp);refine⟨r1,fun j hj=>?_⟩;unfold spF;rw[r2 j hj];constructor
  · rintro(h|⟨k,_,h2,h3⟩)
    · rw[qD]at h
      simp[hj]at h
    exact⟨k,by omega,h3⟩
  rintro⟨k,h1,h2⟩;exact .inr ⟨k,by omega,by omega,h2⟩
def rhF(base:Int)(l:List Int)(D:List Mat)(n:Nat):List Int->List Bool->List Bool
  | [],s=>s
  |c::cs,s=>rhF base l D n cs (spF base l D c s n)
def rhP(base:Int)(l:List Int)(D:List Mat):List Int->Nat->Nat->Prop
  | [],i,j=>i=j
  |c::cs,i,j=>∃m,spP base l D c i m/\rhP base l D cs m j
def Wide(l:List Int)(D:List Mat):Prop:=∀h i j,atM (D.getD h []) i j=true->j<=l.length
theorem x8p{base:Int}{l:List Int}{D:List Mat}(hD:Wide l D){c:Int}{i j:Nat}(h:spP base l D c i j):j<=l.length:=by
  unfold spP at h;split at h
  · have:=(qS h.1).1
    omega
  exact hD _ _ _ h
theorem x8j(base:Int)(l:List Int)(D:List Mat)(hD:Wide l D){n:Nat}(hn:n=l.length+1):∀(cs:List Int) (s:List Bool),s.length=n->(rhF base l D n cs s).length=n/\∀j,j<n->((rhF base l D n cs s).getD j false=true↔∃i,i<n/\s.getD i false=true/\rhP base l D cs i j)
  | [],s,hs=>⟨hs,fun j hj=>⟨fun h=>⟨j,hj,h,rfl⟩,fun⟨i,h1,h2,h3⟩=>by cases h3;exact h2⟩⟩
  |c::cs,s,hs=>by
    obtain⟨q1,q2⟩:=x8n base l D c s hn;obtain⟨r1,r2⟩:=x8j base l D hD hn cs (spF base l D c s n) q1;refine⟨r1,fun j hj=>?_⟩;unfold rhF;rw[r2 j hj];constructor
    · rintro⟨m,h1,h2,h3⟩
      obtain⟨k,k1,k2,k3⟩:=(q2 m h1).1 h2;exact⟨k,k1,k2,m,k3,h3⟩
    rintro⟨k,k1,k2,m,k3,h3⟩;have hm:m<n:=by have:=x8p hD k3;omega
    exact⟨m,hm,(q2 m hm).2 ⟨k,k1,k2,k3⟩,h3⟩
def rcF(base:Int)(l:List Int)(D:List Mat)(cs:List Int)(i:Nat):List Bool:=rhF base l D (l.length+1) cs ((List.replicate (l.length+1) false).set i true)
theorem x4h(base:Int)(l:List Int)(D:List Mat)(hD:Wide l D)(cs:List Int){i:Nat}(hi:i<=l.length):(rcF base l D cs i).length=l.length+1/\∀j,j<l.length+1->((rcF base l D cs i).getD j false=true↔rhP base l D cs i j):=by
  obtain⟨r1,r2⟩:=x8j base l D hD rfl cs ((List.replicate (l.length+1) false).set i true) (by simp);refine⟨r1,fun j hj=>?_⟩;unfold rcF;rw[r2 j hj];constructor
  · rintro⟨k,k1,k2,k3⟩
    rw[z16 _ _ _ _ _ (by simp;omega)]at k2;split at k2
    · rename_i e;subst e;exact k3
    rw[qD]at k2;simp[k1]at k2
  intro h;refine⟨i,by omega,?_,h⟩;rw[z16 _ _ _ _ _ (by simp;omega),qAb rfl]
section
variable {ps:List Pr}{R H:Nat}
theorem x8k{base:Int}{l:List Int}{D:List Mat}(hD:Wide l D):∀(cs:List Int) (i j:Nat),i<=l.length->rhP base l D cs i j->j<=l.length
  | [],i,j,hi,h=>by cases h;exact hi
  |c::cs,i,j,hi,⟨m,h1,h2⟩=>x8k hD cs m j (x8p hD h1) h2
theorem y2p{l:List Int}{D:List Mat}:∀(ys:List Sy),(∀s∈ys,0<=s.num/\s.num<(if s.isH then(H:Int) else R))->∀i j,rhP (bs R) l D (ys.map (Q0u R)) i j↔RR l (fun h i j=>atM (D.getD h.toNat []) i j=true) ys i j
  | [],_,i,j=>Iff.rfl
  |y::ys,hv,i,j=>by
    have ih:=y2p (l:=l) (D:=D) ys (fun s hs=>hv s (by simp[hs]));have hy:=hv y (by simp);have j0:∀m,spP (bs R) l D (Q0u R y) i m↔Q82 l (fun h i j=>atM (D.getD h.toNat []) i j=true) y i m:=fun m=>by
      unfold spP Q82 Q0u bs;obtain⟨a,b⟩:=y;cases a
      · simp only[qF,qAp]at hy ⊢
        rw[qAb (by omega)]
      simp only[qBb]at hy ⊢;rw[qAa (by omega),show(R:Int)+1+b-((R:Int)+1)=b by omega]
    rw[qCl];constructor
    · rintro⟨m,h1,h2⟩;exact⟨m,(j0 m).1 h1,(ih m j).1 h2⟩
    rintro⟨m,h1,h2⟩;exact⟨m,(j0 m).2 h1,(ih m j).2 h2⟩
def Q44(ps:List Pr)(l:List Int)(D:List Mat):Prop:=∀(h i j:Nat),atM (D.getD h []) i j=true->Ds ps l [⟨true,(h:Int)⟩] i j
def Q9m(R:Nat)(ps:List Pr)(l:List Int)(D:List Mat):Prop:=∀q∈ps,∀i j,i<=l.length->rhP (bs R) l D (q.syms.map (Q0u R)) i j->atM (D.getD q.head.toNat []) i j=true
theorem Q44.wide{l:List Int}{D:List Mat}(h:Q44 ps l D):Wide l D:=fun k i j e=>(h k i j e).2.1
theorem y8x{l:List Int}{D:List Mat}(hT:Q1b ps R H)(hD:Q44 ps l D){ys:List Sy}(hv:Q27 R H ys){i j:Nat}(hi:i<=l.length)(h:rhP (bs R) l D (ys.map (Q0u R)) i j):Ds ps l ys i j:=by
  have h2:=(y2p (R:=R) (H:=H) ys hv i j).1 h;have j0:∀(ys:List Sy) (i j:Nat),Q27 R H ys->i<=l.length->RR l (fun h i j=>atM (D.getD h.toNat []) i j=true) ys i j->RR l (fun h i j=>0<=h/\atM (D.getD h.toNat []) i j=true) ys i j:=by
    intro ys;induction ys with
    |nil=>intro i j _ _ q;exact q
    |cons y ys ih =>
      intro i j hv hi ⟨m,q1,q2⟩;have hy:=hv y (by simp);have hm:Q82 l (fun h i j=>0<=h/\atM (D.getD h.toNat []) i j=true) y i m/\m<=l.length:=by
        unfold Q82 at q1 ⊢;split at q1
        · rename_i e
          rw[qAb e];exact⟨⟨hy.1,q1⟩,hD.wide _ _ _ q1⟩
        rename_i e;rw[qAa e];have:=(qS q1.1).1;exact⟨q1,by omega⟩
      exact⟨m,hm.1,ih m j (fun s hs=>hv s (by simp[hs])) hm.2 q2⟩
  refine y8s (D:=fun h i j=>0<=h/\atM (D.getD h.toNat []) i j=true) (fun h i j ⟨q1,q2⟩=>?_) ys i j hi (j0 ys i j hv hi h2);have:=hD h.toNat i j q2;rw[show((h.toNat:Nat):Int)=h by omega]at this;exact this
theorem v2d{l:List Int}{D:List Mat}(hT:Q1b ps R H)(hD:Q44 ps l D)(hc:Q9m R ps l D):RcIs ps l R H (fun ys i j=>(rcF (bs R) l D (ys.map (Q0u R)) i).getD j false):=by
  intro ys i j hv hi;obtain⟨r1,r2⟩:=x4h (bs R) l D hD.wide (ys.map (Q0u R)) hi;constructor
  · intro e
    have hj:j<l.length+1:=by
      rcases qBn j (l.length+1)with q|q
      · exact q
      dsimp only at e;rw[qD,qN (by omega)]at e;cases e
    exact y8x hT hD hv hi ((r2 j hj).1 e)
  rintro⟨h1,h2,B,b1,b2⟩;refine(r2 j (by omega)).2 ((y2p (R:=R) (H:=H) ys hv i j).2 ?_);refine v0p (ps:=ps) (fun q hq i j hi hr=>?_) B.length B ys i j (qR _) b1 h1 h2 b2;exact hc q hq i j hi ((y2p (R:=R) (H:=H) q.syms (hT.sy q hq) i j).2 hr)
end
end Go.Proofs.YtcpceafmlgaodaaGreat
