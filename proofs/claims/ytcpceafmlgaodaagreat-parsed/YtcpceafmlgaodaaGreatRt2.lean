import Derived.Test.YtcpceafmlgaodaaGreatTwa
namespace Go.Proofs.YtcpceafmlgaodaaGreat
open Go.RowKit
set_option linter.all false
theorem z2t(ps:List Pr):∀(L:List St) (ys k:List Sy),Q1f ps L (ys++k)=some []->∃A B,L=A++B/\Q1f ps A ys=some []/\Q1f ps B k=some []
 |L,[],k,h=>⟨[],L,rfl,rfl,h⟩
 | [],y::ys,k,h=>by simp[Q1f]at h
 |s::L,y::ys,k,h=>by
  simp only[qAw,Q1f]at h;cases hl:s.leaf
  ·rw[hl]at h;simp only[qF,qAp]at h;split at h
   ·rename_i hy;cases hp:ps[s.num.toNat]? with
    |none=>rw[hp]at h;cases h
    |some p =>
     rw[hp]at h;simp only[]at h;split at h
     ·rename_i hh;rw[← qAh]at h;obtain⟨A,B,h1,h2,h3⟩:=z2t ps L (p.syms++ys) k h;refine⟨s::A,B,by rw[h1];rfl,?_,h3⟩;simp only[Q1f,hl,qF,qAp];rw[qAb hy,hp];simp only[];rw[qAb hh];exact h2
     cases h
   cases h
  rw[hl]at h;simp only[qBb]at h;split at h
  ·rename_i hy;obtain⟨A,B,h1,h2,h3⟩:=z2t ps L ys k h;refine⟨s::A,B,by rw[h1];rfl,?_,h3⟩;simp only[Q1f,hl,qBb];rw[qAb hy];exact h2
  cases h
theorem z21{ps:List Pr}:∀{A:List St},Q1f ps A []=some []->A=[]
 | [],_=>rfl
 |_::_,h=>by simp[Q1f]at h
theorem y19:∀(a b:List St) (c:Nat),ndL (a++b) c=ndL a c++ndL b (c+(Q0d a).length)
 | [],b,c=>by simp[ndL,Q0d]
 |s::a,b,c=>by
  cases hl:s.leaf
  ·have e:Q0d (s::a)=Q0d a:=by simp[Q0d,hl]
   simp only[qAw,ndL,hl,qF,qAp,e,y19 a b c]
  have e:Q0d (s::a)=s.num::Q0d a:=by simp[Q0d,hl]
  simp only[qAw,ndL,hl,qBb,e,y19 a b (c+1),qAy];rw[show c+1+(Q0d a).length=c+((Q0d a).length+1) by omega]
theorem z6i(ps:List Pr):∀(n:Nat) (A B:List St) (y:Sy) (c:Nat),A.length<=n->Q1f ps A [y]=some []->(Q08 ps (ndL (A++B) c))[0]? = some A.length:=by
 intro n;induction n with
 |zero =>
  intro A B y c hn h;have:A=[]:=qBs (by omega);subst this;simp[Q1f]at h
 |succ n ih =>
  have j0:∀(ys:List Sy) (A' pre B:List St) (c:Nat),A'.length<=n->Q1f ps A' ys=some []->szL (Q08 ps (ndL (pre++(A'++B)) c)) ys.length (1+pre.length)=1+pre.length+A'.length:=by
   intro ys;induction ys with
   |nil =>
    intro A' pre B c hn h;have:=z21 h;subst this;rfl
   |cons y ys ih2 =>
    intro A' pre B c hn h;obtain⟨A1,A2,e,h1,h2⟩:=z2t ps A' [y] ys h;subst e;simp only[qP]at hn;have hs:(Q08 ps (ndL (pre++(A1++A2++B)) c))[1+pre.length-1]? = some A1.length:=by
     have e1:(Q08 ps (ndL (pre++(A1++A2++B)) c))[1+pre.length-1]? = ((Q08 ps (ndL (pre++(A1++A2++B)) c)).drop pre.length)[0]? := by
      rw[qCq];congr 1;omega
     rw[e1,z4s,y19,List.drop_left' (by rw[z60]),qAh];exact ih A1 (A2++B) y _ (by omega) h1
    rw[qAy,szL,hs];simp only[];have h3:=ih2 A2 (pre++A1) B c (by omega) h2;rw[qAh,← qAh A1 A2 B,qP]at h3;rw[show 1+pre.length+A1.length=1+(pre.length+A1.length) by omega,h3];simp only[qP];omega
  intro A B y c hn h;cases A with
  |nil=>simp[Q1f]at h
  |cons s A' =>
   simp only[Q1f]at h;simp only[qAy]at hn;cases hl:s.leaf
   ·rw[hl]at h;simp only[qF,qAp]at h;split at h
    ·rename_i hy;cases hp:ps[s.num.toNat]? with
     |none=>rw[hp]at h;cases h
     |some p =>
      rw[hp]at h;simp only[qAt]at h;split at h
      ·have hc:=j0 p.syms A' [] B c (by omega) h;simp only[qBq,qDp,Nat.add_zero]at hc;simp only[qAw,ndL,hl,qF,qAp,Q08,qBz,qO,qAy];have ha:arF ps ⟨s.num,-1,c,0⟩=p.syms.length:=by
        unfold arF;dsimp only;rw[qAa (by omega),hp]
       rw[ha,hc];omega
      cases h
    cases h
   rw[hl]at h;simp only[qBb]at h;split at h
   ·have:=z21 h;subst this;simp only[qAw,qBq,ndL,hl,qBb,Q08,qBz,qO,qAy,qDp];have ha:arF ps ⟨-1,s.num,c,0⟩=0:=by unfold arF;rw[qAb (by dsimp only;omega)]
    rw[ha];rfl
   cases h
theorem z05{ps:List Pr}{s:St}{l:List St}{k r:List Sy}(hs:s.leaf=false)(h:Q1f ps (s::l) k=some r) :
  ∃y k' p,k=y::k'/\y.isH=true/\0<=s.num/\ps[s.num.toNat]? = some p/\p.head=y.num/\Q1f ps l (p.syms++k')=some r:=by
 cases k with
 |nil=>simp[Q1f]at h
 |cons y k =>
  simp only[Q1f,hs,qF,qAp]at h;split at h
  ·rename_i hy;cases hp:ps[s.num.toNat]? with
   |none=>rw[hp]at h;cases h
   |some p =>
    rw[hp]at h;simp only[]at h;split at h
    ·rename_i hh;exact⟨y,k,p,rfl,hy.1,hy.2,rfl,hh,h⟩
    cases h
  cases h
theorem z08{ps:List Pr}{s:St}{l:List St}{k r:List Sy}(hs:s.leaf=true)(h:Q1f ps (s::l) k=some r) :
  ∃y k',k=y::k'/\y.isH=false/\y.num=s.num/\Q1f ps l k'=some r:=by
 cases k with
 |nil=>simp[Q1f]at h
 |cons y k =>
  simp only[Q1f,hs,qBb]at h;split at h
  ·rename_i hy;exact⟨y,k,rfl,hy.1,hy.2,h⟩
  cases h
theorem y8t{ps:List Pr}{R H:Nat}(hT:Q1b ps R H):∀(A:List St) (k r:List Sy),Q27 R H k->Q1f ps A k=some r->∀x∈A,0<=x.num/\(x.leaf=true->x.num<R)/\(x.leaf=false->x.num<ps.length)
 | [],_,_,_,_,x,hx=>by cases hx
 |s::A,k,r,hk,h,x,hx=>by
  cases hs:s.leaf
  ·obtain⟨y,k',p,rfl,h1,h2,h3,h4,h5⟩:=z05 hs h;rcases qBc.1 hx with rfl|hx
   ·have:=(qS h3).1;exact⟨h2,fun e=>by rw[hs]at e;(cases e),fun _=>by omega⟩
   refine y8t hT A (p.syms++k') r (fun z hz=>?_) h5 x hx;rcases qBj.1 hz with hz|hz
   ·exact hT.sy p (qAd h3) z hz
   exact hk z (qDc _ hz)
  obtain⟨y,k',rfl,h1,h2,h3⟩:=z08 hs h;rcases qBc.1 hx with rfl|hx
  ·have:=hk y (by simp);rw[h1,h2]at this;exact⟨this.1,fun _=>by simpa using this.2,fun e=>by rw[hs]at e;(cases e)⟩
  exact y8t hT A k' r (fun z hz=>hk z (qDc _ hz)) h3 x hx
section
variable {ps:List Pr}{R H:Nat}{N:Int->Bool}{F O:Int->Nat->Bool}{ch:Int->Nat->Int}
theorem LLG.runNull(g:LLG ps R H N F O ch):∀(B:List St) (k:List Sy),(∀x∈B,x.leaf=false)->Q1f ps B k=some []->k.all (Q35 N)=true
 | [],k,_,h=>by cases h;rfl
 |s::B,k,hl,h=>by
  obtain⟨y,k',p,rfl,h1,h2,h3,h4,h5⟩:=z05 (hl s (by simp)) h;have:=g.runNull B _ (fun x hx=>hl x (qDc _ hx)) h5;rw[qEk,qAc]at this;have hn:=g.clN p (qAd h3) this.1;rw[qCp,this.2,Q35,h1,← h4,hn];rfl
theorem LLG.runFirst(g:LLG ps R H N F O ch){t:Nat}{C:List St}:∀(B:List St) (k r:List Sy),(∀x∈B,x.leaf=false)->Q1f ps (B++⟨true,t⟩::C) k=some r->Q3s N (fun X=>F X t) t k=true
 | [],k,r,_,h=>by
  obtain⟨y,k',rfl,h1,h2,h3⟩:=z08 rfl h;simp only[Q3s,h1,qF,qAp,h2];simp
 |s::B,k,r,hl,h=>by
  obtain⟨y,k',p,rfl,h1,h2,h3,h4,h5⟩:=z05 (hl s (by simp)) h;have:=g.runFirst B _ r (fun x hx=>hl x (qDc _ hx)) h5;rw[z2o,qAk,qAc]at this;simp only[Q3s,h1,qBb,qBa];rcases this with h6|⟨h6,h7⟩
  ·rw[← h4,g.clF p (qAd h3) t h6];rfl
  rw[← h4,g.clN p (qAd h3) h6,h7];simp
theorem LLG.runTo(g:LLG ps R H N F O ch){t:Nat}(ht:t<=R){C:List St}:∀(B:List St) (k r:List Sy) (st:List St),Q4t N F O R k->(∀x∈B,x.leaf=false)->Q1f ps (B++⟨true,t⟩::C) k=some r ->
  ∃f k',Q1f ps C k'=some r/\gTo ps ch t f k st=some (k',st++(B++[⟨true,t⟩]))
 | [],k,r,st,hk,_,h=>by
  obtain⟨y,k',rfl,h1,h2,h3⟩:=z08 rfl h;refine⟨1,k',h3,?_⟩;simp only[gTo,h1,qBb,h2,qBq]
 |s::B,k,r,st,hk,hl,h=>by
  have hs:=hl s (by simp);have hB:=fun x hx=>hl x (qDc s hx);obtain⟨y,k',p,rfl,h1,h2,h3,h4,h5⟩:=z05 hs h;have hb:=g.runFirst B _ r hB h5;rw[z2o,qAk,qAc]at hb;have ha:ahd N F O p t=true:=by
   unfold ahd;rcases hb with hb|⟨hb,hc⟩
   ·rw[hb];rfl
   rw[hb,h4,hk [] y k' rfl h1 t (by unfold Q6j;rw[hc];rfl)];simp
  have j0:=g.one s.num.toNat p h3 t ht ha;rw[h4]at j0;obtain⟨f,k2,e1,e2⟩:=g.runTo ht B (p.syms++k') r (st++[s]) (g.stkOpen (qAd h3) h1 h4 hk) hB h5;refine⟨f+1,k2,e1,?_⟩;have j1:s=⟨false,ch y.num t⟩:=by
   obtain⟨sl,sn⟩:=s;dsimp only at hs j0 h2 ⊢;rw[j0,hs];congr 1;omega
  rw[gTo,qAa (by simp[h1]),qAb (by omega)];have:(ch y.num t).toNat=s.num.toNat:=by omega
  rw[this,h3];simp only[];rw[← j1,e2];simp
theorem LLG.runEnd(g:LLG ps R H N F O ch):∀(B:List St) (k:List Sy) (st:List St),Q4t N F O R k->(∀x∈B,x.leaf=false)->Q1f ps B k=some []->∃f,gTo ps ch R f k st=some ([],st++B)
 | [],k,st,hk,_,h=>by
  cases h;exact⟨1,by simp[gTo]⟩
 |s::B,k,st,hk,hl,h=>by
  have hs:=hl s (by simp);have hB:=fun x hx=>hl x (qDc s hx);obtain⟨y,k',p,rfl,h1,h2,h3,h4,h5⟩:=z05 hs h;have hb:=g.runNull B _ hB h5;rw[qEk,qAc]at hb;have ha:ahd N F O p R=true:=by
   unfold ahd;rw[hb.1,h4,hk [] y k' rfl h1 R (by unfold Q6j;rw[hb.2];simp)];simp
  have j0:=g.one s.num.toNat p h3 R (qR _) ha;rw[h4]at j0;obtain⟨f,e2⟩:=g.runEnd B (p.syms++k') (st++[s]) (g.stkOpen (qAd h3) h1 h4 hk) hB h5;refine⟨f+1,?_⟩;have j1:s=⟨false,ch y.num R⟩:=by
   obtain⟨sl,sn⟩:=s;dsimp only at hs j0 h2 ⊢;rw[j0,hs];congr 1;omega
  rw[gTo,qAa (by simp[h1]),qAb (by omega)];have:(ch y.num R).toNat=s.num.toNat:=by omega
  rw[this,h3];simp only[];rw[← j1,e2];simp
end
theorem y0z{A:List St}(h:Q0d A=[]):∀x∈A,x.leaf=false:=by
 intro x hx;unfold Q0d at h;rw[List.map_eq_nil_iff,List.filter_eq_nil_iff]at h;simpa using h x hx
theorem z4m:∀{A:List St}{t:Int}{l:List Int},Q0d A=t::l->∃B C,A=B++⟨true,t⟩::C/\(∀x∈B,x.leaf=false)/\Q0d C=l
 | [],t,l,h=>by simp[Q0d]at h
 |s::A,t,l,h=>by
  obtain⟨sl,sn⟩:=s;cases sl
  ·have e:Q0d (⟨false,sn⟩::A)=Q0d A:=by simp[Q0d]
   rw[e]at h;obtain⟨B,C,h1,h2,h3⟩:=z4m h;refine⟨⟨false,sn⟩::B,C,by rw[h1];rfl,fun x hx=>?_,h3⟩;rcases qBc.1 hx with rfl|hx
   ·rfl
   exact h2 x hx
  have e:Q0d (⟨true,sn⟩::A)=sn::Q0d A:=by simp[Q0d]
  rw[e,qAu]at h;exact⟨[],A,by rw[h.1];rfl,fun x hx=>by(cases hx),h.2⟩
theorem z71{ps:List Pr}{R H:Nat}{hs:List Hd}(h:Tab ps R H hs):∀(l:List Int) (A:List St) (a:Nat) (k:List Sy) (st:List St),Q0d A=l->Q4t (hN hs) (hF hs) (hO hs) R k->Q27 R H k->(∀s∈st,0<=s.num/\s.num<=127)->Q1f ps A k=some [] ->
  Q6a ps hs R H l a k st=⟨0,[],0,st++A⟩
 | [],A,a,k,st,hl,h1,h2,h3,hru=>by
  have hA:=y0z hl;have j0:=h.g.runNull A k hA hru;have j1:Q6j (hN hs) (hF hs) R k R=true:=by unfold Q6j;rw[j0];simp
  have hw:(Q5y hs R k).getD R false=true:=by rw[z3w h.ok h.hR k h2 R];exact j1
  obtain⟨s1,_⟩:=h.step (qR _) h1 h2 h3 hw;rw[z24 (R:=R) (H:=H) (t:=R) (ch:=chL (Q53 (ps.zip (Q0p hs ps)) 72)) (ch':=chF hs ps) (fun X x0 x1=>z8j x0 (by have:=h.hH;omega) (by have:=h.hR;omega)) (fun p hp=>(h.syms p hp).2) _ _ _ h2]at s1;obtain⟨f,e⟩:=h.g.runEnd A k st h1 hA hru;have m1:=z15 _ _ _ _ s1 (max f (Q2u H k.length)) (by omega);have m2:=z15 _ _ _ _ e (max f (Q2u H k.length)) (by omega);rw[m1,qO]at m2;unfold Q6a;rw[qAb hw,m2]
 |t::l,A,a,k,st,hl,h1,h2,h3,hru=>by
  obtain⟨B,C,rfl,hB,hC⟩:=z4m hl;have j2:=y8t h.g.tab _ _ _ h2 hru ⟨true,t⟩ (by simp);obtain⟨n,rfl⟩:∃n:Nat,t=n:=⟨t.toNat,by have:=j2.1;dsimp only at this;omega⟩;have j3:n<=R:=by have:=j2.2.1 rfl;dsimp only at this;omega
  have j1:Q6j (hN hs) (hF hs) R k n=true:=by unfold Q6j;rw[h.g.runFirst B k _ hB hru];rfl
  have hw:(Q5y hs R k).getD n false=true:=by rw[z3w h.ok h.hR k h2 n];exact j1
  obtain⟨s1,_,_,s4,s5,s6,_⟩:=h.step j3 h1 h2 h3 hw;rw[z24 (R:=R) (H:=H) (t:=n) (ch:=chL (Q53 (ps.zip (Q0p hs ps)) 72)) (ch':=chF hs ps) (fun X x0 x1=>z8j x0 (by have:=h.hH;omega) (by have:=h.hR;omega)) (fun p hp=>(h.syms p hp).2) _ _ _ h2]at s1;obtain⟨f,k',e1,e⟩:=h.g.runTo j3 B k [] st h1 hB hru;have m1:=z15 _ _ _ _ s1 (max f (Q2u H k.length)) (by omega);have m2:=z15 _ _ _ _ e (max f (Q2u H k.length)) (by omega);rw[m1,qO]at m2;rw[m2]at s4 s5 s6;unfold Q6a;rw[qAl,qAb hw,m2];rw[z71 h l C (a+1) k' _ hC s4 s5 s6 e1];simp
def Q4a(ps:List Pr)(A:List St)(c:Nat):List Nd:=List.zipWith Q74 (ndL A c) (Q08 ps (ndL A c))
theorem y97(ps:List Pr)(A:List St)(c:Nat):(Q4a ps A c).length=A.length:=by simp[Q4a,z60,z2u]
theorem y6q(ps:List Pr)(A:List St):Q4a ps A 0=Q17 ps A:=rfl
theorem y5b(ps:List Pr):∀(A B:List St) (ys:List Sy) (c:Nat),Q1f ps A ys=some []->Q08 ps (ndL (A++B) c)=Q08 ps (ndL A c)++Q08 ps (ndL B (c+(Q0d A).length))
 | [],B,ys,c,h=>by simp[ndL,Q08,Q0d]
 |s::A,B,ys,c,h=>by
  have key:∃ys',Q1f ps A ys'=some []:=by
   cases hs:s.leaf
   ·obtain⟨y,k',p,_,_,_,_,_,h5⟩:=z05 hs h;exact⟨_,h5⟩
   obtain⟨y,k',_,_,_,h5⟩:=z08 hs h;exact⟨_,h5⟩
  obtain⟨ys',hA⟩:=key;have j0:(Q08 ps (ndL (s::A++B) c))[0]? = (Q08 ps (ndL (s::A) c))[0]? := by
   cases ys with
   |nil=>simp[Q1f]at h
   |cons y ys =>
    obtain⟨T,A2,e,h1,h2⟩:=z2t ps (s::A) [y] ys h;have q1:=z6i ps _ T (A2++B) y c (qR _) h1;have q2:=z6i ps _ T A2 y c (qR _) h1;rw[e,qAh,q1,q2]
  have j1:∀c',Q08 ps (ndL (A++B) c')=Q08 ps (ndL A c')++Q08 ps (ndL B (c'+(Q0d A).length)):=fun c'=>y5b ps A B ys' c' hA;cases hl:s.leaf
  ·have e:Q0d (s::A)=Q0d A:=by simp[Q0d,hl]
   simp only[qAw,ndL,hl,qF,qAp,Q08,qBz,qO,e]at j0 ⊢;rw[j0,j1]
  have e:(Q0d (s::A)).length=(Q0d A).length+1:=by simp[Q0d,hl]
  simp only[qAw,ndL,hl,qBb,Q08,qBz,qO,e]at j0 ⊢;rw[j0,j1,show c+1+(Q0d A).length=c+((Q0d A).length+1) by omega]
theorem y96(ps:List Pr){A B:List St}{ys:List Sy}(c:Nat)(h:Q1f ps A ys=some []):Q4a ps (A++B) c=Q4a ps A c++Q4a ps B (c+(Q0d A).length):=by
 unfold Q4a;rw[y5b ps A B ys c h,y19,List.zipWith_append (by rw[z2u])]
theorem y6p(ps:List Pr){A:List St}{n:Int}{y:Sy}(c:Nat)(h:Q1f ps (⟨false,n⟩::A) [y]=some []):Q4a ps (⟨false,n⟩::A) c=⟨n,-1,c,A.length+1⟩::Q4a ps A c:=by
 have q:=z6i ps _ (⟨false,n⟩::A) [] y c (qR _) h;rw[qAt]at q;unfold Q4a;simp only[ndL,qF,qAp,Q08,qBz,qO,List.zipWith_cons_cons]at q ⊢;rw[q];simp[Q74]
theorem y6o(ps:List Pr)(n:Int)(c:Nat):Q4a ps [⟨true,n⟩] c=[⟨-1,n,c,1⟩]:=by
 have q:=z6i ps 1 [⟨true,n⟩] [] ⟨false,n⟩ c (qR _) (by simp[Q1f]);rw[qAt]at q;unfold Q4a;simp only[ndL,qBb,Q08,qBz,qO,List.zipWith_cons_cons]at q ⊢;rw[q];simp[Q74,ndL,Q08]
section
variable {ps:List Pr}{R H:Nat}
end
attribute [local go_sem ↓] y14
structure XV(w:World)(xb g3 c3 g5 c5:Nat)(sv:Nat->Value)(ps:List Pr):Prop where
 k3:w.cell? ⟨xb,3,none⟩=some (.slice (some ⟨g3,0,none⟩) ps.length c3)
 k5:w.cell? ⟨xb,5,none⟩=some (.slice (some ⟨g5,0,none⟩) ps.length c5)
 hd:∀p (h:p<ps.length),w.cell? ⟨g3,p,none⟩=some (.int .i64 ps[p].head)
 sy:∀p (h:p<ps.length),w.cell? ⟨g5,p,none⟩=some (sv p)/\Q0z w (sv p) (ps[p].syms.map sInt)
section
variable {w W w1:World}{b B u u':Nat}{vx vc vh vn vk v':Value}{NL:List Nd}{KL:List Int}
end
def HtAt(w:World)(hb:Nat)(hts:List Nat):Prop:=w.heap[hb]? = some (.cells (i64s (hts.map Int.ofNat)) 3 (0,0))
section
variable {ps:List Pr}{hts:List Nat}{X i:Nat}{al:List Int}{lo:Int}
end
structure TX(w:World)(xb g3 c3 g5 c5 hb:Nat)(sv:Nat->Value)(ps:List Pr)(hts:List Nat)(vc:Value)(code:List Int):Prop where
 xv:XV w xb g3 c3 g5 c5 sv ps
 ht:HtAt w hb hts
 co:Q0z w vc code
theorem z20{ps:List Pr}:∀(A:List St) (ys r k:List Sy),Q1f ps A ys=some r->Q1f ps A (ys++k)=some (r++k)
 | [],ys,r,k,h=>by cases h;rfl
 |s::A,ys,r,k,h=>by
  cases hs:s.leaf
  ·obtain⟨y,k',p,rfl,h1,h2,h3,h4,h5⟩:=z05 hs h;have:=z20 A _ _ k h5;simp only[qAw,Q1f,hs,qF,qAp];rw[qAb ⟨h1,h2⟩,h3];simp only[];rw[qAb h4,← qAh];exact this
  obtain⟨y,k',rfl,h1,h2,h3⟩:=z08 hs h;simp only[qAw,Q1f,hs,qBb];rw[qAb ⟨h1,h2⟩];exact z20 A _ _ k h3
theorem y5a{ps:List Pr}{A T:List St}{ys:List Sy}{y:Sy}(h1:Q1f ps A ys=some [])(h2:Q1f ps T [y]=some []):Q1f ps (A++T) (ys++[y])=some []:=by
 rw[z1f,z20 A ys [] [y] h1];exact h2
attribute [local go_sem ↓] z13
section
variable {ps:List Pr}{R H:Nat}{hs:List Hd}
theorem y69(h:Tab ps R H hs):∀(l:List Int) (A:List St) (k β:List Sy) (st:List St),Q0d A=l->Q4t (hN hs) (hF hs) (hO hs) R k->Q27 R H k->(∀s∈st,0<=s.num/\s.num<=127)->Q1f ps A k=some β ->
  ∃k' st' C,thr ps hs R H l k st=some (k',st')/\(∀x∈C,x.leaf=false)/\Q1f ps C k'=some β/\Q4t (hN hs) (hF hs) (hO hs) R k'/\Q27 R H k'
 | [],A,k,β,st,hl,h1,h2,h3,hru=>⟨k,st,A,rfl,y0z hl,hru,h1,h2⟩
 |t::l,A,k,β,st,hl,h1,h2,h3,hru=>by
  obtain⟨B,C,rfl,hB,hC⟩:=z4m hl;have j0:=y8t h.g.tab _ _ _ h2 hru ⟨true,t⟩ (by simp);obtain⟨n,rfl⟩:∃n:Nat,t=n:=⟨t.toNat,by have:=j0.1;dsimp only at this;omega⟩;have j1:n<=R:=by have:=j0.2.1 rfl;dsimp only at this;omega
  have j2:Q6j (hN hs) (hF hs) R k n=true:=by unfold Q6j;rw[h.g.runFirst B k _ hB hru];rfl
  have hw:(Q5y hs R k).getD n false=true:=by rw[z3w h.ok h.hR k h2 n];exact j2
  obtain⟨s1,_,_,s4,s5,s6,_⟩:=h.step j1 h1 h2 h3 hw;rw[z24 (R:=R) (H:=H) (t:=n) (ch:=chL (Q53 (ps.zip (Q0p hs ps)) 72)) (ch':=chF hs ps) (fun X x0 x1=>z8j x0 (by have:=h.hH;omega) (by have:=h.hR;omega)) (fun p hp=>(h.syms p hp).2) _ _ _ h2]at s1;obtain⟨f,k',e1,e⟩:=h.g.runTo j1 B k β st h1 hB hru;have m1:=z15 _ _ _ _ s1 (max f (Q2u H k.length)) (by omega);have m2:=z15 _ _ _ _ e (max f (Q2u H k.length)) (by omega);rw[m1,qO]at m2;rw[m2]at s4 s5 s6;unfold thr;rw[qAl,qAb hw,m2];exact y69 h l C k' β _ hC s4 s5 s6 e1
theorem z6l(h:Tab ps R H hs):∀(l:List Int) (k:List Sy) (st:List St) (r:List Sy × List St),Q0w R l=true->Q4t (hN hs) (hF hs) (hO hs) R k->Q27 R H k->(∀s∈st,0<=s.num/\s.num<=127)->thr ps hs R H l k st=some r ->
  ∃A,Q0d A=l/\Q1f ps A k=some r.1/\Q4t (hN hs) (hF hs) (hO hs) R r.1/\Q27 R H r.1/\∀s∈r.2,0<=s.num/\s.num<=127
 | [],k,st,r,_,h1,h2,h3,hr=>by
  cases hr;exact⟨[],rfl,rfl,h1,h2,h3⟩
 |t::l,k,st,r,h4,h1,h2,h3,hr=>by
  have h5:(0<=t/\t<R)/\Q0w R l=true:=by
   unfold Q0w at h4 ⊢;simpa using h4
  unfold thr at hr;split at hr
  ·rename_i hw;have j1:t.toNat<=R:=by omega
   obtain⟨s1,_,_,s4,s5,s6,_⟩:=h.step j1 h1 h2 h3 hw;have j0:=s1;rw[z24 (R:=R) (H:=H) (t:=t.toNat) (ch:=chL (Q53 (ps.zip (Q0p hs ps)) 72)) (ch':=chF hs ps) (fun X x0 x1=>z8j x0 (by have:=h.hH;omega) (by have:=h.hR;omega)) (fun p hp=>(h.syms p hp).2) _ _ _ h2]at j0;have j2:=hw;rw[z3w h.ok h.hR k h2]at j2;obtain⟨ns,e1,e2⟩:=h.g.leaf j1 k h1 h2 j2 st j0;obtain⟨ns',e3,e4⟩:=y1z (t:=t.toNat) (fun X hX=>by obtain⟨p,q1,q2,_⟩:=h.g.chr X t.toNat hX;exact⟨p,q1,q2⟩) _ _ _ _ j0;have en:ns'=ns:=by rw[e1]at e3;exact(qEl e3).symm
   subst en;rcases e2 with⟨_,q1⟩|⟨q,_⟩
   ·obtain⟨A,z1,z2,z3⟩:=z6l h l _ _ r h5.2 s4 s5 s6 hr;refine⟨ns'++A,by rw[z0o,q1,z1,show((t.toNat:Nat):Int)=t by omega];rfl,?_,z3⟩;rw[z1f,e4];exact z2
   omega
  cases hr
def Vb(ps:List Pr)(l:List Int)(t:Nat):Prop:=∃A β,Q0d A=l/\Q1f ps A [⟨true,0⟩]=some (⟨false,t⟩::β)
def Ve(ps:List Pr)(l:List Int):Prop:=∃A,Q0d A=l/\Q1f ps A [⟨true,0⟩]=some []
theorem z97(h:Tab ps R H hs){l:List Int}(hk:Q0w R l=true){r:List Sy × List St}(hr:thr ps hs R H l [⟨true,0⟩] []=some r){t:Nat}(ht:t<R):(Q5y hs R r.1).getD t false=true↔Vb ps l t:=by
 obtain⟨A,z1,z2,z3,z4,z5⟩:=z6l h l _ _ r hk h.start.1 h.start.2 (by simp) hr;rw[z3w h.ok h.hR r.1 z4 t];constructor
 ·intro hw;have j2:(Q5y hs R r.1).getD t false=true:=by rw[z3w h.ok h.hR r.1 z4 t];exact hw
  obtain⟨s1,_⟩:=h.step (by omega:t<=R) z3 z4 z5 j2;have j0:=s1;rw[z24 (R:=R) (H:=H) (t:=t) (ch:=chL (Q53 (ps.zip (Q0p hs ps)) 72)) (ch':=chF hs ps) (fun X x0 x1=>z8j x0 (by have:=h.hH;omega) (by have:=h.hR;omega)) (fun p hp=>(h.syms p hp).2) _ _ _ z4]at j0;obtain⟨ns,e1,e2⟩:=h.g.leaf (by omega) r.1 z3 z4 hw r.2 j0;obtain⟨ns',e3,e4⟩:=y1z (t:=t) (fun X hX=>by obtain⟨p,q1,q2,_⟩:=h.g.chr X t hX;exact⟨p,q1,q2⟩) _ _ _ _ j0;have en:ns'=ns:=by rw[e1]at e3;exact(qEl e3).symm
  subst en;rcases e2 with⟨_,q1⟩|⟨q,_⟩
  ·obtain⟨B,C,rfl,hB,hC⟩:=z4m q1;rw[z1f]at e4;cases hb:Q1f ps B r.1 with
   |none=>rw[hb]at e4;cases e4
   |some β =>
    rw[hb,qCn]at e4;obtain⟨y,k',rfl,y1,y2,_⟩:=z08 rfl e4;refine⟨A++B,k',by rw[z0o,z1,z27 hB,qAt],?_⟩;rw[z1f,z2,qCn,hb];obtain⟨yh,yn⟩:=y;dsimp only at y1 y2;rw[y1,y2]
  omega
 rintro⟨A',β,q1,q2⟩;obtain⟨k',st',C,e1,e2,e3,e4,e5⟩:=y69 h l A' [⟨true,0⟩] _ [] q1 h.start.1 h.start.2 (by simp) q2;rw[hr,qO]at e1;have j1:r.1=k':=by rw[e1]
 rw[j1];have:Q1f ps (C++⟨true,(t:Int)⟩::[]) k'=some β:=by
  rw[z1f,e3,qCn];simp[Q1f]
 unfold Q6j;rw[h.g.runFirst C k' _ e2 this];rfl
theorem y22(h:Tab ps R H hs){l:List Int}(hk:Q0w R l=true){r:List Sy × List St}(hr:thr ps hs R H l [⟨true,0⟩] []=some r):(Q5y hs R r.1).getD R false=true↔Ve ps l:=by
 obtain⟨A,z1,z2,z3,z4,z5⟩:=z6l h l _ _ r hk h.start.1 h.start.2 (by simp) hr;rw[z3w h.ok h.hR r.1 z4 R];constructor
 ·intro hw;have j2:(Q5y hs R r.1).getD R false=true:=by rw[z3w h.ok h.hR r.1 z4 R];exact hw
  obtain⟨s1,_⟩:=h.step (qR R) z3 z4 z5 j2;have j0:=s1;rw[z24 (R:=R) (H:=H) (t:=R) (ch:=chL (Q53 (ps.zip (Q0p hs ps)) 72)) (ch':=chF hs ps) (fun X x0 x1=>z8j x0 (by have:=h.hH;omega) (by have:=h.hR;omega)) (fun p hp=>(h.syms p hp).2) _ _ _ z4]at j0;obtain⟨ns,e1,e2⟩:=h.g.leaf (qR _) r.1 z3 z4 hw r.2 j0;obtain⟨ns',e3,e4⟩:=y1z (t:=R) (fun X hX=>by obtain⟨p,q1,q2,_⟩:=h.g.chr X R hX;exact⟨p,q1,q2⟩) _ _ _ _ j0;have en:ns'=ns:=by rw[e1]at e3;exact(qEl e3).symm
  subst en;rcases e2 with⟨q,_⟩|⟨_,q1,q2⟩
  ·omega
  refine⟨A++ns',by rw[z0o,z1,q1,qAt],?_⟩;rw[z1f,z2,qCn,e4,q2]
 rintro⟨A',q1,q2⟩;obtain⟨k',st',C,e1,e2,e3,e4,e5⟩:=y69 h l A' [⟨true,0⟩] _ [] q1 h.start.1 h.start.2 (by simp) q2;rw[hr,qO]at e1;have j1:r.1=k':=by rw[e1]
 rw[j1];unfold Q6j;rw[h.g.runNull C k' e2 e3];simp
theorem y82:∀(l:List Int) (k:List Sy) (st:List St) (t:Int),thr ps hs R H (l++[t]) k st=(thr ps hs R H l k st).bind (fun r=>if(Q5y hs R r.1).getD t.toNat false=true then some (Q7h ps hs H t.toNat r.1 r.2) else none)
 | [],k,st,t=>by
  rw[qBq,thr];simp only[thr,qCn]
 |x::l,k,st,t=>by
  rw[qAw,thr,thr];split
  ·exact y82 l _ _ t
  rfl
end
theorem z5c{X Y l:List Int}{f n:Nat}(h:X++Y=(l.drop f).take (n-f))(hn:n<=l.length)(hf:f<=n):X=(l.drop f).take X.length/\Y=(l.drop (f+X.length)).take (n-(f+X.length))/\f+X.length<=n:=by
 have hl:X.length+Y.length=n-f:=by
  have:=qDn List.length h;rw[qP,qBo,qBx]at this;omega
 refine⟨?_,?_,by omega⟩
 ·have e:(X++Y).take X.length=X:=List.take_left;rw[h,qEf,qDq (by omega)]at e;exact e.symm
 have e:(X++Y).drop X.length=Y:=List.drop_left;rw[h,List.drop_take,List.drop_drop]at e;rw[← e,show n-(f+X.length)=n-f-X.length by omega]
theorem z6e{s:St}(hs:s.leaf=false)(h:0<=s.num):s=⟨false,(s.num.toNat:Int)⟩:=by
 obtain⟨a,b⟩:=s;dsimp only at hs h ⊢;rw[hs];congr 1;omega
section
variable {ps:List Pr}
theorem spine:∀(A:List St) (k:List Sy) (Y:Sy) (γ:List Sy),Q1f ps A k=some (Y::γ) ->
  (∃a,k=a++Y::γ/\Q1f ps A a=some []) ∨
  (∃(p:Nat) (q:Pr) (d:Nat) (A' B':List St) (γ':List Sy),ps[p]? = some q/\q.syms[d]? = some Y/\γ=q.syms.drop (d+1)++γ'/\A=A'++⟨false,(p:Int)⟩::B'/\Q1f ps A' k=some (⟨true,q.head⟩::γ')/\Q1f ps B' (q.syms.take d)=some [])
 | [],k,Y,γ,h=>by
  cases h;exact .inl ⟨[],rfl,rfl⟩
 |s::A,k,Y,γ,h=>by
  cases hs:s.leaf
  ·obtain⟨y,k',q,rfl,h1,h2,h3,h4,h5⟩:=z05 hs h;have j0:=z6e hs h2;have hy:y=⟨true,q.head⟩:=by
    obtain⟨a,b⟩:=y;dsimp only at h1 h4;rw[h1,h4]
   have step:∀z,Q1f ps (s::A) (y::z)=Q1f ps A (q.syms++z):=fun z=>by
    simp only[Q1f,hs,qF,qAp];rw[qAb ⟨h1,h2⟩,h3];simp only[];rw[qAb h4]
   rcases spine A (q.syms++k') Y γ h5 with⟨a,e,hr⟩|⟨p2,q2,d2,A',B',γ',e1,e2,e3,e4,e5,e6⟩
   ·rcases List.append_eq_append_iff.1 e with⟨a2,e1,e2⟩|⟨b,e1,e2⟩
    ·subst e1;exact .inl ⟨y::a2,by rw[e2];rfl,by rw[step];exact hr⟩
    cases b with
    |nil =>
     rw[qAt]at e1;rw[qBq]at e2;exact .inl ⟨[y],by rw[← e2];rfl,by rw[step,qAt,e1];exact hr⟩
    |cons z b =>
     rw[qAw,qAu]at e2;obtain⟨rfl,e2⟩:=e2;refine .inr ⟨s.num.toNat,q,a.length,[],A,k',h3,by rw[e1];simp,?_,by rw[qBq,← j0],by rw[← hy];rfl,?_⟩
     ·rw[e1,e2];simp
     rw[e1,List.take_left];exact hr
   refine .inr ⟨p2,q2,d2,s::A',B',γ',e1,e2,e3,by rw[e4];rfl,?_,e6⟩;have:Q1f ps (s::A') (y::k')=Q1f ps A' (q.syms++k'):=by
    simp only[Q1f,hs,qF,qAp];rw[qAb ⟨h1,h2⟩,h3];simp only[];rw[qAb h4]
   rw[this];exact e5
  obtain⟨y,k',rfl,h1,h2,h3⟩:=z08 hs h;have step:∀(A:List St) z,Q1f ps (s::A) (y::z)=Q1f ps A z:=fun A z=>by
   simp only[Q1f,hs,qBb];rw[qAb ⟨h1,h2⟩]
  rcases spine A k' Y γ h3 with⟨a,e,hr⟩|⟨p2,q2,d2,A',B',γ',e1,e2,e3,e4,e5,e6⟩
  ·exact .inl ⟨y::a,by rw[e];rfl,by rw[step];exact hr⟩
  exact .inr ⟨p2,q2,d2,s::A',B',γ',e1,e2,e3,by rw[e4];rfl,by rw[step];exact e5,e6⟩
def It(ps:List Pr)(l:List Int)(n p d f:Nat):Prop :=
 ∃q,ps[p]? = some q/\d<=q.syms.length/\f<=n/\(∃B,Q1f ps B (q.syms.take d)=some []/\Q0d B=(l.drop f).take (n-f))/\(∃A γ,Q1f ps A [⟨true,0⟩]=some (⟨true,q.head⟩::γ)/\Q0d A=l.take f)
theorem z3k{p:Nat}{q:Pr}{B:List St}{γ:List Sy}(hp:ps[p]? = some q):Q1f ps (⟨false,(p:Int)⟩::B) (⟨true,q.head⟩::γ)=Q1f ps B (q.syms++γ):=by
 simp only[Q1f,qF,qAp];rw[qAb ⟨trivial,by omega⟩,qAl,hp];simp
theorem It.at'{l:List Int}{n p d f:Nat}(h:It ps l n p d f)(hn:n<=l.length):∃q A γ,ps[p]? = some q/\Q0d A=l.take n/\Q1f ps A [⟨true,0⟩]=some (q.syms.drop d++γ):=by
 obtain⟨q,hp,hd,hf,⟨B,b1,b2⟩,A,γ,a1,a2⟩:=h;refine⟨q,A++⟨false,(p:Int)⟩::B,γ,hp,?_,?_⟩
 ·rw[z0o,a2];have:Q0d (⟨false,(p:Int)⟩::B)=Q0d B:=by simp[Q0d]
  rw[this,b2,← qEo,show f+(n-f)=n by omega]
 rw[z1f,a1,qCn,z3k hp];have:=z20 B _ _ (q.syms.drop d++γ) b1;rw[← qAh,qDz,qBq]at this;exact this
theorem x2x{l:List Int}{p:Nat}{q:Pr}(hp:ps[p]? = some q)(hh:q.head=0):It ps l 0 p 0 0 :=
 ⟨q,hp,qBg _,qR _,⟨[],rfl,by simp[Q0d]⟩,[],[],by rw[hh];rfl,by simp[Q0d]⟩
theorem z93{q:Pr}{d:Nat}{Y:Sy}(h:q.syms[d]? = some Y):q.syms.take (d+1)=q.syms.take d++[Y]:=by
 rw[qCc,h];rfl
theorem x2z{l:List Int}{n p d f:Nat}{q:Pr}{t:Int}(h:It ps l n p d f)(hp:ps[p]? = some q)(hs:q.syms[d]? = some ⟨false,t⟩)(ht:l[n]? = some t):It ps l (n+1) p (d+1) f:=by
 obtain⟨q',hp',hd,hf,⟨B,b1,b2⟩,c⟩:=h;rw[hp,qO]at hp';subst hp';have j0:=(qS hs).1;refine⟨q,hp,j0,by omega,⟨B++[⟨true,t⟩],?_,?_⟩,c⟩
 ·rw[z93 hs];refine y5a b1 ?_;simp[Q1f]
 rw[z0o,b2,show n+1-f=(n-f)+1 by omega,qCc,qCq,show f+(n-f)=n by omega,ht];rfl
theorem x2y{l:List Int}{n p d f p':Nat}{q q':Pr}{X:Int}(h:It ps l n p d f)(hn:n<=l.length)(hp:ps[p]? = some q)(hs:q.syms[d]? = some ⟨true,X⟩)(hp':ps[p']? = some q')(hh:q'.head=X):It ps l n p' 0 n:=by
 obtain⟨q2,A,γ,e1,e2,e3⟩:=h.at' hn;rw[hp,qO]at e1;subst e1;obtain⟨hdl,hdq⟩:=qS hs;refine⟨q',hp',qBg _,qR _,⟨[],by simp[Q1f],by simp[Q0d]⟩,A,q.syms.drop (d+1)++γ,?_,e2⟩;rw[e3,qC hdl,hdq,hh];rfl
theorem x2w{l:List Int}{n p f p' d' f':Nat}{q q':Pr}(h:It ps l n p q.syms.length f)(hn:n<=l.length)(hp:ps[p]? = some q)(h':It ps l f p' d' f')(hp':ps[p']? = some q')(hs:q'.syms[d']? = some ⟨true,q.head⟩):It ps l n p' (d'+1) f':=by
 obtain⟨q2,e1,_,hf,⟨B,b1,b2⟩,_⟩:=h;rw[hp,qO]at e1;subst e1;obtain⟨q3,e1,hd3,hf3,⟨B',b3,b4⟩,c⟩:=h';rw[hp',qO]at e1;subst e1;have j0:=(qS hs).1;refine⟨q',hp',j0,by omega,⟨B'++⟨false,(p:Int)⟩::B,?_,?_⟩,c⟩
 ·rw[z93 hs];refine y5a b3 ?_;rw[z3k hp,qAt];rw[qAr]at b1;exact b1
 have:Q0d (⟨false,(p:Int)⟩::B)=Q0d B:=by simp[Q0d]
 rw[z0o,this,b4,b2];have e:l.drop f=(l.drop f').drop (f-f'):=by rw[List.drop_drop,show f'+(f-f')=f by omega]
 rw[e,← qEo,show f-f'+(n-f)=n-f' by omega]
structure Clo(ps:List Pr)(l:List Int)(N:Nat)(S:Nat->Nat->Nat->Nat->Prop):Prop where
 init:∀p q,ps[p]? = some q->q.head=0->S 0 p 0 0
 scan:∀n p d f q t,n<N->S n p d f->ps[p]? = some q->q.syms[d]? = some ⟨false,t⟩->l[n]? = some t->S (n+1) p (d+1) f
 pred:∀n p d f q p' q',n<=N->S n p d f->ps[p]? = some q->q.syms[d]? = some ⟨true,q'.head⟩->ps[p']? = some q'->S n p' 0 n
 comp:∀n p f q p' d' f' q',n<=N->S n p q.syms.length f->ps[p]? = some q->S f p' d' f'->ps[p']? = some q'->q'.syms[d']? = some ⟨true,q.head⟩->S n p' (d'+1) f'
theorem x2v{l:List Int}{N:Nat}{S:Nat->Nat->Nat->Nat->Prop}(h:Clo ps l N S)(hNl:N<=l.length):∀(T b n p d f:Nat) (q:Pr) (A B:List St) (γ:List Sy),n<=N->ps[p]? = some q->d<=q.syms.length->f<=n->Q1f ps B (q.syms.take d)=some []->Q0d B=(l.drop f).take (n-f) ->
  Q1f ps A [⟨true,0⟩]=some (⟨true,q.head⟩::γ)->Q0d A=l.take f->A.length+B.length=T->B.length=b->S n p d f:=by
 intro T;induction T using Nat.strongRecOn with
 |_ T ihT =>
  intro b;induction b using Nat.strongRecOn with
  |_ b ihb =>
   intro n p d f q A B γ hnN hp hd hf hB hlB hA hlA hT hb;cases d with
   |zero =>
    rw[List.take_zero]at hB;have j5:=z21 hB;subst j5;have j9:f=n:=by
     have:=qDn List.length hlB;rw[qBo,qBx]at this;simp[Q0d]at this;omega
    subst j9;by_cases hA0:A=[]
    ·subst hA0;have e:([⟨true,0⟩]:List Sy)=⟨true,q.head⟩::γ:=by simpa [Q1f]using hA
     rw[qAu,Sy.mk.injEq]at e;have j8:f=0:=by
      have:=qDn List.length hlA;rw[qBo]at this;simp[Q0d]at this;omega
     subst j8;exact h.init p q hp e.1.2.symm
    rcases spine A [⟨true,0⟩] ⟨true,q.head⟩ γ hA with⟨a,e,hr⟩|⟨p2,q2,d2,A',B',γ',e1,e2,e3,e4,e5,e6⟩
    ·cases a with
     |nil=>exact absurd (z21 hr) hA0
     |cons z a=>simp at e
    have ja:Q0d A'++Q0d B'=(l.drop 0).take (f-0):=by
     rw[qDe,Nat.sub_zero,← hlA,e4,z0o];congr 1
    obtain⟨c1,c2,c3⟩:=z5c ja (by omega) (by omega);rw[qDe]at c1;rw[qBi]at c2 c3;have jc:A.length=A'.length+(B'.length+1):=by rw[e4];simp
    have ji:=(qS e2).1;have hS:=ihT (A'.length+B'.length) (by simp at hT;omega) B'.length f p2 d2 (Q0d A').length q2 A' B' γ' hnN e1 (by omega) c3 e6 c2 e5 c1 rfl rfl;exact h.pred f p2 d2 _ q2 p q hnN hS e1 e2 hp
   |succ d =>
    have j3:d<q.syms.length:=hd;have hY:q.syms[d]? = some q.syms[d]:=qE j3;rw[z93 hY]at hB;obtain⟨B1,B2,rfl,h1,h2⟩:=z2t ps B (q.syms.take d) [q.syms[d]] hB;rw[z0o]at hlB;obtain⟨c1,c2,c3⟩:=z5c hlB (by omega) hf;generalize hm:f+(Q0d B1).length=m at c2 c3;have jf:(Q0d B1).length=m-f:=by omega
    rw[jf]at c1;generalize q.syms[d]=Y at hY h2;rw[qP]at hT hb;cases B2 with
    |nil=>simp[Q1f]at h2
    |cons s B3 =>
     have j1:=ihT (A.length+B1.length) (by simp at hT;omega) B1.length m p d f q A B1 γ (by omega) hp (by omega) (by omega) h1 c1 hA hlA rfl rfl;cases hs:s.leaf
     ·obtain⟨y,k',q2,e0,y1,y2,y3,y4,y5⟩:=z05 hs h2;rw[qAu]at e0;obtain⟨rfl,rfl⟩:=e0;rw[qAt]at y5;have jh:=z6e hs y2;have j2:Y=⟨true,q2.head⟩:=by
       obtain⟨a,b⟩:=Y;dsimp only at y1 y4;rw[y1,y4]
      have jb:Q0d B3=(l.drop m).take (n-m):=by
       rw[← c2,jh];simp[Q0d]
      have j4:Q1f ps (A++⟨false,(p:Int)⟩::B1) [⟨true,0⟩]=some (⟨true,q2.head⟩::(q.syms.drop (d+1)++γ)):=by
       rw[z1f,hA,qCn,z3k hp];have:=z20 B1 _ _ (q.syms.drop d++γ) h1;rw[← qAh,qDz,qBq]at this;rw[this,qC j3,(qS hY).2,j2];rfl
      have j0:Q0d (A++⟨false,(p:Int)⟩::B1)=l.take m:=by
       rw[z0o,hlA];have:Q0d (⟨false,(p:Int)⟩::B1)=Q0d B1:=by simp[Q0d]
       rw[this,c1,← qEo,show f+(m-f)=m by omega]
      have j7:=ihb B3.length (by simp at hb;omega) n s.num.toNat q2.syms.length m q2 (A++⟨false,(p:Int)⟩::B1) B3 _ hnN y3 (qR _) c3 (by rw[qAr];exact y5) jb j4 j0 (by simp at hT ⊢;omega) rfl;exact h.comp n s.num.toNat m q2 p d f q hnN j7 y3 j1 hp (by rw[hY,j2])
     obtain⟨y,k',e0,y1,y2,y3⟩:=z08 hs h2;rw[qAu]at e0;obtain⟨rfl,rfl⟩:=e0;have j6:=z21 y3;subst j6;have je:Q0d [s]=[s.num]:=by simp[Q0d,hs]
     rw[je]at c2;have jg:n=m+1:=by
      have:=qDn List.length c2;rw[qBo,qBx]at this;simp at this;omega
     subst jg;have jd:l[m]? = some s.num:=by
      rw[show m+1-m=1 by omega]at c2;have:=qDn (fun x=>x[0]?) c2;simp only[qBz]at this;rw[List.getElem?_take,qAb (by omega),qCq,Nat.add_zero]at this;exact this.symm
     refine h.scan m p d f q s.num (by omega) j1 hp ?_ jd;rw[hY];obtain⟨a,b⟩:=Y;dsimp only at y1 y2;rw[y1,y2]
theorem Clo.all{l:List Int}{N:Nat}{S:Nat->Nat->Nat->Nat->Prop}(h:Clo ps l N S)(hNl:N<=l.length){n p d f:Nat}(hn:n<=N)(hI:It ps l n p d f):S n p d f:=by
 obtain⟨q,hp,hd,hf,⟨B,b1,b2⟩,A,γ,a1,a2⟩:=hI;exact x2v h hNl _ _ n p d f q A B γ hn hp hd hf b1 b2 a1 a2 rfl rfl
theorem x7r{l:List Int}{t:Nat}:Vb ps l t↔∃p q d f,It ps l l.length p d f/\ps[p]? = some q/\q.syms[d]? = some ⟨false,(t:Int)⟩:=by
 constructor
 ·rintro⟨A,β,h1,h2⟩;rcases spine A [⟨true,0⟩] ⟨false,t⟩ β h2 with⟨a,e,hr⟩|⟨p,q,d,A',B',γ',e1,e2,e3,e4,e5,e6⟩
  ·cases a with
   |nil=>simp at e
   |cons z a=>simp at e
  have j0:Q0d A'++Q0d B'=(l.drop 0).take (l.length-0):=by
   rw[qDe,Nat.sub_zero,qAr,← h1,e4,z0o];congr 1
  obtain⟨c1,c2,c3⟩:=z5c j0 (qR _) (by omega);rw[qDe]at c1;rw[qBi]at c2 c3;have j1:=(qS e2).1;exact⟨p,q,d,(Q0d A').length,⟨q,e1,by omega,c3,⟨B',e6,c2⟩,A',γ',e5,c1⟩,e1,e2⟩
 rintro⟨p,q,d,f,h1,h2,h3⟩;obtain⟨q2,A,γ,e1,e2,e3⟩:=h1.at' (qR _);rw[h2,qO]at e1;subst e1;obtain⟨hdl,hdq⟩:=qS h3;refine⟨A,q.syms.drop (d+1)++γ,by rw[e2,qAr],?_⟩;rw[e3,qC hdl,hdq];rfl
theorem x7s{l:List Int}:Ve ps l↔∃p q,It ps l l.length p q.syms.length 0/\ps[p]? = some q/\q.head=0:=by
 constructor
 ·rintro⟨A,h1,h2⟩;cases A with
  |nil=>simp[Q1f]at h2
  |cons s A =>
   cases hs:s.leaf
   ·obtain⟨y,k',q,e0,y1,y2,y3,y4,y5⟩:=z05 hs h2;rw[qAu]at e0;obtain⟨rfl,rfl⟩:=e0;rw[qAt]at y5;have j0:=z6e hs y2;refine⟨s.num.toNat,q,⟨q,y3,qR _,qBg _,⟨A,by rw[qAr];exact y5,?_⟩,[],[],by rw[y4];rfl,by simp[Q0d]⟩,y3,y4⟩;rw[qDe,Nat.sub_zero,qAr,← h1,j0];simp[Q0d]
   obtain⟨y,k',e0,y1,y2,y3⟩:=z08 hs h2;rw[qAu]at e0;obtain⟨rfl,_⟩:=e0;cases y1
 rintro⟨p,q,h1,h2,h3⟩;obtain⟨q2,e1,_,_,⟨B,b1,b2⟩,_⟩:=h1;rw[h2,qO]at e1;subst e1;refine⟨⟨false,(p:Int)⟩::B,?_,?_⟩
 ·have:Q0d (⟨false,(p:Int)⟩::B)=Q0d B:=by simp[Q0d]
  rw[this,b2,qDe,Nat.sub_zero,qAr]
 rw[← h3,z3k h2,qAt];rw[qAr]at b1;exact b1
end
end Go.Proofs.YtcpceafmlgaodaaGreat
