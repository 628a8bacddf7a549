import Derived.Test.YtcpceafmlgaodaaGreatRh8
namespace Go.Proofs.YtcpceafmlgaodaaGreat
open Go.RowKit
set_option maxRecDepth 99999
set_option maxHeartbeats 0
set_option linter.all false
def cdJ(c:Nat->Bool)(x:Nat)(y:Nat->Nat):Nat->Nat->Mat->Mat
  |0,_,M=>M
  |f+1,j,M=>cdJ c x y f (j+1) (if c j=true then Q7o M x (y j) true else M)
def cdI(c:Q1->Nat->Bool)(x:Q1->Nat)(y:Q1->Nat->Nat):List Q1->Mat->Mat
  | [],M=>M
  |z::r,M=>cdI c x y r (cdJ (c z) (x z) (y z) z.2.length 0 M)
def sqF(n:Nat):Mat:=List.replicate n (List.replicate n false)
theorem y1k(n:Nat):Sq n (sqF n):=⟨by simp[sqF],fun i hi=>by rw[qD];simp[sqF,hi]⟩
theorem x4v(n i j:Nat):atM (sqF n) i j=false:=by
  unfold atM sqF;rw[qD,qD];by_cases hi:i<n
  · by_cases hj:j<n
    · simp[hi,hj]
    simp[hi,hj]
  simp[hi]
section
variable {n:Nat}
theorem x74{c:Nat->Bool}{x:Nat}{y:Nat->Nat}(hx:x<n):∀(f j:Nat) (M:Mat),Sq n M->(∀k,j<=k->k<j+f->c k=true->y k<n) ->
    Sq n (cdJ c x y f j M)/\∀a b,atM (cdJ c x y f j M) a b=true↔atM M a b=true∨∃k,j<=k/\k<j+f/\c k=true/\a=x/\b=y k
  |0,j,M,hs,hy=>⟨hs,fun a b=>⟨.inl,fun h=>by
      rcases h with h|⟨k,h1,h2,_⟩
      · exact h
      omega⟩⟩
  |f+1,j,M,hs,hy=>by
    unfold cdJ;have hs':Sq n (if c j=true then Q7o M x (y j) true else M):=by
      split
      · exact z9x hs hx _
      exact hs
    obtain⟨r1,r2⟩:=x74 hx f (j+1) _ hs' (fun k h1 h2 h3=>hy k (by omega) (by omega) h3);refine⟨r1,fun a b=>?_⟩;rw[r2];by_cases hc:c j=true
    · rw[qAb hc,x4p hs hx (hy j (by omega) (by omega) hc)]
      constructor
      · rintro(h|⟨k,h1,h2,h3⟩)
        · split at h
          · rename_i q;exact .inr ⟨j,by omega,by omega,hc,q⟩
          exact .inl h
        exact .inr ⟨k,by omega,by omega,h3⟩
      rintro(h|⟨k,h1,h2,h3,h4⟩)
      · left;split
        · rfl
        exact h
      by_cases e:k=j
      · subst e;left;rw[qAb h4]
      exact .inr ⟨k,by omega,by omega,h3,h4⟩
    rw[qAa hc];constructor
    · rintro(h|⟨k,h1,h2,h3⟩)
      · exact .inl h
      exact .inr ⟨k,by omega,by omega,h3⟩
    rintro(h|⟨k,h1,h2,h3,h4⟩)
    · exact .inl h
    by_cases e:k=j
    · subst e;exact absurd h3 hc
    exact .inr ⟨k,by omega,by omega,h3,h4⟩
theorem y7q{c:Q1->Nat->Bool}{x:Q1->Nat}{y:Q1->Nat->Nat}:∀(q:List Q1) (M:Mat),Sq n M->(∀z∈q,x z<n/\∀k,k<z.2.length->c z k=true->y z k<n) ->
    Sq n (cdI c x y q M)/\∀a b,atM (cdI c x y q M) a b=true↔atM M a b=true∨∃z∈q,∃k,k<z.2.length/\c z k=true/\a=x z/\b=y z k
  | [],M,hs,hy=>⟨hs,fun a b=>⟨.inl,fun h=>by
      rcases h with h|⟨z,h1,_⟩
      · exact h
      cases h1⟩⟩
  |z::r,M,hs,hy=>by
    have hz:=hy z (by simp);obtain⟨q1,q2⟩:=x74 (c:=c z) (x:=x z) (y:=y z) hz.1 z.2.length 0 M hs (fun k h1 h2 h3=>hz.2 k (by omega) h3);obtain⟨r1,r2⟩:=y7q (c:=c) (x:=x) (y:=y) r _ q1 (fun w hw=>hy w (by simp[hw]));unfold cdI;refine⟨r1,fun a b=>?_⟩;rw[r2,q2];constructor
    · rintro((h|⟨k,h1,h2,h3⟩)|⟨w,hw,h⟩)
      · exact .inl h
      · exact .inr ⟨z,by simp,k,by omega,h3⟩
      exact .inr ⟨w,by simp[hw],h⟩
    rintro(h|⟨w,hw,k,h1,h2⟩)
    · exact .inl (.inl h)
    rw[qBc]at hw;rcases hw with rfl|hw
    · exact .inl (.inr ⟨k,by omega,by omega,h2⟩)
    exact .inr ⟨w,hw,k,h1,h2⟩
end
def orJ(n:Nat)(c:Nat->Bool)(g:Nat->List Bool):Nat->Nat->List Bool->List Bool
  |0,_,out=>out
  |f+1,j,out=>orJ n c g f (j+1) (if c j=true then orI out (g j) n n else out)
theorem z9k{xs ys:List Bool}{n t:Nat}(ht:t<n):(orI xs ys n n).getD t false=(xs.getD t false||ys.getD t false):=by simp[orI,ht]
theorem y8m{n:Nat}{c:Nat->Bool}{g:Nat->List Bool}:∀(f j:Nat) (out:List Bool),out.length=n ->
    (orJ n c g f j out).length=n/\∀t,t<n->((orJ n c g f j out).getD t false=true↔out.getD t false=true∨∃k,j<=k/\k<j+f/\c k=true/\(g k).getD t false=true)
  |0,j,out,hl=>⟨hl,fun t ht=>⟨.inl,fun h=>by
      rcases h with h|⟨k,h1,h2,_⟩
      · exact h
      omega⟩⟩
  |f+1,j,out,hl=>by
    unfold orJ;obtain⟨r1,r2⟩:=y8m (n:=n) (c:=c) (g:=g) f (j+1) (if c j=true then orI out (g j) n n else out) (by split<;>first|exact z2l _ _ _ _|exact hl);refine⟨r1,fun t ht=>?_⟩;rw[r2 t ht];by_cases hc:c j=true
    · rw[qAb hc,z9k ht,qAk]
      constructor
      · rintro((h|h)|⟨k,h1,h2,h3⟩)
        · exact .inl h
        · exact .inr ⟨j,by omega,by omega,hc,h⟩
        exact .inr ⟨k,by omega,by omega,h3⟩
      rintro(h|⟨k,h1,h2,h3,h4⟩)
      · exact .inl (.inl h)
      by_cases e:k=j
      · subst e;exact .inl (.inr h4)
      exact .inr ⟨k,by omega,by omega,h3,h4⟩
    rw[qAa hc];constructor
    · rintro(h|⟨k,h1,h2,h3⟩)
      · exact .inl h
      exact .inr ⟨k,by omega,by omega,h3⟩
    rintro(h|⟨k,h1,h2,h3,h4⟩)
    · exact .inl h
    by_cases e:k=j
    · subst e;exact absurd h3 hc
    exact .inr ⟨k,by omega,by omega,h3,h4⟩
def orQ(n:Nat)(c:Q1->Nat->Bool)(g:Q1->Nat->List Bool):List Q1->List Bool->List Bool
  | [],out=>out
  |z::r,out=>orQ n c g r (orJ n (c z) (g z) z.2.length 0 out)
theorem x3v{n:Nat}{c:Q1->Nat->Bool}{g:Q1->Nat->List Bool}:∀(q:List Q1) (out:List Bool),out.length=n ->
    (orQ n c g q out).length=n/\∀t,t<n->((orQ n c g q out).getD t false=true↔out.getD t false=true∨∃z∈q,∃k,k<z.2.length/\c z k=true/\(g z k).getD t false=true)
  | [],out,hl=>⟨hl,fun t ht=>⟨.inl,fun h=>by
      rcases h with h|⟨k,h1,_⟩
      · exact h
      cases h1⟩⟩
  |z::r,out,hl=>by
    obtain⟨q1,q2⟩:=y8m (n:=n) (c:=c z) (g:=g z) z.2.length 0 out hl;obtain⟨r1,r2⟩:=x3v (n:=n) (c:=c) (g:=g) r _ q1;unfold orQ;refine⟨r1,fun t ht=>?_⟩;rw[r2 t ht,q2 t ht];constructor
    · rintro((h|⟨k,h1,h2,h3⟩)|⟨w,hw,h⟩)
      · exact .inl h
      · exact .inr ⟨z,by simp,k,by omega,h3⟩
      exact .inr ⟨w,by simp[hw],h⟩
    rintro(h|⟨w,hw,k,h1,h2⟩)
    · exact .inl (.inl h)
    rw[qBc]at hw;rcases hw with rfl|hw
    · exact .inl (.inr ⟨k,by omega,by omega,h2⟩)
    exact .inr ⟨w,hw,k,h1,h2⟩
def fiT(L:Mat)(c:Int):Nat->Nat->List Bool->List Bool
  |0,_,out=>out
  |f+1,t,out=>fiT L c f (t+1) (out.set t ((out.getD t false||c==(t:Int))||atM L c.toNat t))
def fiI(base:Int)(null:List Bool)(L:Mat)(R:Nat)(l:List Int):Nat->Nat->List Bool->List Bool
  |0,_,out=>out
  |f+1,i,out=>fiI base null L R l f (i+1) (if Q34 base null (l.take i)=true then fiT L (l.getD i 0) R 0 out else out)
def firF(base:Int)(null:List Bool)(L:Mat)(R:Nat)(l:List Int):List Bool:=fiI base null L R l l.length 0 (List.replicate (R+1) false)
theorem x77{L:Mat}{c:Int}:∀(f t:Nat) (out:List Bool),t+f<=out.length->(fiT L c f t out).length=out.length/\∀u,((fiT L c f t out).getD u false=true↔out.getD u false=true∨(t<=u/\u<t+f/\(c=u∨atM L c.toNat u=true)))
  |0,t,out,h=>⟨rfl,fun u=>⟨.inl,fun q=>by
      rcases q with q|⟨h1,h2,_⟩
      · exact q
      omega⟩⟩
  |f+1,t,out,h=>by
    unfold fiT;obtain⟨r1,r2⟩:=x77 (L:=L) (c:=c) f (t+1) (out.set t ((out.getD t false||c==(t:Int))||atM L c.toNat t)) (by rw[qBd];omega);refine⟨by rw[r1,qBd],fun u=>?_⟩;rw[r2,z16 _ _ _ _ _ (by omega)];by_cases e:u=t
    · subst e
      rw[qAb rfl,qAk,qAk,qAx];constructor
      · rintro(((h1|h1)|h1)|h1)
        · exact .inl h1
        · exact .inr ⟨by omega,by omega,.inl h1⟩
        · exact .inr ⟨by omega,by omega,.inr h1⟩
        omega
      rintro(h1|⟨_,_,h1|h1⟩)
      · exact .inl (.inl (.inl h1))
      · exact .inl (.inl (.inr h1))
      exact .inl (.inr h1)
    rw[qAa e];constructor
    · rintro(h1|⟨h1,h2,h3⟩)
      · exact .inl h1
      exact .inr ⟨by omega,by omega,h3⟩
    rintro(h1|⟨h1,h2,h3⟩)
    · exact .inl h1
    exact .inr ⟨by omega,by omega,h3⟩
theorem x76{base:Int}{null:List Bool}{L:Mat}{R:Nat}{l:List Int}:∀(f i:Nat) (out:List Bool),out.length=R+1->(fiI base null L R l f i out).length=R+1 /\
    ∀u,((fiI base null L R l f i out).getD u false=true↔out.getD u false=true∨(u<R/\∃k,i<=k/\k<i+f/\Q34 base null (l.take k)=true/\(l.getD k 0=u∨atM L (l.getD k 0).toNat u=true)))
  |0,i,out,h=>⟨h,fun u=>⟨.inl,fun q=>by
      rcases q with q|⟨_,k,h1,h2,_⟩
      · exact q
      omega⟩⟩
  |f+1,i,out,h=>by
    unfold fiI;obtain⟨t1,t2⟩:=x77 (L:=L) (c:=l.getD i 0) R 0 out (by omega);obtain⟨r1,r2⟩:=x76 (base:=base) (null:=null) (L:=L) (R:=R) (l:=l) f (i+1) (if Q34 base null (l.take i)=true then fiT L (l.getD i 0) R 0 out else out) (by split<;>first|(rw[t1];exact h)|exact h);refine⟨r1,fun u=>?_⟩;rw[r2];by_cases hc:Q34 base null (l.take i)=true
    · rw[qAb hc,t2]
      constructor
      · rintro((h1|⟨h1,h2,h3⟩)|⟨h0,k,h1,h2,h3⟩)
        · exact .inl h1
        · exact .inr ⟨by omega,i,by omega,by omega,hc,h3⟩
        exact .inr ⟨h0,k,by omega,by omega,h3⟩
      rintro(h1|⟨h0,k,h1,h2,h3,h4⟩)
      · exact .inl (.inl h1)
      by_cases e:k=i
      · subst e;exact .inl (.inr ⟨by omega,by omega,h4⟩)
      exact .inr ⟨h0,k,by omega,by omega,h3,h4⟩
    rw[qAa hc];constructor
    · rintro(h1|⟨h0,k,h1,h2,h3⟩)
      · exact .inl h1
      exact .inr ⟨h0,k,by omega,by omega,h3⟩
    rintro(h1|⟨h0,k,h1,h2,h3,h4⟩)
    · exact .inl h1
    by_cases e:k=i
    · subst e;exact absurd h3 hc
    exact .inr ⟨h0,k,by omega,by omega,h3,h4⟩
theorem y1s{α:Type}{P:List α->α->List α->Prop}(l:List α):(∃k,∃h:k<l.length,P (l.take k) l[k] (l.drop (k+1)))↔∃a s b,l=a++s::b/\P a s b:=by
  constructor
  · rintro⟨k,h,hp⟩
    refine⟨l.take k,l[k],l.drop (k+1),?_,hp⟩;rw[← qC h,qDz]
  rintro⟨a,s,b,e,hp⟩;have hl:a.length<l.length:=by rw[e];simp
  refine⟨a.length,hl,?_⟩;have e1:l.take a.length=a:=by rw[e];simp
  have e2:l[a.length]=s:=by
    have:l[a.length]? = some s:=by rw[e];simp
    rw[qE hl]at this;injection this
  have e3:l.drop (a.length+1)=b:=by rw[e];simp
  rw[e1,e2,e3];exact hp
theorem y72{α β:Type}(f:α->β)(l:List α)(k:Nat)(d:β)(h:k<l.length):(l.map f).getD k d=f l[k]:=by
  rw[qD,qBe,qE h];rfl
section
variable {ps:List Pr}{R H:Nat}{null:List Bool}
def bs(R:Nat):Int:=(R:Int)+1
theorem y2g(P:Pr->List Sy->Sy->List Sy->Prop){C:Q1->Nat->Prop}(hC:∀p∈ps,∀(k:Nat) (h:k<p.syms.length),C (p.head,p.syms.map (Q0u R)) k↔P p (p.syms.take k) p.syms[k] (p.syms.drop (k+1))) :
    (∃z∈Q0e R ps,∃k,k<z.2.length/\C z k)↔∃p∈ps,∃a s b,p.syms=a++s::b/\P p a s b:=by
  constructor
  · rintro⟨z,hz,k,hk,hc⟩
    unfold Q0e at hz;rw[qBp]at hz;obtain⟨p,hp,rfl⟩:=hz;have j0:k<p.syms.length:=by simpa using hk
    exact⟨p,hp,(y1s (P:=P p) p.syms).1 ⟨k,j0,(hC p hp k j0).1 hc⟩⟩
  rintro⟨p,hp,h⟩;obtain⟨k,hk,hc⟩:=(y1s (P:=P p) p.syms).2 h;exact⟨(p.head,p.syms.map (Q0u R)),by unfold Q0e;exact qBp.2 ⟨p,hp,rfl⟩,k,by simpa using hk,(hC p hp k hk).2 hc⟩
theorem z6u(hT:Q1b ps R H){p:Pr}(hp:p∈ps){s:Sy}(hs:s∈p.syms):0<=Q0u R s/\Q0u R s<(R:Int)+1+H:=by
  have hv:=hT.sy p hp s hs;cases hb:s.isH
  · rw[hb,qAa (by simp)]at hv
    rw[z32 hb];omega
  rw[hb,qAb rfl]at hv;have:=z1p (R:=R) hb;omega
theorem v16(p:Pr)(k:Nat):((p.head,p.syms.map (Q0u R)):Q1).2.take k=(p.syms.take k).map (Q0u R):=(List.map_take).symm
theorem x8z(p:Pr)(k:Nat):((p.head,p.syms.map (Q0u R)):Q1).2.drop k=(p.syms.drop k).map (Q0u R):=(List.map_drop).symm
theorem y7i(p:Pr){k:Nat}(h:k<p.syms.length):((p.head,p.syms.map (Q0u R)):Q1).2.getD k 0=Q0u R p.syms[k]:=y72 _ _ _ _ h
theorem v0w(hT:Q1b ps R H){p:Pr}(hp:p∈ps)(k:Nat):∀s∈p.syms.take k,0<=s.num/\s.num<(if s.isH then(H:Int) else R):=fun s hs=>hT.sy p hp s (qEd hs)
theorem x1v(hT:Q1b ps R H){p:Pr}(hp:p∈ps)(k:Nat):∀s∈p.syms.drop k,0<=s.num/\s.num<(if s.isH then(H:Int) else R):=fun s hs=>hT.sy p hp s (List.mem_of_mem_drop hs)
def ldZc(R:Nat)(null:List Bool)(z:Q1)(k:Nat):Bool:=Q34 (bs R) null (z.2.take k)
def ldX(R:Nat)(z:Q1):Nat:=(bs R+z.1).toNat
def Q9y(z:Q1)(k:Nat):Nat:=(z.2.getD k 0).toNat
def ld0(R H:Nat)(null:List Bool)(q:List Q1):Mat:=cdI (ldZc R null) (ldX R) Q9y q (sqF (R+1+H))
def ldF(R H:Nat)(null:List Bool)(q:List Q1):Mat:=Q49 (ld0 R H null q)
theorem v1i(hT:Q1b ps R H)(hn:Q63 ps H null):Sq (R+1+H) (ld0 R H null (Q0e R ps))/\relM (ld0 R H null (Q0e R ps))=Ld ps R (NS ps H):=by
  obtain⟨c1,c2⟩:=y7q (n:=R+1+H) (c:=ldZc R null) (x:=ldX R) (y:=Q9y) (Q0e R ps) (sqF (R+1+H)) (y1k _) (by
    intro z hz;unfold Q0e at hz;rw[qBp]at hz;obtain⟨p,hp,rfl⟩:=hz;have h1:=hT.hd p hp;refine⟨by unfold ldX bs;dsimp only;omega,fun k hk _=>?_⟩;have j0:k<p.syms.length:=by simpa using hk
    unfold Q9y;rw[y7i p j0];have:=z6u hT hp (qG j0);omega)
  refine⟨c1,?_⟩;funext i j;apply propext;unfold relM ld0;rw[c2,x4v];have j1:=y2g (ps:=ps) (R:=R) (fun p a s b=>a.all (Q35 (NS ps H))=true/\i.toNat=(bs R+p.head).toNat/\j.toNat=(Q0u R s).toNat) (C:=fun z k=>ldZc R null z k=true/\i.toNat=ldX R z/\j.toNat=Q9y z k) (fun p hp k hk=>by
    unfold ldZc ldX Q9y;rw[v16,y7i p hk];unfold bs;rw[y2a hn (v0w hT hp k)])
  constructor
  · rintro⟨h0,h1,h|h⟩
    · cases h
    obtain⟨p,hp,a,s,b,e,ha,e1,e2⟩:=j1.1 h;have g1:=hT.hd p hp;have g2:=z6u hT hp (s:=s) (by rw[e];simp);unfold bs at e1;exact⟨p,hp,by omega,a,s,b,e,ha,by omega⟩
  rintro⟨p,hp,e1,a,s,b,e,ha,e2⟩;have g1:=hT.hd p hp;have g2:=z6u hT hp (s:=s) (by rw[e];simp);exact⟨by omega,by omega,.inr (j1.2 ⟨p,hp,a,s,b,e,ha,by unfold bs;omega,by omega⟩)⟩
theorem v1j(hT:Q1b ps R H)(hn:Q63 ps H null):Sq (R+1+H) (ldF R H null (Q0e R ps))/\∀c t:Nat,atM (ldF R H null (Q0e R ps)) c t=true↔TC (Ld ps R (NS ps H)) c t:=by
  obtain⟨h1,h2⟩:=v1i hT hn;have:=z8k h1;rw[h2]at this;exact this
theorem v1c(hT:Q1b ps R H){N:Int->Bool}{t:Nat}:∀(n:Nat) (X:Int),FS ps N t n X=true->t<R
  |0,X,h=>by cases h
  |n+1,X,h=>by
    unfold FS at h;rw[qAq]at h;obtain⟨p,hp,h⟩:=h;rw[qAc]at h;obtain⟨a,s,b,e,ha,hs⟩:=z1q h.2;have hv:=hT.sy p hp s (by rw[e];simp);cases hb:s.isH
    · rw[hb,qAa (by simp)]at hv
      rw[hb,qAa (by simp),qAx]at hs;omega
    rw[hb,qAb rfl]at hs;exact v1c hT n _ hs
theorem v03(hT:Q1b ps R H){N:Int->Bool}{t:Nat}{l:List Sy}(hv:∀s∈l,0<=s.num/\s.num<(if s.isH then(H:Int) else R))(h:Q3s N (fun X=>FS ps N t H X) t l=true):t<R:=by
  obtain⟨a,s,b,e,ha,hs⟩:=z1q h;have j0:=hv s (by rw[e];simp);cases hb:s.isH
  · rw[hb,qAa (by simp)]at j0
    rw[hb,qAa (by simp),qAx]at hs;omega
  rw[hb,qAb rfl]at hs;exact v1c hT H _ hs
def fiF(R H:Nat)(null:List Bool)(q:List Q1)(l:List Int):List Bool:=firF (bs R) null (ldF R H null q) R l
theorem v1a(hT:Q1b ps R H)(hn:Q63 ps H null){l:List Sy}(hv:∀s∈l,0<=s.num/\s.num<(if s.isH then(H:Int) else R)) :
    (fiF R H null (Q0e R ps) (l.map (Q0u R))).length=R+1/\∀u,(fiF R H null (Q0e R ps) (l.map (Q0u R))).getD u false=Q3s (NS ps H) (fun X=>FS ps (NS ps H) u H X) u l:=by
  obtain⟨f1,f2⟩:=x76 (base:=bs R) (null:=null) (L:=ldF R H null (Q0e R ps)) (R:=R) (l:=l.map (Q0u R)) (l.map (Q0u R)).length 0 (List.replicate (R+1) false) (by simp);refine⟨f1,fun u=>?_⟩;unfold fiF firF;rw[qAs,f2];have hz:¬(List.replicate (R+1) false).getD u false=true:=by
    rw[qD];by_cases h:u<R+1
    · simp[h]
    simp[h]
  have hL:=(v1j hT hn).2;have j0:u<R->((∃k,0<=k/\k<0+(l.map (Q0u R)).length/\Q34 (bs R) null ((l.map (Q0u R)).take k)=true/\((l.map (Q0u R)).getD k 0=u∨atM (ldF R H null (Q0e R ps)) ((l.map (Q0u R)).getD k 0).toNat u=true))↔Q3s (NS ps H) (fun X=>FS ps (NS ps H) u H X) u l=true):=by
    intro hu;rw[x9a hT hu hv,← y1s (P:=fun a s b=>a.all (Q35 (NS ps H))=true/\(Q0u R s=u∨TC (Ld ps R (NS ps H)) (Q0u R s) u))];have each:∀(k:Nat) (h:k<l.length),(Q34 (bs R) null ((l.map (Q0u R)).take k)=true/\((l.map (Q0u R)).getD k 0=u∨atM (ldF R H null (Q0e R ps)) ((l.map (Q0u R)).getD k 0).toNat u=true))↔((l.take k).all (Q35 (NS ps H))=true/\(Q0u R l[k]=u∨TC (Ld ps R (NS ps H)) (Q0u R l[k]) u)):=fun k h=>by
      have j1:=hv l[k] (qG h);have j2:0<=Q0u R l[k]:=by
        cases hb:l[k].isH
        · rw[z32 hb];exact j1.1
        have:=z1p (R:=R) hb;omega
      rw[← List.map_take,y72 _ _ _ _ h,hL,show(((Q0u R l[k]).toNat:Nat):Int)=Q0u R l[k] by omega];unfold bs;rw[y2a hn (fun s hs=>hv s (qEd hs))]
    constructor
    · rintro⟨k,_,h1,h2⟩
      have h:k<l.length:=by simpa using h1
      exact⟨k,h,(each k h).1 h2⟩
    rintro⟨k,h,h2⟩;exact⟨k,by omega,by simpa using h,(each k h).2 h2⟩
  constructor
  · rintro(h|⟨hu,h⟩)
    · exact absurd h hz
    exact(j0 hu).1 h
  intro h;have hu:=v03 hT hv h;exact .inr ⟨hu,(j0 hu).2 h⟩
def laC(R:Nat)(null:List Bool)(z:Q1)(k:Nat):Bool:=decide (0<=z.2.getD k 0-bs R)&&Q34 (bs R) null (z.2.drop (k+1))
def laX(z:Q1):Nat:=z.1.toNat
def laY(R:Nat)(z:Q1)(k:Nat):Nat:=(z.2.getD k 0-bs R).toNat
def la0(R H:Nat)(null:List Bool)(q:List Q1):Mat:=cdI (laC R null) laX (laY R) q (sqF H)
def laF(R H:Nat)(null:List Bool)(q:List Q1):Mat:=Q49 (la0 R H null q)
theorem z6b(hT:Q1b ps R H){p:Pr}(hp:p∈ps){s:Sy}(hs:s∈p.syms):0<=Q0u R s-bs R↔s.isH=true:=by
  have hv:=hT.sy p hp s hs;unfold bs;cases hb:s.isH
  · rw[hb,qAa (by simp)]at hv
    rw[z32 hb];exact⟨fun h=>by omega,fun h=>by cases h⟩
  rw[z1p hb];exact⟨fun _=>rfl,fun _=>hv.1⟩
theorem v1h(hT:Q1b ps R H)(hn:Q63 ps H null):Sq H (laF R H null (Q0e R ps))/\∀a b:Nat,atM (laF R H null (Q0e R ps)) a b=true↔TC (Ls ps (NS ps H)) a b:=by
  have j0:Sq H (la0 R H null (Q0e R ps))/\relM (la0 R H null (Q0e R ps))=Ls ps (NS ps H):=by
    obtain⟨c1,c2⟩:=y7q (n:=H) (c:=laC R null) (x:=laX) (y:=laY R) (Q0e R ps) (sqF H) (y1k _) (by
      intro z hz;unfold Q0e at hz;rw[qBp]at hz;obtain⟨p,hp,rfl⟩:=hz;have h1:=hT.hd p hp;refine⟨by unfold laX;dsimp only;omega,fun k hk _=>?_⟩;have j1:k<p.syms.length:=by simpa using hk
      unfold laY;rw[y7i p j1];have:=z6u hT hp (qG j1);unfold bs;omega)
    refine⟨c1,?_⟩;funext i j;apply propext;unfold relM la0;rw[c2,x4v];have j2:=y2g (ps:=ps) (R:=R) (fun p a s b=>(0<=Q0u R s-bs R/\b.all (Q35 (NS ps H))=true)/\i.toNat=p.head.toNat/\j.toNat=(Q0u R s-bs R).toNat) (C:=fun z k=>laC R null z k=true/\i.toNat=laX z/\j.toNat=laY R z k) (fun p hp k hk=>by
      unfold laC laX laY;rw[x8z,y7i p hk,qAc,qAm];have:=y2a hn (x1v hT hp (k+1));unfold bs;rw[this])
    constructor
    · rintro⟨h0,h1,h|h⟩
      · cases h
      obtain⟨p,hp,a,s,b,e,⟨e0,ha⟩,e1,e2⟩:=j2.1 h;have g1:=hT.hd p hp;have hs:s∈p.syms:=by rw[e];simp
      have hb:=(z6b hT hp hs).1 e0;have g3:=z1p (R:=R) hb;unfold bs at e0 e2;exact⟨p,hp,by omega,a,s,b,e,hb,by omega,ha⟩
    rintro⟨p,hp,e1,a,s,b,e,hb,e2,ha⟩;have g1:=hT.hd p hp;have hs:s∈p.syms:=by rw[e];simp
    have e0:=(z6b hT hp hs).2 hb;have g3:=z1p (R:=R) hb;have hv:=hT.sy p hp s hs;exact⟨by omega,by omega,.inr (j2.2 ⟨p,hp,a,s,b,e,⟨e0,ha⟩,by rw[e1],by unfold bs;omega⟩)⟩
  have:=z8k j0.1;rw[j0.2]at this;exact this
def reC(R:Nat)(z:Q1)(k:Nat):Bool:=decide (0<=z.2.getD k 0-bs R)
def re0(R H:Nat)(q:List Q1):Mat:=cdI (reC R) laX (laY R) q (sqF H)
def reF(R H:Nat)(q:List Q1):Mat:=Q49 (re0 R H q)
theorem v1u(hT:Q1b ps R H):Sq H (reF R H (Q0e R ps))/\∀a b:Nat,atM (reF R H (Q0e R ps)) a b=true↔TC (Rc ps) a b:=by
  have j0:Sq H (re0 R H (Q0e R ps))/\relM (re0 R H (Q0e R ps))=Rc ps:=by
    obtain⟨c1,c2⟩:=y7q (n:=H) (c:=reC R) (x:=laX) (y:=laY R) (Q0e R ps) (sqF H) (y1k _) (by
      intro z hz;unfold Q0e at hz;rw[qBp]at hz;obtain⟨p,hp,rfl⟩:=hz;have h1:=hT.hd p hp;refine⟨by unfold laX;dsimp only;omega,fun k hk _=>?_⟩;have j1:k<p.syms.length:=by simpa using hk
      unfold laY;rw[y7i p j1];have:=z6u hT hp (qG j1);unfold bs;omega)
    refine⟨c1,?_⟩;funext i j;apply propext;unfold relM re0;rw[c2,x4v];have j2:=y2g (ps:=ps) (R:=R) (fun p a s b=>0<=Q0u R s-bs R/\i.toNat=p.head.toNat/\j.toNat=(Q0u R s-bs R).toNat) (C:=fun z k=>reC R z k=true/\i.toNat=laX z/\j.toNat=laY R z k) (fun p hp k hk=>by
      unfold reC laX laY;rw[y7i p hk,qAm])
    constructor
    · rintro⟨h0,h1,h|h⟩
      · cases h
      obtain⟨p,hp,a,s,b,e,e0,e1,e2⟩:=j2.1 h;have g1:=hT.hd p hp;have hs:s∈p.syms:=by rw[e];simp
      have hb:=(z6b hT hp hs).1 e0;have g3:=z1p (R:=R) hb;unfold bs at e0 e2;exact⟨p,hp,by omega,s,hs,hb,by omega⟩
    rintro⟨p,hp,e1,s,hs,hb,e2⟩;have g1:=hT.hd p hp;have e0:=(z6b hT hp hs).2 hb;have g3:=z1p (R:=R) hb;have hv:=hT.sy p hp s hs;obtain⟨a,b,e⟩:=qDw hs;exact⟨by omega,by omega,.inr (j2.2 ⟨p,hp,a,s,b,e,e0,by rw[e1],by unfold bs;omega⟩)⟩
  have:=z8k j0.1;rw[j0.2]at this;exact this
def nxC(R:Nat)(head:Int)(z:Q1)(k:Nat):Bool:=z.2.getD k 0==bs R+head
def nxG(R H:Nat)(null:List Bool)(q:List Q1)(z:Q1)(k:Nat):List Bool:=fiF R H null q (z.2.drop (k+1))
def nxF(R H:Nat)(null:List Bool)(q:List Q1)(head:Int):List Bool:=orQ (R+1) (nxC R head) (nxG R H null q) q ((List.replicate (R+1) false).set R (head==0))
theorem x93(hT:Q1b ps R H)(hn:Q63 ps H null){h:Int}(hh:0<=h):(nxF R H null (Q0e R ps) h).length=R+1/\∀t,t<R+1->((nxF R H null (Q0e R ps) h).getD t false=true↔Nx ps R (NS ps H) (fun X t=>FS ps (NS ps H) t H X) h t):=by
  obtain⟨q1,q2⟩:=x3v (n:=R+1) (c:=nxC R h) (g:=nxG R H null (Q0e R ps)) (Q0e R ps) ((List.replicate (R+1) false).set R (h==0)) (by simp);refine⟨q1,fun t ht=>?_⟩;unfold nxF;rw[q2 t ht,z16 _ _ _ _ _ (by simp)];have j0:=y2g (ps:=ps) (R:=R) (fun p a s b=>Q0u R s=bs R+h/\Q3s (NS ps H) (fun X=>FS ps (NS ps H) t H X) t b=true) (C:=fun z k=>nxC R h z k=true/\(nxG R H null (Q0e R ps) z k).getD t false=true) (fun p hp k hk=>by
    unfold nxC nxG;rw[x8z,y7i p hk,qAx,(v1a hT hn (x1v hT hp (k+1))).2])
  rw[j0];unfold Nx;refine or_congr ?_ ?_
  · by_cases e:t=R
    · rw[qAb e,qAx];exact⟨fun q=>⟨q,e⟩,fun q=>q.1⟩
    rw[qAa e];refine⟨fun q=>?_,fun q=>absurd q.2 e⟩;rw[qD]at q;simp[ht]at q
  constructor
  · rintro⟨p,hp,a,s,b,e,e1,e2⟩
    have hs:s∈p.syms:=by rw[e];simp
    have hb:=(z6b hT hp hs).1 (by omega);have g3:=z1p (R:=R) hb;unfold bs at e1;exact⟨p,hp,a,s,b,e,hb,by omega,e2⟩
  rintro⟨p,hp,a,s,b,e,hb,e1,e2⟩;have g3:=z1p (R:=R) hb;exact⟨p,hp,a,s,b,e,by unfold bs;omega,e2⟩
def foF(R H:Nat)(null:List Bool)(q:List Q1)(head:Nat):List Bool:=orJ (R+1) (fun h=>atM (laF R H null q) h head) (fun h=>nxF R H null q h) H 0 (nxF R H null q head)
theorem v2a(hT:Q1b ps R H)(hn:Q63 ps H null)(h:Nat):(foF R H null (Q0e R ps) h).length=R+1/\∀t,t<R+1->((foF R H null (Q0e R ps) h).getD t false=true↔Fo ps R (NS ps H) (fun X t=>FS ps (NS ps H) t H X) h t):=by
  obtain⟨n1,n2⟩:=x93 hT hn (h:=(h:Int)) (by omega);obtain⟨q1,q2⟩:=y8m (n:=R+1) (c:=fun k=>atM (laF R H null (Q0e R ps)) k h) (g:=fun k=>nxF R H null (Q0e R ps) k) H 0 (nxF R H null (Q0e R ps) h) n1;refine⟨q1,fun t ht=>?_⟩;unfold foF;rw[q2 t ht,n2 t ht];unfold Fo;refine or_congr Iff.rfl ?_;have la:=v1h hT hn;constructor
  · rintro⟨k,_,_,h1,h2⟩
    exact⟨k,(la.2 k h).1 h1,((x93 hT hn (h:=(k:Int)) (by omega)).2 t ht).1 h2⟩
  rintro⟨k,h1,h2⟩;have hk:∃m:Nat,k=m:=by
    obtain⟨n,hp⟩:=h1;have:∃p∈ps,p.head=k:=by
      cases n with
      |zero=>obtain⟨p,hp,e,_⟩:=hp;exact⟨p,hp,e⟩
      |succ n=>obtain⟨_,⟨p,hp,e,_⟩,_⟩:=hp;exact⟨p,hp,e⟩
    obtain⟨p,hp,e⟩:=this;have:=hT.hd p hp;exact⟨k.toNat,by omega⟩
  obtain⟨m,rfl⟩:=hk;have j0:=(la.2 m h).2 h1;have:=la.1.atM_lt j0;exact⟨m,by omega,by omega,j0,((x93 hT hn (h:=(m:Int)) (by omega)).2 t ht).2 h2⟩
end
theorem y1d{rs:List ZLV}{t:ByteArray}:∀(f i:Nat),rs.length+1<=f+i->(∀j (z:ZLV),i<=j->rs[j]? = some z->z.ln.name.toList≠t.toList)->Q81 rs t f i=-1
  |0,i,hf,h=>rfl
  |f+1,i,hf,h=>by
    rw[y6y];cases hq:rs[i]? with
    |none=>rfl
    |some z =>
      dsimp only;rw[qAa (by have:=h i z (qR _) hq;simpa using this)];exact y1d f (i+1) (by omega) (fun j z hj=>h j z (by omega))
theorem z63{rs:List ZLV}{t:ByteArray}{k:Nat}{z:ZLV}(hk:rs[k]? = some z)(hz:z.ln.name.toList=t.toList)(hb:∀j (y:ZLV),j<k->rs[j]? = some y->y.ln.name.toList≠t.toList) :
    ∀(f i:Nat),rs.length+1<=f+i->i<=k->Q81 rs t f i=if z.ln.skip=true then -1 else(k:Int)
  |0,i,hf,hi=>by
    have:=(qS hk).1;omega
  |f+1,i,hf,hi=>by
    rw[y6y];by_cases e:i=k
    · subst e
      rw[hk];dsimp only;rw[qAb (by simpa using hz)]
    have j0:i<rs.length:=by have:=(qS hk).1;omega
    rw[qE j0];dsimp only;rw[qAa (by have:=hb i rs[i] (by omega) (qE j0);simpa using this)];exact z63 hk hz hb f (i+1) (by omega) (by omega)
section
variable {s:ByteArray}{lns:List Ln}{xs:List ZLV}{X:SP}
theorem y0r(t:ByteArray):∀(xs:List ZLV) (f:Nat) (hf:f<xs.length),(xs[f]'hf).ln.rule=true->(xs[f]'hf).ln.name.toList=t.toList->(∀(j:Nat) (z:ZLV),j<f->xs[j]? = some z->z.ln.name.toList≠t.toList) ->
    ∃k:Nat,(xs.filter (fun z=>z.ln.rule))[k]? = some (xs[f]'hf)/\∀(j:Nat) (y:ZLV),j<k->(xs.filter (fun z=>z.ln.rule))[j]? = some y->y.ln.name.toList≠t.toList
  | [],f,hf,h1,h2,h3=>by simp at hf
  |x::xs,0,hf,h1,h2,h3=>by
    have h1':x.ln.rule=true:=h1;exact⟨0,by simp[qAj,h1'],fun j y hj=>by omega⟩
  |x::xs,f+1,hf,h1,h2,h3=>by
    obtain⟨k,q1,q2⟩:=y0r t xs f (by simpa using hf) h1 h2 (fun j z hj hz=>h3 (j+1) z (by omega) (by simpa using hz));have hx:=h3 0 x (by omega) rfl;cases hr:x.ln.rule
    · exact⟨k,by simpa [qAj,hr]using q1,fun j y hj hy=>q2 j y hj (by simpa [qAj,hr]using hy)⟩
    refine⟨k+1,by simpa [qAj,hr]using q1,fun j y hj hy=>?_⟩;cases j with
    |zero =>
      simp[qAj,hr]at hy;subst hy;exact hx
    |succ j=>exact q2 j y (by omega) (by simpa [qAj,hr]using hy)
theorem x42(h:Q38 s lns xs)(hS:SI lns xs xs.length X){d:Wd}{n:ByteArray}(hw:Q6l s d.ls n):Q8l X n<0↔Q92 lns d=false:=by
  have hl:=h.len;have j2:=hw.cap;unfold Q92;by_cases hf:Q2d lns d.ls<lns.length
  · have j1:Q2d lns d.ls<xs.length:=by omega
    obtain⟨x,p,g1,g2,g3,g4,g5⟩:=h.get j1;have j5:x.front.ls=d.ls:=by
      have hg:=qDb (w:=hf);have e:lns[Q2d lns d.ls]=x:=by rw[qE hf]at g1;injection g1
      unfold Q2d at e;rw[e]at hg;simpa using hg
    have j4:xs[Q2d lns d.ls].ln.name.toList=n.toList:=(g3.word.eq_iff hw).1 j5;have j7:∀(j:Nat) (z:ZLV),j<Q2d lns d.ls->xs[j]? = some z->z.ln.name.toList≠n.toList:=by
      intro j z hj hz e;obtain⟨hjl,hzz⟩:=qS hz;obtain⟨y,q,k1,k2,k3,k4,k5⟩:=h.get hjl;rw[hzz]at k3;have:=(k3.word.eq_iff hw).2 e;have:=(z7z (lns:=lns) (ls:=d.ls) (i:=j+1) (by omega)).2 ⟨j,y,by omega,k1,this⟩;omega
    have j0:=g3.rule;rw[z9u,j5,j2]at j0;rw[g1];dsimp only;rw[← g3.skip];unfold Q8l;generalize Q2d lns d.ls=fi at *;cases hc:Q1a (atB n 0)
    · rw[hc]at j0
      rw[qAa (by simp)];obtain⟨k,q1,q2⟩:=y0r n xs _ j1 j0 j4 j7;have j8:X.rules=xs.filter (fun z=>z.ln.rule):=by rw[hS.rl,qAr]
      rw[← j8]at q1 q2;rw[z63 q1 j4 q2 _ 0 (by omega) (by omega)];cases xs[fi].ln.skip<;>simp
    rw[hc]at j0;rw[qAb rfl];have j3:¬Q1v X.heads n<0:=by
      have:=y7z ((hS.mem n).2 ⟨fi,xs[fi],j1,qE j1,j0,j4⟩);omega
    rw[qAa j3,g3.noskip j0];simp;omega
  have j6:∀(j:Nat) (z:ZLV),xs[j]? = some z->z.ln.name.toList≠n.toList:=by
    intro j z hz e;obtain⟨hjl,hzz⟩:=qS hz;obtain⟨y,q,k1,k2,k3,k4,k5⟩:=h.get hjl;rw[hzz]at k3;have:=(k3.word.eq_iff hw).2 e;have:=(z7z (lns:=lns) (ls:=d.ls) (i:=j+1) (by omega)).2 ⟨j,y,by omega,k1,this⟩;omega
  rw[qN (by omega)];refine⟨fun _=>rfl,fun _=>?_⟩;unfold Q8l;cases hc:Q1a (atB n 0)
  · rw[qAa (by simp)]
    rw[y1d _ 0 (by omega) (fun j z _ hz=>?_)]
    · omega
    have hm:z∈X.rules:=qAd hz;rw[hS.rl,qAr]at hm;obtain⟨i,hi,e⟩:=qAv (qCx.1 hm).1;exact j6 i z (by rw[qE hi,e])
  rw[qAb rfl];have:Q1v X.heads n<0:=by
    by_cases q:Q1v X.heads n<0
    · exact q
    exfalso;obtain⟨j,z,_,q2,_,q4⟩:=(hS.mem n).1 (z56 q);exact j6 j z q2 q4
  rw[qAb this];omega
theorem y80(h:Q38 s lns xs)(hS:SI lns xs xs.length X){x:Ln}{z:ZLV}{i:Nat}(hz:ZRel s i x z.ln)(hp:z.pl=i):∀(f g j:Nat),x.syms.length+1<=f+j->x.syms.length+1<=g+j->Q60 lns x.syms f j=Q7b X z g j
  |0,g,j,hf,hg=>by
    cases g with
    |zero=>rfl
    |succ g =>
      rw[y2y,qN (by rw[← hz.syms.1];omega)];rfl
  |f+1,0,j,hf,hg=>by
    unfold Q60;rw[qN (by omega)];rfl
  |f+1,g+1,j,hf,hg=>by
    rw[y2y];unfold Q60;by_cases hj:j<x.syms.length
    · have hj':j<z.ln.syms.length:=by rw[← hz.syms.1];exact hj
      rw[qE hj,qE hj'];dsimp only;have j0:=x42 h hS (hz.sword (qE hj) (qE hj'));cases hb:Q92 lns x.syms[j]
      · rw[qAa (by simp),qAb (j0.2 hb),hz.places,hp]
        congr 1;rw[qD,qBe,qE hj];simp;omega
      rw[qAb rfl,qAa (fun q=>by rw[j0.1 q]at hb;cases hb)];exact y80 h hS hz hp f g (j+1) (by omega) (by omega)
    rw[qN (by omega),qN (by rw[← hz.syms.1];omega)]
theorem y4k(h:Q38 s lns xs)(hS:SI lns xs xs.length X):∀(f i:Nat) (ah:List ByteArray),i<=xs.length->xs.length+1<=f+i ->
    (∀t:ByteArray,(∃y∈ah,y.toList=t.toList)↔∃(j:Nat) (z:ZLV),j<i/\xs[j]? = some z/\z.ln.rule=true/\z.ln.name.toList=t.toList)->Q3g X (xs.drop i) ah=Q6u lns f i
  |0,i,ah,hi,hf,hA=>by omega
  |f+1,i,ah,hi,hf,hA=>by
    unfold Q6u;by_cases hlt:i<xs.length
    · obtain⟨x,p,g1,g2,g3,g4,g5⟩:=h.get hlt
      rw[g1,qC hlt,Q3g];dsimp only;have j2:=y80 h hS g3 g4 (x.syms.length+1) (xs[i].ln.syms.length+1) 0 (by omega) (by rw[g3.syms.1];omega);unfold Q7r;rw[j2];have j1:∀ah2:List ByteArray,ah2=(if xs[i].ln.rule=true then ah++[xs[i].ln.name] else ah)->∀t:ByteArray,(∃y∈ah2,y.toList=t.toList)↔∃(j:Nat) (z:ZLV),j<i+1/\xs[j]? = some z/\z.ln.rule=true/\z.ln.name.toList=t.toList:=by
        intro ah2 he t;have hm:(∃(j:Nat) (z:ZLV),j<i+1/\xs[j]? = some z/\z.ln.rule=true/\z.ln.name.toList=t.toList)↔((∃y∈ah,y.toList=t.toList)∨(xs[i].ln.rule=true/\xs[i].ln.name.toList=t.toList)):=by
          rw[hA t];constructor
          · rintro⟨j,z,q1,q2,q3,q4⟩
            by_cases e:j=i
            · subst e
              rw[qE hlt]at q2;injection q2 with q2;subst q2;exact .inr ⟨q3,q4⟩
            exact .inl ⟨j,z,by omega,q2,q3,q4⟩
          rintro(⟨j,z,q1,q2⟩|⟨q1,q2⟩)
          · exact⟨j,z,by omega,q2⟩
          exact⟨i,xs[i],by omega,qE hlt,q1,q2⟩
        rw[hm,he];cases hr:xs[i].ln.rule
        · simp
        simp only[qBb,qU,qM,true_and];constructor
        · rintro⟨y,hy|rfl,e⟩
          · exact .inl ⟨y,hy,e⟩
          exact .inr e
        rintro(⟨y,hy,e⟩|e)
        · exact⟨y,.inl hy,e⟩
        exact⟨_,.inr rfl,e⟩
      have rc:=fun ah2 he=>y4k h hS f (i+1) ah2 (by omega) (by omega) (j1 ah2 he);have j0:(Q07 x&&Q24 lns i)=true↔(xs[i].ln.rule=true/\0<=Q1v ah xs[i].ln.name):=by
        rw[qAc,← g3.rule];constructor
        · rintro⟨q1,q2⟩
          exact⟨q1,by rw[z8w,hA];exact(y0j h hlt q1).1 q2⟩
        rintro⟨q1,q2⟩;exact⟨q1,(y0j h hlt q1).2 ((hA _).1 (z8w.1 q2))⟩
      by_cases q:xs[i].ln.rule=true/\0<=Q1v ah xs[i].ln.name
      · rw[qAb q,qAb (j0.2 q),g4,g5]
      rw[qAa q,qAa (fun z=>q (j0.1 z))];cases Q7b X xs[i] (xs[i].ln.syms.length+1) 0 with
      |some p=>rfl
      |none=>exact rc _ rfl
    rw[qN (by rw[h.len];omega),qAi (by omega)];rfl
theorem x6n(h:Q38 s lns xs)(hS:SI lns xs xs.length X):Q3g X xs []=Q16 lns:=by
  have:=y4k h hS (lns.length+1) 0 [] (by omega) (by rw[h.len];omega) (fun t=>by
    constructor
    · rintro⟨y,hy,_⟩;cases hy
    rintro⟨j,z,q,_⟩;omega)
  exact this
theorem y3q(h:Q38 s lns xs){em:ByteArray->Bool}(hem:∀(k:Nat) (x:Ln) (z:ZLV),lns[k]? = some x->xs[k]? = some z->z.ln.rule=true->(em z.ln.pat=true↔(Q72 x.ns x.st x.en ByteArray.empty 0==0)=true)):∀(f i:Nat),i<=xs.length->xs.length+1<=f+i ->
    (match Q5h em ((xs.drop i).filter (fun z=>z.ln.rule))with|some p=>p|none=>-1)=Q7e lns f i/\(∀p,Q5h em ((xs.drop i).filter (fun z=>z.ln.rule))=some p->0<=p)
  |0,i,hi,hf=>by omega
  |f+1,i,hi,hf=>by
    unfold Q7e;by_cases hlt:i<xs.length
    · obtain⟨x,p,g1,g2,g3,g4,g5⟩:=h.get hlt
      rw[g1,qC hlt,qAj];dsimp only;have rc:=y3q h hem f (i+1) (by omega) (by omega);unfold emptyB;rw[← g3.rule];cases hr:xs[i].ln.rule
      · rw[qAa (by simp),qAa (by simp)]
        exact rc
      have he:=hem i x xs[i] g1 (qE hlt) hr;rw[qAb rfl,Q5h,qBa];by_cases q:em xs[i].ln.pat=true
      · rw[qAb q,qAb (he.1 q)]
        exact⟨by dsimp only;rw[g4,g5],fun p hp=>by injection hp with hp;omega⟩
      rw[qAa q,qAa (fun z=>q (he.2 z))];exact rc
    rw[qN (by rw[h.len];omega),qAi (by omega)];exact⟨rfl,fun p hp=>by cases hp⟩
theorem x64(h:Q38 s lns xs)(hS:SI lns xs xs.length X):X.prods.length=0↔Q33 lns=false:=by
  rw[hS.pr,qAr];unfold Q33;rw[List.length_eq_zero_iff,List.filter_eq_nil_iff,List.any_eq_false];constructor
  · intro q x hx
    obtain⟨k,hk,rfl⟩:=qAv hx;have j0:k<xs.length:=by rw[← h.len];exact hk
    obtain⟨y,p,g1,g2,g3,g4,g5⟩:=h.get j0;have e:lns[k]=y:=by rw[qE hk]at g1;injection g1
    have:=q xs[k] (by simp);rw[e,← g3.rule];simpa using this
  intro q z hz;obtain⟨k,hk,rfl⟩:=qAv hz;obtain⟨y,p,g1,g2,g3,g4,g5⟩:=h.get hk;have:=q y (qAd g1);rw[g3.rule];simpa using this
end
theorem y8z{X:SP}{x:ZLV}(h0:0<=x.pl)(hp:∀p∈x.ln.places,0<=p):∀(f j:Nat) (q:Int),Q7b X x f j=some q->0<=q
  |0,j,q,h=>by simp[Q7b]at h
  |f+1,j,q,h=>by
    rw[y2y]at h;cases hs:x.ln.syms[j]? with
    |none=>rw[hs]at h;cases h
    |some n =>
      rw[hs]at h;dsimp only at h;split at h
      · injection h with h
        have:0<=x.ln.places.getD j 0:=by
          rw[qD];cases hq:x.ln.places[j]? with
          |none=>simp
          |some v=>simp;exact hp v (qAd hq)
        omega
      exact y8z h0 hp f (j+1) q h
theorem y4j{X:SP}:∀(xs:List ZLV) (ah:List ByteArray),(∀x∈xs,0<=x.pl/\∀p∈x.ln.places,0<=p)->-1<=Q3g X xs ah
  | [],ah,h=>by simp[Q3g]
  |x::xs,ah,h=>by
    obtain⟨h1,h2⟩:=h x (by simp);unfold Q3g;split
    · omega
    cases hs:Q7b X x (x.ln.syms.length+1) 0 with
    |some p=>have:=y8z h1 h2 _ _ _ hs;dsimp only;omega
    |none=>exact y4j xs _ (fun y hy=>h y (by simp[hy]))
structure ReadOk(s:ByteArray)(xs:List ZLV):Prop where
  l2:Q38 s (Q0c s).1 xs
  si:SI (Q0c s).1 xs xs.length (Q1h Q2t xs).1
  bd:SPbd (Q1h Q2t xs).1
theorem v0l{s:ByteArray}(hs:s.size<=800){xs:List ZLV}(hx:xs.map ZLV.both=(Q4r s).1){em:ByteArray->ByteArray->Bool}(hem:∀p t,em p t=true↔(Q6q p 6 0).lang (bytesOf t)) :
    (Q51 (fun p=>em p ⟨#[]⟩) s xs (Q4r s).2).1=(Q0t s).1/\((Q0t s).1≠2->(Q51 (fun p=>em p ⟨#[]⟩) s xs (Q4r s).2).2=(Q0t s).2)/\((Q0t s).1=2->(Q51 (fun p=>em p ⟨#[]⟩) s xs (Q4r s).2).2=(Q4r s).2)/\((Q0t s).1=0->ReadOk s xs):=by
  have hY:=y71 hs hem;have hc:=z8m s;rw[qAa (by omega)]at hc;unfold Q51;rw[qAa (by omega)];cases hk:(Q0c s).2.2
  · have h1:=(z57 s).2 hk
    rw[hk,qAb rfl]at hc;rw[hc,qAb h1];exact⟨rfl,fun q=>absurd rfl q,fun _=>rfl,fun q=>by cases q⟩
  obtain⟨h1,h2⟩:=(z57 s).1 hk;rw[hk,qAa (by simp)]at hc;rw[← hx]at h2;have l2:=x29 h2;have j1:∀x∈xs,0<=x.pl/\∀p∈x.ln.places,0<=p:=fun x hxm=>by
    have:=hY x.both (by rw[← hx];exact List.mem_map_of_mem hxm);exact⟨this.pl.1,fun p hp=>(this.pls p hp).1⟩
  obtain⟨m1,m2⟩:=x3f l2;have j4:=y2u xs Q2t (fun x h=>(j1 x h).1);rw[h1,qAa (by omega)];by_cases c3:Q3q (Q0c s).1=-1
  · rw[qAa (by simp[c3])]at hc
    rw[m1,c3,qAa (by omega)];have si:=m2 (by rw[m1,c3]);have bd:=y2t xs Q2t x3m (by rw[m1,c3];omega) (fun x h=>(j1 x h).1);have n1:=x6n l2 si;have j3:=y4j (X:=(Q1h Q2t xs).1) xs [] j1;by_cases c4:Q16 (Q0c s).1=-1
    · rw[qAa (by simp[c4])]at hc
      rw[n1,c4,qAa (by omega)];have j2:(Q1h Q2t xs).1.rules=(xs.drop 0).filter (fun z=>z.ln.rule):=by rw[si.rl,qAr];rfl
      obtain⟨e1,e2⟩:=y3q l2 (em:=fun p=>em p ⟨#[]⟩) (fun k x z g1 g2 g3=>by
        obtain⟨i,i1,i2,i3⟩:=l2.at' k x z g1 g2;obtain⟨L,q1,q2,q3⟩:=i2.pat g3;rw[hem,q1];exact(q3 ⟨#[]⟩).symm) ((Q0c s).1.length+1) 0 (by omega) (by rw[l2.len];omega)
      rw[← j2]at e1 e2;have j0:(match Q5h (fun p=>em p ⟨#[]⟩) (Q1h Q2t xs).1.rules with|some p=>p|none=>-1)=Q6m (Q0c s).1:=e1;cases he:Q5h (fun p=>em p ⟨#[]⟩) (Q1h Q2t xs).1.rules with
      |some p =>
        rw[he]at j0;dsimp only at j0;have:=e2 p he;rw[qAb (by rw[← j0];omega)]at hc;rw[hc,← j0];exact⟨rfl,fun _=>rfl,fun q=>by simp at q,fun q=>by simp at q⟩
      |none =>
        rw[he]at j0;dsimp only at j0;rw[qAa (by rw[← j0];simp)]at hc;have pz:=x64 l2 si;unfold tailZ;by_cases c6:Q33 (Q0c s).1=false
        · rw[qAb c6]at hc
          rw[qAb (pz.2 c6),hc];exact⟨rfl,fun _=>rfl,fun q=>by simp at q,fun q=>by simp at q⟩
        rw[qAa c6]at hc;rw[qAa (fun q=>c6 (pz.1 q)),hc];exact⟨rfl,fun _=>rfl,fun q=>by simp at q,fun _=>⟨l2,si,bd⟩⟩
    rw[qAb c4]at hc;rw[n1]at j3;rw[n1,qAb (by omega),hc];exact⟨rfl,fun _=>rfl,fun q=>by simp at q,fun q=>by simp at q⟩
  rw[qAb c3]at hc;rw[m1]at j4;rw[m1,qAb (by omega),hc];exact⟨rfl,fun _=>rfl,fun q=>by simp at q,fun q=>by simp at q⟩
def Q9j(s:ByteArray)(w:World)(e:Ending)(w':World):Prop :=
  ∃(p:Value) (pl:Int),e=.returned (.tuple #[p,.int .i64 (Q0t s).1,.int .i64 pl])/\Q0a w w'/\((Q0t s).1≠2->pl=(Q0t s).2)/\((Q0t s).1=2->pl=(Q4r s).2) /\
    ((Q0t s).1=0->∃(b:Nat) (xs:List ZLV),w.heap.size<=b/\p=.pointer (some ⟨b,0,none⟩)/\SpecX w' b (Q1h Q2t xs).1/\ReadOk s xs)
theorem y5y(s:ByteArray)(w:World)(hs:s.size<=maxLen):Calls Tryz.prog 15 #[.string s] w fun e w'=>Q9j s w e w':=by
  obtain⟨em,hem⟩:=v09;by_cases hl:800<s.size
  · have hc:Q0t s=(1,0):=by unfold Q0t;rw[qAb hl]
    refine(x08 (fun p=>em p ⟨#[]⟩) s w hs hl).mono ?_;rintro e w'⟨p,xs,h1,h2,h3,h4,h5⟩;have hz:Q51 (fun p=>em p ⟨#[]⟩) s xs (Q4r s).2=(1,0):=by unfold Q51;rw[qAb hl]
    rw[hz]at h3;refine⟨p,0,by rw[hc];exact h3,h4,fun _=>by rw[hc],fun q=>by(rw[hc]at q;simp at q),fun q=>by(rw[hc]at q;simp at q)⟩
  have j0:s.size<=800:=by omega
  refine(y7k (fun p=>em p ⟨#[]⟩) s w j0 (y71 j0 hem)).mono ?_;rintro e w'⟨p,xs,h1,h2,h3,h4,h5⟩;obtain⟨r1,r2,r3,r4⟩:=v0l j0 (h1 j0) hem;rw[r1]at h3 h5;refine⟨p,_,h3,h4,r2,r3,fun q=>?_⟩;obtain⟨b,b1,b2,b3⟩:=h5 q;exact⟨b,xs,b1,b2,b3,r4 q⟩
theorem z6w{α β:Type}{p:α->Bool}{q:β->Bool}:∀{l:List α}{m:List β},l.length=m.length->(∀(k:Nat) (a:α) (b:β),l[k]? = some a->m[k]? = some b->p a=q b) ->
    (l.filter p).length=(m.filter q).length/\∀(k:Nat) (a:α) (b:β),(l.filter p)[k]? = some a->(m.filter q)[k]? = some b->∃j:Nat,l[j]? = some a/\m[j]? = some b
  | [],[],_,_=>⟨rfl,fun k a b h=>by simp at h⟩
  |x::l,y::m,hl,h=>by
    have hl':l.length=m.length:=by simpa using hl
    have j0:=h 0 x y rfl rfl;obtain⟨i1,i2⟩:=z6w (l:=l) (m:=m) hl' (fun k a b ha hb=>h (k+1) a b (by simpa using ha) (by simpa using hb));cases hp:p x
    · rw[qAj,qAa (by rw[hp];simp),qAj,qAa (by rw[← j0,hp];simp)]
      refine⟨i1,fun k a b ha hb=>?_⟩;obtain⟨j,q1,q2⟩:=i2 k a b ha hb;exact⟨j+1,by simpa using q1,by simpa using q2⟩
    rw[qAj,qAb hp,qAj,qAb (by rw[← j0];exact hp)];refine⟨by simp[i1],fun k a b ha hb=>?_⟩;cases k with
    |zero=>exact⟨0,by simpa using ha,by simpa using hb⟩
    |succ k =>
      obtain⟨j,q1,q2⟩:=i2 k a b (by simpa using ha) (by simpa using hb);exact⟨j+1,by simpa using q1,by simpa using q2⟩
  | [],y::m,hl,_=>by simp at hl
  |x::l,[],hl,_=>by simp at hl
theorem x92(e:Int)(w:World):Calls Tryz.prog 8 #[.int .i64 e] w fun r w'=>r=.returned (.int .i64 e)/\w'=w:=by
  go_enter Tryz.func8,Tryz.ntmps8
  go_wp2;go_ret;exact⟨rfl,rfl⟩
def Wn(s:ByteArray)(d:Wd)(y:ByteArray):Prop:=Q6l s d.ls y
section
variable {s:ByteArray}
theorem v2k{d d':Wd}{y y':ByteArray}(h:Wn s d y)(h':Wn s d' y'):(d.ls==d'.ls)=(y.toList==y'.toList):=by
  rw[qAs,qAx,qAx];exact Q6l.eq_iff h h'
theorem x8y{d:Wd}{y:ByteArray}(hd:Wn s d y):∀{ds:List Wd}{ys:List ByteArray},Q79 (Wn s) ds ys->ds.findIdx (fun x=>x.ls==d.ls)=ys.findIdx (fun x=>x.toList==y.toList)
  | [],[],_=>rfl
  |a::us,b::zs,h=>by
    rw[qEc,qEc,v2k h.1 hd,x8y hd h.2]
theorem x5f{d:Wd}{y:ByteArray}(hd:Wn s d y){ds:List Wd}{ys:List ByteArray}(h:Q79 (Wn s) ds ys):Q1v ys y=if Q1l ds d.ls<ds.length then(Q1l ds d.ls:Int) else -1:=by
  unfold Q1v Q1l;rw[← x8y hd h,← h.len]
structure HI(s:ByteArray)(lns:List Ln)(X:SP):Prop where
  he:Q79 (Wn s) (Q0h lns) X.heads
  hd:X.head=(Q04 lns).map (fun y=>(Q1l (Q0h lns) y.front.ls:Int))
  mem:∀y∈Q04 lns,Q1l (Q0h lns) y.front.ls<(Q0h lns).length
theorem x9p{lns:List Ln}{X:SP}{x:Ln}{z:ZLV}{i:Nat}(h:HI s lns X)(hz:ZRel s i x z.ln):HI s (lns++[x]) (Q0y X z):=by
  have j2:=z1u lns [] x;have hr:=hz.rule;have hw:Wn s x.front z.ln.name:=hz.word;unfold Q0y;cases hb:Q07 x
  · rw[hb]at hr
    rw[qAa (by rw[hr];simp)];rw[hb,qAa (by simp)]at j2;have ep:Q04 (lns++[x])=Q04 lns++[x]:=by unfold Q04;rw[qBu];simp[hb]
    have hf:=x5f hw h.he;by_cases c:Q1l (Q0h lns) x.front.ls<(Q0h lns).length
    · have eh:Q0h (lns++[x])=Q0h lns:=by
        show Q11 (lns++[x]) []=Q11 lns [];rw[j2];exact qAb c
      rw[qAb c]at hf;have j1:¬Q1v X.heads z.ln.name<0:=by omega
      refine⟨?_,?_,?_⟩
      · dsimp only;rw[eh,qAa j1];exact h.he
      · dsimp only;rw[eh,ep,qAa j1,hf,qBf,← h.hd];rfl
      rw[eh,ep];intro y hy;rw[qU,qM]at hy;rcases hy with hy|rfl
      · exact h.mem y hy
      exact c
    have eh:Q0h (lns++[x])=Q0h lns++[x.front]:=by
      show Q11 (lns++[x]) []=Q11 lns []++[x.front];rw[j2];exact qAa c
    rw[qAa c]at hf;have j1:Q1v X.heads z.ln.name<0:=by omega
    have j3:=y25 (Q0h lns) x.front.ls;have j0:Q1l (Q0h lns++[x.front]) x.front.ls=(Q0h lns).length:=by
      unfold Q1l at c j3 ⊢;rw[List.findIdx_append,qAa c];simp[qEc]
    refine⟨?_,?_,?_⟩
    · dsimp only;rw[eh,qAb j1];exact h.he.snoc hw
    · dsimp only
      rw[eh,ep,qAb j1,qBf,h.hd,← h.he.len];congr 1
      · apply qEh
        intro y hy;rw[z5l (h.mem y hy)]
      simp only[qCl,List.map_nil];rw[j0]
    rw[eh,ep];intro y hy;rw[qU,qM]at hy;rcases hy with hy|rfl
    · rw[z5l (h.mem y hy),qP];have:=h.mem y hy;omega
    rw[j0,qP];simp
  rw[hb]at hr;rw[qAb hr];rw[hb,qAb rfl]at j2;have eh:Q0h (lns++[x])=Q0h lns:=j2;have ep:Q04 (lns++[x])=Q04 lns:=by unfold Q04;rw[qBu];simp[hb]
  exact⟨by rw[eh];exact h.he,by rw[eh,ep];exact h.hd,by rw[eh,ep];exact h.mem⟩
theorem y1i:∀(xs:List ZLV) (X:SP),(∀x∈xs,0<=x.pl)->(Q1h X xs).2=-1->(Q1h X xs).1=xs.foldl Q0y X
  | [],X,_,_=>rfl
  |x::l,X,hp,h=>by
    unfold Q1h at h ⊢;by_cases c:Q73 (Q0y X x) x=true
    · rw[qAb c]at h
      have:=hp x (by simp);dsimp only at h;omega
    rw[qAa c]at h ⊢;exact y1i l _ (fun y hy=>hp y (by simp[hy])) h
theorem x8d{lns:List Ln}{xs:List ZLV}(h:Q38 s lns xs):∀i:Nat,i<=xs.length->HI s (lns.take i) ((xs.take i).foldl Q0y Q2t)
  |0,_=>⟨by simp[Q0h,Q11,Q2t,Q79],by simp[Q2t,Q04],fun y hy=>by simp[Q04]at hy⟩
  |i+1,hi=>by
    have hl:=h.len;obtain⟨x,p,g1,g2,g3,g4,g5⟩:=h.get (k:=i) (by omega);have e:lns[i]'(by omega)=x:=by rw[qE (by omega)]at g1;injection g1
    rw[Q6g (by omega:i<lns.length),Q6g (by omega:i<xs.length),List.foldl_append,e];exact x9p (x8d h i (by omega)) g3
structure SpecTab(X:SP)(ps:List Pr)(R H:Nat):Prop where
  rules:X.rules.length=R
  heads:X.heads.length=H
  prods:X.prods.length=ps.length
  head:X.head=ps.map Pr.head
  syms:X.prods.map (Q8e X)=ps.map (fun p=>p.syms.map (Q0u R))
  tab:Q1b ps R H
theorem x7i{xs:List ZLV}(hc:Q0t s=(0,0))(hO:ReadOk s xs):SpecTab (Q1h Q2t xs).1 (Q0q (Q0c s).1) (Q0f (Q0c s).1).length (Q0h (Q0c s).1).length:=by
  obtain⟨c1,c2,c3,c4,c5⟩:=z19 hc;have j4:=(Q6r hc).places;have l2:=hO.l2;have j8:=l2.len;have hm:=x3f l2;have j2:=y1i xs Q2t (fun x hx=>by
    obtain⟨k,hk,rfl⟩:=qAv hx;obtain⟨y,p,g1,g2,g3,g4,g5⟩:=l2.get hk;omega) (by rw[hm.1];exact c5)
  have hI:=x8d l2 xs.length (qR _);rw[qAr,← j2,← j8,qAr]at hI;have j3:=hI.mem;have jc:(Q1h Q2t xs).1.rules=xs.filter (fun z=>z.ln.rule):=by rw[hO.si.rl,qAr]
  have jb:(Q1h Q2t xs).1.prods=xs.filter (fun z=>!z.ln.rule):=by rw[hO.si.pr,qAr]
  obtain⟨r1,r2⟩:=z6w (p:=Q07) (q:=fun z:ZLV=>z.ln.rule) l2.len (fun k a b ha hb=>by
    obtain⟨i,i1,i2,i3⟩:=l2.at' k a b ha hb;exact i2.rule.symm)
  obtain⟨p1,p2⟩:=z6w (p:=fun x=>!Q07 x) (q:=fun z:ZLV=>!z.ln.rule) l2.len (fun k a b ha hb=>by
    obtain⟨i,i1,i2,i3⟩:=l2.at' k a b ha hb;rw[i2.rule])
  rw[← jc]at r1 r2;rw[← jb]at p1 p2;have hR:(Q0f (Q0c s).1).length=(Q1h Q2t xs).1.rules.length:=by unfold Q0f;rw[qAo,r1]
  -- a symbol's number
  have num:∀y∈(Q0c s).1,∀d∈y.syms,∀n,Q6l s d.ls n->Q8l (Q1h Q2t xs).1 n=Q0u (Q0f (Q0c s).1).length (Q9f (Q0f (Q0c s).1) (Q0h (Q0c s).1) d):=by
    intro y hy d hd n hw;obtain⟨n1,n2⟩:=x43 c3 j4 j3 hy hd;have j5:Q1a (atB n 0)=Q14 d:=hw.cap.symm;have j1:¬Q8l (Q1h Q2t xs).1 n<0:=by
      intro q;have q2:=(x42 l2 hO.si hw).1 q;obtain⟨k,hk,rfl⟩:=qAv hy;have h1:=z7b j4 _ 0 c3 (by omega) k hk (by omega);obtain⟨j,hj,rfl⟩:=qAv hd;have h2:=z92 (j4 _ hy).2 _ 0 h1 (by omega) j hj (by omega);rw[q2]at h2;cases h2
    unfold Q8l at j1 ⊢;rw[j5]at j1 ⊢;cases hb:Q14 d
    · rw[hb]at j1
      rw[qAa (by simp)]at j1 ⊢;have hlt:=n2 hb;have hlt':Q1l (Q0f (Q0c s).1) d.ls<(Q1h Q2t xs).1.rules.length:=by omega
      have j6:=qDb (xs:=Q0f (Q0c s).1) (p:=fun x:Wd=>x.ls==d.ls) (w:=hlt);have j9:∀(j:Nat) (z:ZLV),(Q1h Q2t xs).1.rules[j]? = some z->∃hj:j<(Q0f (Q0c s).1).length,Q6l s (Q0f (Q0c s).1)[j].ls z.ln.name:=by
        intro j z hz;have hj:=(qS hz).1;have ja:j<(Q0f (Q0c s).1).length:=by omega
        have j7:j<((Q0c s).1.filter Q07).length:=by omega
        obtain⟨q,q1,q2⟩:=r2 j _ z (qE j7) hz;obtain⟨i,i1,i2,i3⟩:=l2.at' q _ z q1 q2;refine⟨ja,?_⟩;have e:(Q0f (Q0c s).1)[j]=((Q0c s).1.filter Q07)[j].front:=by simp only[Q0f,qBt]
        rw[e];exact i2.word
      obtain⟨_,hk⟩:=j9 _ _ (qE hlt');have jd:=z63 (qE hlt') (t:=n) ((Q6l.eq_iff hk hw).1 (by unfold Q1l;exact qAx.1 j6)) (fun j z hj hz e=>by
        obtain⟨ja,j7⟩:=j9 j z hz;have e2:=(Q6l.eq_iff j7 hw).2 e;have:=List.not_of_lt_findIdx (xs:=Q0f (Q0c s).1) (p:=fun x:Wd=>x.ls==d.ls) hj;simp[e2]at this) ((Q1h Q2t xs).1.rules.length+1) 0 (by omega) (by omega)
      rw[jd]at j1 ⊢;by_cases hsk:((Q1h Q2t xs).1.rules[Q1l (Q0f (Q0c s).1) d.ls]'hlt').ln.skip=true
      · rw[qAb hsk]at j1;omega
      rw[qAa hsk];simp[Q0u,Q9f,hb]
    rw[qAb rfl];have hlt:=n1 hb;have hf:=x5f (d:=d) (y:=n) hw hI.he;rw[qAb hlt]at hf;rw[hf,qAa (by omega),← hR];simp[Q0u,Q9f,hb]
  have j0:(Q0q (Q0c s).1).length=(Q04 (Q0c s).1).length:=by unfold Q0q;rw[qAo]
  refine⟨hR.symm,hI.he.len.symm,by rw[j0];exact p1.symm,?_,?_,tabOk c3 j4 j3⟩
  · rw[hI.hd];unfold Q0q;rw[List.map_map];rfl
  apply qDu
  · rw[qAo,qAo,j0];exact p1.symm
  intro k h1 h2;rw[qAo]at h1 h2;have h3:k<(Q04 (Q0c s).1).length:=by omega
  rw[qBt,qBt];obtain⟨q,q1,q2⟩:=p2 k _ _ (qE h3) (qE h1);obtain⟨i,i1,i2,i3⟩:=l2.at' q _ _ q1 q2;have jf:(Q04 (Q0c s).1)[k]∈(Q0c s).1:=qAd q1;have e:(Q0q (Q0c s).1)[k]=Q7x (Q0f (Q0c s).1) (Q0h (Q0c s).1) (Q04 (Q0c s).1)[k]:=by simp only[Q0q,qBt]
  rw[e];have je:(Q04 (Q0c s).1)[k].syms.length=((Q1h Q2t xs).1.prods[k]).ln.syms.length:=i2.syms.1;unfold Q8e Q7x;dsimp only;rw[List.map_map];apply qDu
  · simp only[qAo];exact je.symm
  intro j g1 g2;simp only[qAo]at g1 g2;simp only[qBt];exact num _ jf _ (qG _) _ (i2.sword (qE g2) (qE g1))
end
theorem infoBS:(Tryz.prog.info? 90).map (fun i=>(i.zero,i.size,i.bytes))=some (some (.slice none 0 0),1,24):=by kernel_rfl
theorem infoBS':∃i,Tryz.prog.info? 90=some i/\i.zero=some (.slice none 0 0)/\i.size=1/\i.bytes=24:=nfoE infoBS
def SlAt(w:World)(v:Value)(l:List Value):Prop :=
  ∃ao cap,v=.slice ao l.length cap/\l.length<=cap/\∀j (h:j<l.length),∃g o,ao=some ⟨g,o,none⟩/\w.cell? ⟨g,o+j,none⟩=some l[j]
theorem SlAt.fresh{w w':World}{v:Value}{l:List Value}(h:SlAt w v l)(hf:Q0a w w'):SlAt w' v l:=by
  obtain⟨ao,cap,h1,h2,h3⟩:=h;refine⟨ao,cap,h1,h2,fun j hj=>?_⟩;obtain⟨g,o,h4,h5⟩:=h3 j hj;exact⟨g,o,h4,Q0i hf h5⟩
structure NV(w:World)(b:Nat)(R H:Nat)(q:List Q1)(a0:Option Addr)(c0:Nat)(a1:Option Addr)(c1:Nat)(a2:Option Addr)(c2:Nat)(v3 v4:Value)(sv:List Value):Prop where
  k0:w.cell? ⟨b,0,none⟩=some (.slice a0 R c0)
  k1:w.cell? ⟨b,1,none⟩=some (.slice a1 q.length c1)
  k2:w.cell? ⟨b,2,none⟩=some (.slice a2 H c2)
  k3:w.cell? ⟨b,3,none⟩=some v3
  k4:w.cell? ⟨b,4,none⟩=some v4
  r3:Q0z w v3 (q.map Prod.fst)
  r4:SlAt w v4 sv
  len:sv.length=q.length
  each:∀(i:Nat) (v:Value) (x:Q1),sv[i]? = some v->q[i]? = some x->Q0z w v x.2
theorem NV.fresh{w w':World}{b R H:Nat}{q:List Q1}{a0 a1 a2:Option Addr}{c0 c1 c2:Nat}{v3 v4:Value}{sv:List Value}(h:NV w b R H q a0 c0 a1 c1 a2 c2 v3 v4 sv)(hf:Q0a w w'):NV w' b R H q a0 c0 a1 c1 a2 c2 v3 v4 sv :=
  ⟨Q0i hf h.k0,Q0i hf h.k1,Q0i hf h.k2,Q0i hf h.k3,Q0i hf h.k4,h.r3.fresh hf,h.r4.fresh hf,h.len,fun i v x h1 h2=>(h.each i v x h1 h2).fresh hf⟩
structure QOk(R H:Nat)(q:List Q1):Prop where
  r8:R<=8
  h8:H<=8
  p20:q.length<=20
  pos:0<q.length
  hd:∀x∈q,0<=x.1/\x.1<H
  sy:∀x∈q,x.2.length<=6/\∀c∈x.2,0<=c/\c<(R:Int)+1+H
def Q3x(w:World)(b:Nat)(R H:Nat)(q:List Q1):Prop:=∃a0 c0 a1 c1 a2 c2 v3 v4 sv,NV w b R H q a0 c0 a1 c1 a2 c2 v3 v4 sv
theorem Q3x.fresh{w w':World}{b R H:Nat}{q:List Q1}(h:Q3x w b R H q)(hf:Q0a w w'):Q3x w' b R H q:=by
  obtain⟨a0,c0,a1,c1,a2,c2,v3,v4,sv,h⟩:=h;exact⟨a0,c0,a1,c1,a2,c2,v3,v4,sv,h.fresh hf⟩
theorem Q0r(w:World)(n:Nat):Q0a w (w.drewN n):=⟨rfl,rfl,rfl,qR _,fun _ _ _=>rfl⟩
theorem z1i(w:World)(b R:Nat)(a0:Option Addr)(c0:Nat)(k0:w.cell? ⟨b,0,none⟩=some (.slice a0 R c0))(hR:R<=1000) :
    Calls Tryz.prog 34 #[.pointer (some ⟨b,0,none⟩)] w fun e w'=>e=.returned (.int .i64 (bs R))/\w'=w:=by
  go_enter Tryz.func34,Tryz.ntmps34
  go_wp2;go_ret;exact⟨by unfold bs;rfl,rfl⟩
theorem x3o(base:Int)(null:List Bool)(l:List Int)(i:Nat)(hi:i<l.length):Q34 base null (l.drop i)=((decide (0<=l[i]-base)&&null.getD (l[i]-base).toNat false)&&Q34 base null (l.drop (i+1))):=by
  unfold Q34;rw[qC hi,qCp]
theorem z4o(w:World)(b R H gn:Nat)(a0:Option Addr)(c0:Nat)(v:Value)(l:List Int)(null:List Bool)(k0:w.cell? ⟨b,0,none⟩=some (.slice a0 R c0))(hR:R<=1000)(hH:H<=1000)(hv:Q0z w v l)(hl:l.length<=1000)(hn:Q1y w gn null)(hnl:null.length=H)
    (hc:∀c∈l,0<=c/\c<(R:Int)+1+H) :
    Calls Tryz.prog 68 #[.pointer (some ⟨b,0,none⟩),v,bsl gn H] w fun e w'=>e=.returned (.bool (Q34 (bs R) null l))/\∃m,w'=w.drewN m:=by
  obtain⟨ao,cap,rfl,hcap,hcell⟩:=hv;have BA:=hid (fun w' (h:w'.cell? ⟨b,0,none⟩=some (.slice a0 R c0))=>z1i w' b R a0 c0 h hR);have HK:=hid k0;have HC:=hid hcell;have HN:=hid hn;have jb:=hid hnl;have j9:=hid hc;generalize hV:Q34 (bs R) null l=V;have HV:=hid hV;clear hcell hn hnl hc hV k0;go_enter Tryz.func68,Tryz.ntmps68
  go_wp2;go_loopw [7] (fun x7 wr=>∃(i m:Nat),x7=.int .i64 i/\wr=w.drewN m/\i<=l.length/\Q34 (bs R) null (l.drop i)=V)
      (fun x _=>1001-(intOf x).toNat)
  case atStart=>exact⟨0,0,rfl,rfl,by omega,HV.out⟩
  obtain⟨i,m,rfl,rfl,hi,hrec⟩:=hrel;have ja:=hid (Q15 (B:=1001) i (by omega));have hk:=Q0i (Q0r w m) HK.out;have j1:=hid (Q0r w m);generalize hW:w.drewN m=wr at hk j1 ⊢;have HW:=hid hW;clear hW;by_cases hlt:i<l.length
  · have k1:(i:Int)<(l.length:Int):=by omega
    rw[x3o _ _ _ _ hlt]at hrec;obtain⟨g,o,rfl,hcl⟩:=HC.out i hlt;have j4:=Q0i j1.out hcl;have j7:=j9.out l[i] (qG hlt);have j5:=fun(j:Nat) (hj:j<H)=>(HN.fresh j1.out).cell (j:=j) (by rw[jb.out];exact hj);have j6:=fun(j:Nat)=>(HN.fresh j1.out).frozen j;generalize hcv:l[i]=c at hrec hcl j4 j7;clear hcv hcl;have BQ:=hid (fun n=>BA.out (wr.drewN n) (Q0i (Q0r wr n) hk));by_cases hneg:c-bs R<0
    · rw[qBh (by omega),qCi,qCi]at hrec
      have j0:=hid hrec;have s1:decide (c-bs R<0)=true:=qBl hneg;have jd:IntKind.i64.wrap (c-bs R)=c-bs R:=by rw[IntKind.wrap_i64];unfold bs;omega
      clear j5 j6 hrec;go_wp2;go_quiet (first|(go_at_call 34;refine Calls.quiet_of_same (BQ.out _)));go_wp2;go_ret;rw[← j0.out];exact⟨rfl,by rw[← HW.out,World.drewN_drewN];exact⟨_,rfl⟩⟩
    rw[qBl (by omega),qBa]at hrec;obtain⟨j,hj⟩:∃j:Nat,c-bs R=j:=⟨(c-bs R).toNat,by omega⟩;have jc:j<H:=by unfold bs at hj;omega
    have j2:=j5 j jc;have je:=j6 j;rw[hj,qAl]at hrec;have s1:¬(j:Int)<0:=by omega
    have s2:(j:Int)<(H:Int):=by omega
    have jd:IntKind.i64.wrap (c-bs R)=(j:Int):=by rw[IntKind.wrap_i64];unfold bs at hj ⊢;omega
    generalize null.getD j false=nj at hrec j2;clear j5 j6 hj hneg j7;cases nj
    · rw[qCi]at hrec
      have j0:=hid hrec;clear hrec;go_wp2;go_quiet (first|(go_at_call 34;refine Calls.quiet_of_same (BQ.out _)));have j3:=Q0i (Q0r wr nq) j2;go_wp2;go_ret;rw[← j0.out];exact⟨rfl,by rw[← HW.out,World.drewN_drewN];exact⟨_,rfl⟩⟩
    rw[qBa]at hrec;have j0:=hid hrec;clear hrec;go_wp2;go_quiet (first|(go_at_call 34;refine Calls.quiet_of_same (BQ.out _)));have j3:=Q0i (Q0r wr nq) j2;go_wp2;go_roundw
    case rel=>exact⟨i+1,m+nq,by go_num,by rw[← HW.out,World.drewN_drewN],by omega,j0.out⟩
    exact ja.out
  have k1:¬(i:Int)<(l.length:Int):=by omega
  have j8:l.drop i=[]:=qAi (by omega);rw[j8]at hrec;have j0:=hid hrec;clear hrec j8;go_wp2;go_ret;rw[← j0.out];exact⟨rfl,m,HW.symm⟩
end Go.Proofs.YtcpceafmlgaodaaGreat
