import Derived.Test.YtcpceafmlgaodaaGreatRm2
namespace Go.Proofs.YtcpceafmlgaodaaGreat
open Go.RowKit
set_option linter.all false
def cdJ(c:Nat->Bool)(x:Nat)(y:Nat->Nat):Nat->Nat->Mat->Mat
  |0,_,M=>M
  |f+1,j,M=>cdJ c x y f (j+1) (if c j=true then Q7o M x (y j) true else M)
def cdI(c:Q1->Nat->Bool)(x:Q1->Nat)(y:Q1->Nat->Nat):List Q1->Mat->Mat
  | [],M=>M
  |z::r,M=>cdI c x y r (cdJ (c z) (x z) (y z) z.2.length 0 M)
def sqF(n:Nat):Mat:=List.replicate n (List.replicate n false)
theorem y1k(n:Nat):Sq n (sqF n):=⟨by simp[sqF],fun i hi=>by rw[qD];simp[sqF,hi]⟩
theorem x4v(n i j:Nat):atM (sqF n) i j=false:=by
  unfold atM sqF;rw[qD,qD];by_cases hi:i<n
  · by_cases hj:j<n
    · simp[hi,hj]
    simp[hi,hj]
  simp[hi]
section
variable {n:Nat}
theorem x74{c:Nat->Bool}{x:Nat}{y:Nat->Nat}(hx:x<n):∀(f j:Nat) (M:Mat),Sq n M->(∀k,j<=k->k<j+f->c k=true->y k<n) ->
    Sq n (cdJ c x y f j M)/\∀a b,atM (cdJ c x y f j M) a b=true↔atM M a b=true∨∃k,j<=k/\k<j+f/\c k=true/\a=x/\b=y k
  |0,j,M,hs,hy=>⟨hs,fun a b=>⟨.inl,fun h=>by
      rcases h with h|⟨k,h1,h2,_⟩
      · exact h
      omega⟩⟩
  |f+1,j,M,hs,hy=>by
    unfold cdJ;have hs':Sq n (if c j=true then Q7o M x (y j) true else M):=by
      split
      · exact z9x hs hx _
      exact hs
    obtain⟨r1,r2⟩:=x74 hx f (j+1) _ hs' (fun k h1 h2 h3=>hy k (by omega) (by omega) h3);refine⟨r1,fun a b=>?_⟩;rw[r2];by_cases hc:c j=true
    · rw[qAb hc,x4p hs hx (hy j (by omega) (by omega) hc)]
      constructor
      · rintro(h|⟨k,h1,h2,h3⟩)
        · split at h
          · rename_i q;exact .inr ⟨j,by omega,by omega,hc,q⟩
          exact .inl h
        exact .inr ⟨k,by omega,by omega,h3⟩
      rintro(h|⟨k,h1,h2,h3,h4⟩)
      · left;split
        · rfl
        exact h
      by_cases e:k=j
      · subst e;left;rw[qAb h4]
      exact .inr ⟨k,by omega,by omega,h3,h4⟩
    rw[qAa hc];constructor
    · rintro(h|⟨k,h1,h2,h3⟩)
      · exact .inl h
      exact .inr ⟨k,by omega,by omega,h3⟩
    rintro(h|⟨k,h1,h2,h3,h4⟩)
    · exact .inl h
    by_cases e:k=j
    · subst e;exact absurd h3 hc
    exact .inr ⟨k,by omega,by omega,h3,h4⟩
theorem y7q{c:Q1->Nat->Bool}{x:Q1->Nat}{y:Q1->Nat->Nat}:∀(q:List Q1) (M:Mat),Sq n M->(∀z∈q,x z<n/\∀k,k<z.2.length->c z k=true->y z k<n) ->
    Sq n (cdI c x y q M)/\∀a b,atM (cdI c x y q M) a b=true↔atM M a b=true∨∃z∈q,∃k,k<z.2.length/\c z k=true/\a=x z/\b=y z k
  | [],M,hs,hy=>⟨hs,fun a b=>⟨.inl,fun h=>by
      rcases h with h|⟨z,h1,_⟩
      · exact h
      cases h1⟩⟩
  |z::r,M,hs,hy=>by
    have hz:=hy z (by simp);obtain⟨q1,q2⟩:=x74 (c:=c z) (x:=x z) (y:=y z) hz.1 z.2.length 0 M hs (fun k h1 h2 h3=>hz.2 k (by omega) h3);obtain⟨r1,r2⟩:=y7q (c:=c) (x:=x) (y:=y) r _ q1 (fun w hw=>hy w (by simp[hw]));unfold cdI;refine⟨r1,fun a b=>?_⟩;rw[r2,q2];constructor
    · rintro((h|⟨k,h1,h2,h3⟩)|⟨w,hw,h⟩)
      · exact .inl h
      · exact .inr ⟨z,by simp,k,by omega,h3⟩
      exact .inr ⟨w,by simp[hw],h⟩
    rintro(h|⟨w,hw,k,h1,h2⟩)
    · exact .inl (.inl h)
    rw[qBc]at hw;rcases hw with rfl|hw
    · exact .inl (.inr ⟨k,by omega,by omega,h2⟩)
    exact .inr ⟨w,hw,k,h1,h2⟩
end
def orJ(n:Nat)(c:Nat->Bool)(g:Nat->List Bool):Nat->Nat->List Bool->List Bool
  |0,_,out=>out
  |f+1,j,out=>orJ n c g f (j+1) (if c j=true then orI out (g j) n n else out)
theorem z9k{xs ys:List Bool}{n t:Nat}(ht:t<n):(orI xs ys n n).getD t false=(xs.getD t false||ys.getD t false):=by simp[orI,ht]
theorem y8m{n:Nat}{c:Nat->Bool}{g:Nat->List Bool}:∀(f j:Nat) (out:List Bool),out.length=n ->
    (orJ n c g f j out).length=n/\∀t,t<n->((orJ n c g f j out).getD t false=true↔out.getD t false=true∨∃k,j<=k/\k<j+f/\c k=true/\(g k).getD t false=true)
  |0,j,out,hl=>⟨hl,fun t ht=>⟨.inl,fun h=>by
      rcases h with h|⟨k,h1,h2,_⟩
      · exact h
      omega⟩⟩
  |f+1,j,out,hl=>by
    unfold orJ;obtain⟨r1,r2⟩:=y8m (n:=n) (c:=c) (g:=g) f (j+1) (if c j=true then orI out (g j) n n else out) (by split<;>first|exact z2l _ _ _ _|exact hl);refine⟨r1,fun t ht=>?_⟩;rw[r2 t ht];by_cases hc:c j=true
    · rw[qAb hc,z9k ht,qAk]
      constructor
      · rintro((h|h)|⟨k,h1,h2,h3⟩)
        · exact .inl h
        · exact .inr ⟨j,by omega,by omega,hc,h⟩
        exact .inr ⟨k,by omega,by omega,h3⟩
      rintro(h|⟨k,h1,h2,h3,h4⟩)
      · exact .inl (.inl h)
      by_cases e:k=j
      · subst e;exact .inl (.inr h4)
      exact .inr ⟨k,by omega,by omega,h3,h4⟩
    rw[qAa hc];constructor
    · rintro(h|⟨k,h1,h2,h3⟩)
      · exact .inl h
      exact .inr ⟨k,by omega,by omega,h3⟩
    rintro(h|⟨k,h1,h2,h3,h4⟩)
    · exact .inl h
    by_cases e:k=j
    · subst e;exact absurd h3 hc
    exact .inr ⟨k,by omega,by omega,h3,h4⟩
def orQ(n:Nat)(c:Q1->Nat->Bool)(g:Q1->Nat->List Bool):List Q1->List Bool->List Bool
  | [],out=>out
  |z::r,out=>orQ n c g r (orJ n (c z) (g z) z.2.length 0 out)
theorem x3v{n:Nat}{c:Q1->Nat->Bool}{g:Q1->Nat->List Bool}:∀(q:List Q1) (out:List Bool),out.length=n ->
    (orQ n c g q out).length=n/\∀t,t<n->((orQ n c g q out).getD t false=true↔out.getD t false=true∨∃z∈q,∃k,k<z.2.length/\c z k=true/\(g z k).getD t false=true)
  | [],out,hl=>⟨hl,fun t ht=>⟨.inl,fun h=>by
      rcases h with h|⟨k,h1,_⟩
      · exact h
      cases h1⟩⟩
  |z::r,out,hl=>by
    obtain⟨q1,q2⟩:=y8m (n:=n) (c:=c z) (g:=g z) z.2.length 0 out hl;obtain⟨r1,r2⟩:=x3v (n:=n) (c:=c) (g:=g) r _ q1;unfold orQ;refine⟨r1,fun t ht=>?_⟩;rw[r2 t ht,q2 t ht];constructor
    · rintro((h|⟨k,h1,h2,h3⟩)|⟨w,hw,h⟩)
      · exact .inl h
      · exact .inr ⟨z,by simp,k,by omega,h3⟩
      exact .inr ⟨w,by simp[hw],h⟩
    rintro(h|⟨w,hw,k,h1,h2⟩)
    · exact .inl (.inl h)
    rw[qBc]at hw;rcases hw with rfl|hw
    · exact .inl (.inr ⟨k,by omega,by omega,h2⟩)
    exact .inr ⟨w,hw,k,h1,h2⟩
def fiT(L:Mat)(c:Int):Nat->Nat->List Bool->List Bool
  |0,_,out=>out
  |f+1,t,out=>fiT L c f (t+1) (out.set t ((out.getD t false||c==(t:Int))||atM L c.toNat t))
def fiI(base:Int)(null:List Bool)(L:Mat)(R:Nat)(l:List Int):Nat->Nat->List Bool->List Bool
  |0,_,out=>out
  |f+1,i,out=>fiI base null L R l f (i+1) (if Q34 base null (l.take i)=true then fiT L (l.getD i 0) R 0 out else out)
def firF(base:Int)(null:List Bool)(L:Mat)(R:Nat)(l:List Int):List Bool:=fiI base null L R l l.length 0 (List.replicate (R+1) false)
theorem x77{L:Mat}{c:Int}:∀(f t:Nat) (out:List Bool),t+f<=out.length->(fiT L c f t out).length=out.length/\∀u,((fiT L c f t out).getD u false=true↔out.getD u false=true∨(t<=u/\u<t+f/\(c=u∨atM L c.toNat u=true)))
  |0,t,out,h=>⟨rfl,fun u=>⟨.inl,fun q=>by
      rcases q with q|⟨h1,h2,_⟩
      · exact q
      omega⟩⟩
  |f+1,t,out,h=>by
    unfold fiT;obtain⟨r1,r2⟩:=x77 (L:=L) (c:=c) f (t+1) (out.set t ((out.getD t false||c==(t:Int))||atM L c.toNat t)) (by rw[qBd];omega);refine⟨by rw[r1,qBd],fun u=>?_⟩;rw[r2,z16 _ _ _ _ _ (by omega)];by_cases e:u=t
    · subst e
      rw[qAb rfl,qAk,qAk,qAx];constructor
      · rintro(((h1|h1)|h1)|h1)
        · exact .inl h1
        · exact .inr ⟨by omega,by omega,.inl h1⟩
        · exact .inr ⟨by omega,by omega,.inr h1⟩
        omega
      rintro(h1|⟨_,_,h1|h1⟩)
      · exact .inl (.inl (.inl h1))
      · exact .inl (.inl (.inr h1))
      exact .inl (.inr h1)
    rw[qAa e];constructor
    · rintro(h1|⟨h1,h2,h3⟩)
      · exact .inl h1
      exact .inr ⟨by omega,by omega,h3⟩
    rintro(h1|⟨h1,h2,h3⟩)
    · exact .inl h1
    exact .inr ⟨by omega,by omega,h3⟩
theorem x76{base:Int}{null:List Bool}{L:Mat}{R:Nat}{l:List Int}:∀(f i:Nat) (out:List Bool),out.length=R+1->(fiI base null L R l f i out).length=R+1 /\
    ∀u,((fiI base null L R l f i out).getD u false=true↔out.getD u false=true∨(u<R/\∃k,i<=k/\k<i+f/\Q34 base null (l.take k)=true/\(l.getD k 0=u∨atM L (l.getD k 0).toNat u=true)))
  |0,i,out,h=>⟨h,fun u=>⟨.inl,fun q=>by
      rcases q with q|⟨_,k,h1,h2,_⟩
      · exact q
      omega⟩⟩
  |f+1,i,out,h=>by
    unfold fiI;obtain⟨t1,t2⟩:=x77 (L:=L) (c:=l.getD i 0) R 0 out (by omega);obtain⟨r1,r2⟩:=x76 (base:=base) (null:=null) (L:=L) (R:=R) (l:=l) f (i+1) (if Q34 base null (l.take i)=true then fiT L (l.getD i 0) R 0 out else out) (by split<;>first|(rw[t1];exact h)|exact h);refine⟨r1,fun u=>?_⟩;rw[r2];by_cases hc:Q34 base null (l.take i)=true
    · rw[qAb hc,t2]
      constructor
      · rintro((h1|⟨h1,h2,h3⟩)|⟨h0,k,h1,h2,h3⟩)
        · exact .inl h1
        · exact .inr ⟨by omega,i,by omega,by omega,hc,h3⟩
        exact .inr ⟨h0,k,by omega,by omega,h3⟩
      rintro(h1|⟨h0,k,h1,h2,h3,h4⟩)
      · exact .inl (.inl h1)
      by_cases e:k=i
      · subst e;exact .inl (.inr ⟨by omega,by omega,h4⟩)
      exact .inr ⟨h0,k,by omega,by omega,h3,h4⟩
    rw[qAa hc];constructor
    · rintro(h1|⟨h0,k,h1,h2,h3⟩)
      · exact .inl h1
      exact .inr ⟨h0,k,by omega,by omega,h3⟩
    rintro(h1|⟨h0,k,h1,h2,h3,h4⟩)
    · exact .inl h1
    by_cases e:k=i
    · subst e;exact absurd h3 hc
    exact .inr ⟨h0,k,by omega,by omega,h3,h4⟩
theorem y1s{α:Type}{P:List α->α->List α->Prop}(l:List α):(∃k,∃h:k<l.length,P (l.take k) l[k] (l.drop (k+1)))↔∃a s b,l=a++s::b/\P a s b:=by
  constructor
  · rintro⟨k,h,hp⟩
    refine⟨l.take k,l[k],l.drop (k+1),?_,hp⟩;rw[← qC h,qDz]
  rintro⟨a,s,b,e,hp⟩;have hl:a.length<l.length:=by rw[e];simp
  refine⟨a.length,hl,?_⟩;have e1:l.take a.length=a:=by rw[e];simp
  have e2:l[a.length]=s:=by
    have:l[a.length]? = some s:=by rw[e];simp
    rw[qE hl]at this;injection this
  have e3:l.drop (a.length+1)=b:=by rw[e];simp
  rw[e1,e2,e3];exact hp
theorem y72{α β:Type}(f:α->β)(l:List α)(k:Nat)(d:β)(h:k<l.length):(l.map f).getD k d=f l[k]:=by
  rw[qD,qBe,qE h];rfl
section
variable {ps:List Pr}{R H:Nat}{null:List Bool}
def bs(R:Nat):Int:=(R:Int)+1
theorem y2g(P:Pr->List Sy->Sy->List Sy->Prop){C:Q1->Nat->Prop}(hC:∀p∈ps,∀(k:Nat) (h:k<p.syms.length),C (p.head,p.syms.map (Q0u R)) k↔P p (p.syms.take k) p.syms[k] (p.syms.drop (k+1))) :
    (∃z∈Q0e R ps,∃k,k<z.2.length/\C z k)↔∃p∈ps,∃a s b,p.syms=a++s::b/\P p a s b:=by
  constructor
  · rintro⟨z,hz,k,hk,hc⟩
    unfold Q0e at hz;rw[qBp]at hz;obtain⟨p,hp,rfl⟩:=hz;have j0:k<p.syms.length:=by simpa using hk
    exact⟨p,hp,(y1s (P:=P p) p.syms).1 ⟨k,j0,(hC p hp k j0).1 hc⟩⟩
  rintro⟨p,hp,h⟩;obtain⟨k,hk,hc⟩:=(y1s (P:=P p) p.syms).2 h;exact⟨(p.head,p.syms.map (Q0u R)),by unfold Q0e;exact qBp.2 ⟨p,hp,rfl⟩,k,by simpa using hk,(hC p hp k hk).2 hc⟩
theorem z6u(hT:Q1b ps R H){p:Pr}(hp:p∈ps){s:Sy}(hs:s∈p.syms):0<=Q0u R s/\Q0u R s<(R:Int)+1+H:=by
  have hv:=hT.sy p hp s hs;cases hb:s.isH
  · rw[hb,qAa (by simp)]at hv
    rw[z32 hb];omega
  rw[hb,qAb rfl]at hv;have:=z1p (R:=R) hb;omega
theorem v16(p:Pr)(k:Nat):((p.head,p.syms.map (Q0u R)):Q1).2.take k=(p.syms.take k).map (Q0u R):=(List.map_take).symm
theorem x8z(p:Pr)(k:Nat):((p.head,p.syms.map (Q0u R)):Q1).2.drop k=(p.syms.drop k).map (Q0u R):=(List.map_drop).symm
theorem y7i(p:Pr){k:Nat}(h:k<p.syms.length):((p.head,p.syms.map (Q0u R)):Q1).2.getD k 0=Q0u R p.syms[k]:=y72 _ _ _ _ h
theorem v0w(hT:Q1b ps R H){p:Pr}(hp:p∈ps)(k:Nat):∀s∈p.syms.take k,0<=s.num/\s.num<(if s.isH then(H:Int) else R):=fun s hs=>hT.sy p hp s (qEd hs)
theorem x1v(hT:Q1b ps R H){p:Pr}(hp:p∈ps)(k:Nat):∀s∈p.syms.drop k,0<=s.num/\s.num<(if s.isH then(H:Int) else R):=fun s hs=>hT.sy p hp s (List.mem_of_mem_drop hs)
def ldZc(R:Nat)(null:List Bool)(z:Q1)(k:Nat):Bool:=Q34 (bs R) null (z.2.take k)
def ldX(R:Nat)(z:Q1):Nat:=(bs R+z.1).toNat
def Q9y(z:Q1)(k:Nat):Nat:=(z.2.getD k 0).toNat
def ld0(R H:Nat)(null:List Bool)(q:List Q1):Mat:=cdI (ldZc R null) (ldX R) Q9y q (sqF (R+1+H))
def ldF(R H:Nat)(null:List Bool)(q:List Q1):Mat:=Q49 (ld0 R H null q)
theorem v1i(hT:Q1b ps R H)(hn:Q63 ps H null):Sq (R+1+H) (ld0 R H null (Q0e R ps))/\relM (ld0 R H null (Q0e R ps))=Ld ps R (NS ps H):=by
  obtain⟨c1,c2⟩:=y7q (n:=R+1+H) (c:=ldZc R null) (x:=ldX R) (y:=Q9y) (Q0e R ps) (sqF (R+1+H)) (y1k _) (by
    intro z hz;unfold Q0e at hz;rw[qBp]at hz;obtain⟨p,hp,rfl⟩:=hz;have h1:=hT.hd p hp;refine⟨by unfold ldX bs;dsimp only;omega,fun k hk _=>?_⟩;have j0:k<p.syms.length:=by simpa using hk
    unfold Q9y;rw[y7i p j0];have:=z6u hT hp (qG j0);omega)
  refine⟨c1,?_⟩;funext i j;apply propext;unfold relM ld0;rw[c2,x4v];have j1:=y2g (ps:=ps) (R:=R) (fun p a s b=>a.all (Q35 (NS ps H))=true/\i.toNat=(bs R+p.head).toNat/\j.toNat=(Q0u R s).toNat) (C:=fun z k=>ldZc R null z k=true/\i.toNat=ldX R z/\j.toNat=Q9y z k) (fun p hp k hk=>by
    unfold ldZc ldX Q9y;rw[v16,y7i p hk];unfold bs;rw[y2a hn (v0w hT hp k)])
  constructor
  · rintro⟨h0,h1,h|h⟩
    · cases h
    obtain⟨p,hp,a,s,b,e,ha,e1,e2⟩:=j1.1 h;have g1:=hT.hd p hp;have g2:=z6u hT hp (s:=s) (by rw[e];simp);unfold bs at e1;exact⟨p,hp,by omega,a,s,b,e,ha,by omega⟩
  rintro⟨p,hp,e1,a,s,b,e,ha,e2⟩;have g1:=hT.hd p hp;have g2:=z6u hT hp (s:=s) (by rw[e];simp);exact⟨by omega,by omega,.inr (j1.2 ⟨p,hp,a,s,b,e,ha,by unfold bs;omega,by omega⟩)⟩
theorem v1j(hT:Q1b ps R H)(hn:Q63 ps H null):Sq (R+1+H) (ldF R H null (Q0e R ps))/\∀c t:Nat,atM (ldF R H null (Q0e R ps)) c t=true↔TC (Ld ps R (NS ps H)) c t:=by
  obtain⟨h1,h2⟩:=v1i hT hn;have:=z8k h1;rw[h2]at this;exact this
theorem v1c(hT:Q1b ps R H){N:Int->Bool}{t:Nat}:∀(n:Nat) (X:Int),FS ps N t n X=true->t<R
  |0,X,h=>by cases h
  |n+1,X,h=>by
    unfold FS at h;rw[qAq]at h;obtain⟨p,hp,h⟩:=h;rw[qAc]at h;obtain⟨a,s,b,e,ha,hs⟩:=z1q h.2;have hv:=hT.sy p hp s (by rw[e];simp);cases hb:s.isH
    · rw[hb,qAa (by simp)]at hv
      rw[hb,qAa (by simp),qAx]at hs;omega
    rw[hb,qAb rfl]at hs;exact v1c hT n _ hs
theorem v03(hT:Q1b ps R H){N:Int->Bool}{t:Nat}{l:List Sy}(hv:∀s∈l,0<=s.num/\s.num<(if s.isH then(H:Int) else R))(h:Q3s N (fun X=>FS ps N t H X) t l=true):t<R:=by
  obtain⟨a,s,b,e,ha,hs⟩:=z1q h;have j0:=hv s (by rw[e];simp);cases hb:s.isH
  · rw[hb,qAa (by simp)]at j0
    rw[hb,qAa (by simp),qAx]at hs;omega
  rw[hb,qAb rfl]at hs;exact v1c hT H _ hs
def fiF(R H:Nat)(null:List Bool)(q:List Q1)(l:List Int):List Bool:=firF (bs R) null (ldF R H null q) R l
theorem v1a(hT:Q1b ps R H)(hn:Q63 ps H null){l:List Sy}(hv:∀s∈l,0<=s.num/\s.num<(if s.isH then(H:Int) else R)) :
    (fiF R H null (Q0e R ps) (l.map (Q0u R))).length=R+1/\∀u,(fiF R H null (Q0e R ps) (l.map (Q0u R))).getD u false=Q3s (NS ps H) (fun X=>FS ps (NS ps H) u H X) u l:=by
  obtain⟨f1,f2⟩:=x76 (base:=bs R) (null:=null) (L:=ldF R H null (Q0e R ps)) (R:=R) (l:=l.map (Q0u R)) (l.map (Q0u R)).length 0 (List.replicate (R+1) false) (by simp);refine⟨f1,fun u=>?_⟩;unfold fiF firF;rw[qAs,f2];have hz:¬(List.replicate (R+1) false).getD u false=true:=by
    rw[qD];by_cases h:u<R+1
    · simp[h]
    simp[h]
  have hL:=(v1j hT hn).2;have j0:u<R->((∃k,0<=k/\k<0+(l.map (Q0u R)).length/\Q34 (bs R) null ((l.map (Q0u R)).take k)=true/\((l.map (Q0u R)).getD k 0=u∨atM (ldF R H null (Q0e R ps)) ((l.map (Q0u R)).getD k 0).toNat u=true))↔Q3s (NS ps H) (fun X=>FS ps (NS ps H) u H X) u l=true):=by
    intro hu;rw[x9a hT hu hv,← y1s (P:=fun a s b=>a.all (Q35 (NS ps H))=true/\(Q0u R s=u∨TC (Ld ps R (NS ps H)) (Q0u R s) u))];have each:∀(k:Nat) (h:k<l.length),(Q34 (bs R) null ((l.map (Q0u R)).take k)=true/\((l.map (Q0u R)).getD k 0=u∨atM (ldF R H null (Q0e R ps)) ((l.map (Q0u R)).getD k 0).toNat u=true))↔((l.take k).all (Q35 (NS ps H))=true/\(Q0u R l[k]=u∨TC (Ld ps R (NS ps H)) (Q0u R l[k]) u)):=fun k h=>by
      have j1:=hv l[k] (qG h);have j2:0<=Q0u R l[k]:=by
        cases hb:l[k].isH
        · rw[z32 hb];exact j1.1
        have:=z1p (R:=R) hb;omega
      rw[← List.map_take,y72 _ _ _ _ h,hL,show(((Q0u R l[k]).toNat:Nat):Int)=Q0u R l[k] by omega];unfold bs;rw[y2a hn (fun s hs=>hv s (qEd hs))]
    constructor
    · rintro⟨k,_,h1,h2⟩
      have h:k<l.length:=by simpa using h1
      exact⟨k,h,(each k h).1 h2⟩
    rintro⟨k,h,h2⟩;exact⟨k,by omega,by simpa using h,(each k h).2 h2⟩
  constructor
  · rintro(h|⟨hu,h⟩)
    · exact absurd h hz
    exact(j0 hu).1 h
  intro h;have hu:=v03 hT hv h;exact .inr ⟨hu,(j0 hu).2 h⟩
def laC(R:Nat)(null:List Bool)(z:Q1)(k:Nat):Bool:=decide (0<=z.2.getD k 0-bs R)&&Q34 (bs R) null (z.2.drop (k+1))
def laX(z:Q1):Nat:=z.1.toNat
def laY(R:Nat)(z:Q1)(k:Nat):Nat:=(z.2.getD k 0-bs R).toNat
def la0(R H:Nat)(null:List Bool)(q:List Q1):Mat:=cdI (laC R null) laX (laY R) q (sqF H)
def laF(R H:Nat)(null:List Bool)(q:List Q1):Mat:=Q49 (la0 R H null q)
theorem z6b(hT:Q1b ps R H){p:Pr}(hp:p∈ps){s:Sy}(hs:s∈p.syms):0<=Q0u R s-bs R↔s.isH=true:=by
  have hv:=hT.sy p hp s hs;unfold bs;cases hb:s.isH
  · rw[hb,qAa (by simp)]at hv
    rw[z32 hb];exact⟨fun h=>by omega,fun h=>by cases h⟩
  rw[z1p hb];exact⟨fun _=>rfl,fun _=>hv.1⟩
theorem v1h(hT:Q1b ps R H)(hn:Q63 ps H null):Sq H (laF R H null (Q0e R ps))/\∀a b:Nat,atM (laF R H null (Q0e R ps)) a b=true↔TC (Ls ps (NS ps H)) a b:=by
  have j0:Sq H (la0 R H null (Q0e R ps))/\relM (la0 R H null (Q0e R ps))=Ls ps (NS ps H):=by
    obtain⟨c1,c2⟩:=y7q (n:=H) (c:=laC R null) (x:=laX) (y:=laY R) (Q0e R ps) (sqF H) (y1k _) (by
      intro z hz;unfold Q0e at hz;rw[qBp]at hz;obtain⟨p,hp,rfl⟩:=hz;have h1:=hT.hd p hp;refine⟨by unfold laX;dsimp only;omega,fun k hk _=>?_⟩;have j1:k<p.syms.length:=by simpa using hk
      unfold laY;rw[y7i p j1];have:=z6u hT hp (qG j1);unfold bs;omega)
    refine⟨c1,?_⟩;funext i j;apply propext;unfold relM la0;rw[c2,x4v];have j2:=y2g (ps:=ps) (R:=R) (fun p a s b=>(0<=Q0u R s-bs R/\b.all (Q35 (NS ps H))=true)/\i.toNat=p.head.toNat/\j.toNat=(Q0u R s-bs R).toNat) (C:=fun z k=>laC R null z k=true/\i.toNat=laX z/\j.toNat=laY R z k) (fun p hp k hk=>by
      unfold laC laX laY;rw[x8z,y7i p hk,qAc,qAm];have:=y2a hn (x1v hT hp (k+1));unfold bs;rw[this])
    constructor
    · rintro⟨h0,h1,h|h⟩
      · cases h
      obtain⟨p,hp,a,s,b,e,⟨e0,ha⟩,e1,e2⟩:=j2.1 h;have g1:=hT.hd p hp;have hs:s∈p.syms:=by rw[e];simp
      have hb:=(z6b hT hp hs).1 e0;have g3:=z1p (R:=R) hb;unfold bs at e0 e2;exact⟨p,hp,by omega,a,s,b,e,hb,by omega,ha⟩
    rintro⟨p,hp,e1,a,s,b,e,hb,e2,ha⟩;have g1:=hT.hd p hp;have hs:s∈p.syms:=by rw[e];simp
    have e0:=(z6b hT hp hs).2 hb;have g3:=z1p (R:=R) hb;have hv:=hT.sy p hp s hs;exact⟨by omega,by omega,.inr (j2.2 ⟨p,hp,a,s,b,e,⟨e0,ha⟩,by rw[e1],by unfold bs;omega⟩)⟩
  have:=z8k j0.1;rw[j0.2]at this;exact this
def reC(R:Nat)(z:Q1)(k:Nat):Bool:=decide (0<=z.2.getD k 0-bs R)
def re0(R H:Nat)(q:List Q1):Mat:=cdI (reC R) laX (laY R) q (sqF H)
def reF(R H:Nat)(q:List Q1):Mat:=Q49 (re0 R H q)
theorem v1u(hT:Q1b ps R H):Sq H (reF R H (Q0e R ps))/\∀a b:Nat,atM (reF R H (Q0e R ps)) a b=true↔TC (Rc ps) a b:=by
  have j0:Sq H (re0 R H (Q0e R ps))/\relM (re0 R H (Q0e R ps))=Rc ps:=by
    obtain⟨c1,c2⟩:=y7q (n:=H) (c:=reC R) (x:=laX) (y:=laY R) (Q0e R ps) (sqF H) (y1k _) (by
      intro z hz;unfold Q0e at hz;rw[qBp]at hz;obtain⟨p,hp,rfl⟩:=hz;have h1:=hT.hd p hp;refine⟨by unfold laX;dsimp only;omega,fun k hk _=>?_⟩;have j1:k<p.syms.length:=by simpa using hk
      unfold laY;rw[y7i p j1];have:=z6u hT hp (qG j1);unfold bs;omega)
    refine⟨c1,?_⟩;funext i j;apply propext;unfold relM re0;rw[c2,x4v];have j2:=y2g (ps:=ps) (R:=R) (fun p a s b=>0<=Q0u R s-bs R/\i.toNat=p.head.toNat/\j.toNat=(Q0u R s-bs R).toNat) (C:=fun z k=>reC R z k=true/\i.toNat=laX z/\j.toNat=laY R z k) (fun p hp k hk=>by
      unfold reC laX laY;rw[y7i p hk,qAm])
    constructor
    · rintro⟨h0,h1,h|h⟩
      · cases h
      obtain⟨p,hp,a,s,b,e,e0,e1,e2⟩:=j2.1 h;have g1:=hT.hd p hp;have hs:s∈p.syms:=by rw[e];simp
      have hb:=(z6b hT hp hs).1 e0;have g3:=z1p (R:=R) hb;unfold bs at e0 e2;exact⟨p,hp,by omega,s,hs,hb,by omega⟩
    rintro⟨p,hp,e1,s,hs,hb,e2⟩;have g1:=hT.hd p hp;have e0:=(z6b hT hp hs).2 hb;have g3:=z1p (R:=R) hb;have hv:=hT.sy p hp s hs;obtain⟨a,b,e⟩:=qDw hs;exact⟨by omega,by omega,.inr (j2.2 ⟨p,hp,a,s,b,e,e0,by rw[e1],by unfold bs;omega⟩)⟩
  have:=z8k j0.1;rw[j0.2]at this;exact this
def nxC(R:Nat)(head:Int)(z:Q1)(k:Nat):Bool:=z.2.getD k 0==bs R+head
def nxG(R H:Nat)(null:List Bool)(q:List Q1)(z:Q1)(k:Nat):List Bool:=fiF R H null q (z.2.drop (k+1))
def nxF(R H:Nat)(null:List Bool)(q:List Q1)(head:Int):List Bool:=orQ (R+1) (nxC R head) (nxG R H null q) q ((List.replicate (R+1) false).set R (head==0))
theorem x93(hT:Q1b ps R H)(hn:Q63 ps H null){h:Int}(hh:0<=h):(nxF R H null (Q0e R ps) h).length=R+1/\∀t,t<R+1->((nxF R H null (Q0e R ps) h).getD t false=true↔Nx ps R (NS ps H) (fun X t=>FS ps (NS ps H) t H X) h t):=by
  obtain⟨q1,q2⟩:=x3v (n:=R+1) (c:=nxC R h) (g:=nxG R H null (Q0e R ps)) (Q0e R ps) ((List.replicate (R+1) false).set R (h==0)) (by simp);refine⟨q1,fun t ht=>?_⟩;unfold nxF;rw[q2 t ht,z16 _ _ _ _ _ (by simp)];have j0:=y2g (ps:=ps) (R:=R) (fun p a s b=>Q0u R s=bs R+h/\Q3s (NS ps H) (fun X=>FS ps (NS ps H) t H X) t b=true) (C:=fun z k=>nxC R h z k=true/\(nxG R H null (Q0e R ps) z k).getD t false=true) (fun p hp k hk=>by
    unfold nxC nxG;rw[x8z,y7i p hk,qAx,(v1a hT hn (x1v hT hp (k+1))).2])
  rw[j0];unfold Nx;refine or_congr ?_ ?_
  · by_cases e:t=R
    · rw[qAb e,qAx];exact⟨fun q=>⟨q,e⟩,fun q=>q.1⟩
    rw[qAa e];refine⟨fun q=>?_,fun q=>absurd q.2 e⟩;rw[qD]at q;simp[ht]at q
  constructor
  · rintro⟨p,hp,a,s,b,e,e1,e2⟩
    have hs:s∈p.syms:=by rw[e];simp
    have hb:=(z6b hT hp hs).1 (by omega);have g3:=z1p (R:=R) hb;unfold bs at e1;exact⟨p,hp,a,s,b,e,hb,by omega,e2⟩
  rintro⟨p,hp,a,s,b,e,hb,e1,e2⟩;have g3:=z1p (R:=R) hb;exact⟨p,hp,a,s,b,e,by unfold bs;omega,e2⟩
def foF(R H:Nat)(null:List Bool)(q:List Q1)(head:Nat):List Bool:=orJ (R+1) (fun h=>atM (laF R H null q) h head) (fun h=>nxF R H null q h) H 0 (nxF R H null q head)
theorem v2a(hT:Q1b ps R H)(hn:Q63 ps H null)(h:Nat):(foF R H null (Q0e R ps) h).length=R+1/\∀t,t<R+1->((foF R H null (Q0e R ps) h).getD t false=true↔Fo ps R (NS ps H) (fun X t=>FS ps (NS ps H) t H X) h t):=by
  obtain⟨n1,n2⟩:=x93 hT hn (h:=(h:Int)) (by omega);obtain⟨q1,q2⟩:=y8m (n:=R+1) (c:=fun k=>atM (laF R H null (Q0e R ps)) k h) (g:=fun k=>nxF R H null (Q0e R ps) k) H 0 (nxF R H null (Q0e R ps) h) n1;refine⟨q1,fun t ht=>?_⟩;unfold foF;rw[q2 t ht,n2 t ht];unfold Fo;refine or_congr Iff.rfl ?_;have la:=v1h hT hn;constructor
  · rintro⟨k,_,_,h1,h2⟩
    exact⟨k,(la.2 k h).1 h1,((x93 hT hn (h:=(k:Int)) (by omega)).2 t ht).1 h2⟩
  rintro⟨k,h1,h2⟩;have hk:∃m:Nat,k=m:=by
    obtain⟨n,hp⟩:=h1;have:∃p∈ps,p.head=k:=by
      cases n with
      |zero=>obtain⟨p,hp,e,_⟩:=hp;exact⟨p,hp,e⟩
      |succ n=>obtain⟨_,⟨p,hp,e,_⟩,_⟩:=hp;exact⟨p,hp,e⟩
    obtain⟨p,hp,e⟩:=this;have:=hT.hd p hp;exact⟨k.toNat,by omega⟩
  obtain⟨m,rfl⟩:=hk;have j0:=(la.2 m h).2 h1;have:=la.1.atM_lt j0;exact⟨m,by omega,by omega,j0,((x93 hT hn (h:=(m:Int)) (by omega)).2 t ht).2 h2⟩
end
structure Q8i(u:ByteArray)(x:Int)(m:Nat):Prop where
  pos:1<=m
  le:m<=8
  first:Q0l (atB u x)=true∨Q1a (atB u x)=true
  rest:∀k:Nat,1<=k->k<m->Q0l (atB u (x+k))=true
  stop:Q0l (atB u (x+m))=false
theorem y5c{c:Int}(h:Q1a c=true):Q0l c=false:=by
  unfold Q1a at h;unfold Q0l;rw[qAc,qAm,qAm]at h;rw[Bool.and_eq_false_iff,qBr,qBr];omega
theorem y1o(s:ByteArray):∀(f:Nat) (x:Int),(s.size:Int)+1<=f+x->(∀k:Nat,k<Q6i s f x->Q0l (atB s (x+k))=true)/\Q0l (atB s (x+Q6i s f x))=false
  |0,x,h=>by
    refine⟨fun k hk=>by simp[Q6i]at hk,?_⟩;rw[z18 (by simp[Q6i];omega)];decide
  |f+1,x,h=>by
    rw[y7e];by_cases c:Q0l (atB s x)=true
    · rw[qAb c]
      obtain⟨h1,h2⟩:=y1o s f (x+1) (by omega);refine⟨fun k hk=>?_,?_⟩
      · cases k with
        |zero=>simpa using c
        |succ k =>
          have:=h1 k (by omega);rw[show x+((k+1:Nat):Int)=x+1+k by omega];exact this
      rw[show x+((Q6i s f (x+1)+1:Nat):Int)=x+1+Q6i s f (x+1) by omega];exact h2
    rw[qAa c];refine⟨fun k hk=>by omega,by simpa using c⟩
theorem z5a(s:ByteArray){x:Int}(h0:0<=x):(∀k:Nat,k<Q37 s x->Q0l (atB s (x+k))=true)/\Q0l (atB s (x+Q37 s x))=false:=y1o s _ x (by omega)
theorem y27{s:ByteArray}{x:Int}{m:Nat}(h0:0<=x)(h:∀k:Nat,k<m->Q0l (atB s (x+k))=true)(hs:Q0l (atB s (x+m))=false):Q37 s x=m:=by
  obtain⟨h1,h2⟩:=z5a s h0;rcases Nat.lt_trichotomy (Q37 s x) m with q|q|q
  · rw[h _ q]at h2;cases h2
  · exact q
  rw[h1 m q]at hs;cases hs
theorem y0d{u:ByteArray}{x:Int}(h0:0<=x)(h:0<=Q5k u x):∃m,Q8i u x m/\Q5k u x=x+m:=by
  unfold Q5k at h ⊢;by_cases c0:(u.size:Int)<=x
  · rw[qAb c0]at h;omega
  rw[qAa c0]at h ⊢;by_cases c1:Q1a (atB u x)=true
  · rw[qAb c1]at h ⊢
    obtain⟨h1,h2⟩:=z5a u (x:=x+1) (by omega);by_cases c2:8<1+(Q37 u (x+1):Int)
    · rw[qAb c2]at h;omega
    rw[qAa c2];refine⟨Q37 u (x+1)+1,⟨by omega,by omega,.inr c1,fun k k1 k2=>?_,?_⟩,by omega⟩
    · have:=h1 (k-1) (by omega)
      rw[show x+(k:Int)=x+1+((k-1:Nat):Int) by omega];exact this
    rw[show x+((Q37 u (x+1)+1:Nat):Int)=x+1+Q37 u (x+1) by omega];exact h2
  rw[qAa c1]at h ⊢;obtain⟨h1,h2⟩:=z5a u (x:=x) h0;by_cases c2:(Q37 u x:Int)=0∨8<(Q37 u x:Int)
  · rw[qAb c2]at h;omega
  rw[qAa c2];refine⟨Q37 u x,⟨by omega,by omega,.inl ?_,fun k k1 k2=>h1 k k2,h2⟩,rfl⟩;have:=h1 0 (by omega);simpa using this
theorem x5j{u:ByteArray}{x:Int}{m:Nat}(h0:0<=x)(h:Q8i u x m):Q5k u x=x+m:=by
  have hp:=h.pos;have hl:=h.le;have j0:¬(u.size:Int)<=x:=fun q=>by
    have e:=z18 (p:=u) (i:=x) q;have:=h.first;rw[e]at this;revert this;decide
  unfold Q5k;rw[qAa j0];by_cases c1:Q1a (atB u x)=true
  · have e:Q37 u (x+1)=m-1:=y27 (by omega) (fun k hk=>by
      have:=h.rest (k+1) (by omega) (by omega);rw[show x+1+(k:Int)=x+((k+1:Nat):Int) by omega];exact this) (by
      rw[show x+1+((m-1:Nat):Int)=x+m by omega];exact h.stop)
    rw[qAb c1,e,qAa (by omega)];omega
  have c2:Q0l (atB u x)=true:=by
    rcases h.first with q|q
    · exact q
    exact absurd q c1
  have e:Q37 u x=m:=y27 h0 (fun k hk=>by
    by_cases k0:k=0
    · subst k0;simpa using c2
    exact h.rest k (by omega) hk) h.stop
  rw[qAa c1,e,qAa (by omega)]
theorem z9p(s:ByteArray)(i:Int):∀(f n:Nat) (ls:List Int),n<=8->9<=f+n->(Q2h s i f n ls).2=i+8∨Q0l (atB s (Q2h s i f n ls).2)=false
  |0,n,ls,h1,h2=>by omega
  |f+1,n,ls,h1,h2=>by
    unfold Q2h;split
    · split
      · exact z9p s i f (n+1) _ (by omega) (by omega)
      right;rename_i q;simpa using q
    left;rfl
theorem x0e{s:ByteArray}{i:Int}(h:(Q06 s i).2.2=true):(Q06 s i).2.1=i+8∨Q0l (atB s (Q06 s i).2.1)=false:=by
  unfold Q06 at h ⊢;split
  · rename_i e;rw[qAb e]at h;cases h
  exact z9p s i 9 1 _ (by omega) (by omega)
theorem y2k{s:ByteArray}{i:Int}{m:Nat}(h:Q8i s i m):(Q06 s i).2.2=true/\(Q06 s i).2.1=i+m/\WordAt s i m (Q06 s i).1:=by
  have j0:(Q06 s i).2.2=true:=by
    unfold Q06;have:(!Q0l (atB s i)&&!Q1a (atB s i))=false:=by
      rcases h.first with q|q<;>rw[q]<;>simp
    rw[qAa (by rw[this];simp)]
  obtain⟨n,hw,hn⟩:=z8a s i j0;have hp:=hw.pos;have hl:=hw.le;have j2:=h.pos;have j1:=h.le;have e:n=m:=by
    rcases Nat.lt_trichotomy n m with q|q|q
    · rcases x0e j0 with z|z
      · omega
      rw[hn,h.rest n (by omega) q]at z;cases z
    · exact q
    have z:=h.stop;rw[hw.rest m (by omega) q]at z;cases z
  subst e;exact⟨j0,hn,hw⟩
theorem WordAt.wordy{s:ByteArray}{i:Int}{m:Nat}{d:Wd}(h:WordAt s i m d)(hs:Q0l (atB s (i+m))=false):Q8i s i m:=⟨h.pos,h.le,h.first,h.rest,hs⟩
theorem z02{s:ByteArray}{a e:Nat}(he:e<=s.size){k:Int}(h0:0<=k)(hk:a+k<e):atB (s.extract a e) k=atB s (a+k):=by
  obtain⟨n,rfl⟩:∃n:Nat,k=n:=⟨k.toNat,by omega⟩;exact z3u s a e n he (by omega)
theorem z10{s:ByteArray}{a e:Nat}(he:e<=s.size):(s.extract a e).size=e-a:=by rw[qAz];omega
section
variable {s:ByteArray}{a e:Nat}
theorem y89(he:e<s.size)(h10:atB s (e:Nat)=10){x:Int}{m:Nat}(h0:0<=x)(h:Q8i (s.extract a e) x m):Q8i s (a+x) m/\a+x+m<=e:=by
  have hp:=h.pos;have j2:=z10 (s:=s) (a:=a) (e:=e) (by omega);have j0:∀k:Nat,k<m->a+x+k<e:=fun k hk=>by
    have hc:atB (s.extract a e) (x+k)≠-1:=by
      by_cases k0:k=0
      · subst k0
        intro q;have:=h.first;simp only[qDj,qCs]at q;rw[q]at this;revert this;decide
      exact y2s (h.rest k (by omega) hk)
    have:=z0q hc;omega
  have hb:∀k:Nat,k<m->atB (s.extract a e) (x+k)=atB s (a+x+k):=fun k hk=>by
    rw[z02 (by omega) (by omega) (by have:=j0 k hk;omega),Int.add_assoc]
  have j1:=j0 (m-1) (by omega);refine⟨⟨h.pos,h.le,?_,fun k k1 k2=>?_,?_⟩,by omega⟩
  · have:=hb 0 (by omega)
    simp only[qDj,qCs]at this;rw[← this];exact h.first
  · rw[← hb k k2];exact h.rest k k1 k2
  by_cases q:a+x+m<e
  · have:=h.stop
    rw[z02 (by omega) (by omega) (by omega)]at this;rw[Int.add_assoc];exact this
  rw[show(a:Int)+x+m=(e:Nat) by omega,h10];decide
theorem y1l(he:e<s.size)(h10:atB s (e:Nat)=10){x:Int}{m:Nat}(h0:0<=x)(h:Q8i s (a+x) m)(hm:a+x+m<=e):Q8i (s.extract a e) x m:=by
  have hp:=h.pos;have j0:=z10 (s:=s) (a:=a) (e:=e) (by omega);have hb:∀k:Nat,k<m->atB (s.extract a e) (x+k)=atB s (a+x+k):=fun k hk=>by
    rw[z02 (by omega) (by omega) (by omega),Int.add_assoc]
  refine⟨h.pos,h.le,?_,fun k k1 k2=>?_,?_⟩
  · have:=hb 0 (by omega)
    simp only[qDj,qCs]at this;rw[this];exact h.first
  · rw[hb k k2];exact h.rest k k1 k2
  by_cases q:a+x+m<e
  · rw[z02 (by omega) (by omega) (by omega),← Int.add_assoc];exact h.stop
  rw[z18 (by omega)];decide
end
theorem y1w(s:ByteArray)(a e b c:Nat)(he:e<=s.size)(hc:a+c<=e):(s.extract a e).extract b c=s.extract (a+b) (a+c):=by
  apply qEb;simp only[qDi,qDx];have:s.size=s.data.size:=rfl;congr 1;omega
end Go.Proofs.YtcpceafmlgaodaaGreat
