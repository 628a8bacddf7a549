import Derived.Test.YtbdpfmalabgmbaaGreatRm2
namespace Go.Proofs.YtbdpfmalabgmbaaGreat
open Go.RowKit
set_option linter.all false
def cdJ(c:Nat->Bool)(x:Nat)(y:Nat->Nat):Nat->Nat->Mat->Mat
  |0,_,M=>M
  |f+1,j,M=>cdJ c x y f (j+1) (if c j=true then Q72 M x (y j) true else M)
def cdI(c:Q1->Nat->Bool)(x:Q1->Nat)(y:Q1->Nat->Nat):List Q1->Mat->Mat
  | [],M=>M
  |z::r,M=>cdI c x y r (cdJ (c z) (x z) (y z) z.2.length 0 M)
def sqF(n:Nat):Mat:=List.replicate n (List.replicate n false)
theorem y12(n:Nat):Sq n (sqF n):=⟨by simp[sqF],fun i hi=>by rw[qD];simp[sqF,hi]⟩
theorem x5c(n i j:Nat):atM (sqF n) i j=false:=by
  unfold atM sqF;rw[qD,qD];by_cases hi:i<n
  · by_cases hj:j<n
    · simp[hi,hj]
    simp[hi,hj]
  simp[hi]
section
variable {n:Nat}
theorem x8s{c:Nat->Bool}{x:Nat}{y:Nat->Nat}(hx:x<n):∀(f j:Nat) (M:Mat),Sq n M->(∀k,j<=k->k<j+f->c k=true->y k<n) ->
    Sq n (cdJ c x y f j M)/\∀a b,atM (cdJ c x y f j M) a b=true↔atM M a b=true∨∃k,j<=k/\k<j+f/\c k=true/\a=x/\b=y k
  |0,j,M,hs,hy=>⟨hs,fun a b=>⟨.inl,fun h=>by
      rcases h with h|⟨k,h1,h2,_⟩
      · exact h
      omega⟩⟩
  |f+1,j,M,hs,hy=>by
    unfold cdJ;have hs':Sq n (if c j=true then Q72 M x (y j) true else M):=by
      split
      · exact y0b hs hx _
      exact hs
    obtain⟨r1,r2⟩:=x8s hx f (j+1) _ hs' (fun k h1 h2 h3=>hy k (by omega) (by omega) h3);refine⟨r1,fun a b=>?_⟩;rw[r2];by_cases hc:c j=true
    · rw[qAb hc,x45 hs hx (hy j (by omega) (by omega) hc)]
      constructor
      · rintro(h|⟨k,h1,h2,h3⟩)
        · split at h
          · rename_i q;exact .inr ⟨j,by omega,by omega,hc,q⟩
          exact .inl h
        exact .inr ⟨k,by omega,by omega,h3⟩
      rintro(h|⟨k,h1,h2,h3,h4⟩)
      · left;split
        · rfl
        exact h
      by_cases e:k=j
      · subst e;left;rw[qAb h4]
      exact .inr ⟨k,by omega,by omega,h3,h4⟩
    rw[qAa hc];constructor
    · rintro(h|⟨k,h1,h2,h3⟩)
      · exact .inl h
      exact .inr ⟨k,by omega,by omega,h3⟩
    rintro(h|⟨k,h1,h2,h3,h4⟩)
    · exact .inl h
    by_cases e:k=j
    · subst e;exact absurd h3 hc
    exact .inr ⟨k,by omega,by omega,h3,h4⟩
theorem y8a{c:Q1->Nat->Bool}{x:Q1->Nat}{y:Q1->Nat->Nat}:∀(q:List Q1) (M:Mat),Sq n M->(∀z∈q,x z<n/\∀k,k<z.2.length->c z k=true->y z k<n) ->
    Sq n (cdI c x y q M)/\∀a b,atM (cdI c x y q M) a b=true↔atM M a b=true∨∃z∈q,∃k,k<z.2.length/\c z k=true/\a=x z/\b=y z k
  | [],M,hs,hy=>⟨hs,fun a b=>⟨.inl,fun h=>by
      rcases h with h|⟨z,h1,_⟩
      · exact h
      cases h1⟩⟩
  |z::r,M,hs,hy=>by
    have hz:=hy z (by simp);obtain⟨q1,q2⟩:=x8s (c:=c z) (x:=x z) (y:=y z) hz.1 z.2.length 0 M hs (fun k h1 h2 h3=>hz.2 k (by omega) h3);obtain⟨r1,r2⟩:=y8a (c:=c) (x:=x) (y:=y) r _ q1 (fun w hw=>hy w (by simp[hw]));unfold cdI;refine⟨r1,fun a b=>?_⟩;rw[r2,q2];constructor
    · rintro((h|⟨k,h1,h2,h3⟩)|⟨w,hw,h⟩)
      · exact .inl h
      · exact .inr ⟨z,by simp,k,by omega,h3⟩
      exact .inr ⟨w,by simp[hw],h⟩
    rintro(h|⟨w,hw,k,h1,h2⟩)
    · exact .inl (.inl h)
    rw[qBu]at hw;rcases hw with rfl|hw
    · exact .inl (.inr ⟨k,by omega,by omega,h2⟩)
    exact .inr ⟨w,hw,k,h1,h2⟩
end
def orJ(n:Nat)(c:Nat->Bool)(g:Nat->List Bool):Nat->Nat->List Bool->List Bool
  |0,_,out=>out
  |f+1,j,out=>orJ n c g f (j+1) (if c j=true then orI out (g j) n n else out)
theorem z9y{xs ys:List Bool}{n t:Nat}(ht:t<n):(orI xs ys n n).getD t false=(xs.getD t false||ys.getD t false):=by simp[orI,ht]
theorem y89{n:Nat}{c:Nat->Bool}{g:Nat->List Bool}:∀(f j:Nat) (out:List Bool),out.length=n ->
    (orJ n c g f j out).length=n/\∀t,t<n->((orJ n c g f j out).getD t false=true↔out.getD t false=true∨∃k,j<=k/\k<j+f/\c k=true/\(g k).getD t false=true)
  |0,j,out,hl=>⟨hl,fun t ht=>⟨.inl,fun h=>by
      rcases h with h|⟨k,h1,h2,_⟩
      · exact h
      omega⟩⟩
  |f+1,j,out,hl=>by
    unfold orJ;obtain⟨r1,r2⟩:=y89 (n:=n) (c:=c) (g:=g) f (j+1) (if c j=true then orI out (g j) n n else out) (by split<;>first|exact z2s _ _ _ _|exact hl);refine⟨r1,fun t ht=>?_⟩;rw[r2 t ht];by_cases hc:c j=true
    · rw[qAb hc,z9y ht,qAt]
      constructor
      · rintro((h|h)|⟨k,h1,h2,h3⟩)
        · exact .inl h
        · exact .inr ⟨j,by omega,by omega,hc,h⟩
        exact .inr ⟨k,by omega,by omega,h3⟩
      rintro(h|⟨k,h1,h2,h3,h4⟩)
      · exact .inl (.inl h)
      by_cases e:k=j
      · subst e;exact .inl (.inr h4)
      exact .inr ⟨k,by omega,by omega,h3,h4⟩
    rw[qAa hc];constructor
    · rintro(h|⟨k,h1,h2,h3⟩)
      · exact .inl h
      exact .inr ⟨k,by omega,by omega,h3⟩
    rintro(h|⟨k,h1,h2,h3,h4⟩)
    · exact .inl h
    by_cases e:k=j
    · subst e;exact absurd h3 hc
    exact .inr ⟨k,by omega,by omega,h3,h4⟩
def orQ(n:Nat)(c:Q1->Nat->Bool)(g:Q1->Nat->List Bool):List Q1->List Bool->List Bool
  | [],out=>out
  |z::r,out=>orQ n c g r (orJ n (c z) (g z) z.2.length 0 out)
theorem x4e{n:Nat}{c:Q1->Nat->Bool}{g:Q1->Nat->List Bool}:∀(q:List Q1) (out:List Bool),out.length=n ->
    (orQ n c g q out).length=n/\∀t,t<n->((orQ n c g q out).getD t false=true↔out.getD t false=true∨∃z∈q,∃k,k<z.2.length/\c z k=true/\(g z k).getD t false=true)
  | [],out,hl=>⟨hl,fun t ht=>⟨.inl,fun h=>by
      rcases h with h|⟨k,h1,_⟩
      · exact h
      cases h1⟩⟩
  |z::r,out,hl=>by
    obtain⟨q1,q2⟩:=y89 (n:=n) (c:=c z) (g:=g z) z.2.length 0 out hl;obtain⟨r1,r2⟩:=x4e (n:=n) (c:=c) (g:=g) r _ q1;unfold orQ;refine⟨r1,fun t ht=>?_⟩;rw[r2 t ht,q2 t ht];constructor
    · rintro((h|⟨k,h1,h2,h3⟩)|⟨w,hw,h⟩)
      · exact .inl h
      · exact .inr ⟨z,by simp,k,by omega,h3⟩
      exact .inr ⟨w,by simp[hw],h⟩
    rintro(h|⟨w,hw,k,h1,h2⟩)
    · exact .inl (.inl h)
    rw[qBu]at hw;rcases hw with rfl|hw
    · exact .inl (.inr ⟨k,by omega,by omega,h2⟩)
    exact .inr ⟨w,hw,k,h1,h2⟩
def fiT(L:Mat)(c:Int):Nat->Nat->List Bool->List Bool
  |0,_,out=>out
  |f+1,t,out=>fiT L c f (t+1) (out.set t ((out.getD t false||c==(t:Int))||atM L c.toNat t))
def fiI(base:Int)(null:List Bool)(L:Mat)(R:Nat)(l:List Int):Nat->Nat->List Bool->List Bool
  |0,_,out=>out
  |f+1,i,out=>fiI base null L R l f (i+1) (if Q4b base null (l.take i)=true then fiT L (l.getD i 0) R 0 out else out)
def firF(base:Int)(null:List Bool)(L:Mat)(R:Nat)(l:List Int):List Bool:=fiI base null L R l l.length 0 (List.replicate (R+1) false)
theorem x8v{L:Mat}{c:Int}:∀(f t:Nat) (out:List Bool),t+f<=out.length->(fiT L c f t out).length=out.length/\∀u,((fiT L c f t out).getD u false=true↔out.getD u false=true∨(t<=u/\u<t+f/\(c=u∨atM L c.toNat u=true)))
  |0,t,out,h=>⟨rfl,fun u=>⟨.inl,fun q=>by
      rcases q with q|⟨h1,h2,_⟩
      · exact q
      omega⟩⟩
  |f+1,t,out,h=>by
    unfold fiT;obtain⟨r1,r2⟩:=x8v (L:=L) (c:=c) f (t+1) (out.set t ((out.getD t false||c==(t:Int))||atM L c.toNat t)) (by rw[qBr];omega);refine⟨by rw[r1,qBr],fun u=>?_⟩;rw[r2,z2a _ _ _ _ _ (by omega)];by_cases e:u=t
    · subst e
      rw[qAb rfl,qAt,qAt,qBi];constructor
      · rintro(((h1|h1)|h1)|h1)
        · exact .inl h1
        · exact .inr ⟨by omega,by omega,.inl h1⟩
        · exact .inr ⟨by omega,by omega,.inr h1⟩
        omega
      rintro(h1|⟨_,_,h1|h1⟩)
      · exact .inl (.inl (.inl h1))
      · exact .inl (.inl (.inr h1))
      exact .inl (.inr h1)
    rw[qAa e];constructor
    · rintro(h1|⟨h1,h2,h3⟩)
      · exact .inl h1
      exact .inr ⟨by omega,by omega,h3⟩
    rintro(h1|⟨h1,h2,h3⟩)
    · exact .inl h1
    exact .inr ⟨by omega,by omega,h3⟩
theorem x8u{base:Int}{null:List Bool}{L:Mat}{R:Nat}{l:List Int}:∀(f i:Nat) (out:List Bool),out.length=R+1->(fiI base null L R l f i out).length=R+1 /\
    ∀u,((fiI base null L R l f i out).getD u false=true↔out.getD u false=true∨(u<R/\∃k,i<=k/\k<i+f/\Q4b base null (l.take k)=true/\(l.getD k 0=u∨atM L (l.getD k 0).toNat u=true)))
  |0,i,out,h=>⟨h,fun u=>⟨.inl,fun q=>by
      rcases q with q|⟨_,k,h1,h2,_⟩
      · exact q
      omega⟩⟩
  |f+1,i,out,h=>by
    unfold fiI;obtain⟨t1,t2⟩:=x8v (L:=L) (c:=l.getD i 0) R 0 out (by omega);obtain⟨r1,r2⟩:=x8u (base:=base) (null:=null) (L:=L) (R:=R) (l:=l) f (i+1) (if Q4b base null (l.take i)=true then fiT L (l.getD i 0) R 0 out else out) (by split<;>first|(rw[t1];exact h)|exact h);refine⟨r1,fun u=>?_⟩;rw[r2];by_cases hc:Q4b base null (l.take i)=true
    · rw[qAb hc,t2]
      constructor
      · rintro((h1|⟨h1,h2,h3⟩)|⟨h0,k,h1,h2,h3⟩)
        · exact .inl h1
        · exact .inr ⟨by omega,i,by omega,by omega,hc,h3⟩
        exact .inr ⟨h0,k,by omega,by omega,h3⟩
      rintro(h1|⟨h0,k,h1,h2,h3,h4⟩)
      · exact .inl (.inl h1)
      by_cases e:k=i
      · subst e;exact .inl (.inr ⟨by omega,by omega,h4⟩)
      exact .inr ⟨h0,k,by omega,by omega,h3,h4⟩
    rw[qAa hc];constructor
    · rintro(h1|⟨h0,k,h1,h2,h3⟩)
      · exact .inl h1
      exact .inr ⟨h0,k,by omega,by omega,h3⟩
    rintro(h1|⟨h0,k,h1,h2,h3,h4⟩)
    · exact .inl h1
    by_cases e:k=i
    · subst e;exact absurd h3 hc
    exact .inr ⟨h0,k,by omega,by omega,h3,h4⟩
theorem y2a{α:Type}{P:List α->α->List α->Prop}(l:List α):(∃k,∃h:k<l.length,P (l.take k) l[k] (l.drop (k+1)))↔∃a s b,l=a++s::b/\P a s b:=by
  constructor
  · rintro⟨k,h,hp⟩
    refine⟨l.take k,l[k],l.drop (k+1),?_,hp⟩;rw[← qC h,qFb]
  rintro⟨a,s,b,e,hp⟩;have hl:a.length<l.length:=by rw[e];simp
  refine⟨a.length,hl,?_⟩;have e1:l.take a.length=a:=by rw[e];simp
  have e2:l[a.length]=s:=by
    have:l[a.length]? = some s:=by rw[e];simp
    rw[qE hl]at this;injection this
  have e3:l.drop (a.length+1)=b:=by rw[e];simp
  rw[e1,e2,e3];exact hp
theorem y8n{α β:Type}(f:α->β)(l:List α)(k:Nat)(d:β)(h:k<l.length):(l.map f).getD k d=f l[k]:=by
  rw[qD,qBt,qE h];rfl
section
variable {ps:List Pr}{R H:Nat}{null:List Bool}
def bs(R:Nat):Int:=(R:Int)+1
theorem y2y(P:Pr->List Sy->Sy->List Sy->Prop){C:Q1->Nat->Prop}(hC:∀p∈ps,∀(k:Nat) (h:k<p.syms.length),C (p.head,p.syms.map (Q0w R)) k↔P p (p.syms.take k) p.syms[k] (p.syms.drop (k+1))) :
    (∃z∈Q0e R ps,∃k,k<z.2.length/\C z k)↔∃p∈ps,∃a s b,p.syms=a++s::b/\P p a s b:=by
  constructor
  · rintro⟨z,hz,k,hk,hc⟩
    unfold Q0e at hz;rw[qBj]at hz;obtain⟨p,hp,rfl⟩:=hz;have j0:k<p.syms.length:=by simpa using hk
    exact⟨p,hp,(y2a (P:=P p) p.syms).1 ⟨k,j0,(hC p hp k j0).1 hc⟩⟩
  rintro⟨p,hp,h⟩;obtain⟨k,hk,hc⟩:=(y2a (P:=P p) p.syms).2 h;exact⟨(p.head,p.syms.map (Q0w R)),by unfold Q0e;exact qBj.2 ⟨p,hp,rfl⟩,k,by simpa using hk,(hC p hp k hk).2 hc⟩
theorem z63(hT:Q1d ps R H){p:Pr}(hp:p∈ps){s:Sy}(hs:s∈p.syms):0<=Q0w R s/\Q0w R s<(R:Int)+1+H:=by
  have hv:=hT.sy p hp s hs;cases hb:s.isH
  · rw[hb,qAa (by simp)]at hv
    rw[z35 hb];omega
  rw[hb,qAb rfl]at hv;have:=z1r (R:=R) hb;omega
theorem v23(p:Pr)(k:Nat):((p.head,p.syms.map (Q0w R)):Q1).2.take k=(p.syms.take k).map (Q0w R):=(List.map_take).symm
theorem x9m(p:Pr)(k:Nat):((p.head,p.syms.map (Q0w R)):Q1).2.drop k=(p.syms.drop k).map (Q0w R):=(List.map_drop).symm
theorem y7z(p:Pr){k:Nat}(h:k<p.syms.length):((p.head,p.syms.map (Q0w R)):Q1).2.getD k 0=Q0w R p.syms[k]:=y8n _ _ _ _ h
theorem v1r(hT:Q1d ps R H){p:Pr}(hp:p∈ps)(k:Nat):∀s∈p.syms.take k,0<=s.num/\s.num<(if s.isH then(H:Int) else R):=fun s hs=>hT.sy p hp s (qFl hs)
theorem x2m(hT:Q1d ps R H){p:Pr}(hp:p∈ps)(k:Nat):∀s∈p.syms.drop k,0<=s.num/\s.num<(if s.isH then(H:Int) else R):=fun s hs=>hT.sy p hp s (List.mem_of_mem_drop hs)
def ldZc(R:Nat)(null:List Bool)(z:Q1)(k:Nat):Bool:=Q4b (bs R) null (z.2.take k)
def ldX(R:Nat)(z:Q1):Nat:=(bs R+z.1).toNat
def W0d(z:Q1)(k:Nat):Nat:=(z.2.getD k 0).toNat
def ld0(R H:Nat)(null:List Bool)(q:List Q1):Mat:=cdI (ldZc R null) (ldX R) W0d q (sqF (R+1+H))
def ldF(R H:Nat)(null:List Bool)(q:List Q1):Mat:=Q5j (ld0 R H null q)
theorem v2c(hT:Q1d ps R H)(hn:Q7g ps H null):Sq (R+1+H) (ld0 R H null (Q0e R ps))/\relM (ld0 R H null (Q0e R ps))=Ld ps R (NS ps H):=by
  obtain⟨c1,c2⟩:=y8a (n:=R+1+H) (c:=ldZc R null) (x:=ldX R) (y:=W0d) (Q0e R ps) (sqF (R+1+H)) (y12 _) (by
    intro z hz;unfold Q0e at hz;rw[qBj]at hz;obtain⟨p,hp,rfl⟩:=hz;have h1:=hT.hd p hp;refine⟨by unfold ldX bs;dsimp only;omega,fun k hk _=>?_⟩;have j0:k<p.syms.length:=by simpa using hk
    unfold W0d;rw[y7z p j0];have:=z63 hT hp (qG j0);omega)
  refine⟨c1,?_⟩;funext i j;apply propext;unfold relM ld0;rw[c2,x5c];have j1:=y2y (ps:=ps) (R:=R) (fun p a s b=>a.all (Q4c (NS ps H))=true/\i.toNat=(bs R+p.head).toNat/\j.toNat=(Q0w R s).toNat) (C:=fun z k=>ldZc R null z k=true/\i.toNat=ldX R z/\j.toNat=W0d z k) (fun p hp k hk=>by
    unfold ldZc ldX W0d;rw[v23,y7z p hk];unfold bs;rw[y2u hn (v1r hT hp k)])
  constructor
  · rintro⟨h0,h1,h|h⟩
    · cases h
    obtain⟨p,hp,a,s,b,e,ha,e1,e2⟩:=j1.1 h;have g1:=hT.hd p hp;have g2:=z63 hT hp (s:=s) (by rw[e];simp);unfold bs at e1;exact⟨p,hp,by omega,a,s,b,e,ha,by omega⟩
  rintro⟨p,hp,e1,a,s,b,e,ha,e2⟩;have g1:=hT.hd p hp;have g2:=z63 hT hp (s:=s) (by rw[e];simp);exact⟨by omega,by omega,.inr (j1.2 ⟨p,hp,a,s,b,e,ha,by unfold bs;omega,by omega⟩)⟩
theorem v2d(hT:Q1d ps R H)(hn:Q7g ps H null):Sq (R+1+H) (ldF R H null (Q0e R ps))/\∀c t:Nat,atM (ldF R H null (Q0e R ps)) c t=true↔TC (Ld ps R (NS ps H)) c t:=by
  obtain⟨h1,h2⟩:=v2c hT hn;have:=z8v h1;rw[h2]at this;exact this
theorem v16(hT:Q1d ps R H){N:Int->Bool}{t:Nat}:∀(n:Nat) (X:Int),FS ps N t n X=true->t<R
  |0,X,h=>by cases h
  |n+1,X,h=>by
    unfold FS at h;rw[qBb]at h;obtain⟨p,hp,h⟩:=h;rw[qAd]at h;obtain⟨a,s,b,e,ha,hs⟩:=z1s h.2;have hv:=hT.sy p hp s (by rw[e];simp);cases hb:s.isH
    · rw[hb,qAa (by simp)]at hv
      rw[hb,qAa (by simp),qBi]at hs;omega
    rw[hb,qAb rfl]at hs;exact v16 hT n _ hs
theorem v1x(hT:Q1d ps R H){N:Int->Bool}{t:Nat}{l:List Sy}(hv:∀s∈l,0<=s.num/\s.num<(if s.isH then(H:Int) else R))(h:Q3y N (fun X=>FS ps N t H X) t l=true):t<R:=by
  obtain⟨a,s,b,e,ha,hs⟩:=z1s h;have j0:=hv s (by rw[e];simp);cases hb:s.isH
  · rw[hb,qAa (by simp)]at j0
    rw[hb,qAa (by simp),qBi]at hs;omega
  rw[hb,qAb rfl]at hs;exact v16 hT H _ hs
def fiF(R H:Nat)(null:List Bool)(q:List Q1)(l:List Int):List Bool:=firF (bs R) null (ldF R H null q) R l
theorem v14(hT:Q1d ps R H)(hn:Q7g ps H null){l:List Sy}(hv:∀s∈l,0<=s.num/\s.num<(if s.isH then(H:Int) else R)) :
    (fiF R H null (Q0e R ps) (l.map (Q0w R))).length=R+1/\∀u,(fiF R H null (Q0e R ps) (l.map (Q0w R))).getD u false=Q3y (NS ps H) (fun X=>FS ps (NS ps H) u H X) u l:=by
  obtain⟨f1,f2⟩:=x8u (base:=bs R) (null:=null) (L:=ldF R H null (Q0e R ps)) (R:=R) (l:=l.map (Q0w R)) (l.map (Q0w R)).length 0 (List.replicate (R+1) false) (by simp);refine⟨f1,fun u=>?_⟩;unfold fiF firF;rw[qBc,f2];have hz:¬(List.replicate (R+1) false).getD u false=true:=by
    rw[qD];by_cases h:u<R+1
    · simp[h]
    simp[h]
  have hL:=(v2d hT hn).2;have j0:u<R->((∃k,0<=k/\k<0+(l.map (Q0w R)).length/\Q4b (bs R) null ((l.map (Q0w R)).take k)=true/\((l.map (Q0w R)).getD k 0=u∨atM (ldF R H null (Q0e R ps)) ((l.map (Q0w R)).getD k 0).toNat u=true))↔Q3y (NS ps H) (fun X=>FS ps (NS ps H) u H X) u l=true):=by
    intro hu;rw[x9y hT hu hv,← y2a (P:=fun a s b=>a.all (Q4c (NS ps H))=true/\(Q0w R s=u∨TC (Ld ps R (NS ps H)) (Q0w R s) u))];have each:∀(k:Nat) (h:k<l.length),(Q4b (bs R) null ((l.map (Q0w R)).take k)=true/\((l.map (Q0w R)).getD k 0=u∨atM (ldF R H null (Q0e R ps)) ((l.map (Q0w R)).getD k 0).toNat u=true))↔((l.take k).all (Q4c (NS ps H))=true/\(Q0w R l[k]=u∨TC (Ld ps R (NS ps H)) (Q0w R l[k]) u)):=fun k h=>by
      have j1:=hv l[k] (qG h);have j2:0<=Q0w R l[k]:=by
        cases hb:l[k].isH
        · rw[z35 hb];exact j1.1
        have:=z1r (R:=R) hb;omega
      rw[← List.map_take,y8n _ _ _ _ h,hL,show(((Q0w R l[k]).toNat:Nat):Int)=Q0w R l[k] by omega];unfold bs;rw[y2u hn (fun s hs=>hv s (qFl hs))]
    constructor
    · rintro⟨k,_,h1,h2⟩
      have h:k<l.length:=by simpa using h1
      exact⟨k,h,(each k h).1 h2⟩
    rintro⟨k,h,h2⟩;exact⟨k,by omega,by simpa using h,(each k h).2 h2⟩
  constructor
  · rintro(h|⟨hu,h⟩)
    · exact absurd h hz
    exact(j0 hu).1 h
  intro h;have hu:=v1x hT hv h;exact .inr ⟨hu,(j0 hu).2 h⟩
def laC(R:Nat)(null:List Bool)(z:Q1)(k:Nat):Bool:=decide (0<=z.2.getD k 0-bs R)&&Q4b (bs R) null (z.2.drop (k+1))
def laX(z:Q1):Nat:=z.1.toNat
def laY(R:Nat)(z:Q1)(k:Nat):Nat:=(z.2.getD k 0-bs R).toNat
def la0(R H:Nat)(null:List Bool)(q:List Q1):Mat:=cdI (laC R null) laX (laY R) q (sqF H)
def laF(R H:Nat)(null:List Bool)(q:List Q1):Mat:=Q5j (la0 R H null q)
theorem z6k(hT:Q1d ps R H){p:Pr}(hp:p∈ps){s:Sy}(hs:s∈p.syms):0<=Q0w R s-bs R↔s.isH=true:=by
  have hv:=hT.sy p hp s hs;unfold bs;cases hb:s.isH
  · rw[hb,qAa (by simp)]at hv
    rw[z35 hb];exact⟨fun h=>by omega,fun h=>by cases h⟩
  rw[z1r hb];exact⟨fun _=>rfl,fun _=>hv.1⟩
theorem v2b(hT:Q1d ps R H)(hn:Q7g ps H null):Sq H (laF R H null (Q0e R ps))/\∀a b:Nat,atM (laF R H null (Q0e R ps)) a b=true↔TC (Ls ps (NS ps H)) a b:=by
  have j0:Sq H (la0 R H null (Q0e R ps))/\relM (la0 R H null (Q0e R ps))=Ls ps (NS ps H):=by
    obtain⟨c1,c2⟩:=y8a (n:=H) (c:=laC R null) (x:=laX) (y:=laY R) (Q0e R ps) (sqF H) (y12 _) (by
      intro z hz;unfold Q0e at hz;rw[qBj]at hz;obtain⟨p,hp,rfl⟩:=hz;have h1:=hT.hd p hp;refine⟨by unfold laX;dsimp only;omega,fun k hk _=>?_⟩;have j1:k<p.syms.length:=by simpa using hk
      unfold laY;rw[y7z p j1];have:=z63 hT hp (qG j1);unfold bs;omega)
    refine⟨c1,?_⟩;funext i j;apply propext;unfold relM la0;rw[c2,x5c];have j2:=y2y (ps:=ps) (R:=R) (fun p a s b=>(0<=Q0w R s-bs R/\b.all (Q4c (NS ps H))=true)/\i.toNat=p.head.toNat/\j.toNat=(Q0w R s-bs R).toNat) (C:=fun z k=>laC R null z k=true/\i.toNat=laX z/\j.toNat=laY R z k) (fun p hp k hk=>by
      unfold laC laX laY;rw[x9m,y7z p hk,qAd,qAu];have:=y2u hn (x2m hT hp (k+1));unfold bs;rw[this])
    constructor
    · rintro⟨h0,h1,h|h⟩
      · cases h
      obtain⟨p,hp,a,s,b,e,⟨e0,ha⟩,e1,e2⟩:=j2.1 h;have g1:=hT.hd p hp;have hs:s∈p.syms:=by rw[e];simp
      have hb:=(z6k hT hp hs).1 e0;have g3:=z1r (R:=R) hb;unfold bs at e0 e2;exact⟨p,hp,by omega,a,s,b,e,hb,by omega,ha⟩
    rintro⟨p,hp,e1,a,s,b,e,hb,e2,ha⟩;have g1:=hT.hd p hp;have hs:s∈p.syms:=by rw[e];simp
    have e0:=(z6k hT hp hs).2 hb;have g3:=z1r (R:=R) hb;have hv:=hT.sy p hp s hs;exact⟨by omega,by omega,.inr (j2.2 ⟨p,hp,a,s,b,e,⟨e0,ha⟩,by rw[e1],by unfold bs;omega⟩)⟩
  have:=z8v j0.1;rw[j0.2]at this;exact this
def reC(R:Nat)(z:Q1)(k:Nat):Bool:=decide (0<=z.2.getD k 0-bs R)
def re0(R H:Nat)(q:List Q1):Mat:=cdI (reC R) laX (laY R) q (sqF H)
def reF(R H:Nat)(q:List Q1):Mat:=Q5j (re0 R H q)
theorem v2o(hT:Q1d ps R H):Sq H (reF R H (Q0e R ps))/\∀a b:Nat,atM (reF R H (Q0e R ps)) a b=true↔TC (Rc ps) a b:=by
  have j0:Sq H (re0 R H (Q0e R ps))/\relM (re0 R H (Q0e R ps))=Rc ps:=by
    obtain⟨c1,c2⟩:=y8a (n:=H) (c:=reC R) (x:=laX) (y:=laY R) (Q0e R ps) (sqF H) (y12 _) (by
      intro z hz;unfold Q0e at hz;rw[qBj]at hz;obtain⟨p,hp,rfl⟩:=hz;have h1:=hT.hd p hp;refine⟨by unfold laX;dsimp only;omega,fun k hk _=>?_⟩;have j1:k<p.syms.length:=by simpa using hk
      unfold laY;rw[y7z p j1];have:=z63 hT hp (qG j1);unfold bs;omega)
    refine⟨c1,?_⟩;funext i j;apply propext;unfold relM re0;rw[c2,x5c];have j2:=y2y (ps:=ps) (R:=R) (fun p a s b=>0<=Q0w R s-bs R/\i.toNat=p.head.toNat/\j.toNat=(Q0w R s-bs R).toNat) (C:=fun z k=>reC R z k=true/\i.toNat=laX z/\j.toNat=laY R z k) (fun p hp k hk=>by
      unfold reC laX laY;rw[y7z p hk,qAu])
    constructor
    · rintro⟨h0,h1,h|h⟩
      · cases h
      obtain⟨p,hp,a,s,b,e,e0,e1,e2⟩:=j2.1 h;have g1:=hT.hd p hp;have hs:s∈p.syms:=by rw[e];simp
      have hb:=(z6k hT hp hs).1 e0;have g3:=z1r (R:=R) hb;unfold bs at e0 e2;exact⟨p,hp,by omega,s,hs,hb,by omega⟩
    rintro⟨p,hp,e1,s,hs,hb,e2⟩;have g1:=hT.hd p hp;have e0:=(z6k hT hp hs).2 hb;have g3:=z1r (R:=R) hb;have hv:=hT.sy p hp s hs;obtain⟨a,b,e⟩:=qEy hs;exact⟨by omega,by omega,.inr (j2.2 ⟨p,hp,a,s,b,e,e0,by rw[e1],by unfold bs;omega⟩)⟩
  have:=z8v j0.1;rw[j0.2]at this;exact this
def nxC(R:Nat)(head:Int)(z:Q1)(k:Nat):Bool:=z.2.getD k 0==bs R+head
def nxG(R H:Nat)(null:List Bool)(q:List Q1)(z:Q1)(k:Nat):List Bool:=fiF R H null q (z.2.drop (k+1))
def nxF(R H:Nat)(null:List Bool)(q:List Q1)(head:Int):List Bool:=orQ (R+1) (nxC R head) (nxG R H null q) q ((List.replicate (R+1) false).set R (head==0))
theorem v0u(hT:Q1d ps R H)(hn:Q7g ps H null){h:Int}(hh:0<=h):(nxF R H null (Q0e R ps) h).length=R+1/\∀t,t<R+1->((nxF R H null (Q0e R ps) h).getD t false=true↔Nx ps R (NS ps H) (fun X t=>FS ps (NS ps H) t H X) h t):=by
  obtain⟨q1,q2⟩:=x4e (n:=R+1) (c:=nxC R h) (g:=nxG R H null (Q0e R ps)) (Q0e R ps) ((List.replicate (R+1) false).set R (h==0)) (by simp);refine⟨q1,fun t ht=>?_⟩;unfold nxF;rw[q2 t ht,z2a _ _ _ _ _ (by simp)];have j0:=y2y (ps:=ps) (R:=R) (fun p a s b=>Q0w R s=bs R+h/\Q3y (NS ps H) (fun X=>FS ps (NS ps H) t H X) t b=true) (C:=fun z k=>nxC R h z k=true/\(nxG R H null (Q0e R ps) z k).getD t false=true) (fun p hp k hk=>by
    unfold nxC nxG;rw[x9m,y7z p hk,qBi,(v14 hT hn (x2m hT hp (k+1))).2])
  rw[j0];unfold Nx;refine or_congr ?_ ?_
  · by_cases e:t=R
    · rw[qAb e,qBi];exact⟨fun q=>⟨q,e⟩,fun q=>q.1⟩
    rw[qAa e];refine⟨fun q=>?_,fun q=>absurd q.2 e⟩;rw[qD]at q;simp[ht]at q
  constructor
  · rintro⟨p,hp,a,s,b,e,e1,e2⟩
    have hs:s∈p.syms:=by rw[e];simp
    have hb:=(z6k hT hp hs).1 (by omega);have g3:=z1r (R:=R) hb;unfold bs at e1;exact⟨p,hp,a,s,b,e,hb,by omega,e2⟩
  rintro⟨p,hp,a,s,b,e,hb,e1,e2⟩;have g3:=z1r (R:=R) hb;exact⟨p,hp,a,s,b,e,by unfold bs;omega,e2⟩
def foF(R H:Nat)(null:List Bool)(q:List Q1)(head:Nat):List Bool:=orJ (R+1) (fun h=>atM (laF R H null q) h head) (fun h=>nxF R H null q h) H 0 (nxF R H null q head)
theorem v27(hT:Q1d ps R H)(hn:Q7g ps H null)(h:Nat):(foF R H null (Q0e R ps) h).length=R+1/\∀t,t<R+1->((foF R H null (Q0e R ps) h).getD t false=true↔Fo ps R (NS ps H) (fun X t=>FS ps (NS ps H) t H X) h t):=by
  obtain⟨n1,n2⟩:=v0u hT hn (h:=(h:Int)) (by omega);obtain⟨q1,q2⟩:=y89 (n:=R+1) (c:=fun k=>atM (laF R H null (Q0e R ps)) k h) (g:=fun k=>nxF R H null (Q0e R ps) k) H 0 (nxF R H null (Q0e R ps) h) n1;refine⟨q1,fun t ht=>?_⟩;unfold foF;rw[q2 t ht,n2 t ht];unfold Fo;refine or_congr Iff.rfl ?_;have la:=v2b hT hn;constructor
  · rintro⟨k,_,_,h1,h2⟩
    exact⟨k,(la.2 k h).1 h1,((v0u hT hn (h:=(k:Int)) (by omega)).2 t ht).1 h2⟩
  rintro⟨k,h1,h2⟩;have hk:∃m:Nat,k=m:=by
    obtain⟨n,hp⟩:=h1;have:∃p∈ps,p.head=k:=by
      cases n with
      |zero=>obtain⟨p,hp,e,_⟩:=hp;exact⟨p,hp,e⟩
      |succ n=>obtain⟨_,⟨p,hp,e,_⟩,_⟩:=hp;exact⟨p,hp,e⟩
    obtain⟨p,hp,e⟩:=this;have:=hT.hd p hp;exact⟨k.toNat,by omega⟩
  obtain⟨m,rfl⟩:=hk;have j0:=(la.2 m h).2 h1;have:=la.1.atM_lt j0;exact⟨m,by omega,by omega,j0,((v0u hT hn (h:=(m:Int)) (by omega)).2 t ht).2 h2⟩
end
structure Q8v(u:ByteArray)(x:Int)(m:Nat):Prop where
  pos:1<=m
  le:m<=8
  first:Q0m (atB u x)=true∨Q1a (atB u x)=true
  rest:∀k:Nat,1<=k->k<m->Q0m (atB u (x+k))=true
  stop:Q0m (atB u (x+m))=false
theorem y5u{c:Int}(h:Q1a c=true):Q0m c=false:=by
  unfold Q1a at h;unfold Q0m;rw[qAd,qAu,qAu]at h;rw[Bool.and_eq_false_iff,qCe,qCe];omega
theorem y16(s:ByteArray):∀(f:Nat) (x:Int),(s.size:Int)+1<=f+x->(∀k:Nat,k<Q6s s f x->Q0m (atB s (x+k))=true)/\Q0m (atB s (x+Q6s s f x))=false
  |0,x,h=>by
    refine⟨fun k hk=>by simp[Q6s]at hk,?_⟩;rw[z2c (by simp[Q6s];omega)];decide
  |f+1,x,h=>by
    rw[y7w];by_cases c:Q0m (atB s x)=true
    · rw[qAb c]
      obtain⟨h1,h2⟩:=y16 s f (x+1) (by omega);refine⟨fun k hk=>?_,?_⟩
      · cases k with
        |zero=>simpa using c
        |succ k =>
          have:=h1 k (by omega);rw[show x+((k+1:Nat):Int)=x+1+k by omega];exact this
      rw[show x+((Q6s s f (x+1)+1:Nat):Int)=x+1+Q6s s f (x+1) by omega];exact h2
    rw[qAa c];refine⟨fun k hk=>by omega,by simpa using c⟩
theorem z5e(s:ByteArray){x:Int}(h0:0<=x):(∀k:Nat,k<Q4e s x->Q0m (atB s (x+k))=true)/\Q0m (atB s (x+Q4e s x))=false:=y16 s _ x (by omega)
theorem y3p{s:ByteArray}{x:Int}{m:Nat}(h0:0<=x)(h:∀k:Nat,k<m->Q0m (atB s (x+k))=true)(hs:Q0m (atB s (x+m))=false):Q4e s x=m:=by
  obtain⟨h1,h2⟩:=z5e s h0;rcases qFx (Q4e s x) m with q|q|q
  · rw[h _ q]at h2;cases h2
  · exact q
  rw[h1 m q]at hs;cases hs
theorem y0s{u:ByteArray}{x:Int}(h0:0<=x)(h:0<=Q5v u x):∃m,Q8v u x m/\Q5v u x=x+m:=by
  unfold Q5v at h ⊢;by_cases c0:(u.size:Int)<=x
  · rw[qAb c0]at h;omega
  rw[qAa c0]at h ⊢;by_cases c1:Q1a (atB u x)=true
  · rw[qAb c1]at h ⊢
    obtain⟨h1,h2⟩:=z5e u (x:=x+1) (by omega);by_cases c2:8<1+(Q4e u (x+1):Int)
    · rw[qAb c2]at h;omega
    rw[qAa c2];refine⟨Q4e u (x+1)+1,⟨by omega,by omega,.inr c1,fun k k1 k2=>?_,?_⟩,by omega⟩
    · have:=h1 (k-1) (by omega)
      rw[show x+(k:Int)=x+1+((k-1:Nat):Int) by omega];exact this
    rw[show x+((Q4e u (x+1)+1:Nat):Int)=x+1+Q4e u (x+1) by omega];exact h2
  rw[qAa c1]at h ⊢;obtain⟨h1,h2⟩:=z5e u (x:=x) h0;by_cases c2:(Q4e u x:Int)=0∨8<(Q4e u x:Int)
  · rw[qAb c2]at h;omega
  rw[qAa c2];refine⟨Q4e u x,⟨by omega,by omega,.inl ?_,fun k k1 k2=>h1 k k2,h2⟩,rfl⟩;have:=h1 0 (by omega);simpa using this
theorem x5x{u:ByteArray}{x:Int}{m:Nat}(h0:0<=x)(h:Q8v u x m):Q5v u x=x+m:=by
  have hp:=h.pos;have hl:=h.le;have j0:¬(u.size:Int)<=x:=fun q=>by
    have e:=z2c (p:=u) (i:=x) q;have:=h.first;rw[e]at this;revert this;decide
  unfold Q5v;rw[qAa j0];by_cases c1:Q1a (atB u x)=true
  · have e:Q4e u (x+1)=m-1:=y3p (by omega) (fun k hk=>by
      have:=h.rest (k+1) (by omega) (by omega);rw[show x+1+(k:Int)=x+((k+1:Nat):Int) by omega];exact this) (by
      rw[show x+1+((m-1:Nat):Int)=x+m by omega];exact h.stop)
    rw[qAb c1,e,qAa (by omega)];omega
  have c2:Q0m (atB u x)=true:=by
    rcases h.first with q|q
    · exact q
    exact absurd q c1
  have e:Q4e u x=m:=y3p h0 (fun k hk=>by
    by_cases k0:k=0
    · subst k0;simpa using c2
    exact h.rest k (by omega) hk) h.stop
  rw[qAa c1,e,qAa (by omega)]
theorem z93(s:ByteArray)(i:Int):∀(f n:Nat) (ls:List Int),n<=8->9<=f+n->(Q2l s i f n ls).2=i+8∨Q0m (atB s (Q2l s i f n ls).2)=false
  |0,n,ls,h1,h2=>by omega
  |f+1,n,ls,h1,h2=>by
    unfold Q2l;split
    · split
      · exact z93 s i f (n+1) _ (by omega) (by omega)
      right;rename_i q;simpa using q
    left;rfl
theorem x0x{s:ByteArray}{i:Int}(h:(Q07 s i).2.2=true):(Q07 s i).2.1=i+8∨Q0m (atB s (Q07 s i).2.1)=false:=by
  unfold Q07 at h ⊢;split
  · rename_i e;rw[qAb e]at h;cases h
  exact z93 s i 9 1 _ (by omega) (by omega)
theorem y22{s:ByteArray}{i:Int}{m:Nat}(h:Q8v s i m):(Q07 s i).2.2=true/\(Q07 s i).2.1=i+m/\WordAt s i m (Q07 s i).1:=by
  have j0:(Q07 s i).2.2=true:=by
    unfold Q07;have:(!Q0m (atB s i)&&!Q1a (atB s i))=false:=by
      rcases h.first with q|q<;>rw[q]<;>simp
    rw[qAa (by rw[this];simp)]
  obtain⟨n,hw,hn⟩:=z8k s i j0;have hp:=hw.pos;have hl:=hw.le;have j2:=h.pos;have j1:=h.le;have e:n=m:=by
    rcases qFx n m with q|q|q
    · rcases x0x j0 with z|z
      · omega
      rw[hn,h.rest n (by omega) q]at z;cases z
    · exact q
    have z:=h.stop;rw[hw.rest m (by omega) q]at z;cases z
  subst e;exact⟨j0,hn,hw⟩
theorem WordAt.wordy{s:ByteArray}{i:Int}{m:Nat}{d:Wd}(h:WordAt s i m d)(hs:Q0m (atB s (i+m))=false):Q8v s i m:=⟨h.pos,h.le,h.first,h.rest,hs⟩
theorem z0z{s:ByteArray}{a e:Nat}(he:e<=s.size){k:Int}(h0:0<=k)(hk:a+k<e):atB (s.extract a e) k=atB s (a+k):=by
  obtain⟨n,rfl⟩:∃n:Nat,k=n:=⟨k.toNat,by omega⟩;exact z3x s a e n he (by omega)
theorem z08{s:ByteArray}{a e:Nat}(he:e<=s.size):(s.extract a e).size=e-a:=by rw[qBl];omega
section
variable {s:ByteArray}{a e:Nat}
theorem y9x(he:e<s.size)(h10:atB s (e:Nat)=10){x:Int}{m:Nat}(h0:0<=x)(h:Q8v (s.extract a e) x m):Q8v s (a+x) m/\a+x+m<=e:=by
  have hp:=h.pos;have j2:=z08 (s:=s) (a:=a) (e:=e) (by omega);have j0:∀k:Nat,k<m->a+x+k<e:=fun k hk=>by
    have hc:atB (s.extract a e) (x+k)≠-1:=by
      by_cases k0:k=0
      · subst k0
        intro q;have:=h.first;simp only[qEh,qDs]at q;rw[q]at this;revert this;decide
      exact y3a (h.rest k (by omega) hk)
    have:=z0r hc;omega
  have hb:∀k:Nat,k<m->atB (s.extract a e) (x+k)=atB s (a+x+k):=fun k hk=>by
    rw[z0z (by omega) (by omega) (by have:=j0 k hk;omega),Int.add_assoc]
  have j1:=j0 (m-1) (by omega);refine⟨⟨h.pos,h.le,?_,fun k k1 k2=>?_,?_⟩,by omega⟩
  · have:=hb 0 (by omega)
    simp only[qEh,qDs]at this;rw[← this];exact h.first
  · rw[← hb k k2];exact h.rest k k1 k2
  by_cases q:a+x+m<e
  · have:=h.stop
    rw[z0z (by omega) (by omega) (by omega)]at this;rw[Int.add_assoc];exact this
  rw[show(a:Int)+x+m=(e:Nat) by omega,h10];decide
theorem y13(he:e<s.size)(h10:atB s (e:Nat)=10){x:Int}{m:Nat}(h0:0<=x)(h:Q8v s (a+x) m)(hm:a+x+m<=e):Q8v (s.extract a e) x m:=by
  have hp:=h.pos;have j0:=z08 (s:=s) (a:=a) (e:=e) (by omega);have hb:∀k:Nat,k<m->atB (s.extract a e) (x+k)=atB s (a+x+k):=fun k hk=>by
    rw[z0z (by omega) (by omega) (by omega),Int.add_assoc]
  refine⟨h.pos,h.le,?_,fun k k1 k2=>?_,?_⟩
  · have:=hb 0 (by omega)
    simp only[qEh,qDs]at this;rw[this];exact h.first
  · rw[hb k k2];exact h.rest k k1 k2
  by_cases q:a+x+m<e
  · rw[z0z (by omega) (by omega) (by omega),← Int.add_assoc];exact h.stop
  rw[z2c (by omega)];decide
end
theorem y2e(s:ByteArray)(a e b c:Nat)(he:e<=s.size)(hc:a+c<=e):(s.extract a e).extract b c=s.extract (a+b) (a+c):=by
  apply qFi;simp only[qEg,qEz];have:s.size=s.data.size:=rfl;congr 1;omega
structure ZLn where
  rule:Bool
  skip:Bool
  name:ByteArray
  pat:ByteArray
  syms:List ByteArray
  places:List Int
def Q5b(s:ByteArray):Nat->Int->List ByteArray->List Int->Option (List ByteArray × List Int)
  |0,_,_,_=>none
  |f+1,i,a,b =>
    if i<s.size then
      if atB s i=32 then
        if Q5v s (i+1)<0 then none
        else Q5b s f (Q5v s (i+1)) (a++[s.extract (i+1).toNat (Q5v s (i+1)).toNat]) (b++[i+1])
      else none
    else some (a,b)
theorem z6z(s:ByteArray)(f:Nat)(i:Int)(a:List ByteArray)(b:List Int):Q5b s (f+1) i a b=if i<s.size then
      if atB s i=32 then
        if Q5v s (i+1)<0 then none
        else Q5b s f (Q5v s (i+1)) (a++[s.extract (i+1).toNat (Q5v s (i+1)).toNat]) (b++[i+1])
      else none
    else some (a,b):=rfl
def Q5i(s:ByteArray)(n:Nat):Bool:=decide (n<=8)&&decide (n<s.size)&&(atB s n==61||atB s n==126)
def Q40(s:ByteArray):Option ZLn :=
  if 0<Q4e s 0 then
    if Q5i s (Q4e s 0)=true/\zpK s 6 ((Q4e s 0:Nat)+1)=s.size then some ⟨true,atB s (Q4e s 0)==126,s.extract 0 (Q4e s 0),s.extract (Q4e s 0+1) s.size,[],[]⟩ else none
  else if 0<=Q5v s 0/\atB s (Q5v s 0)=58 then
    (Q5b s (s.size+5) (Q5v s 0+1) [] []).map (fun l=>⟨false,false,s.extract 0 (Q5v s 0).toNat,⟨#[]⟩,l.1,l.2⟩)
  else none
def Q92(s:ByteArray)(ds:List Wd)(ns:List ByteArray):Prop :=
  ds.length=ns.length/\∀(k:Nat) (d:Wd) (n:ByteArray),ds[k]? = some d->ns[k]? = some n->∃j m:Nat,WordAt s j m d/\j+m<=s.size/\n=s.extract j (j+m)
structure ZRel(s:ByteArray)(i:Nat)(x:Ln)(z:ZLn):Prop where
  rule:z.rule=Q0x x
  skip:z.skip=x.skip
  place:x.front.place=i
  name:∃m,WordAt s i m x.front/\i+m<=s.size/\z.name=s.extract i (i+m)
  pat:z.rule=true->∃L,Q61 z.pat 6 0=⟨z.pat.size,true,L⟩/\z.pat.size<=s.size/\∀t,Q31 x t=true↔L (Q36 t)
  syms:Q92 s x.syms z.syms
  places:z.places=x.syms.map (fun d:Wd=>d.place-(i:Int))
  nos:z.rule=true->z.syms=[]
  noskip:z.rule=false->z.skip=false
section
variable {s:ByteArray}{a e:Nat}
theorem y00(he:e<=s.size){x:Nat}:Q3g s (a+x:Nat) (s.extract a e) (x:Nat) (e-a-x):=fun j hj=>by
  rw[z0z he (by omega) (by omega)];congr 1;omega
theorem y6j(he:e<=s.size){x:Nat}:Q3g (s.extract a e) (x:Nat) s (a+x:Nat) (e-a-x):=fun j hj=>by
  rw[z0z he (by omega) (by omega)];congr 1;omega
theorem x5v(he:e<s.size)(h10:atB s (e:Nat)=10):∀{p:Nat}{ds:List Wd}{ns:List ByteArray},PN s p ds ns e->a<=p->∀(f:Nat) (A:List ByteArray) (B:List Int),e+2<=f+p ->
    Q5b (s.extract a e) f ((p-a:Nat):Int) A B=some (A++ns,B++ds.map (fun d:Wd=>d.place-(a:Int))):=by
  have j8:=z08 (s:=s) (a:=a) (e:=e) (by omega);intro p ds ns h;refine PN.ind (q:=e) (M:=fun p ds ns=>a<=p->∀(f:Nat) (A:List ByteArray) (B:List Int),e+2<=f+p->Q5b (s.extract a e) f ((p-a:Nat):Int) A B=some (A++ns,B++ds.map (fun d:Wd=>d.place-(a:Int)))) ?_ ?_ ds p ns h
  · intro hp f A B hf
    obtain⟨f,rfl⟩:∃k,f=k+1:=⟨f-1,by omega⟩;rw[z6z,qAa (by omega)];simp
  intro p m d ds ns j2 hw j5 h ih hp f A B hf;have j6:=h.le;have j4:=hw.pos;obtain⟨f,rfl⟩:∃k,f=k+1:=⟨f-1,by omega⟩;have j0:Q0m (atB s (((p+1:Nat):Int)+m))=false:=by
    rcases h.next with q|q
    · rw[show((p+1:Nat):Int)+m=(e:Nat) by omega,h10];decide
    rw[show((p+1:Nat):Int)+m=((p+1+m:Nat):Int) by omega,q];decide
  have wd:=hw.wordy j0;rw[show((p+1:Nat):Int)=a+(((p-a:Nat):Int)+1) by omega]at wd;have wu:=y13 he h10 (by omega) wd (by omega);have zs:=x5x (by omega) wu;have j1:atB (s.extract a e) ((p-a:Nat):Int)=32:=by
    rw[z0z (by omega) (by omega) (by omega),show(a:Int)+((p-a:Nat):Int)=(p:Nat) by omega];exact j2
  have j3:((p-a:Nat):Int)<((s.extract a e).size:Int):=by omega
  rw[z6z,qAb j3,qAb j1,zs,qAa (by omega)];have en:((p-a:Nat):Int)+1+m=((p+1+m-a:Nat):Int):=by omega
  rw[en,ih (by omega) f _ _ (by omega)];have ex:(s.extract a e).extract (((p-a:Nat):Int)+1).toNat (((p+1+m-a:Nat):Int)).toNat=s.extract (p+1) (p+1+m):=by
    rw[y2e s a e _ _ (by omega) (by omega)];congr 1<;>omega
  have j7:=hw.place;rw[ex];simp only[qAs,List.singleton_append,qDl,qO,Prod.mk.injEq,List.append_cancel_left_eq,qBe,and_true,true_and];omega
theorem x4q(he:e<s.size)(h10:atB s (e:Nat)=10)(d:Wd):∀(g f:Nat) (x:Nat) (A:List ByteArray) (B:List Int) (S:List Wd),a+x<=e->(s.size:Int)+2<=f+(a+x)->(Q5b (s.extract a e) g (x:Nat) A B).isSome=true ->
    (Q20 s d f ((a+x:Nat):Int) S).2.2=true:=by
  have j3:=z08 (s:=s) (a:=a) (e:=e) (by omega);intro g;induction g with
  |zero=>intro f x A B S h1 h2 h3;simp[Q5b]at h3
  |succ g ih =>
    intro f x A B S h1 h2 h3;obtain⟨f,rfl⟩:∃k,f=k+1:=⟨f-1,by omega⟩;rw[z6z]at h3;unfold Q20;by_cases c1:a+x<e
    · have j1:((x:Nat):Int)<((s.extract a e).size:Int):=by omega
      rw[qAb j1]at h3;by_cases c2:atB (s.extract a e) (x:Nat)=32
      · rw[qAb c2]at h3
        rw[z0z (by omega) (by omega) (by omega)]at c2;have j0:atB s ((a+x:Nat):Int)=32:=by rw[← c2];congr 1
        rw[qAb j0];by_cases c3:Q5v (s.extract a e) ((x:Int)+1)<0
        · rw[qAb c3]at h3;cases h3
        rw[qAa c3]at h3;obtain⟨m,hw,hm⟩:=y0s (by omega) (by omega:0<=Q5v (s.extract a e) ((x:Int)+1));obtain⟨wu,j2⟩:=y9x he h10 (by omega) hw;obtain⟨r1,r2,r3⟩:=y22 wu;have ex:((a+x:Nat):Int)+1=(a:Int)+((x:Int)+1):=by omega
        rw[ex,qAa (by rw[r1];simp),r2];have en:(a:Int)+((x:Int)+1)+m=((a+(x+1+m):Nat):Int):=by omega
        rw[en];rw[hm,show(x:Int)+1+m=((x+1+m:Nat):Int) by omega]at h3;exact ih f (x+1+m) _ _ _ (by omega) (by omega) h3
      rw[qAa c2]at h3;cases h3
    have hx:a+x=e:=by omega
    rw[hx,h10,qAa (by omega),qAa (by omega)]
theorem x5i{p q:Nat}{ds:List Wd}{ns:List ByteArray}(h:PN s p ds ns q):Q92 s ds ns:=by
  refine PN.ind (q:=q) (M:=fun p ds ns=>Q92 s ds ns) ?_ ?_ ds p ns h
  · exact⟨rfl,fun k d n h1=>by simp at h1⟩
  intro p m d ds ns j1 hw j0 h ih;refine⟨by simp[ih.1],fun k d' n' h1 h2=>?_⟩;cases k with
  |zero=>simp at h1 h2;subst h1 h2;exact⟨p+1,m,hw,j0,rfl⟩
  |succ k=>simp at h1 h2;exact ih.2 k d' n' h1 h2
end
theorem x8p{s:ByteArray}{i:Nat}(h:(Q2w s i).2.2=true):∃e:Nat,e<s.size/\i<e/\atB s (e:Nat)=10/\(Q2w s i).2.1=((e+1:Nat):Int)/\Q1j s i e/\∃z,Q40 (s.extract i e)=some z/\ZRel s i (Q2w s i).1 z:=by
  obtain⟨e,he,jc,j7,j0,hL⟩:=y20 s i h;have jb:=hL.clean;refine⟨e,he,jc,j7,j0,jb,?_⟩;have jm:=z08 (s:=s) (a:=i) (e:=e) (by omega);unfold Q2w at h ⊢;cases hw:(Q07 s i).2.2
  · rw[qAb hw]at h;cases h
  rw[qAa (by simp[hw])]at h ⊢;obtain⟨m,j2,hn⟩:=z8k s i hw;have jk:=j2.in';have jf:=j2.pos;have j9:=j2.head;have ja:=j2.place;unfold Q2w at j0;rw[qAa (by simp[hw])]at j0;generalize(Q07 s i).1=d at *;rw[hn]at h j0 ⊢;cases hh:Q16 d
  · rw[hh]at h j0
    simp only[qF,qAz]at h j0 ⊢;unfold Q6q at h j0 ⊢;by_cases c1:atB s ((i:Int)+m)≠61/\atB s ((i:Int)+m)≠126
    · rw[qAb c1]at h;cases h
    rw[qAa c1]at h j0 ⊢;cases c2:(Q1r s ((i:Int)+m+1)).ok
    · rw[qAb c2]at h;cases h
    rw[qAa (by simp[c2])]at h j0 ⊢;by_cases c3:atB s (Q1r s ((i:Int)+m+1)).next=10
    · rw[qAa (by simpa using c3)]at h j0 ⊢
      have j5:atB s ((i:Int)+m)=61∨atB s ((i:Int)+m)=126:=by
        by_cases q:atB s ((i:Int)+m)=61
        · exact .inl q
        by_cases q2:atB s ((i:Int)+m)=126
        · exact .inr q2
        exact absurd ⟨q,q2⟩ c1
      have jl:(Q1r s ((i:Int)+m+1)).next=e:=by dsimp only at j0;omega
      have ji:Q0m (atB s i)=true:=by
        rcases j2.first with h1|h1
        · exact h1
        rw[← j9,hh]at h1;cases h1
      obtain⟨l1,l2⟩:=v1d c2;have jd:i+m<e:=by
        have:=z8q (s:=s) (i:=(i:Int)+m) (by rcases j5 with q|q<;>omega);have g:=y4t s 6 ((i:Int)+m+1) (by omega) (by omega) l1;omega
      have hb:atB (s.extract i e) (m:Nat)=atB s ((i:Int)+m):=z0z (by omega) (by omega) (by omega);have j3:Q4e (s.extract i e) 0=m:=y3p (by omega) (fun k hk=>by
        rw[z0z (by omega) (by omega) (by omega)];by_cases k0:k=0
        · subst k0;simpa using ji
        · have:=j2.rest k (by omega) hk
          rw[show(i:Int)+(0+(k:Int))=(i:Int)+k by omega];exact this) (by
        rw[Int.zero_add,hb];rcases j5 with q|q<;>rw[q]<;>decide)
      have j4:=y2p s (s.extract i e) (qR 6) ((i:Int)+m+1) ((m:Int)+1) (e-i-(m+1)) (by omega) (by omega) (by omega)
        (by have:=y00 (s:=s) (a:=i) (e:=e) (by omega) (x:=m+1);intro j hj;have q:=this j hj;rw[show(i:Int)+m+1=((i+(m+1):Nat):Int) by omega,show(m:Int)+1=((m+1:Nat):Int) by omega];exact q)
        (by rw[z2c (by omega)];decide) l1 (by omega)
      have jj:((s.extract i e).size:Int)=e-i:=by omega
      have hz:Q61 (s.extract i e) 6 ((m:Int)+1)=⟨(s.extract i e).size,true,(Q61 s 6 ((i:Int)+m+1)).lang⟩:=by
        rw[z2r j4.ok,j4.lang,j4.next];congr 1;omega
      have j6:zpK (s.extract i e) 6 ((m:Int)+1)=(s.extract i e).size:=by
        have q:=(x53 (p:=s.extract i e) 6 (i:=(m:Int)+1) (by omega) (by omega)).good (by rw[hz]);rw[hz]at q;exact q
      have jh:Q5i (s.extract i e) m=true:=by
        unfold Q5i;have je:=j2.le;rw[qCj (by omega),qCj (by omega),hb];rcases j5 with q|q<;>rw[q]<;>decide
      refine⟨⟨true,atB (s.extract i e) m==126,(s.extract i e).extract 0 m,(s.extract i e).extract (m+1) (s.extract i e).size,[],[]⟩,?_,?_⟩
      · unfold Q40
        rw[j3,qAb (by omega),qAb ⟨jh,j6⟩]
      have ep:(s.extract i e).extract (m+1) (s.extract i e).size=s.extract (i+m+1) e:=by
        rw[y2e s i e _ _ (by omega) (by omega)];congr 1;omega
      have jn:=z08 (s:=s) (a:=i+m+1) (e:=e) (by omega);refine⟨?_,?_,ja,⟨m,j2,by omega,?_⟩,fun _=>?_,⟨rfl,fun k d' n' q=>by simp at q⟩,rfl,fun _=>rfl,fun q=>(by cases q)⟩
      · show true=!Q16 d
        rw[hh];rfl
      · show(atB (s.extract i e) m==126)=(atB s ((i:Int)+m)==126)
        rw[hb]
      · dsimp only
        rw[y2e s i e _ _ (by omega) (by omega),Nat.add_zero]
      dsimp only;rw[ep];have j1:=y2p s (s.extract (i+m+1) e) (qR 6) ((i:Int)+m+1) 0 (e-(i+m+1)) (by omega) (by omega) (by omega)
        (by have:=y00 (s:=s) (a:=i+m+1) (e:=e) (by omega) (x:=0);intro j hj;have q:=this j hj;rw[show(i:Int)+m+1=((i+m+1+0:Nat):Int) by omega,show(0:Int)=((0:Nat):Int) by omega];exact q)
        (by rw[z2c (by omega)];decide) l1 (by omega)
      refine⟨(Q61 s 6 ((i:Int)+m+1)).lang,?_,by omega,fun t=>x0n c2 d _ t⟩;rw[z2r j1.ok,j1.lang,j1.next];congr 1;omega
    rw[qAb c3]at h;cases h
  rw[hh]at h j0;simp only[qBn]at h j0 ⊢;unfold Q6p at h j0 ⊢;by_cases c1:atB s ((i:Int)+m)=58
  · rw[qAa (by simpa using c1)]at h j0 ⊢
    have e1:(i:Int)+m+1=((i+m+1:Nat):Int):=by omega
    rw[e1]at h j0 ⊢;obtain⟨ds,ns,q,h1,h2,h3⟩:=z92 s d _ _ _ h;rw[h3]at j0 ⊢;have jg:q=e:=by dsimp only at j0;omega
    subst jg;have je:=h1.le;have j8:Q1a (atB s i)=true:=by rw[← j9];exact hh
    have wd:=j2.wordy (by rw[c1];decide);have wu:=y13 (a:=i) he j7 (x:=0) (by omega) (by rw[qDs];exact wd) (by omega);have zs:=x5x (by omega) wu;rw[Int.zero_add]at zs;have hb:atB (s.extract i q) (m:Nat)=58:=by rw[z0z (by omega) (by omega) (by omega)];exact c1
    have j3:Q4e (s.extract i q) 0=0:=y3p (by omega) (fun k hk=>by omega) (by
      rw[z0z (by omega) (by omega) (by omega)];simp only[qEh,qDs];exact y5u j8)
    have j6:=x5v (a:=i) he j7 h1 (by omega) ((s.extract i q).size+5) [] [] (by omega);rw[show((i+m+1-i:Nat):Int)=(m:Int)+1 by omega]at j6;refine⟨⟨false,false,(s.extract i q).extract 0 m,⟨#[]⟩,ns,ds.map (fun d:Wd=>d.place-(i:Int))⟩,?_,?_⟩
    · unfold Q40
      rw[j3,qAa (by omega),zs,qAb ⟨by omega,hb⟩,j6];rfl
    refine⟨?_,rfl,ja,⟨m,j2,by omega,?_⟩,fun q=>(by cases q),?_,?_,fun q=>(by cases q),fun _=>rfl⟩
    · show false=!Q16 d
      rw[hh];rfl
    · dsimp only
      rw[y2e s i q _ _ (by omega) (by omega),Nat.add_zero]
    · show Q92 s ([]++ds) ns
      rw[qCh];exact x5i h1
    rfl
  rw[qAb (by simpa using c1)]at h;cases h
theorem x7x{s:ByteArray}{i e:Nat}(he:e<s.size)(hie:i<=e)(h10:atB s (e:Nat)=10)(h:(Q40 (s.extract i e)).isSome=true):(Q2w s i).2.2=true:=by
  have jc:=z08 (s:=s) (a:=i) (e:=e) (by omega);unfold Q40 at h;by_cases c0:0<Q4e (s.extract i e) 0
  · rw[qAb c0]at h
    obtain⟨q1,q2⟩:=z5e (s.extract i e) (x:=0) (by omega);generalize Q4e (s.extract i e) 0=n at *;by_cases c1:Q5i (s.extract i e) n=true/\zpK (s.extract i e) 6 ((n:Nat)+1)=(s.extract i e).size
    · obtain⟨c1,c2⟩:=c1
      unfold Q5i at c1;rw[qAd,qAd,qAu,qAu,qAt]at c1;obtain⟨⟨h8,jb⟩,j3⟩:=c1;have hb:atB (s.extract i e) (n:Nat)=atB s ((i:Int)+n):=z0z (by omega) (by omega) (by omega);have j2:atB s ((i:Int)+n)=61∨atB s ((i:Int)+n)=126:=by
        rw[hb]at j3;rcases j3 with q|q
        · left;simpa using q
        right;simpa using q
      have j0:∀k:Nat,k<n->Q0m (atB s ((i:Int)+k))=true:=fun k hk=>by
        have:=q1 k hk;rw[z0z (by omega) (by omega) (by omega)]at this;rw[show(i:Int)+(0+(k:Int))=(i:Int)+k by omega]at this;exact this
      have wd:Q8v s i n:=⟨by omega,h8,.inl (by have:=j0 0 (by omega);simpa using this),fun k k1 k2=>j0 k k2,by rcases j2 with q|q<;>rw[q]<;>decide⟩;obtain⟨r1,r2,r3⟩:=y22 wd;have hh:Q16 (Q07 s i).1=false:=by
        rw[r3.head];have:=j0 0 (by omega);simp only[qEh,qDs]at this;cases z:Q1a (atB s i)
        · rfl
        rw[y5u z]at this;cases this
      have j4:(Q61 (s.extract i e) 6 ((n:Int)+1)).ok=true/\(Q61 (s.extract i e) 6 ((n:Int)+1)).next=(s.extract i e).size:=by
        have j5:=x53 (p:=s.extract i e) 6 (i:=(n:Int)+1) (by omega) (by omega);cases z:(Q61 (s.extract i e) 6 ((n:Int)+1)).ok
        · rcases j5.bad z with b|⟨_,b,_⟩
          · rw[c2]at b;omega
          rw[c2]at b;omega
        exact⟨rfl,by rw[← j5.good z];exact c2⟩
      have j1:=y2p (s.extract i e) s (qR 6) ((n:Int)+1) ((i:Int)+n+1) (e-i-(n+1)) (by omega) (by omega) (by omega)
        (by have:=y6j (s:=s) (a:=i) (e:=e) (by omega) (x:=n+1);intro j hj;have q:=this j hj;rw[show(i:Int)+n+1=((i+(n+1):Nat):Int) by omega,show(n:Int)+1=((n+1:Nat):Int) by omega];exact q)
        (by rw[show(i:Int)+n+1+((e-i-(n+1):Nat):Int)=(e:Nat) by omega,h10];decide) j4.1 (by omega)
      have lk:=y80 s 6 ((i:Int)+n+1) [];have j6:(Q1r s ((i:Int)+n+1)).ok=true:=by unfold Q1r;rw[lk.ok];exact j1.ok
      have j7:(Q1r s ((i:Int)+n+1)).next=(e:Nat):=by
        unfold Q1r;rw[lk.next,j1.next,j4.2];omega
      unfold Q2w;rw[qAa (by rw[r1];simp),hh,qAa (by simp),r2];unfold Q6q;rw[qAa (by rcases j2 with q|q<;>omega),qAa (by rw[j6];simp),j7,h10,qAa (by simp)]
    rw[qAa c1]at h;cases h
  rw[qAa c0]at h;obtain⟨q1,q2⟩:=z5e (s.extract i e) (x:=0) (by omega);have z0:Q4e (s.extract i e) 0=0:=by omega
  rw[z0]at q2;by_cases c1:0<=Q5v (s.extract i e) 0/\atB (s.extract i e) (Q5v (s.extract i e) 0)=58
  · rw[qAb c1]at h
    obtain⟨m,hw,hm⟩:=y0s (by omega) c1.1;obtain⟨wu,j8⟩:=y9x he h10 (by omega) hw;rw[qDs]at wu j8;obtain⟨r1,r2,r3⟩:=y22 wu;rw[Int.zero_add]at hm;rw[hm]at c1 h;have ja:=z8q (s:=s.extract i e) (i:=(m:Int)) (by omega);have hb:atB s ((i:Int)+m)=58:=by
      rw[← z0z (s:=s) (a:=i) (e:=e) (by omega) (by omega) (by omega)];exact c1.2
    have hh:Q16 (Q07 s i).1=true:=by
      rw[r3.head];have hf:=hw.first;simp only[qEh,qDs]at q2;rw[q2]at hf;rw[z0z (by omega) (by omega) (by omega),qDs]at hf;rcases hf with z|z
      · cases z
      exact z
    unfold Q2w;rw[qAa (by rw[r1];simp),hh,qAb rfl,r2];unfold Q6p;rw[hb,qAa (by simp)];have j9:=x4q (a:=i) he h10 (Q07 s i).1 ((s.extract i e).size+5) (s.size+5) (m+1) [] [] [] (by omega) (by omega) (by
      rw[show((m+1:Nat):Int)=(m:Int)+1 by omega];simpa using h)
    rw[show(i:Int)+m+1=((i+(m+1):Nat):Int) by omega];exact j9
  rw[qAa c1]at h;cases h
end Go.Proofs.YtbdpfmalabgmbaaGreat
