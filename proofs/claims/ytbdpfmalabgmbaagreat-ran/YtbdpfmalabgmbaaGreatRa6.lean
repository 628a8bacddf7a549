import Derived.Test.YtbdpfmalabgmbaaGreatRh5
namespace Go.Proofs.YtbdpfmalabgmbaaGreat
open Go.RowKit
set_option maxRecDepth 99999
set_option maxHeartbeats 0
set_option linter.all false
def cdJ(c:Nat->Bool)(x:Nat)(y:Nat->Nat):Nat->Nat->Mat->Mat
 |0,_,M=>M
 |f+1,j,M=>cdJ c x y f (j+1) (if c j=true then Q72 M x (y j) true else M)
def cdI(c:Q1->Nat->Bool)(x:Q1->Nat)(y:Q1->Nat->Nat):List Q1->Mat->Mat
 | [],M=>M
 |z::r,M=>cdI c x y r (cdJ (c z) (x z) (y z) z.2.length 0 M)
def sqF(n:Nat):Mat:=List.replicate n (List.replicate n false)
theorem y12(n:Nat):Sq n (sqF n):=⟨by simp[sqF],fun i hi=>by rw[qD];simp[sqF,hi]⟩
theorem x5c(n i j:Nat):atM (sqF n) i j=false:=by
 unfold atM sqF;rw[qD,qD];by_cases hi:i<n
 ·by_cases hj:j<n
  ·simp[hi,hj]
  simp[hi,hj]
 simp[hi]
section
variable {n:Nat}
theorem x8s{c:Nat->Bool}{x:Nat}{y:Nat->Nat}(hx:x<n):∀(f j:Nat) (M:Mat),Sq n M->(∀k,j<=k->k<j+f->c k=true->y k<n) ->
  Sq n (cdJ c x y f j M)/\∀a b,atM (cdJ c x y f j M) a b=true↔atM M a b=true∨∃k,j<=k/\k<j+f/\c k=true/\a=x/\b=y k
 |0,j,M,hs,hy=>⟨hs,fun a b=>⟨.inl,fun h=>by
   rcases h with h|⟨k,h1,h2,_⟩
   ·exact h
   omega⟩⟩
 |f+1,j,M,hs,hy=>by
  unfold cdJ;have hs':Sq n (if c j=true then Q72 M x (y j) true else M):=by
   split
   ·exact y0b hs hx _
   exact hs
  obtain⟨r1,r2⟩:=x8s hx f (j+1) _ hs' (fun k h1 h2 h3=>hy k (by omega) (by omega) h3);refine⟨r1,fun a b=>?_⟩;rw[r2];by_cases hc:c j=true
  ·rw[qAb hc,x45 hs hx (hy j (by omega) (by omega) hc)];constructor
   ·rintro(h|⟨k,h1,h2,h3⟩)
    ·split at h
     ·rename_i q;exact .inr ⟨j,by omega,by omega,hc,q⟩
     exact .inl h
    exact .inr ⟨k,by omega,by omega,h3⟩
   rintro(h|⟨k,h1,h2,h3,h4⟩)
   ·left;split
    ·rfl
    exact h
   by_cases e:k=j
   ·subst e;left;rw[qAb h4]
   exact .inr ⟨k,by omega,by omega,h3,h4⟩
  rw[qAa hc];constructor
  ·rintro(h|⟨k,h1,h2,h3⟩)
   ·exact .inl h
   exact .inr ⟨k,by omega,by omega,h3⟩
  rintro(h|⟨k,h1,h2,h3,h4⟩)
  ·exact .inl h
  by_cases e:k=j
  ·subst e;exact absurd h3 hc
  exact .inr ⟨k,by omega,by omega,h3,h4⟩
theorem y8a{c:Q1->Nat->Bool}{x:Q1->Nat}{y:Q1->Nat->Nat}:∀(q:List Q1) (M:Mat),Sq n M->(∀z∈q,x z<n/\∀k,k<z.2.length->c z k=true->y z k<n) ->
    Sq n (cdI c x y q M)/\∀a b,atM (cdI c x y q M) a b=true↔atM M a b=true∨∃z∈q,∃k,k<z.2.length/\c z k=true/\a=x z/\b=y z k
  | [],M,hs,hy=>⟨hs,fun a b=>⟨.inl,fun h=>by
      rcases h with h|⟨z,h1,_⟩
      · exact h
      cases h1⟩⟩
  |z::r,M,hs,hy=>by
    have hz:=hy z (by simp);obtain⟨q1,q2⟩:=x8s (c:=c z) (x:=x z) (y:=y z) hz.1 z.2.length 0 M hs (fun k h1 h2 h3=>hz.2 k (by omega) h3);obtain⟨r1,r2⟩:=y8a (c:=c) (x:=x) (y:=y) r _ q1 (fun w hw=>hy w (by simp[hw]));unfold cdI;refine⟨r1,fun a b=>?_⟩;rw[r2,q2];constructor
    · rintro((h|⟨k,h1,h2,h3⟩)|⟨w,hw,h⟩)
      · exact .inl h
      · exact .inr ⟨z,by simp,k,by omega,h3⟩
      exact .inr ⟨w,by simp[hw],h⟩
    rintro(h|⟨w,hw,k,h1,h2⟩)
    · exact .inl (.inl h)
    rw[qBu]at hw;rcases hw with rfl|hw
    · exact .inl (.inr ⟨k,by omega,by omega,h2⟩)
    exact .inr ⟨w,hw,k,h1,h2⟩
end
def orJ(n:Nat)(c:Nat->Bool)(g:Nat->List Bool):Nat->Nat->List Bool->List Bool
 |0,_,out=>out
 |f+1,j,out=>orJ n c g f (j+1) (if c j=true then orI out (g j) n n else out)
theorem z9y{xs ys:List Bool}{n t:Nat}(ht:t<n):(orI xs ys n n).getD t false=(xs.getD t false||ys.getD t false):=by simp[orI,ht]
theorem y89{n:Nat}{c:Nat->Bool}{g:Nat->List Bool}:∀(f j:Nat) (out:List Bool),out.length=n ->
  (orJ n c g f j out).length=n/\∀t,t<n->((orJ n c g f j out).getD t false=true↔out.getD t false=true∨∃k,j<=k/\k<j+f/\c k=true/\(g k).getD t false=true)
 |0,j,out,hl=>⟨hl,fun t ht=>⟨.inl,fun h=>by
   rcases h with h|⟨k,h1,h2,_⟩
   ·exact h
   omega⟩⟩
 |f+1,j,out,hl=>by
  unfold orJ;obtain⟨r1,r2⟩:=y89 (n:=n) (c:=c) (g:=g) f (j+1) (if c j=true then orI out (g j) n n else out) (by split<;>first|exact z2s _ _ _ _|exact hl);refine⟨r1,fun t ht=>?_⟩;rw[r2 t ht];by_cases hc:c j=true
  ·rw[qAb hc,z9y ht,qAt];constructor
   ·rintro((h|h)|⟨k,h1,h2,h3⟩)
    ·exact .inl h
    ·exact .inr ⟨j,by omega,by omega,hc,h⟩
    exact .inr ⟨k,by omega,by omega,h3⟩
   rintro(h|⟨k,h1,h2,h3,h4⟩)
   ·exact .inl (.inl h)
   by_cases e:k=j
   ·subst e;exact .inl (.inr h4)
   exact .inr ⟨k,by omega,by omega,h3,h4⟩
  rw[qAa hc];constructor
  ·rintro(h|⟨k,h1,h2,h3⟩)
   ·exact .inl h
   exact .inr ⟨k,by omega,by omega,h3⟩
  rintro(h|⟨k,h1,h2,h3,h4⟩)
  ·exact .inl h
  by_cases e:k=j
  ·subst e;exact absurd h3 hc
  exact .inr ⟨k,by omega,by omega,h3,h4⟩
def orQ(n:Nat)(c:Q1->Nat->Bool)(g:Q1->Nat->List Bool):List Q1->List Bool->List Bool
 | [],out=>out
 |z::r,out=>orQ n c g r (orJ n (c z) (g z) z.2.length 0 out)
theorem x4e{n:Nat}{c:Q1->Nat->Bool}{g:Q1->Nat->List Bool}:∀(q:List Q1) (out:List Bool),out.length=n ->
    (orQ n c g q out).length=n/\∀t,t<n->((orQ n c g q out).getD t false=true↔out.getD t false=true∨∃z∈q,∃k,k<z.2.length/\c z k=true/\(g z k).getD t false=true)
  | [],out,hl=>⟨hl,fun t ht=>⟨.inl,fun h=>by
      rcases h with h|⟨k,h1,_⟩
      · exact h
      cases h1⟩⟩
  |z::r,out,hl=>by
    obtain⟨q1,q2⟩:=y89 (n:=n) (c:=c z) (g:=g z) z.2.length 0 out hl;obtain⟨r1,r2⟩:=x4e (n:=n) (c:=c) (g:=g) r _ q1;unfold orQ;refine⟨r1,fun t ht=>?_⟩;rw[r2 t ht,q2 t ht];constructor
    · rintro((h|⟨k,h1,h2,h3⟩)|⟨w,hw,h⟩)
      · exact .inl h
      · exact .inr ⟨z,by simp,k,by omega,h3⟩
      exact .inr ⟨w,by simp[hw],h⟩
    rintro(h|⟨w,hw,k,h1,h2⟩)
    · exact .inl (.inl h)
    rw[qBu]at hw;rcases hw with rfl|hw
    · exact .inl (.inr ⟨k,by omega,by omega,h2⟩)
    exact .inr ⟨w,hw,k,h1,h2⟩
def fiT(L:Mat)(c:Int):Nat->Nat->List Bool->List Bool
 |0,_,out=>out
 |f+1,t,out=>fiT L c f (t+1) (out.set t ((out.getD t false||c==(t:Int))||atM L c.toNat t))
def fiI(base:Int)(null:List Bool)(L:Mat)(R:Nat)(l:List Int):Nat->Nat->List Bool->List Bool
 |0,_,out=>out
 |f+1,i,out=>fiI base null L R l f (i+1) (if Q4b base null (l.take i)=true then fiT L (l.getD i 0) R 0 out else out)
def firF(base:Int)(null:List Bool)(L:Mat)(R:Nat)(l:List Int):List Bool:=fiI base null L R l l.length 0 (List.replicate (R+1) false)
theorem x8v{L:Mat}{c:Int}:∀(f t:Nat) (out:List Bool),t+f<=out.length->(fiT L c f t out).length=out.length/\∀u,((fiT L c f t out).getD u false=true↔out.getD u false=true∨(t<=u/\u<t+f/\(c=u∨atM L c.toNat u=true)))
 |0,t,out,h=>⟨rfl,fun u=>⟨.inl,fun q=>by
   rcases q with q|⟨h1,h2,_⟩
   ·exact q
   omega⟩⟩
 |f+1,t,out,h=>by
  unfold fiT;obtain⟨r1,r2⟩:=x8v (L:=L) (c:=c) f (t+1) (out.set t ((out.getD t false||c==(t:Int))||atM L c.toNat t)) (by rw[qBr];omega);refine⟨by rw[r1,qBr],fun u=>?_⟩;rw[r2,z2a _ _ _ _ _ (by omega)];by_cases e:u=t
  ·subst e;rw[qAb rfl,qAt,qAt,qBi];constructor
   ·rintro(((h1|h1)|h1)|h1)
    ·exact .inl h1
    ·exact .inr ⟨by omega,by omega,.inl h1⟩
    ·exact .inr ⟨by omega,by omega,.inr h1⟩
    omega
   rintro(h1|⟨_,_,h1|h1⟩)
   ·exact .inl (.inl (.inl h1))
   ·exact .inl (.inl (.inr h1))
   exact .inl (.inr h1)
  rw[qAa e];constructor
  ·rintro(h1|⟨h1,h2,h3⟩)
   ·exact .inl h1
   exact .inr ⟨by omega,by omega,h3⟩
  rintro(h1|⟨h1,h2,h3⟩)
  ·exact .inl h1
  exact .inr ⟨by omega,by omega,h3⟩
theorem x8u{base:Int}{null:List Bool}{L:Mat}{R:Nat}{l:List Int}:∀(f i:Nat) (out:List Bool),out.length=R+1->(fiI base null L R l f i out).length=R+1 /\
  ∀u,((fiI base null L R l f i out).getD u false=true↔out.getD u false=true∨(u<R/\∃k,i<=k/\k<i+f/\Q4b base null (l.take k)=true/\(l.getD k 0=u∨atM L (l.getD k 0).toNat u=true)))
 |0,i,out,h=>⟨h,fun u=>⟨.inl,fun q=>by
   rcases q with q|⟨_,k,h1,h2,_⟩
   ·exact q
   omega⟩⟩
 |f+1,i,out,h=>by
  unfold fiI;obtain⟨t1,t2⟩:=x8v (L:=L) (c:=l.getD i 0) R 0 out (by omega);obtain⟨r1,r2⟩:=x8u (base:=base) (null:=null) (L:=L) (R:=R) (l:=l) f (i+1) (if Q4b base null (l.take i)=true then fiT L (l.getD i 0) R 0 out else out) (by split<;>first|(rw[t1];exact h)|exact h);refine⟨r1,fun u=>?_⟩;rw[r2];by_cases hc:Q4b base null (l.take i)=true
  ·rw[qAb hc,t2];constructor
   ·rintro((h1|⟨h1,h2,h3⟩)|⟨h0,k,h1,h2,h3⟩)
    ·exact .inl h1
    ·exact .inr ⟨by omega,i,by omega,by omega,hc,h3⟩
    exact .inr ⟨h0,k,by omega,by omega,h3⟩
   rintro(h1|⟨h0,k,h1,h2,h3,h4⟩)
   ·exact .inl (.inl h1)
   by_cases e:k=i
   ·subst e;exact .inl (.inr ⟨by omega,by omega,h4⟩)
   exact .inr ⟨h0,k,by omega,by omega,h3,h4⟩
  rw[qAa hc];constructor
  ·rintro(h1|⟨h0,k,h1,h2,h3⟩)
   ·exact .inl h1
   exact .inr ⟨h0,k,by omega,by omega,h3⟩
  rintro(h1|⟨h0,k,h1,h2,h3,h4⟩)
  ·exact .inl h1
  by_cases e:k=i
  ·subst e;exact absurd h3 hc
  exact .inr ⟨h0,k,by omega,by omega,h3,h4⟩
theorem y2a{α:Type}{P:List α->α->List α->Prop}(l:List α):(∃k,∃h:k<l.length,P (l.take k) l[k] (l.drop (k+1)))↔∃a s b,l=a++s::b/\P a s b:=by
 constructor
 ·rintro⟨k,h,hp⟩;refine⟨l.take k,l[k],l.drop (k+1),?_,hp⟩;rw[← qC h,qFb]
 rintro⟨a,s,b,e,hp⟩;have hl:a.length<l.length:=by rw[e];simp
 refine⟨a.length,hl,?_⟩;have e1:l.take a.length=a:=by rw[e];simp
 have e2:l[a.length]=s:=by
  have:l[a.length]? = some s:=by rw[e];simp
  rw[qE hl]at this;injection this
 have e3:l.drop (a.length+1)=b:=by rw[e];simp
 rw[e1,e2,e3];exact hp
theorem y8n{α β:Type}(f:α->β)(l:List α)(k:Nat)(d:β)(h:k<l.length):(l.map f).getD k d=f l[k]:=by
 rw[qD,qBt,qE h];rfl
section
variable {ps:List Pr}{R H:Nat}{null:List Bool}
def bs(R:Nat):Int:=(R:Int)+1
theorem y2y(P:Pr->List Sy->Sy->List Sy->Prop){C:Q1->Nat->Prop}(hC:∀p∈ps,∀(k:Nat) (h:k<p.syms.length),C (p.head,p.syms.map (Q0w R)) k↔P p (p.syms.take k) p.syms[k] (p.syms.drop (k+1))) :
  (∃z∈Q0e R ps,∃k,k<z.2.length/\C z k)↔∃p∈ps,∃a s b,p.syms=a++s::b/\P p a s b:=by
 constructor
 ·rintro⟨z,hz,k,hk,hc⟩;unfold Q0e at hz;rw[qBj]at hz;obtain⟨p,hp,rfl⟩:=hz;have j0:k<p.syms.length:=by simpa using hk
  exact⟨p,hp,(y2a (P:=P p) p.syms).1 ⟨k,j0,(hC p hp k j0).1 hc⟩⟩
 rintro⟨p,hp,h⟩;obtain⟨k,hk,hc⟩:=(y2a (P:=P p) p.syms).2 h;exact⟨(p.head,p.syms.map (Q0w R)),by unfold Q0e;exact qBj.2 ⟨p,hp,rfl⟩,k,by simpa using hk,(hC p hp k hk).2 hc⟩
theorem z63(hT:Q1d ps R H){p:Pr}(hp:p∈ps){s:Sy}(hs:s∈p.syms):0<=Q0w R s/\Q0w R s<(R:Int)+1+H:=by
 have hv:=hT.sy p hp s hs;cases hb:s.isH
 ·rw[hb,qAa (by simp)]at hv;rw[z35 hb];omega
 rw[hb,qAb rfl]at hv;have:=z1r (R:=R) hb;omega
theorem v23(p:Pr)(k:Nat):((p.head,p.syms.map (Q0w R)):Q1).2.take k=(p.syms.take k).map (Q0w R):=(List.map_take).symm
theorem x9m(p:Pr)(k:Nat):((p.head,p.syms.map (Q0w R)):Q1).2.drop k=(p.syms.drop k).map (Q0w R):=(List.map_drop).symm
theorem y7z(p:Pr){k:Nat}(h:k<p.syms.length):((p.head,p.syms.map (Q0w R)):Q1).2.getD k 0=Q0w R p.syms[k]:=y8n _ _ _ _ h
theorem v1r(hT:Q1d ps R H){p:Pr}(hp:p∈ps)(k:Nat):∀s∈p.syms.take k,0<=s.num/\s.num<(if s.isH then(H:Int) else R):=fun s hs=>hT.sy p hp s (qFl hs)
theorem x2m(hT:Q1d ps R H){p:Pr}(hp:p∈ps)(k:Nat):∀s∈p.syms.drop k,0<=s.num/\s.num<(if s.isH then(H:Int) else R):=fun s hs=>hT.sy p hp s (List.mem_of_mem_drop hs)
def ldZc(R:Nat)(null:List Bool)(z:Q1)(k:Nat):Bool:=Q4b (bs R) null (z.2.take k)
def ldX(R:Nat)(z:Q1):Nat:=(bs R+z.1).toNat
def W0d(z:Q1)(k:Nat):Nat:=(z.2.getD k 0).toNat
def ld0(R H:Nat)(null:List Bool)(q:List Q1):Mat:=cdI (ldZc R null) (ldX R) W0d q (sqF (R+1+H))
def ldF(R H:Nat)(null:List Bool)(q:List Q1):Mat:=Q5j (ld0 R H null q)
theorem v2c(hT:Q1d ps R H)(hn:Q7g ps H null):Sq (R+1+H) (ld0 R H null (Q0e R ps))/\relM (ld0 R H null (Q0e R ps))=Ld ps R (NS ps H):=by
 obtain⟨c1,c2⟩:=y8a (n:=R+1+H) (c:=ldZc R null) (x:=ldX R) (y:=W0d) (Q0e R ps) (sqF (R+1+H)) (y12 _) (by
  intro z hz;unfold Q0e at hz;rw[qBj]at hz;obtain⟨p,hp,rfl⟩:=hz;have h1:=hT.hd p hp;refine⟨by unfold ldX bs;dsimp only;omega,fun k hk _=>?_⟩;have j0:k<p.syms.length:=by simpa using hk
  unfold W0d;rw[y7z p j0];have:=z63 hT hp (qG j0);omega)
 refine⟨c1,?_⟩;funext i j;apply propext;unfold relM ld0;rw[c2,x5c];have j1:=y2y (ps:=ps) (R:=R) (fun p a s b=>a.all (Q4c (NS ps H))=true/\i.toNat=(bs R+p.head).toNat/\j.toNat=(Q0w R s).toNat) (C:=fun z k=>ldZc R null z k=true/\i.toNat=ldX R z/\j.toNat=W0d z k) (fun p hp k hk=>by
  unfold ldZc ldX W0d;rw[v23,y7z p hk];unfold bs;rw[y2u hn (v1r hT hp k)])
 constructor
 ·rintro⟨h0,h1,h|h⟩
  ·cases h
  obtain⟨p,hp,a,s,b,e,ha,e1,e2⟩:=j1.1 h;have g1:=hT.hd p hp;have g2:=z63 hT hp (s:=s) (by rw[e];simp);unfold bs at e1;exact⟨p,hp,by omega,a,s,b,e,ha,by omega⟩
 rintro⟨p,hp,e1,a,s,b,e,ha,e2⟩;have g1:=hT.hd p hp;have g2:=z63 hT hp (s:=s) (by rw[e];simp);exact⟨by omega,by omega,.inr (j1.2 ⟨p,hp,a,s,b,e,ha,by unfold bs;omega,by omega⟩)⟩
theorem v2d(hT:Q1d ps R H)(hn:Q7g ps H null):Sq (R+1+H) (ldF R H null (Q0e R ps))/\∀c t:Nat,atM (ldF R H null (Q0e R ps)) c t=true↔TC (Ld ps R (NS ps H)) c t:=by
 obtain⟨h1,h2⟩:=v2c hT hn;have:=z8v h1;rw[h2]at this;exact this
theorem v16(hT:Q1d ps R H){N:Int->Bool}{t:Nat}:∀(n:Nat) (X:Int),FS ps N t n X=true->t<R
 |0,X,h=>by cases h
 |n+1,X,h=>by
  unfold FS at h;rw[qBb]at h;obtain⟨p,hp,h⟩:=h;rw[qAd]at h;obtain⟨a,s,b,e,ha,hs⟩:=z1s h.2;have hv:=hT.sy p hp s (by rw[e];simp);cases hb:s.isH
  ·rw[hb,qAa (by simp)]at hv;rw[hb,qAa (by simp),qBi]at hs;omega
  rw[hb,qAb rfl]at hs;exact v16 hT n _ hs
theorem v1x(hT:Q1d ps R H){N:Int->Bool}{t:Nat}{l:List Sy}(hv:∀s∈l,0<=s.num/\s.num<(if s.isH then(H:Int) else R))(h:Q3y N (fun X=>FS ps N t H X) t l=true):t<R:=by
 obtain⟨a,s,b,e,ha,hs⟩:=z1s h;have j0:=hv s (by rw[e];simp);cases hb:s.isH
 ·rw[hb,qAa (by simp)]at j0;rw[hb,qAa (by simp),qBi]at hs;omega
 rw[hb,qAb rfl]at hs;exact v16 hT H _ hs
def fiF(R H:Nat)(null:List Bool)(q:List Q1)(l:List Int):List Bool:=firF (bs R) null (ldF R H null q) R l
theorem v14(hT:Q1d ps R H)(hn:Q7g ps H null){l:List Sy}(hv:∀s∈l,0<=s.num/\s.num<(if s.isH then(H:Int) else R)) :
  (fiF R H null (Q0e R ps) (l.map (Q0w R))).length=R+1/\∀u,(fiF R H null (Q0e R ps) (l.map (Q0w R))).getD u false=Q3y (NS ps H) (fun X=>FS ps (NS ps H) u H X) u l:=by
 obtain⟨f1,f2⟩:=x8u (base:=bs R) (null:=null) (L:=ldF R H null (Q0e R ps)) (R:=R) (l:=l.map (Q0w R)) (l.map (Q0w R)).length 0 (List.replicate (R+1) false) (by simp);refine⟨f1,fun u=>?_⟩;unfold fiF firF;rw[qBc,f2];have hz:¬(List.replicate (R+1) false).getD u false=true:=by
  rw[qD];by_cases h:u<R+1
  ·simp[h]
  simp[h]
 have hL:=(v2d hT hn).2;have j0:u<R->((∃k,0<=k/\k<0+(l.map (Q0w R)).length/\Q4b (bs R) null ((l.map (Q0w R)).take k)=true/\((l.map (Q0w R)).getD k 0=u∨atM (ldF R H null (Q0e R ps)) ((l.map (Q0w R)).getD k 0).toNat u=true))↔Q3y (NS ps H) (fun X=>FS ps (NS ps H) u H X) u l=true):=by
  intro hu;rw[x9y hT hu hv,← y2a (P:=fun a s b=>a.all (Q4c (NS ps H))=true/\(Q0w R s=u∨TC (Ld ps R (NS ps H)) (Q0w R s) u))];have each:∀(k:Nat) (h:k<l.length),(Q4b (bs R) null ((l.map (Q0w R)).take k)=true/\((l.map (Q0w R)).getD k 0=u∨atM (ldF R H null (Q0e R ps)) ((l.map (Q0w R)).getD k 0).toNat u=true))↔((l.take k).all (Q4c (NS ps H))=true/\(Q0w R l[k]=u∨TC (Ld ps R (NS ps H)) (Q0w R l[k]) u)):=fun k h=>by
   have j1:=hv l[k] (qG h);have j2:0<=Q0w R l[k]:=by
    cases hb:l[k].isH
    ·rw[z35 hb];exact j1.1
    have:=z1r (R:=R) hb;omega
   rw[← List.map_take,y8n _ _ _ _ h,hL,show(((Q0w R l[k]).toNat:Nat):Int)=Q0w R l[k] by omega];unfold bs;rw[y2u hn (fun s hs=>hv s (qFl hs))]
  constructor
  ·rintro⟨k,_,h1,h2⟩;have h:k<l.length:=by simpa using h1
   exact⟨k,h,(each k h).1 h2⟩
  rintro⟨k,h,h2⟩;exact⟨k,by omega,by simpa using h,(each k h).2 h2⟩
 constructor
 ·rintro(h|⟨hu,h⟩)
  ·exact absurd h hz
  exact(j0 hu).1 h
 intro h;have hu:=v1x hT hv h;exact .inr ⟨hu,(j0 hu).2 h⟩
def laC(R:Nat)(null:List Bool)(z:Q1)(k:Nat):Bool:=decide (0<=z.2.getD k 0-bs R)&&Q4b (bs R) null (z.2.drop (k+1))
def laX(z:Q1):Nat:=z.1.toNat
def laY(R:Nat)(z:Q1)(k:Nat):Nat:=(z.2.getD k 0-bs R).toNat
def la0(R H:Nat)(null:List Bool)(q:List Q1):Mat:=cdI (laC R null) laX (laY R) q (sqF H)
def laF(R H:Nat)(null:List Bool)(q:List Q1):Mat:=Q5j (la0 R H null q)
theorem z6k(hT:Q1d ps R H){p:Pr}(hp:p∈ps){s:Sy}(hs:s∈p.syms):0<=Q0w R s-bs R↔s.isH=true:=by
 have hv:=hT.sy p hp s hs;unfold bs;cases hb:s.isH
 ·rw[hb,qAa (by simp)]at hv;rw[z35 hb];exact⟨fun h=>by omega,fun h=>by cases h⟩
 rw[z1r hb];exact⟨fun _=>rfl,fun _=>hv.1⟩
theorem v2b(hT:Q1d ps R H)(hn:Q7g ps H null):Sq H (laF R H null (Q0e R ps))/\∀a b:Nat,atM (laF R H null (Q0e R ps)) a b=true↔TC (Ls ps (NS ps H)) a b:=by
 have j0:Sq H (la0 R H null (Q0e R ps))/\relM (la0 R H null (Q0e R ps))=Ls ps (NS ps H):=by
  obtain⟨c1,c2⟩:=y8a (n:=H) (c:=laC R null) (x:=laX) (y:=laY R) (Q0e R ps) (sqF H) (y12 _) (by
   intro z hz;unfold Q0e at hz;rw[qBj]at hz;obtain⟨p,hp,rfl⟩:=hz;have h1:=hT.hd p hp;refine⟨by unfold laX;dsimp only;omega,fun k hk _=>?_⟩;have j1:k<p.syms.length:=by simpa using hk
   unfold laY;rw[y7z p j1];have:=z63 hT hp (qG j1);unfold bs;omega)
  refine⟨c1,?_⟩;funext i j;apply propext;unfold relM la0;rw[c2,x5c];have j2:=y2y (ps:=ps) (R:=R) (fun p a s b=>(0<=Q0w R s-bs R/\b.all (Q4c (NS ps H))=true)/\i.toNat=p.head.toNat/\j.toNat=(Q0w R s-bs R).toNat) (C:=fun z k=>laC R null z k=true/\i.toNat=laX z/\j.toNat=laY R z k) (fun p hp k hk=>by
   unfold laC laX laY;rw[x9m,y7z p hk,qAd,qAu];have:=y2u hn (x2m hT hp (k+1));unfold bs;rw[this])
  constructor
  ·rintro⟨h0,h1,h|h⟩
   ·cases h
   obtain⟨p,hp,a,s,b,e,⟨e0,ha⟩,e1,e2⟩:=j2.1 h;have g1:=hT.hd p hp;have hs:s∈p.syms:=by rw[e];simp
   have hb:=(z6k hT hp hs).1 e0;have g3:=z1r (R:=R) hb;unfold bs at e0 e2;exact⟨p,hp,by omega,a,s,b,e,hb,by omega,ha⟩
  rintro⟨p,hp,e1,a,s,b,e,hb,e2,ha⟩;have g1:=hT.hd p hp;have hs:s∈p.syms:=by rw[e];simp
  have e0:=(z6k hT hp hs).2 hb;have g3:=z1r (R:=R) hb;have hv:=hT.sy p hp s hs;exact⟨by omega,by omega,.inr (j2.2 ⟨p,hp,a,s,b,e,⟨e0,ha⟩,by rw[e1],by unfold bs;omega⟩)⟩
 have:=z8v j0.1;rw[j0.2]at this;exact this
def reC(R:Nat)(z:Q1)(k:Nat):Bool:=decide (0<=z.2.getD k 0-bs R)
def re0(R H:Nat)(q:List Q1):Mat:=cdI (reC R) laX (laY R) q (sqF H)
def reF(R H:Nat)(q:List Q1):Mat:=Q5j (re0 R H q)
theorem v2o(hT:Q1d ps R H):Sq H (reF R H (Q0e R ps))/\∀a b:Nat,atM (reF R H (Q0e R ps)) a b=true↔TC (Rc ps) a b:=by
 have j0:Sq H (re0 R H (Q0e R ps))/\relM (re0 R H (Q0e R ps))=Rc ps:=by
  obtain⟨c1,c2⟩:=y8a (n:=H) (c:=reC R) (x:=laX) (y:=laY R) (Q0e R ps) (sqF H) (y12 _) (by
   intro z hz;unfold Q0e at hz;rw[qBj]at hz;obtain⟨p,hp,rfl⟩:=hz;have h1:=hT.hd p hp;refine⟨by unfold laX;dsimp only;omega,fun k hk _=>?_⟩;have j1:k<p.syms.length:=by simpa using hk
   unfold laY;rw[y7z p j1];have:=z63 hT hp (qG j1);unfold bs;omega)
  refine⟨c1,?_⟩;funext i j;apply propext;unfold relM re0;rw[c2,x5c];have j2:=y2y (ps:=ps) (R:=R) (fun p a s b=>0<=Q0w R s-bs R/\i.toNat=p.head.toNat/\j.toNat=(Q0w R s-bs R).toNat) (C:=fun z k=>reC R z k=true/\i.toNat=laX z/\j.toNat=laY R z k) (fun p hp k hk=>by
   unfold reC laX laY;rw[y7z p hk,qAu])
  constructor
  ·rintro⟨h0,h1,h|h⟩
   ·cases h
   obtain⟨p,hp,a,s,b,e,e0,e1,e2⟩:=j2.1 h;have g1:=hT.hd p hp;have hs:s∈p.syms:=by rw[e];simp
   have hb:=(z6k hT hp hs).1 e0;have g3:=z1r (R:=R) hb;unfold bs at e0 e2;exact⟨p,hp,by omega,s,hs,hb,by omega⟩
  rintro⟨p,hp,e1,s,hs,hb,e2⟩;have g1:=hT.hd p hp;have e0:=(z6k hT hp hs).2 hb;have g3:=z1r (R:=R) hb;have hv:=hT.sy p hp s hs;obtain⟨a,b,e⟩:=qEy hs;exact⟨by omega,by omega,.inr (j2.2 ⟨p,hp,a,s,b,e,e0,by rw[e1],by unfold bs;omega⟩)⟩
 have:=z8v j0.1;rw[j0.2]at this;exact this
def nxC(R:Nat)(head:Int)(z:Q1)(k:Nat):Bool:=z.2.getD k 0==bs R+head
def nxG(R H:Nat)(null:List Bool)(q:List Q1)(z:Q1)(k:Nat):List Bool:=fiF R H null q (z.2.drop (k+1))
def nxF(R H:Nat)(null:List Bool)(q:List Q1)(head:Int):List Bool:=orQ (R+1) (nxC R head) (nxG R H null q) q ((List.replicate (R+1) false).set R (head==0))
theorem v0u(hT:Q1d ps R H)(hn:Q7g ps H null){h:Int}(hh:0<=h):(nxF R H null (Q0e R ps) h).length=R+1/\∀t,t<R+1->((nxF R H null (Q0e R ps) h).getD t false=true↔Nx ps R (NS ps H) (fun X t=>FS ps (NS ps H) t H X) h t):=by
 obtain⟨q1,q2⟩:=x4e (n:=R+1) (c:=nxC R h) (g:=nxG R H null (Q0e R ps)) (Q0e R ps) ((List.replicate (R+1) false).set R (h==0)) (by simp);refine⟨q1,fun t ht=>?_⟩;unfold nxF;rw[q2 t ht,z2a _ _ _ _ _ (by simp)];have j0:=y2y (ps:=ps) (R:=R) (fun p a s b=>Q0w R s=bs R+h/\Q3y (NS ps H) (fun X=>FS ps (NS ps H) t H X) t b=true) (C:=fun z k=>nxC R h z k=true/\(nxG R H null (Q0e R ps) z k).getD t false=true) (fun p hp k hk=>by
  unfold nxC nxG;rw[x9m,y7z p hk,qBi,(v14 hT hn (x2m hT hp (k+1))).2])
 rw[j0];unfold Nx;refine or_congr ?_ ?_
 ·by_cases e:t=R
  ·rw[qAb e,qBi];exact⟨fun q=>⟨q,e⟩,fun q=>q.1⟩
  rw[qAa e];refine⟨fun q=>?_,fun q=>absurd q.2 e⟩;rw[qD]at q;simp[ht]at q
 constructor
 ·rintro⟨p,hp,a,s,b,e,e1,e2⟩;have hs:s∈p.syms:=by rw[e];simp
  have hb:=(z6k hT hp hs).1 (by omega);have g3:=z1r (R:=R) hb;unfold bs at e1;exact⟨p,hp,a,s,b,e,hb,by omega,e2⟩
 rintro⟨p,hp,a,s,b,e,hb,e1,e2⟩;have g3:=z1r (R:=R) hb;exact⟨p,hp,a,s,b,e,by unfold bs;omega,e2⟩
def foF(R H:Nat)(null:List Bool)(q:List Q1)(head:Nat):List Bool:=orJ (R+1) (fun h=>atM (laF R H null q) h head) (fun h=>nxF R H null q h) H 0 (nxF R H null q head)
theorem v27(hT:Q1d ps R H)(hn:Q7g ps H null)(h:Nat):(foF R H null (Q0e R ps) h).length=R+1/\∀t,t<R+1->((foF R H null (Q0e R ps) h).getD t false=true↔Fo ps R (NS ps H) (fun X t=>FS ps (NS ps H) t H X) h t):=by
 obtain⟨n1,n2⟩:=v0u hT hn (h:=(h:Int)) (by omega);obtain⟨q1,q2⟩:=y89 (n:=R+1) (c:=fun k=>atM (laF R H null (Q0e R ps)) k h) (g:=fun k=>nxF R H null (Q0e R ps) k) H 0 (nxF R H null (Q0e R ps) h) n1;refine⟨q1,fun t ht=>?_⟩;unfold foF;rw[q2 t ht,n2 t ht];unfold Fo;refine or_congr Iff.rfl ?_;have la:=v2b hT hn;constructor
 ·rintro⟨k,_,_,h1,h2⟩;exact⟨k,(la.2 k h).1 h1,((v0u hT hn (h:=(k:Int)) (by omega)).2 t ht).1 h2⟩
 rintro⟨k,h1,h2⟩;have hk:∃m:Nat,k=m:=by
  obtain⟨n,hp⟩:=h1;have:∃p∈ps,p.head=k:=by
   cases n with
   |zero=>obtain⟨p,hp,e,_⟩:=hp;exact⟨p,hp,e⟩
   |succ n=>obtain⟨_,⟨p,hp,e,_⟩,_⟩:=hp;exact⟨p,hp,e⟩
  obtain⟨p,hp,e⟩:=this;have:=hT.hd p hp;exact⟨k.toNat,by omega⟩
 obtain⟨m,rfl⟩:=hk;have j0:=(la.2 m h).2 h1;have:=la.1.atM_lt j0;exact⟨m,by omega,by omega,j0,((v0u hT hn (h:=(m:Int)) (by omega)).2 t ht).2 h2⟩
end
theorem fcellZ{a b:World}{p:Addr}{v:Value}(h:Q0a a b)(hc:a.cell? p=some v):b.cell? p=some v:=by
 unfold World.cell? at hc ⊢;cases hb:a.heap[p.block]? with
 |none=>rw[hb]at hc;cases hc
 |some o =>
  rw[h.at hb id];rw[hb]at hc;exact hc
theorem y15(s:ByteArray):∀(f a:Nat) (acc:List (ZLn × Int)),acc.length<=a->a<=s.size->(Q32 s f a acc).1.length<=s.size
 |0,a,acc,h1,h2=>by simp[Q32];omega
 |f+1,a,acc,h1,h2=>by
  rw[z6w];split
  ·split
   ·split
    ·simp
    obtain⟨n1,n2,n3,n4⟩:=z8i s (a:=a) h2;exact y15 s f _ _ (by simp;omega) (by omega)
   simp
  dsimp only;omega
theorem x5t(s:ByteArray):(Q4x s).1.length<=s.size:=y15 s _ 0 [] (by simp) (by omega)
theorem y55(s:ByteArray):∀(f a:Nat) (acc:List (ZLn × Int)),-1<=(Q32 s f a acc).2
 |0,a,acc=>by simp[Q32]
 |f+1,a,acc=>by
  rw[z6w];split
  ·split
   ·split
    ·dsimp only;omega
    exact y55 s f _ _
   dsimp only;omega
  simp
theorem y3c:∀(xs:List ZLV) (X:SP),(∀x∈xs,0<=x.pl)->-1<=(Q1b X xs).2
 | [],X,_=>by simp[Q1b]
 |x::xs,X,hx=>by
  unfold Q1b;split
  ·have:=hx x (by simp);dsimp only;omega
  exact y3c xs _ (fun y hy=>hx y (by simp[hy]))
theorem y6w{em:ByteArray->Bool}{l:List ZLV}{i:Nat}(hi:i<l.length):Q5s em (l.drop i)=if em l[i].ln.pat=true then some l[i].pl else Q5s em (l.drop (i+1)):=by
 rw[qC hi];rfl
theorem x1r(em:ByteArray->Bool)(s:ByteArray)(w:World)(hs:s.size<=maxLen)(hl:800<s.size):Calls Tryz.prog 18 #[.string s] w fun e w'=>ReadRet em s w e w':=by
 have hz:∀xs fp,Q6b em s xs fp=(1,0):=fun xs fp=>by unfold Q6b;rw[qAb hl]
 have HZ:=hid hz;have k1:(800:Int)<(s.size:Int):=by omega
 unfold maxLen at hs;clear hz;go_enter Tryz.func18,Tryz.ntmps18
 go_wp2;refine qAc (qFg rfl _ _ _) rfl ⟨.pointer none,[],fun q=>by omega,fun x hx=>by(cases hx),?_,mRf _ _,?_⟩
 ·rw[HZ.out];rfl
 rw[HZ.out];intro q;cases q
theorem y72(em:ByteArray->Bool)(s:ByteArray)(w:World)(hl:s.size<=800)(hY:∀y∈(Q4x s).1,YOk em y):Calls Tryz.prog 18 #[.string s] w fun e w'=>ReadRet em s w e w':=by
 have FO:=hid (fun w=>x5y s w (by omega));have jr:=x5t s;have kv:-1<=(Q4x s).2:=y55 s _ 0 [];have HZ:Hid (∀(xs:List ZLV) (fp:Int),Q6b em s xs fp=if 0<=fp then((2:Int),fp) else if 0<=(Q1b Q2m xs).2 then(3,(Q1b Q2m xs).2)
   else if 0<=Q3k (Q1b Q2m xs).1 xs [] then(4,Q3k (Q1b Q2m xs).1 xs [])
   else tailZ s (Q1b Q2m xs).1.prods.length (Q5s em (Q1b Q2m xs).1.rules)):=fun xs fp=>by unfold Q6b;rw[qAa (by omega)]
 generalize hR:Q4x s=R at FO jr kv hY;obtain⟨zs,fp⟩:=R;dsimp only at FO jr kv hY;have HR:=hid hR;have HY:=hid hY;have k1:¬(800:Int)<(s.size:Int):=by omega
 clear hR hY;go_enter Tryz.func18,Tryz.ntmps18
 go_upto_region 4 with(first
  |(go_at_call 40;refine(FO.out _).mono ?_;rintro e w1⟨v,xs,x7,rfl,ks,hL⟩;have jc:=hid x7;have je:=hid ks;have HL:=hid hL;clear x7 ks hL))
 by_cases kw:0<=fp
 ·go_wp2;refine qAc (qFg rfl _ _ _) rfl ⟨.pointer none,xs,fun _=>by rw[HR.out];exact jc.out,HL.each,?_,je.out,?_⟩
  ·rw[HR.out,HZ.out,qAb kw];rfl
  rw[HR.out,HZ.out,qAb kw];intro q;cases q
 have kg:fp=-1:=by omega
 subst kg;have x6:xs.length<=1000:=by
  have:=qEn List.length jc.out;rw[qAv]at this;omega
 have k2:Hid (∀x∈xs,YOk em x.both):=fun x hx=>HY.out _ (by rw[← jc.out];exact List.mem_map_of_mem hx);have ki:∀x∈xs,0<=x.pl:=fun x hx=>(k2.out x hx).pl.1;have SO:=hid (y73 w1 w.heap.size v xs HL.out x6);have xb:=y3c xs Q2m ki;have jx:=hid (fun h=>y3b xs Q2m x33 h ki);have jz:=hid (y9j xs Q2m (fun x=>x∈xs) (fun x hx=>by(simp[Q2m]at hx)) (fun x hx=>by(simp[Q2m]at hx)) (fun x hx=>hx));have j8:=hid (HZ.out xs (-1));clear ki HZ FO;generalize hSS:Q1b Q2m xs=SS at SO xb jx jz j8;have xh:=hid hSS;clear hSS;obtain⟨X,sp⟩:=SS;dsimp only at SO xb jx jz j8;rw[qAa (by omega)]at j8;obtain⟨vo,vc,y9⟩:=z0c HL.own;subst y9;go_upto_region 7 with(first
  |(go_at_call 41;refine(SO.out).mono ?_;rintro e w2⟨rfl,hX,kt⟩;have HX:=hid hX;have jb:=hid kt;clear hX kt))
 by_cases x1:0<=sp
 ·go_wp2;refine qAc (qFg rfl _ _ _) rfl ⟨.pointer none,xs,fun _=>by rw[HR.out];exact jc.out,fun x hx=>(HL.each x hx).fresh jb.out,?_,je.trans jb.out,?_⟩
  ·rw[HR.out,j8.out,qAb x1];rfl
  rw[HR.out,j8.out,qAb x1];intro q;cases q
 have kj:sp=-1:=by omega
 subst kj;rw[qAa (by omega)]at j8;obtain⟨yf,yg,yh,xm⟩:=jx.out (by omega);obtain⟨v0,v1,v2,v3,v4,hX⟩:=HX.out;have NM:=hid (x1n w2 w1.heap.size w.heap.size X v0 v1 v2 v3 v4 _ [] xs hX (HL.kept jb.out (fun _ _ x=>x)) (by omega) (by omega) x6 (fun x hx=>(k2.out x hx).zok));have jm:=hid hX;clear HX jx SO hX xm;generalize hNN:Q3k X xs []=NN at NM j8;clear hNN;go_upto_region 10 with(first
  |(go_at_call 42;refine(NM.out).mono ?_;rintro e w3⟨rfl,ku⟩;have jk:=hid ku;clear ku))
 by_cases kh:0<=NN
 ·go_wp2;refine qAc (qFg rfl _ _ _) rfl ⟨.pointer none,xs,fun _=>by rw[HR.out];exact jc.out,fun x hx=>((HL.each x hx).fresh jb.out).fresh jk.out,?_,(je.trans jb.out).trans jk.out,?_⟩
  ·rw[HR.out,j8.out,qAb kh];rfl
  rw[HR.out,j8.out,qAb kh];intro q;cases q
 rw[qAa kh]at j8;have HF:Hid (Q0a w w3):=(je.trans jb.out).trans jk.out;have xd:Hid (Q0a w w1):=je.out;have jn:=jm.fresh jk.out;have ko:=hid jn;have kc:Hid (Q0a w1 w3):=jb.trans jk.out;have EM:Hid (∀(x:ZLV) (W:World),x∈X.rules->Calls Tryz.prog 43 #[.string x.ln.pat,.string ⟨#[]⟩] W fun e w'=>e=.returned (.bool (em x.ln.pat))/\Q0a W w'):=fun x W hx=>by
  obtain⟨m1,m2⟩:=jz.1 x hx;obtain⟨L,q1,q2,q3⟩:=(k2.out x m1).pat m2;refine(y6f x.ln.pat ⟨#[]⟩ L W q2 (by show 0<=210;omega) q1).mono ?_;rintro e w'⟨b,h1,h2,h3⟩;refine⟨?_,h3⟩;have yd:em x.ln.pat=true↔L []:=q3;have:b=em x.ln.pat:=by rw[qBc,h2,yd];rfl
  rw[h1,this]
 obtain⟨a0,xo,x4⟩:=z0c (jn.own 0 _ rfl);obtain⟨a1,xq,x5⟩:=z0c (jn.own 1 _ rfl);obtain⟨a4,yi,jt⟩:=z0c (jn.own 4 _ rfl);dsimp only at x4 x5 jt;subst x4 x5 jt;have yj:w1.heap.size<w3.heap.size:=jn.lt;generalize hEE:Q5s em X.rules=EE at j8;have kl:=hid hEE;have yc:w.heap.size<=w1.heap.size:=je.size;clear hEE jm NM je jb jk jn;go_wp2_with fail
 go_loopw [8,9] (fun x8 _ wr=>∃i:Nat,x8=.int .i64 i/\i<=X.rules.length/\Q5s em (X.rules.drop i)=EE/\Q0a w3 wr)
   (fun x _ _=>1001-(intOf x).toNat)
 case atStart=>exact⟨0,rfl,by omega,kl.out,mRf _ _⟩
 obtain⟨i,rfl,hi,j0,j5⟩:=hrel;have jf:=ko.fresh j5;have k0:=Q2f.cell jf 0;have xa:=Q2f.cell jf 1;simp at k0 xa;have jl:=hid j5;have xu:=jf.lt;have kd:=hid jf;clear kl j5;by_cases ji:i<X.rules.length
 ·have j1:(i:Int)<(X.rules.length:Int):=by omega
  rw[y6w ji]at j0;have jq:=Q2f.rules jf;obtain⟨g,ke,hv⟩:=Joins.ownsRow_form jq.own (by omega);rw[qI]at hv;obtain⟨rfl,_,rfl⟩:=hv;have c3:=jq.cell i 3 ji (by omega);have c6:=jq.cell i 6 ji (by omega);have EX:=hid (EM.out X.rules[i] wr (by simp));generalize hxe:X.rules[i]=x at j0 c3 c6 EX;obtain⟨⟨xr,xk,xn,xp,j7,ye⟩,vs,vp,pl⟩:=x;simp[ZLV.cells]at c3 c6;have kx:=(jq.own.lt g rfl).2;dsimp only at j0 EX;clear hxe jf jq;cases hem:em xp
  ·rw[hem,qAa (by simp)]at j0;rw[hem]at EX;have jw:=hid j0;clear j0;go_wp2_with (first
    |(go_at_call 43;refine(EX.out).mono ?_;rintro e w5⟨rfl,jg⟩;have jv:=hid jg;clear jg))
   go_roundw
   case rel=>exact⟨i+1,by go_num,by omega,jw.out,jl.trans jv.out⟩
   simp[intOf];omega
  rw[hem,qAb rfl]at j0;rw[hem]at EX;have jw:=hid j0;clear j0;go_wp2_with (first
   |(go_at_call 43;refine(EX.out).mono ?_;rintro e w5⟨rfl,jg⟩;have jv:=hid jg;have kr:=kd.fresh jg;have m0:=Q2f.cell kr 0;simp at m0;have yn:w5.cell? ⟨g,i*7+6,none⟩=some (.int .i64 pl):=(fcellZ jg c6);clear jg kr))
  go_quiet (fail);go_wp2;refine qAc (qFg rfl _ _ _) rfl ⟨.pointer none,xs,fun _=>by rw[HR.out];exact jc.out,fun x hx=>((((HL.each x hx).fresh kc.out).fresh jl.out).fresh jv.out).fresh (Q3n _ _),?_,((HF.trans jl.out).trans jv.out).trans (Q3n _ _),?_⟩
  ·rw[HR.out,j8.out,← jw.out];rfl
  rw[HR.out,j8.out,← jw.out];intro q;cases q
 have j1:¬(i:Int)<(X.rules.length:Int):=by omega
 rw[qAp (by omega)]at j0;have js:EE=none:=j0.symm;subst js;have k3:Hid (Q6b em s xs (-1)=if X.prods.length=0 then(6,(s.size:Int)) else(0,0)):=j8.out;clear j0 jf j8 EM;by_cases jo:X.prods.length=0
 ·have j2:((X.prods.length:Int)==0)=true:=by simp[jo]
  have k4:Hid (Q6b em s xs (-1)=(6,(s.size:Int))):=by unfold Hid;rw[k3.out,qAb jo]
  clear jo k3;go_wp2;refine qAc (qFg rfl _ _ _) rfl ⟨.pointer none,xs,fun _=>by rw[HR.out];exact jc.out,fun x hx=>((HL.each x hx).fresh kc.out).fresh jl.out,?_,HF.trans jl.out,?_⟩
  ·rw[HR.out,k4.out];rfl
  rw[HR.out,k4.out];intro q;cases q
 have j2:((X.prods.length:Int)==0)=false:=by simpa using jo
 have k4:Hid (Q6b em s xs (-1)=(0,0)):=by unfold Hid;rw[k3.out,qAa jo]
 have xj:Hid (Q0a w1 wr):=kc.trans jl.out;clear jo k3;obtain⟨wo,ya⟩:∃wo,wo=wr:=⟨_,rfl⟩;subst ya;go_wp2_with fail
 go_loopw [10,11,12,13] (fun x10 _ _ _ wr=>∃(i:Nat) (v4:Value) (sv:List Value),x10=.int .i64 i/\i<=X.prods.length/\sv.length=i/\Q6v wr w1.heap.size X (.slice a0 X.rules.length xo) (.slice a1 X.prods.length xq) v2 v3 v4 sv/\Q0a w1 wr)
   (fun x _ _ _ _=>1001-(intOf x).toNat)
 case atStart=>exact⟨0,_,[],rfl,by omega,rfl,⟨kd.out,by simp,fun i v x q=>by simp at q⟩,xj.out⟩
 obtain⟨i,v4,sv,rfl,hi,x0,hS,j5⟩:=hrel;obtain⟨wp,yb⟩:∃wp,wp=wr:=⟨_,rfl⟩;subst yb;have xt:Hid (1001-(intOf (.int .i64 ((i:Int)+1))).toNat<1001-(intOf (.int .i64 (i:Int))).toNat):=by unfold Hid;simp[intOf];omega
 have jy:=hid x0;have HS:=hid hS;have xf:=hid j5;have x9:=Q2f.cell hS.sp 1;simp at x9;have xv:=hS.sp.lt;clear x0 kd k0 xa xu ko;by_cases ji:i<X.prods.length
 ·have j3:(i:Int)<(X.prods.length:Int):=by omega
  have k5:=Q2f.prods hS.sp;obtain⟨g,ke,hv⟩:=Joins.ownsRow_form k5.own (by omega);rw[qI]at hv;obtain⟨rfl,_,rfl⟩:=hv;have c4:=k5.cell i 4 ji (by omega);have kx:=(k5.own.lt g rfl).2;have jj:=jz.2 X.prods[i] (by simp);have k8:=(HL.each _ jj).fresh j5;have k9:=k2.out _ jj;have jh:X.prods[i]? = some X.prods[i]:=qE ji;generalize hxe:X.prods[i]=x at c4 k8 k9 jh;have kb:=hid jh;have xl:=hid k9;have jm:=hid k8;obtain⟨so,sc,ju⟩:=z0c k8.syms;obtain⟨⟨xr,xk,xn,xp,j7,ye⟩,vs,vp,pl⟩:=x;dsimp only at ju;subst ju;simp[ZLV.cells]at c4;have y0:=k9.small;dsimp only[ZLV.both]at y0;obtain⟨it,xx,y2,y3,y4⟩:=Q6z;obtain⟨iu,xy,y5,y6,y7⟩:=infoIs';clear hxe k5 jj k8 k9 jh hS j5;go_wp2_with fail
  go_loopw [11,12,13] (fun x11 x12 _ wr=>∃j:Nat,x12=.int .i64 j/\j<=j7.length/\wr.ownsRow wp.heap.size 3 1 x11 j (W0b ((j7.map (Q80 X)).take j))/\Q0a wp wr)
    (fun _ x _ _=>1001-(intOf x).toNat)
  case atStart=>exact⟨0,rfl,by omega,qAh _ _ _ _,mRf _ _⟩
  obtain⟨j,rfl,hj,j9,j5⟩:=hrel;have HO:=hid j9;have ka:=hid j5;have d1:=fcellZ j5 x9;have d4:=fcellZ j5 c4;obtain⟨ro,rc,xz⟩:=z0c j9;subst xz;have yk:w1.heap.size<wr.heap.size:=qDr xv j5.size;have ym:g<wr.heap.size:=qDr kx j5.size;clear j9;by_cases kz:j<j7.length
  ·have j4:(j:Int)<(j7.length:Int):=by omega
   obtain⟨gs,cs,ju⟩:=Joins.ownsRow_form jm.syms (by dsimp only;omega);rw[qI]at ju;obtain⟨rfl,_,rfl⟩:=ju;have yl:wr.cell? ⟨gs,j,none⟩=some (.string j7[j]):=by
    have:=(jm.fresh j5).syms.cells (g:=gs) rfl j (.string j7[j]) (by simp[kz]);rwa [qDd,qBy]at this
   have NX:=hid (y0u wr w1.heap.size X _ _ _ _ _ _ j7[j] (HS.sp.fresh j5) (xl.ne _ (by show j7[j]∈j7;simp)) (by omega) (by omega));have xw:gs<wr.heap.size:=by
    have:=((jm.fresh j5).syms.lt gs rfl).2;exact this
   have x2:(j7.map (Q80 X)).take (j+1)=(j7.map (Q80 X)).take j++[Q80 X j7[j]]:=by
    rw[qCu];simp[kz]
   have kn:=hid x2;clear x2 j5;generalize Q80 X j7[j]=nn at NX kn;go_wp2_with (first
    |(go_at_call 44;refine csm NX.out ?_)
    |(at_builtin;refine z0f _ rfl _ _ 24 rfl wp.heap.size 3 it _ 1 8 qDq xx y2 y3 y4 rfl (by decide) _ _ _ rfl (HO.alloc _) ⟨wr.heap.size,0,none⟩ 1 1 [.int .i64 nn] rfl rfl (z0m rfl) (by intro u hu;simp at hu;subst hu;rfl) (by unfold maxLen;omega) (by omega) (by have:=ka.size;simp;omega) ?_;intro v' w6 jd j6 ja;have kq:Q0a wp w6:=Mod.grown (S:=fun _=>False) (ka.alloc _) j6 (fun k hk ji=>by have:=(HO.lt k hk).1;omega);have xg:=hid jd;have xe:=hid kq;clear jd j6 ja kq))
   go_roundw
   case rel =>
    refine⟨j+1,by go_num,by omega,?_,xe.out⟩;rw[kn.out];have e1:=qBp (f:=Value.int .i64) (l₁:=(j7.map (Q80 X)).take j) (l₂:=[nn]);rw[qDb]at e1;show World.ownsRow _ _ _ _ _ _ (List.map _ _);rw[e1];exact xg.out
   simp[intOf];omega
  have j4:¬(j:Int)<(j7.length:Int):=by omega
  have ky:j=j7.length:=by omega
  have x3:wr.ownsRow wp.heap.size 3 1 (.slice ro j rc) j7.length (W0b (j7.map (Q80 X))):=by
   have:=HO.out;rw[qDg (by simp;omega)]at this;rw[← ky];exact this
  have xi:=hid x3;have jp:=HS.fresh j5;have km:=hid jp;obtain⟨b4,kp,jt⟩:=z0c (jp.sp.own 4 _ rfl);dsimp only at jt;subst jt;have q4:=Q2f.cell jp.sp 4;have f4:=Q2f.frozen jp.sp 4;simp at q4;have y1:sv.length<=100:=by rw[jy.out];omega
  clear ky x3 jp j5;go_wp2_with (first
   |(at_builtin;refine z0f _ rfl _ _ 109 rfl (w1.heap.size+1) 24 iu _ 1 24 Tryz.underlying109 xy y5 y6 y7 rfl (by decide) (.slice b4 sv.length kp) sv.length sv rfl ((km.sp.own 4 _ rfl).alloc _) ⟨wr.heap.size,0,none⟩ 1 1 [.slice ro j rc] rfl rfl (z0m rfl) (by intro u hu;simp at hu;subst hu;rfl) (by unfold maxLen;omega) (by omega) (by simp;omega) ?_;intro v9 w6 j9 j6 ja;obtain⟨a9,c9,y8⟩:=z0c j9;have kf:=km.sp.blk_grown ((mRf _ wr).alloc _) (i:=4) rfl j6;have k6:w6.cell? ⟨w1.heap.size,4,none⟩=some (.slice b4 sv.length kp):=Q0b kf 4;have k7:=Q0f kf 4;have kk:=hid (Q6v.add (HS.out) ka.out ((mRf _ wr).alloc _) (by rw[jy.out];exact kb.out) xi.out j9 j6 (by simpa using ja));clear j9 j6 ja kf;subst y8))
  go_roundw
  case rel=>exact⟨i+1,_,_,by go_num,by omega,by simp[jy.out],kk.1,y0m xf.out kk.2 (qR _)⟩
  exact xt.out
 have j3:¬(i:Int)<(X.prods.length:Int):=by omega
 have xc:Hid (sv.length=X.prods.length):=by unfold Hid;rw[jy.out];omega
 go_wp2;refine qAc (qFg rfl _ _ _) rfl ⟨.pointer (some ⟨w1.heap.size,0,none⟩),xs,fun _=>by rw[HR.out];exact jc.out,fun x hx=>(HL.each x hx).fresh j5,?_,?_,fun _=>⟨w1.heap.size,yc,rfl,?_⟩⟩
 ·rw[HR.out,k4.out];rfl
 ·exact xd.trans j5
 rw[xh.out];exact⟨_,_,_,_,_,_,HS.out,xc.out⟩
structure RelB(s:ByteArray)(lns:List Ln)(zs:List (ZLn × Int)):Prop where
 len:lns.length=zs.length
 at':∀(k:Nat) (x:Ln) (z:ZLn × Int),lns[k]? = some x->zs[k]? = some z->∃i:Nat,i<s.size/\ZRel s i x z.1/\z.2=i/\∀p∈z.1.places,0<=p/\p<=s.size
theorem RelB.nil(s:ByteArray):RelB s [] []:=⟨rfl,fun k x z h=>by simp at h⟩
theorem RelB.snoc{s:ByteArray}{lns:List Ln}{zs:List (ZLn × Int)}{x:Ln}{z:ZLn}{i:Nat}(h:RelB s lns zs)(hi:i<s.size)(hr:ZRel s i x z)(hp:∀p∈z.places,0<=p/\p<=s.size):RelB s (lns++[x]) (zs++[(z,(i:Int))]):=by
 refine⟨by simp[h.len],fun k y u h1 h2=>?_⟩;by_cases hk:k<lns.length
 ·rw[qAl hk]at h1;rw[qAl (by rw[← h.len];exact hk)]at h2;exact h.at' k y u h1 h2
 have j0:=(qS h1).1;simp at j0;have e:k=lns.length:=by omega
 subst e;rw[qAr (qR _)]at h1;rw[h.len,qAr (qR _)]at h2;simp at h1 h2;subst h1 h2;exact⟨i,hi,hr,rfl,hp⟩
theorem z6y(s:ByteArray):∀(f:Nat) (i:Int) (a:List ByteArray) (b:List Int) (l:List ByteArray × List Int),0<=i->(∀p∈b,0<=p/\p<=s.size)->Q5b s f i a b=some l->∀p∈l.2,0<=p/\p<=s.size
 |0,i,a,b,l,h0,hb,h=>by simp[Q5b]at h
 |f+1,i,a,b,l,h0,hb,h=>by
  rw[z6z]at h;split at h
  ·rename_i c1;split at h
   ·split at h
    ·cases h
    rename_i c3;refine z6y s f _ _ _ l (by omega) (fun p hp=>?_) h;rcases qBs.1 hp with hp|hp
    ·exact hb p hp
    simp at hp;subst hp;omega
   cases h
  injection h with h;subst h;exact hb
theorem y56{u:ByteArray}{z:ZLn}(h:Q40 u=some z):∀p∈z.places,0<=p/\p<=u.size:=by
 unfold Q40 at h;split at h
 ·split at h
  ·injection h with h;subst h;intro p hp;cases hp
  cases h
 split at h
 ·rename_i c;cases hz:Q5b u (u.size+5) (Q5v u 0+1) [] []with
  |none=>rw[hz]at h;cases h
  |some l =>
   rw[hz]at h;injection h with h;subst h;exact z6y u _ _ _ _ l (by omega) (fun p hp=>by cases hp) hz
 cases h
theorem v28{s:ByteArray}{a e:Nat}(hae:a<=e)(he:e<s.size)(h10:atB s (e:Nat)=10)(hc:Q1j s a e):nlF s a=e:=by
 obtain⟨n1,n2,n3,n4⟩:=z8i s (a:=a) (by omega);rcases qFx (nlF s a) e with q|q|q
 ·exfalso;rcases n3 with z|z
  ·omega
  have:=hc (nlF s a) (by omega) (by omega);omega
 ·exact q
 exact absurd h10 (n4 e hae q)
theorem forms(s:ByteArray):∀(f g a:Nat) (acc:List Ln) (accz:List (ZLn × Int)),a<=s.size->s.size+2<=f+a->s.size+1<=g+a->RelB s acc accz ->
  ((Q1l s f a acc).2.2=true->(Q32 s g a accz).2=-1/\RelB s (Q1l s f a acc).1 (Q32 s g a accz).1)/\((Q1l s f a acc).2.2=false->0<=(Q32 s g a accz).2)
 |0,g,a,acc,accz,h1,h2,h3,h4=>by omega
 |f+1,0,a,acc,accz,h1,h2,h3,h4=>by omega
 |f+1,g+1,a,acc,accz,h1,h2,h3,h4=>by
  unfold Q1l;rw[z6w];by_cases c:a<s.size
  ·have ci:((a:Nat):Int)<(s.size:Int):=by omega
   rw[qAb c,qAb ci];by_cases j0:(Q2w s a).2.2=true
   ·obtain⟨e,e1,e2,e3,e4,e5,z,e6,e7⟩:=x8p j0;have hn:=v28 (by omega) e1 e3 e5;rw[qAa (by rw[j0];simp),hn,e6,e4];dsimp only;rw[qAa (by omega)];have j1:=z08 (s:=s) (a:=a) (e:=e) (by omega);exact forms s f g (e+1) _ _ (by omega) (by omega) (by omega) (h4.snoc c e7 (fun p hp=>by have:=y56 e6 p hp;omega))
   rw[qAb (by simpa using j0)];refine⟨fun q=>(by cases q),fun _=>?_⟩;obtain⟨n1,n2,n3,n4⟩:=z8i s (a:=a) h1;cases hz:Q40 (s.extract a (nlF s a))with
   |none=>dsimp only;omega
   |some z =>
    dsimp only;by_cases hn:nlF s a=s.size
    ·rw[qAb hn];dsimp only;omega
    exfalso;refine j0 (x7x (e:=nlF s a) (by omega) n1 ?_ (by rw[hz];rfl));rcases n3 with q|q
    ·exact absurd q hn
    exact q
  have ci:¬((a:Nat):Int)<(s.size:Int):=by omega
  rw[qAa c,qAa ci];exact⟨fun _=>⟨rfl,h4⟩,fun q=>(by cases q)⟩
theorem z6g(s:ByteArray):((Q0c s).2.2=true->(Q4x s).2=-1/\RelB s (Q0c s).1 (Q4x s).1)/\((Q0c s).2.2=false->0<=(Q4x s).2) :=
 forms s (s.size+5) (s.size+1) 0 [] [] (by omega) (by omega) (by omega) (RelB.nil s)
theorem y14(s:ByteArray):∀(f a:Nat) (acc:List (ZLn × Int)),0<=(Q32 s f a acc).2->(Q32 s f a acc).1=[]
 |0,a,acc,h=>by simp[Q32]at h
 |f+1,a,acc,h=>by
  rw[z6w]at h ⊢;by_cases c:a<s.size
  ·rw[qAb c]at h ⊢;cases hz:Q40 (s.extract a (nlF s a))with
   |none=>rfl
   |some z =>
    rw[hz]at h;dsimp only at h ⊢;by_cases hn:nlF s a=s.size
    ·rw[qAb hn]
    rw[qAa hn]at h ⊢;exact y14 s f _ _ h
  rw[qAa c]at h;dsimp only at h;omega
theorem v13:∃em:ByteArray->ByteArray->Bool,∀p t,em p t=true↔(Q61 p 6 0).lang (Q36 t) :=
 ⟨fun p t=>@decide ((Q61 p 6 0).lang (Q36 t)) (Classical.propDecidable _),fun p t=>by simp⟩
theorem y8m{s:ByteArray}(hs:s.size<=800){em:ByteArray->ByteArray->Bool}(hem:∀p t,em p t=true↔(Q61 p 6 0).lang (Q36 t)):∀y∈(Q4x s).1,YOk (fun p=>em p ⟨#[]⟩) y:=by
 intro y hy;cases hk:(Q0c s).2.2
 ·have:=y14 s _ 0 [] ((z6g s).2 hk);have e:(Q4x s).1=[]:=this;rw[e]at hy;cases hy
 obtain⟨h1,h2⟩:=(z6g s).1 hk;obtain⟨k,j0,rfl⟩:=qBf hy;have hx:k<(Q0c s).1.length:=by rw[h2.len];exact j0
 obtain⟨i,i1,i2,i3,i4⟩:=h2.at' k _ _ (qE hx) (qE j0);have j1:=(z1k s).2 _ (qG hx);have j3:=j1.sb;have j2:=i2.syms.1;refine⟨fun n hn=>?_,?_,by omega,by omega,fun p hp=>by have:=i4 p hp;omega,fun hr=>?_⟩
 ·obtain⟨j,hj,rfl⟩:=qBf hn;obtain⟨a,m,q1,q2,q3⟩:=i2.syms.2 j _ _ (qE (by omega)) (qE hj);rw[q3,z08 q2];have:=q1.pos;omega
 ·rw[i2.places];simp[j2]
 obtain⟨L,q1,q2,q3⟩:=i2.pat hr;refine⟨L,q1,by omega,?_⟩;rw[hem,q1];rfl
theorem x8i{s:ByteArray}{a b m n:Nat}{d d':Wd}(h:WordAt s a m d)(h':WordAt s b n d')(ha:a+m<=s.size)(hb:b+n<=s.size):d.ls=d'.ls↔(s.extract a (a+m)).toList=(s.extract b (b+n)).toList:=by
 constructor
 ·exact y53 h h' ha hb
 intro e;have e2:(s.extract a (a+m)).data.toList=(s.extract b (b+n)).data.toList:=by rw[← btl,← btl];exact e
 have e3:s.extract a (a+m)=s.extract b (b+n):=by
  apply qFi;exact Array.toList_inj.1 e2
 have s1:=z08 (s:=s) (a:=a) (e:=a+m) ha;have s2:=z08 (s:=s) (a:=b) (e:=b+n) hb;have j0:m=n:=by rw[e3,s2]at s1;omega
 subst j0;rw[h.ls,h'.ls];apply qEs;intro k _;by_cases hk:k<m
 ·rw[qAb hk,qAb hk];have q1:=z0z (s:=s) (a:=a) (e:=a+m) ha (k:=(k:Int)) (by omega) (by omega);have q2:=z0z (s:=s) (a:=b) (e:=b+m) hb (k:=(k:Int)) (by omega) (by omega);rw[← q1,← q2,e3]
 rw[qAa hk,qAa hk]
structure Q4f(s:ByteArray)(lns:List Ln)(xs:List ZLV):Prop where
 len:lns.length=xs.length
 at':∀(k:Nat) (x:Ln) (z:ZLV),lns[k]? = some x->xs[k]? = some z->∃i:Nat,i<s.size/\ZRel s i x z.ln/\z.pl=i
theorem x3r{s:ByteArray}{lns:List Ln}{xs:List ZLV}(h:RelB s lns (xs.map ZLV.both)):Q4f s lns xs:=by
 refine⟨by have:=h.len;rw[qAv]at this;exact this,fun k x z h1 h2=>?_⟩;obtain⟨i,i1,i2,i3,_⟩:=h.at' k x z.both h1 (by rw[qBt,h2];rfl);exact⟨i,i1,i2,i3⟩
section
variable {s:ByteArray}{lns:List Ln}{xs:List ZLV}
theorem Q4f.get(h:Q4f s lns xs){k:Nat}(hk:k<xs.length):∃(x:Ln) (i:Nat),lns[k]? = some x/\i<s.size/\ZRel s i x xs[k].ln/\xs[k].pl=i/\x.front.place=i:=by
 have j0:k<lns.length:=by rw[h.len];exact hk
 obtain⟨i,i1,i2,i3⟩:=h.at' k _ _ (qE j0) (qE hk);exact⟨lns[k],i,qE j0,i1,i2,i3,i2.place⟩
def Q6w(s:ByteArray)(ls:List Int)(n:ByteArray):Prop:=∃(j m:Nat) (d:Wd),WordAt s j m d/\d.ls=ls/\j+m<=s.size/\n=s.extract j (j+m)
theorem ZRel.word{i:Nat}{x:Ln}{z:ZLn}(h:ZRel s i x z):Q6w s x.front.ls z.name:=by
 obtain⟨m,h1,h2,h3⟩:=h.name;exact⟨i,m,x.front,h1,rfl,h2,h3⟩
theorem ZRel.sword{i:Nat}{x:Ln}{z:ZLn}(h:ZRel s i x z){k:Nat}{d:Wd}{n:ByteArray}(h1:x.syms[k]? = some d)(h2:z.syms[k]? = some n):Q6w s d.ls n:=by
 obtain⟨j,m,q1,q2,q3⟩:=h.syms.2 k d n h1 h2;exact⟨j,m,d,q1,rfl,q2,q3⟩
theorem Q6w.eq_iff{ls ls':List Int}{n n':ByteArray}(h:Q6w s ls n)(h':Q6w s ls' n'):ls=ls'↔n.toList=n'.toList:=by
 obtain⟨j,m,d,q1,q2,q3,q4⟩:=h;obtain⟨j',m',d',j0,j1,j2,j3⟩:=h';rw[← q2,← j1,q4,j3];exact x8i q1 j0 q3 j2
theorem Q6w.cap{ls:List Int}{n:ByteArray}(h:Q6w s ls n):Q1a (ls.getD 0 0)=Q1a (atB n 0):=by
 obtain⟨j,m,d,q1,q2,q3,q4⟩:=h;have hp:=q1.pos;rw[q4,← q2,q1.ls];have:((List.range 8).map (fun k:Nat=>if k<m then atB s ((j:Int)+k) else 0)).getD 0 0=atB s j:=by
  simp[List.range,List.range.loop,show 0<m by omega]
 rw[this,z0z q3 (by omega) (by omega),qDs]
theorem z98(x:Ln):Q0x x=!Q1a (x.front.ls.getD 0 0):=rfl
theorem z79{ls:List Int}{i:Nat}(hi:i<=lns.length):Q2i lns ls<i↔∃(j:Nat) (x:Ln),j<i/\lns[j]? = some x/\x.front.ls=ls:=by
 unfold Q2i;constructor
 ·intro h;have hl:lns.findIdx (fun x=>x.front.ls==ls)<lns.length:=by omega
  have hg:=qDz (w:=hl);exact⟨_,_,h,qE hl,by simpa using hg⟩
 rintro⟨j,x,h1,h2,h3⟩;obtain⟨hj,hx⟩:=qS h2;by_cases q:lns.findIdx (fun x=>x.front.ls==ls)<=j
 ·omega
 exfalso;have nf:=List.not_of_lt_findIdx (xs:=lns) (p:=fun x=>x.front.ls==ls) (i:=j) (by omega);rw[hx]at nf;simp[h3]at nf
theorem z88{l:List ByteArray}{t:ByteArray}:0<=Q1y l t↔∃y∈l,y.toList=t.toList :=
 ⟨fun h=>z6f (by omega),y8k⟩
end
structure SI(lns:List Ln)(xs:List ZLV)(i:Nat)(X:SP):Prop where
 rules:X.rules.length=Q23 lns i
 prods:X.prods.length=Q22 lns i
 heads:X.heads.length=Q3h lns i
 mem:∀t:ByteArray,(∃y∈X.heads,y.toList=t.toList)↔∃(j:Nat) (z:ZLV),j<i/\xs[j]? = some z/\z.ln.rule=false/\z.ln.name.toList=t.toList
 rl:X.rules=(xs.take i).filter (fun z=>z.ln.rule)
 pr:X.prods=(xs.take i).filter (fun z=>!z.ln.rule)
section
variable {s:ByteArray}{lns:List Ln}{xs:List ZLV}
theorem y98(h:Q4f s lns xs){i:Nat}(hi:i<xs.length)(hr:xs[i].ln.rule=false):Q3b lns i=true↔∃(j:Nat) (z:ZLV),j<i/\xs[j]? = some z/\z.ln.rule=false/\z.ln.name.toList=xs[i].ln.name.toList:=by
 obtain⟨x,p,g1,g2,g3,g4,g5⟩:=h.get hi;have hl:=h.len;unfold Q3b;rw[g1];dsimp only;rw[qAu,z79 (by omega)];constructor
 ·rintro⟨j,y,h1,h2,h3⟩;obtain⟨y',q,k1,k2,k3,k4,k5⟩:=h.get (k:=j) (by omega);rw[h2]at k1;injection k1 with k1;subst k1;refine⟨j,xs[j],h1,qE (by omega),?_,(k3.word.eq_iff g3.word).1 h3⟩;have e1:=k3.rule;have e2:=g3.rule;rw[hr]at e2;rw[e1,z98,h3,← z98,← e2]
 rintro⟨j,z,h1,h2,h3,h4⟩;obtain⟨hj,hz⟩:=qS h2;obtain⟨y',q,k1,k2,k3,k4,k5⟩:=h.get hj;rw[hz]at k3;exact⟨j,y',h1,k1,(k3.word.eq_iff g3.word).2 h4⟩
theorem y0z(h:Q4f s lns xs){i:Nat}(hi:i<xs.length)(hr:xs[i].ln.rule=true):Q3b lns i=true↔∃(j:Nat) (z:ZLV),j<i/\xs[j]? = some z/\z.ln.rule=true/\z.ln.name.toList=xs[i].ln.name.toList:=by
 obtain⟨x,p,g1,g2,g3,g4,g5⟩:=h.get hi;have hl:=h.len;unfold Q3b;rw[g1];dsimp only;rw[qAu,z79 (by omega)];constructor
 ·rintro⟨j,y,h1,h2,h3⟩;obtain⟨y',q,k1,k2,k3,k4,k5⟩:=h.get (k:=j) (by omega);rw[h2]at k1;injection k1 with k1;subst k1;refine⟨j,xs[j],h1,qE (by omega),?_,(k3.word.eq_iff g3.word).1 h3⟩;have e1:=k3.rule;have e2:=g3.rule;rw[hr]at e2;rw[e1,z98,h3,← z98,← e2]
 rintro⟨j,z,h1,h2,h3,h4⟩;obtain⟨hj,hz⟩:=qS h2;obtain⟨y',q,k1,k2,k3,k4,k5⟩:=h.get hj;rw[hz]at k3;exact⟨j,y',h1,k1,(k3.word.eq_iff g3.word).2 h4⟩
theorem v1m(h:Q4f s lns xs){i:Nat}{X:SP}(hi:i<xs.length)(hS:SI lns xs i X):SI lns xs (i+1) (Q01 X xs[i]):=by
 obtain⟨x,p,g1,g2,g3,g4,g5⟩:=h.get hi;have j1:i<lns.length:=by rw[h.len];exact hi
 have hx:lns[i]=x:=by rw[qE j1]at g1;injection g1
 have c1:=z4j lns i j1;have c2:=z4i lns i j1;have c3:=z3i lns i j1;rw[hx,← g3.rule]at c1 c2 c3;have j2:xs.take (i+1)=xs.take i++[xs[i]]:=by rw[qCu,qE hi];rfl
 have j0:∀(t:ByteArray) (j:Nat) (z:ZLV),(j<i+1/\xs[j]? = some z/\z.ln.rule=false/\z.ln.name.toList=t.toList)↔((j<i/\xs[j]? = some z/\z.ln.rule=false/\z.ln.name.toList=t.toList)∨(j=i/\z=xs[i]/\z.ln.rule=false/\z.ln.name.toList=t.toList)):=by
  intro t j z;constructor
  ·rintro⟨q1,q2,q3⟩;by_cases e:j=i
   ·subst e;rw[qE hi]at q2;injection q2 with q2;exact .inr ⟨rfl,q2.symm,q3⟩
   exact .inl ⟨by omega,q2,q3⟩
  rintro(⟨q1,q2⟩|⟨rfl,rfl,q3⟩)
  ·exact⟨by omega,q2⟩
  exact⟨by omega,qE hi,q3⟩
 cases hr:xs[i].ln.rule
 ·have j3:Q01 X xs[i]={X with prods:=X.prods++[xs[i]],heads:=if Q1y X.heads xs[i].ln.name<0 then X.heads++[xs[i].ln.name] else X.heads,head:=X.head++[if Q1y X.heads xs[i].ln.name<0 then(X.heads.length:Int) else Q1y X.heads xs[i].ln.name]}:=by
   unfold Q01;rw[qAa (by rw[hr];simp)]
  rw[j3];rw[hr]at c1 c2 c3;have j4:Q3b lns i=true↔0<=Q1y X.heads xs[i].ln.name:=by
   rw[y98 h hi hr,z88,hS.mem]
  refine⟨?_,?_,?_,?_,?_,?_⟩
  ·rw[c1];simpa using hS.rules
  ·rw[c2];show(X.prods++[xs[i]]).length=_;rw[qP,hS.prods];rfl
  ·dsimp only;rw[c3,← hS.heads];by_cases q:Q1y X.heads xs[i].ln.name<0
   ·have:Q3b lns i=false:=by
     cases z:Q3b lns i
     ·rfl
     exact absurd (j4.1 z) (by omega)
    rw[qAb q,this];simp
   rw[qAa q,j4.2 (by omega)];simp
  ·intro t;dsimp only;have j5:(∃(j:Nat) (z:ZLV),j<i+1/\xs[j]? = some z/\z.ln.rule=false/\z.ln.name.toList=t.toList)↔((∃y∈X.heads,y.toList=t.toList)∨xs[i].ln.name.toList=t.toList):=by
    rw[hS.mem t];constructor
    ·rintro⟨j,z,q⟩;rcases(j0 t j z).1 q with q|⟨_,rfl,_,q⟩
     ·exact .inl ⟨j,z,q⟩
     exact .inr q
    rintro(⟨j,z,q⟩|q)
    ·exact⟨j,z,(j0 t j z).2 (.inl q)⟩
    exact⟨i,xs[i],(j0 t i _).2 (.inr ⟨rfl,rfl,hr,q⟩)⟩
   rw[j5];by_cases q:Q1y X.heads xs[i].ln.name<0
   ·rw[qAb q];constructor
    ·rintro⟨y,hy,e⟩;rcases qBs.1 hy with hy|hy
     ·exact .inl ⟨y,hy,e⟩
     simp at hy;subst hy;exact .inr e
    rintro(⟨y,hy,e⟩|e)
    ·exact⟨y,by simp[hy],e⟩
    exact⟨_,by simp,e⟩
   rw[qAa q];constructor
   ·exact fun z=>.inl z
   rintro(z|e)
   ·exact z
   obtain⟨y,hy,e2⟩:=z6f q;exact⟨y,hy,e2.trans e⟩
  ·rw[j2,qBx,← hS.rl];simp[qAq,hr]
  rw[j2,qBx,← hS.pr];simp[qAq,hr]
 have j3:Q01 X xs[i]={X with rules:=X.rules++[xs[i]]}:=by
  unfold Q01;rw[qAb hr]
 rw[j3];rw[hr]at c1 c2 c3;refine⟨?_,?_,?_,?_,?_,?_⟩
 ·rw[c1];show(X.rules++[xs[i]]).length=_;rw[qP,hS.rules];rfl
 ·rw[c2];simpa using hS.prods
 ·rw[c3];simpa using hS.heads
 ·intro t;dsimp only;rw[hS.mem t];constructor
  ·rintro⟨j,z,q⟩;exact⟨j,z,(j0 t j z).2 (.inl q)⟩
  rintro⟨j,z,q⟩;rcases(j0 t j z).1 q with q|⟨_,rfl,q,_⟩
  ·exact⟨j,z,q⟩
  rw[hr]at q;cases q
 ·rw[j2,qBx,← hS.rl];simp[qAq,hr]
 rw[j2,qBx,← hS.pr];simp[qAq,hr]
theorem y83(h:Q4f s lns xs):∀(f i:Nat) (X:SP),i<=xs.length->xs.length+1<=f+i->SI lns xs i X ->
  (Q1b X (xs.drop i)).2=Q4p lns f i/\((Q1b X (xs.drop i)).2=-1->SI lns xs xs.length (Q1b X (xs.drop i)).1)
 |0,i,X,hi,hf,hS=>by omega
 |f+1,i,X,hi,hf,hS=>by
  unfold Q4p;by_cases hlt:i<xs.length
  ·obtain⟨x,p,g1,g2,g3,g4,g5⟩:=h.get hlt;have j0:=v1m h hlt hS;rw[g1,qC hlt];dsimp only;have j2:Q8f (Q01 X xs[i]) xs[i]=Q7z lns i x:=by
    unfold Q8f Q7z;rw[j0.rules,j0.prods,j0.heads,g3.syms.1]
   unfold Q1b;rw[j2];cases ho:Q7z lns i x
   ·rw[qAa (by simp),qAa (by simp)];exact y83 h f (i+1) _ (by omega) (by omega) j0
   rw[qAb rfl,qAb rfl];refine⟨by rw[g4,g5],fun q=>?_⟩;dsimp only at q;omega
  have j1:i=xs.length:=by omega
  rw[qN (by rw[h.len];omega),qAp (by omega)];exact⟨rfl,fun _=>by rw[← j1];exact hS⟩
theorem v1n:SI lns xs 0 Q2m:=by
 refine⟨rfl,rfl,rfl,fun t=>?_,by simp[Q2m],by simp[Q2m]⟩;constructor
 ·rintro⟨y,hy,_⟩;simp[Q2m]at hy
 rintro⟨j,z,q,_⟩;omega
theorem x3x(h:Q4f s lns xs):(Q1b Q2m xs).2=Q3v lns/\((Q1b Q2m xs).2=-1->SI lns xs xs.length (Q1b Q2m xs).1):=by
 have:=y83 h (lns.length+1) 0 Q2m (by omega) (by rw[h.len];omega) v1n;exact this
end
theorem y1v{rs:List ZLV}{t:ByteArray}:∀(f i:Nat),rs.length+1<=f+i->(∀j (z:ZLV),i<=j->rs[j]? = some z->z.ln.name.toList≠t.toList)->Q9i rs t f i=-1
 |0,i,hf,h=>rfl
 |f+1,i,hf,h=>by
  rw[y7g];cases hq:rs[i]? with
  |none=>rfl
  |some z =>
   dsimp only;rw[qAa (by have:=h i z (qR _) hq;simpa using this)];exact y1v f (i+1) (by omega) (fun j z hj=>h j z (by omega))
theorem z7c{rs:List ZLV}{t:ByteArray}{k:Nat}{z:ZLV}(hk:rs[k]? = some z)(hz:z.ln.name.toList=t.toList)(hb:∀j (y:ZLV),j<k->rs[j]? = some y->y.ln.name.toList≠t.toList) :
  ∀(f i:Nat),rs.length+1<=f+i->i<=k->Q9i rs t f i=if z.ln.skip=true then -1 else(k:Int)
 |0,i,hf,hi=>by
  have:=(qS hk).1;omega
 |f+1,i,hf,hi=>by
  rw[y7g];by_cases e:i=k
  ·subst e;rw[hk];dsimp only;rw[qAb (by simpa using hz)]
  have j0:i<rs.length:=by have:=(qS hk).1;omega
  rw[qE j0];dsimp only;rw[qAa (by have:=hb i rs[i] (by omega) (qE j0);simpa using this)];exact z7c hk hz hb f (i+1) (by omega) (by omega)
section
variable {s:ByteArray}{lns:List Ln}{xs:List ZLV}{X:SP}
theorem y1a(t:ByteArray):∀(xs:List ZLV) (f:Nat) (hf:f<xs.length),(xs[f]'hf).ln.rule=true->(xs[f]'hf).ln.name.toList=t.toList->(∀(j:Nat) (z:ZLV),j<f->xs[j]? = some z->z.ln.name.toList≠t.toList) ->
  ∃k:Nat,(xs.filter (fun z=>z.ln.rule))[k]? = some (xs[f]'hf)/\∀(j:Nat) (y:ZLV),j<k->(xs.filter (fun z=>z.ln.rule))[j]? = some y->y.ln.name.toList≠t.toList
 | [],f,hf,h1,h2,h3=>by simp at hf
 |x::xs,0,hf,h1,h2,h3=>by
  have h1':x.ln.rule=true:=h1;exact⟨0,by simp[qAq,h1'],fun j y hj=>by omega⟩
 |x::xs,f+1,hf,h1,h2,h3=>by
  obtain⟨k,q1,q2⟩:=y1a t xs f (by simpa using hf) h1 h2 (fun j z hj hz=>h3 (j+1) z (by omega) (by simpa using hz));have hx:=h3 0 x (by omega) rfl;cases hr:x.ln.rule
  ·exact⟨k,by simpa [qAq,hr]using q1,fun j y hj hy=>q2 j y hj (by simpa [qAq,hr]using hy)⟩
  refine⟨k+1,by simpa [qAq,hr]using q1,fun j y hj hy=>?_⟩;cases j with
  |zero =>
   simp[qAq,hr]at hy;subst hy;exact hx
  |succ j=>exact q2 j y (by omega) (by simpa [qAq,hr]using hy)
theorem x5j(h:Q4f s lns xs)(hS:SI lns xs xs.length X){d:Wd}{n:ByteArray}(hw:Q6w s d.ls n):Q80 X n<0↔W0h lns d=false:=by
 have hl:=h.len;have j2:=hw.cap;unfold W0h;by_cases hf:Q2i lns d.ls<lns.length
 ·have j1:Q2i lns d.ls<xs.length:=by omega
  obtain⟨x,p,g1,g2,g3,g4,g5⟩:=h.get j1;have j7:x.front.ls=d.ls:=by
   have hg:=qDz (w:=hf);have e:lns[Q2i lns d.ls]=x:=by rw[qE hf]at g1;injection g1
   unfold Q2i at e;rw[e]at hg;simpa using hg
  have j5:xs[Q2i lns d.ls].ln.name.toList=n.toList:=(g3.word.eq_iff hw).1 j7;have j9:∀(j:Nat) (z:ZLV),j<Q2i lns d.ls->xs[j]? = some z->z.ln.name.toList≠n.toList:=by
   intro j z hj hz e;obtain⟨j3,j6⟩:=qS hz;obtain⟨y,q,k1,k2,k3,k4,k5⟩:=h.get j3;rw[j6]at k3;have:=(k3.word.eq_iff hw).2 e;have:=(z79 (lns:=lns) (ls:=d.ls) (i:=j+1) (by omega)).2 ⟨j,y,by omega,k1,this⟩;omega
  have j0:=g3.rule;rw[z98,j7,j2]at j0;rw[g1];dsimp only;rw[← g3.skip];unfold Q80;generalize Q2i lns d.ls=fi at *;cases hc:Q1a (atB n 0)
  ·rw[hc]at j0;rw[qAa (by simp)];obtain⟨k,q1,q2⟩:=y1a n xs _ j1 j0 j5 j9;have ja:X.rules=xs.filter (fun z=>z.ln.rule):=by rw[hS.rl,qAw]
   rw[← ja]at q1 q2;rw[z7c q1 j5 q2 _ 0 (by omega) (by omega)];cases xs[fi].ln.skip<;>simp
  rw[hc]at j0;rw[qAb rfl];have j4:¬Q1y X.heads n<0:=by
   have:=y8k ((hS.mem n).2 ⟨fi,xs[fi],j1,qE j1,j0,j5⟩);omega
  rw[qAa j4,g3.noskip j0];simp;omega
 have j8:∀(j:Nat) (z:ZLV),xs[j]? = some z->z.ln.name.toList≠n.toList:=by
  intro j z hz e;obtain⟨j3,j6⟩:=qS hz;obtain⟨y,q,k1,k2,k3,k4,k5⟩:=h.get j3;rw[j6]at k3;have:=(k3.word.eq_iff hw).2 e;have:=(z79 (lns:=lns) (ls:=d.ls) (i:=j+1) (by omega)).2 ⟨j,y,by omega,k1,this⟩;omega
 rw[qN (by omega)];refine⟨fun _=>rfl,fun _=>?_⟩;unfold Q80;cases hc:Q1a (atB n 0)
 ·rw[qAa (by simp)];rw[y1v _ 0 (by omega) (fun j z _ hz=>?_)]
  ·omega
  have hm:z∈X.rules:=qAi hz;rw[hS.rl,qAw]at hm;obtain⟨i,hi,e⟩:=qBf (qDi.1 hm).1;exact j8 i z (by rw[qE hi,e])
 rw[qAb rfl];have:Q1y X.heads n<0:=by
  by_cases q:Q1y X.heads n<0
  ·exact q
  exfalso;obtain⟨j,z,_,q2,_,q4⟩:=(hS.mem n).1 (z6f q);exact j8 j z q2 q4
 rw[qAb this];omega
theorem y9n(h:Q4f s lns xs)(hS:SI lns xs xs.length X){x:Ln}{z:ZLV}{i:Nat}(hz:ZRel s i x z.ln)(hp:z.pl=i):∀(f g j:Nat),x.syms.length+1<=f+j->x.syms.length+1<=g+j->Q7c lns x.syms f j=Q7q X z g j
 |0,g,j,hf,hg=>by
  cases g with
  |zero=>rfl
  |succ g =>
   rw[y3g,qN (by rw[← hz.syms.1];omega)];rfl
 |f+1,0,j,hf,hg=>by
  unfold Q7c;rw[qN (by omega)];rfl
 |f+1,g+1,j,hf,hg=>by
  rw[y3g];unfold Q7c;by_cases hj:j<x.syms.length
  ·have hj':j<z.ln.syms.length:=by rw[← hz.syms.1];exact hj
   rw[qE hj,qE hj'];dsimp only;have j0:=x5j h hS (hz.sword (qE hj) (qE hj'));cases hb:W0h lns x.syms[j]
   ·rw[qAa (by simp),qAb (j0.2 hb),hz.places,hp];congr 1;rw[qD,qBt,qE hj];simp;omega
   rw[qAb rfl,qAa (fun q=>by rw[j0.1 q]at hb;cases hb)];exact y9n h hS hz hp f g (j+1) (by omega) (by omega)
  rw[qN (by omega),qN (by rw[← hz.syms.1];omega)]
theorem y43(h:Q4f s lns xs)(hS:SI lns xs xs.length X):∀(f i:Nat) (ah:List ByteArray),i<=xs.length->xs.length+1<=f+i ->
  (∀t:ByteArray,(∃y∈ah,y.toList=t.toList)↔∃(j:Nat) (z:ZLV),j<i/\xs[j]? = some z/\z.ln.rule=true/\z.ln.name.toList=t.toList)->Q3k X (xs.drop i) ah=Q65 lns f i
 |0,i,ah,hi,hf,hA=>by omega
 |f+1,i,ah,hi,hf,hA=>by
  unfold Q65;by_cases hlt:i<xs.length
  ·obtain⟨x,p,g1,g2,g3,g4,g5⟩:=h.get hlt;rw[g1,qC hlt,Q3k];dsimp only;have j3:=y9n h hS g3 g4 (x.syms.length+1) (xs[i].ln.syms.length+1) 0 (by omega) (by rw[g3.syms.1];omega);unfold Q74;rw[j3];have j2:∀j1:List ByteArray,j1=(if xs[i].ln.rule=true then ah++[xs[i].ln.name] else ah)->∀t:ByteArray,(∃y∈j1,y.toList=t.toList)↔∃(j:Nat) (z:ZLV),j<i+1/\xs[j]? = some z/\z.ln.rule=true/\z.ln.name.toList=t.toList:=by
    intro j1 he t;have hm:(∃(j:Nat) (z:ZLV),j<i+1/\xs[j]? = some z/\z.ln.rule=true/\z.ln.name.toList=t.toList)↔((∃y∈ah,y.toList=t.toList)∨(xs[i].ln.rule=true/\xs[i].ln.name.toList=t.toList)):=by
     rw[hA t];constructor
     ·rintro⟨j,z,q1,q2,q3,q4⟩;by_cases e:j=i
      ·subst e;rw[qE hlt]at q2;injection q2 with q2;subst q2;exact .inr ⟨q3,q4⟩
      exact .inl ⟨j,z,by omega,q2,q3,q4⟩
     rintro(⟨j,z,q1,q2⟩|⟨q1,q2⟩)
     ·exact⟨j,z,by omega,q2⟩
     exact⟨i,xs[i],by omega,qE hlt,q1,q2⟩
    rw[hm,he];cases hr:xs[i].ln.rule
    ·simp
    simp only[qBn,qU,qM,true_and];constructor
    ·rintro⟨y,hy|rfl,e⟩
     ·exact .inl ⟨y,hy,e⟩
     exact .inr e
    rintro(⟨y,hy,e⟩|e)
    ·exact⟨y,.inl hy,e⟩
    exact⟨_,.inr rfl,e⟩
   have rc:=fun j1 he=>y43 h hS f (i+1) j1 (by omega) (by omega) (j2 j1 he);have j0:(Q0x x&&Q3b lns i)=true↔(xs[i].ln.rule=true/\0<=Q1y ah xs[i].ln.name):=by
    rw[qAd,← g3.rule];constructor
    ·rintro⟨q1,q2⟩;exact⟨q1,by rw[z88,hA];exact(y0z h hlt q1).1 q2⟩
    rintro⟨q1,q2⟩;exact⟨q1,(y0z h hlt q1).2 ((hA _).1 (z88.1 q2))⟩
   by_cases q:xs[i].ln.rule=true/\0<=Q1y ah xs[i].ln.name
   ·rw[qAb q,qAb (j0.2 q),g4,g5]
   rw[qAa q,qAa (fun z=>q (j0.1 z))];cases Q7q X xs[i] (xs[i].ln.syms.length+1) 0 with
   |some p=>rfl
   |none=>exact rc _ rfl
  rw[qN (by rw[h.len];omega),qAp (by omega)];rfl
theorem x63(h:Q4f s lns xs)(hS:SI lns xs xs.length X):Q3k X xs []=Q2b lns:=by
 have:=y43 h hS (lns.length+1) 0 [] (by omega) (by rw[h.len];omega) (fun t=>by
  constructor
  ·rintro⟨y,hy,_⟩;cases hy
  rintro⟨j,z,q,_⟩;omega)
 exact this
theorem y37(h:Q4f s lns xs){em:ByteArray->Bool}(hem:∀(k:Nat) (x:Ln) (z:ZLV),lns[k]? = some x->xs[k]? = some z->z.ln.rule=true->(em z.ln.pat=true↔(Q5f x.ns x.st x.en ByteArray.empty 0==0)=true)):∀(f i:Nat),i<=xs.length->xs.length+1<=f+i ->
  (match Q5s em ((xs.drop i).filter (fun z=>z.ln.rule))with|some p=>p|none=>-1)=Q7t lns f i/\(∀p,Q5s em ((xs.drop i).filter (fun z=>z.ln.rule))=some p->0<=p)
 |0,i,hi,hf=>by omega
 |f+1,i,hi,hf=>by
  unfold Q7t;by_cases hlt:i<xs.length
  ·obtain⟨x,p,g1,g2,g3,g4,g5⟩:=h.get hlt;rw[g1,qC hlt,qAq];dsimp only;have rc:=y37 h hem f (i+1) (by omega) (by omega);unfold emptyB;rw[← g3.rule];cases hr:xs[i].ln.rule
   ·rw[qAa (by simp),qAa (by simp)];exact rc
   have he:=hem i x xs[i] g1 (qE hlt) hr;rw[qAb rfl,Q5s,qBm];by_cases q:em xs[i].ln.pat=true
   ·rw[qAb q,qAb (he.1 q)];exact⟨by dsimp only;rw[g4,g5],fun p hp=>by injection hp with hp;omega⟩
   rw[qAa q,qAa (fun z=>q (he.2 z))];exact rc
  rw[qN (by rw[h.len];omega),qAp (by omega)];exact⟨rfl,fun p hp=>by cases hp⟩
theorem x7l(h:Q4f s lns xs)(hS:SI lns xs xs.length X):X.prods.length=0↔Q4a lns=false:=by
 rw[hS.pr,qAw];unfold Q4a;rw[List.length_eq_zero_iff,List.filter_eq_nil_iff,List.any_eq_false];constructor
 ·intro q x hx;obtain⟨k,hk,rfl⟩:=qBf hx;have j0:k<xs.length:=by rw[← h.len];exact hk
  obtain⟨y,p,g1,g2,g3,g4,g5⟩:=h.get j0;have e:lns[k]=y:=by rw[qE hk]at g1;injection g1
  have:=q xs[k] (by simp);rw[e,← g3.rule];simpa using this
 intro q z hz;obtain⟨k,hk,rfl⟩:=qBf hz;obtain⟨y,p,g1,g2,g3,g4,g5⟩:=h.get hk;have:=q y (qAi g1);rw[g3.rule];simpa using this
end
theorem y9m{X:SP}{x:ZLV}(h0:0<=x.pl)(hp:∀p∈x.ln.places,0<=p):∀(f j:Nat) (q:Int),Q7q X x f j=some q->0<=q
 |0,j,q,h=>by simp[Q7q]at h
 |f+1,j,q,h=>by
  rw[y3g]at h;cases hs:x.ln.syms[j]? with
  |none=>rw[hs]at h;cases h
  |some n =>
   rw[hs]at h;dsimp only at h;split at h
   ·injection h with h;have:0<=x.ln.places.getD j 0:=by
     rw[qD];cases hq:x.ln.places[j]? with
     |none=>simp
     |some v=>simp;exact hp v (qAi hq)
    omega
   exact y9m h0 hp f (j+1) q h
theorem y42{X:SP}:∀(xs:List ZLV) (ah:List ByteArray),(∀x∈xs,0<=x.pl/\∀p∈x.ln.places,0<=p)->-1<=Q3k X xs ah
 | [],ah,h=>by simp[Q3k]
 |x::xs,ah,h=>by
  obtain⟨h1,h2⟩:=h x (by simp);unfold Q3k;split
  ·omega
  cases hs:Q7q X x (x.ln.syms.length+1) 0 with
  |some p=>have:=y9m h1 h2 _ _ _ hs;dsimp only;omega
  |none=>exact y42 xs _ (fun y hy=>h y (by simp[hy]))
structure Q88(s:ByteArray)(xs:List ZLV):Prop where
 l2:Q4f s (Q0c s).1 xs
 si:SI (Q0c s).1 xs xs.length (Q1b Q2m xs).1
 bd:SPbd (Q1b Q2m xs).1
theorem v1c{s:ByteArray}(hs:s.size<=800){xs:List ZLV}(hx:xs.map ZLV.both=(Q4x s).1){em:ByteArray->ByteArray->Bool}(hem:∀p t,em p t=true↔(Q61 p 6 0).lang (Q36 t)) :
  (Q6b (fun p=>em p ⟨#[]⟩) s xs (Q4x s).2).1=(Q0u s).1/\((Q0u s).1≠2->(Q6b (fun p=>em p ⟨#[]⟩) s xs (Q4x s).2).2=(Q0u s).2)/\((Q0u s).1=2->(Q6b (fun p=>em p ⟨#[]⟩) s xs (Q4x s).2).2=(Q4x s).2)/\((Q0u s).1=0->Q88 s xs):=by
 have hY:=y8m hs hem;have hc:=z8x s;rw[qAa (by omega)]at hc;unfold Q6b;rw[qAa (by omega)];cases hk:(Q0c s).2.2
 ·have h1:=(z6g s).2 hk;rw[hk,qAb rfl]at hc;rw[hc,qAb h1];exact⟨rfl,fun q=>absurd rfl q,fun _=>rfl,fun q=>by cases q⟩
 obtain⟨h1,h2⟩:=(z6g s).1 hk;rw[hk,qAa (by simp)]at hc;rw[← hx]at h2;have l2:=x3r h2;have j1:∀x∈xs,0<=x.pl/\∀p∈x.ln.places,0<=p:=fun x hxm=>by
  have:=hY x.both (by rw[← hx];exact List.mem_map_of_mem hxm);exact⟨this.pl.1,fun p hp=>(this.pls p hp).1⟩
 obtain⟨m1,m2⟩:=x3x l2;have j4:=y3c xs Q2m (fun x h=>(j1 x h).1);rw[h1,qAa (by omega)];by_cases c3:Q3v (Q0c s).1=-1
 ·rw[qAa (by simp[c3])]at hc;rw[m1,c3,qAa (by omega)];have si:=m2 (by rw[m1,c3]);have bd:=y3b xs Q2m x33 (by rw[m1,c3];omega) (fun x h=>(j1 x h).1);have n1:=x63 l2 si;have j3:=y42 (X:=(Q1b Q2m xs).1) xs [] j1;by_cases c4:Q2b (Q0c s).1=-1
  ·rw[qAa (by simp[c4])]at hc;rw[n1,c4,qAa (by omega)];have j2:(Q1b Q2m xs).1.rules=(xs.drop 0).filter (fun z=>z.ln.rule):=by rw[si.rl,qAw];rfl
   obtain⟨e1,e2⟩:=y37 l2 (em:=fun p=>em p ⟨#[]⟩) (fun k x z g1 g2 g3=>by
    obtain⟨i,i1,i2,i3⟩:=l2.at' k x z g1 g2;obtain⟨L,q1,q2,q3⟩:=i2.pat g3;rw[hem,q1];exact(q3 ⟨#[]⟩).symm) ((Q0c s).1.length+1) 0 (by omega) (by rw[l2.len];omega)
   rw[← j2]at e1 e2;have j0:(match Q5s (fun p=>em p ⟨#[]⟩) (Q1b Q2m xs).1.rules with|some p=>p|none=>-1)=Q6x (Q0c s).1:=e1;cases he:Q5s (fun p=>em p ⟨#[]⟩) (Q1b Q2m xs).1.rules with
   |some p =>
    rw[he]at j0;dsimp only at j0;have:=e2 p he;rw[qAb (by rw[← j0];omega)]at hc;rw[hc,← j0];exact⟨rfl,fun _=>rfl,fun q=>by simp at q,fun q=>by simp at q⟩
   |none =>
    rw[he]at j0;dsimp only at j0;rw[qAa (by rw[← j0];simp)]at hc;have pz:=x7l l2 si;unfold tailZ;by_cases c6:Q4a (Q0c s).1=false
    ·rw[qAb c6]at hc;rw[qAb (pz.2 c6),hc];exact⟨rfl,fun _=>rfl,fun q=>by simp at q,fun q=>by simp at q⟩
    rw[qAa c6]at hc;rw[qAa (fun q=>c6 (pz.1 q)),hc];exact⟨rfl,fun _=>rfl,fun q=>by simp at q,fun _=>⟨l2,si,bd⟩⟩
  rw[qAb c4]at hc;rw[n1]at j3;rw[n1,qAb (by omega),hc];exact⟨rfl,fun _=>rfl,fun q=>by simp at q,fun q=>by simp at q⟩
 rw[qAb c3]at hc;rw[m1]at j4;rw[m1,qAb (by omega),hc];exact⟨rfl,fun _=>rfl,fun q=>by simp at q,fun q=>by simp at q⟩
def Q9y(s:ByteArray)(w:World)(e:Ending)(w':World):Prop :=
 ∃(p:Value) (pl:Int),e=.returned (.tuple #[p,.int .i64 (Q0u s).1,.int .i64 pl])/\Q0a w w'/\((Q0u s).1≠2->pl=(Q0u s).2)/\((Q0u s).1=2->pl=(Q4x s).2) /\
  ((Q0u s).1=0->∃(b:Nat) (xs:List ZLV),w.heap.size<=b/\p=.pointer (some ⟨b,0,none⟩)/\SpecX w' b (Q1b Q2m xs).1/\Q88 s xs)
theorem y6g(s:ByteArray)(w:World)(hs:s.size<=maxLen):Calls Tryz.prog 18 #[.string s] w fun e w'=>Q9y s w e w':=by
 obtain⟨em,j1⟩:=v13;by_cases hl:800<s.size
 ·have hc:Q0u s=(1,0):=by unfold Q0u;rw[qAb hl]
  refine(x1r (fun p=>em p ⟨#[]⟩) s w hs hl).mono ?_;rintro e w'⟨p,xs,h1,h2,h3,h4,h5⟩;have hz:Q6b (fun p=>em p ⟨#[]⟩) s xs (Q4x s).2=(1,0):=by unfold Q6b;rw[qAb hl]
  rw[hz]at h3;refine⟨p,0,by rw[hc];exact h3,h4,fun _=>by rw[hc],fun q=>by(rw[hc]at q;simp at q),fun q=>by(rw[hc]at q;simp at q)⟩
 have j0:s.size<=800:=by omega
 refine(y72 (fun p=>em p ⟨#[]⟩) s w j0 (y8m j0 j1)).mono ?_;rintro e w'⟨p,xs,h1,h2,h3,h4,h5⟩;obtain⟨r1,r2,r3,r4⟩:=v1c j0 (h1 j0) j1;rw[r1]at h3 h5;refine⟨p,_,h3,h4,r2,r3,fun q=>?_⟩;obtain⟨b,b1,b2,b3⟩:=h5 q;exact⟨b,xs,b1,b2,b3,r4 q⟩
theorem z5i{α β:Type}{p:α->Bool}{q:β->Bool}:∀{l:List α}{m:List β},l.length=m.length->(∀(k:Nat) (a:α) (b:β),l[k]? = some a->m[k]? = some b->p a=q b) ->
  (l.filter p).length=(m.filter q).length/\∀(k:Nat) (a:α) (b:β),(l.filter p)[k]? = some a->(m.filter q)[k]? = some b->∃j:Nat,l[j]? = some a/\m[j]? = some b
 | [],[],_,_=>⟨rfl,fun k a b h=>by simp at h⟩
 |x::l,y::m,hl,h=>by
  have hl':l.length=m.length:=by simpa using hl
  have j0:=h 0 x y rfl rfl;obtain⟨i1,i2⟩:=z5i (l:=l) (m:=m) hl' (fun k a b ha hb=>h (k+1) a b (by simpa using ha) (by simpa using hb));cases hp:p x
  ·rw[qAq,qAa (by rw[hp];simp),qAq,qAa (by rw[← j0,hp];simp)];refine⟨i1,fun k a b ha hb=>?_⟩;obtain⟨j,q1,q2⟩:=i2 k a b ha hb;exact⟨j+1,by simpa using q1,by simpa using q2⟩
  rw[qAq,qAb hp,qAq,qAb (by rw[← j0];exact hp)];refine⟨by simp[i1],fun k a b ha hb=>?_⟩;cases k with
  |zero=>exact⟨0,by simpa using ha,by simpa using hb⟩
  |succ k =>
   obtain⟨j,q1,q2⟩:=i2 k a b (by simpa using ha) (by simpa using hb);exact⟨j+1,by simpa using q1,by simpa using q2⟩
 | [],y::m,hl,_=>by simp at hl
 |x::l,[],hl,_=>by simp at hl
theorem x40{s:ByteArray}{xs:List ZLV}(h:Q88 s xs):(Q0i s).length=(Q1b Q2m xs).1.rules.length/\∀(k:Nat) (x:Ln) (z:ZLV),(Q0i s)[k]? = some x->(Q1b Q2m xs).1.rules[k]? = some z ->
  z.ln.skip=x.skip/\∃L,Q8u z.ln.pat L/\z.ln.pat.size<=s.size/\∀t,Q31 x t=true↔L (Q36 t):=by
 have j0:(Q1b Q2m xs).1.rules=xs.filter (fun z=>z.ln.rule):=by rw[h.si.rl,qAw]
 rw[j0];unfold Q0i;obtain⟨f1,f2⟩:=z5i (p:=Q0x) (q:=fun z:ZLV=>z.ln.rule) h.l2.len (fun k a b ha hb=>by
  obtain⟨i,i1,i2,i3⟩:=h.l2.at' k a b ha hb;exact i2.rule.symm)
 refine⟨f1,fun k x z hx hz=>?_⟩;obtain⟨j,q1,q2⟩:=f2 k x z hx hz;obtain⟨i,i1,i2,i3⟩:=h.l2.at' j x z q1 q2;have hr:z.ln.rule=true:=(qDi.1 (qAi hz)).2;exact⟨i2.skip,i2.pat hr⟩
theorem SpecX.at{w:World}{b:Nat}{X:SP}(h:SpecX w b X):∃v0 v1 v2 v3 v4 sv,Q2f w b X v0 v1 v2 v3 v4 sv:=by
 obtain⟨v0,v1,v2,v3,v4,sv,h1,_⟩:=h;exact⟨v0,v1,v2,v3,v4,sv,h1.sp⟩
theorem v0t(e:Int)(w:World):Calls Tryz.prog 9 #[.int .i64 e] w fun r w'=>r=.returned (.int .i64 e)/\w'=w:=by
 go_enter Tryz.func9,Tryz.ntmps9
 go_wp2;go_ret;exact⟨rfl,rfl⟩
def Wn(s:ByteArray)(d:Wd)(y:ByteArray):Prop:=Q6w s d.ls y
section
variable {s:ByteArray}
theorem v3h{d d':Wd}{y y':ByteArray}(h:Wn s d y)(h':Wn s d' y'):(d.ls==d'.ls)=(y.toList==y'.toList):=by
 rw[qBc,qBi,qBi];exact Q6w.eq_iff h h'
theorem x9l{d:Wd}{y:ByteArray}(hd:Wn s d y):∀{ds:List Wd}{ys:List ByteArray},Q8l (Wn s) ds ys->ds.findIdx (fun x=>x.ls==d.ls)=ys.findIdx (fun x=>x.toList==y.toList)
 | [],[],_=>rfl
 |a::us,b::zs,h=>by
  rw[qFj,qFj,v3h h.1 hd,x9l hd h.2]
theorem x5s{d:Wd}{y:ByteArray}(hd:Wn s d y){ds:List Wd}{ys:List ByteArray}(h:Q8l (Wn s) ds ys):Q1y ys y=if Q1m ds d.ls<ds.length then(Q1m ds d.ls:Int) else -1:=by
 unfold Q1y Q1m;rw[← x9l hd h,← h.len]
structure HI(s:ByteArray)(lns:List Ln)(X:SP):Prop where
 he:Q8l (Wn s) (Q0j lns) X.heads
 hd:X.head=(Q05 lns).map (fun y=>(Q1m (Q0j lns) y.front.ls:Int))
 mem:∀y∈Q05 lns,Q1m (Q0j lns) y.front.ls<(Q0j lns).length
theorem v0g{lns:List Ln}{X:SP}{x:Ln}{z:ZLV}{i:Nat}(h:HI s lns X)(hz:ZRel s i x z.ln):HI s (lns++[x]) (Q01 X z):=by
 have j2:=z1x lns [] x;have hr:=hz.rule;have hw:Wn s x.front z.ln.name:=hz.word;unfold Q01;cases hb:Q0x x
 ·rw[hb]at hr;rw[qAa (by rw[hr];simp)];rw[hb,qAa (by simp)]at j2;have ep:Q05 (lns++[x])=Q05 lns++[x]:=by unfold Q05;rw[qBx];simp[hb]
  have hf:=x5s hw h.he;by_cases c:Q1m (Q0j lns) x.front.ls<(Q0j lns).length
  ·have eh:Q0j (lns++[x])=Q0j lns:=by
    show Q14 (lns++[x]) []=Q14 lns [];rw[j2];exact qAb c
   rw[qAb c]at hf;have j1:¬Q1y X.heads z.ln.name<0:=by omega
   refine⟨?_,?_,?_⟩
   ·dsimp only;rw[eh,qAa j1];exact h.he
   ·dsimp only;rw[eh,ep,qAa j1,hf,qBp,← h.hd];rfl
   rw[eh,ep];intro y hy;rw[qU,qM]at hy;rcases hy with hy|rfl
   ·exact h.mem y hy
   exact c
  have eh:Q0j (lns++[x])=Q0j lns++[x.front]:=by
   show Q14 (lns++[x]) []=Q14 lns []++[x.front];rw[j2];exact qAa c
  rw[qAa c]at hf;have j1:Q1y X.heads z.ln.name<0:=by omega
  have j3:=y3n (Q0j lns) x.front.ls;have j0:Q1m (Q0j lns++[x.front]) x.front.ls=(Q0j lns).length:=by
   unfold Q1m at c j3 ⊢;rw[List.findIdx_append,qAa c];simp[qFj]
  refine⟨?_,?_,?_⟩
  ·dsimp only;rw[eh,qAb j1];exact h.he.snoc hw
  ·dsimp only;rw[eh,ep,qAb j1,qBp,h.hd,← h.he.len];congr 1
   ·apply qEs;intro y hy;rw[z5r (h.mem y hy)]
   simp only[qDl,List.map_nil];rw[j0]
  rw[eh,ep];intro y hy;rw[qU,qM]at hy;rcases hy with hy|rfl
  ·rw[z5r (h.mem y hy),qP];have:=h.mem y hy;omega
  rw[j0,qP];simp
 rw[hb]at hr;rw[qAb hr];rw[hb,qAb rfl]at j2;have eh:Q0j (lns++[x])=Q0j lns:=j2;have ep:Q05 (lns++[x])=Q05 lns:=by unfold Q05;rw[qBx];simp[hb]
 exact⟨by rw[eh];exact h.he,by rw[eh,ep];exact h.hd,by rw[eh,ep];exact h.mem⟩
theorem y10:∀(xs:List ZLV) (X:SP),(∀x∈xs,0<=x.pl)->(Q1b X xs).2=-1->(Q1b X xs).1=xs.foldl Q01 X
 | [],X,_,_=>rfl
 |x::l,X,hp,h=>by
  unfold Q1b at h ⊢;by_cases c:Q8f (Q01 X x) x=true
  ·rw[qAb c]at h;have:=hp x (by simp);dsimp only at h;omega
  rw[qAa c]at h ⊢;exact y10 l _ (fun y hy=>hp y (by simp[hy])) h
theorem x81{lns:List Ln}{xs:List ZLV}(h:Q4f s lns xs):∀i:Nat,i<=xs.length->HI s (lns.take i) ((xs.take i).foldl Q01 Q2m)
 |0,_=>⟨by simp[Q0j,Q14,Q2m,Q8l],by simp[Q2m,Q05],fun y hy=>by simp[Q05]at hy⟩
 |i+1,hi=>by
  have hl:=h.len;obtain⟨x,p,g1,g2,g3,g4,g5⟩:=h.get (k:=i) (by omega);have e:lns[i]'(by omega)=x:=by rw[qE (by omega)]at g1;injection g1
  rw[Q6e (by omega:i<lns.length),Q6e (by omega:i<xs.length),List.foldl_append,e];exact v0g (x81 h i (by omega)) g3
structure SpecTab(X:SP)(ps:List Pr)(R H:Nat):Prop where
 rules:X.rules.length=R
 heads:X.heads.length=H
 prods:X.prods.length=ps.length
 head:X.head=ps.map Pr.head
 syms:X.prods.map (Q8q X)=ps.map (fun p=>p.syms.map (Q0w R))
 tab:Q1d ps R H
theorem x72{xs:List ZLV}(hc:Q0u s=(0,0))(hO:Q88 s xs):SpecTab (Q1b Q2m xs).1 (Q0p (Q0c s).1) (Q0g (Q0c s).1).length (Q0j (Q0c s).1).length:=by
 obtain⟨c1,c2,c3,c4,c5⟩:=z2d hc;have j4:=(Q62 hc).places;have l2:=hO.l2;have j8:=l2.len;have hm:=x3x l2;have j2:=y10 xs Q2m (fun x hx=>by
  obtain⟨k,hk,rfl⟩:=qBf hx;obtain⟨y,p,g1,g2,g3,g4,g5⟩:=l2.get hk;omega) (by rw[hm.1];exact c5)
 have hI:=x81 l2 xs.length (qR _);rw[qAw,← j2,← j8,qAw]at hI;have j3:=hI.mem;have jd:(Q1b Q2m xs).1.rules=xs.filter (fun z=>z.ln.rule):=by rw[hO.si.rl,qAw]
 have jc:(Q1b Q2m xs).1.prods=xs.filter (fun z=>!z.ln.rule):=by rw[hO.si.pr,qAw]
 obtain⟨r1,r2⟩:=z5i (p:=Q0x) (q:=fun z:ZLV=>z.ln.rule) l2.len (fun k a b ha hb=>by
  obtain⟨i,i1,i2,i3⟩:=l2.at' k a b ha hb;exact i2.rule.symm)
 obtain⟨p1,p2⟩:=z5i (p:=fun x=>!Q0x x) (q:=fun z:ZLV=>!z.ln.rule) l2.len (fun k a b ha hb=>by
  obtain⟨i,i1,i2,i3⟩:=l2.at' k a b ha hb;rw[i2.rule])
 rw[← jd]at r1 r2;rw[← jc]at p1 p2;have hR:(Q0g (Q0c s).1).length=(Q1b Q2m xs).1.rules.length:=by unfold Q0g;rw[qAv,r1]
 -- a symbol's number
 have num:∀y∈(Q0c s).1,∀d∈y.syms,∀n,Q6w s d.ls n->Q80 (Q1b Q2m xs).1 n=Q0w (Q0g (Q0c s).1).length (Q9v (Q0g (Q0c s).1) (Q0j (Q0c s).1) d):=by
  intro y hy d hd n hw;obtain⟨n1,n2⟩:=x5k c3 j4 j3 hy hd;have j5:Q1a (atB n 0)=Q16 d:=hw.cap.symm;have j1:¬Q80 (Q1b Q2m xs).1 n<0:=by
   intro q;have q2:=(x5j l2 hO.si hw).1 q;obtain⟨k,hk,rfl⟩:=qBf hy;have h1:=z7k j4 _ 0 c3 (by omega) k hk (by omega);obtain⟨j,hj,rfl⟩:=qBf hd;have h2:=y0h (j4 _ hy).2 _ 0 h1 (by omega) j hj (by omega);rw[q2]at h2;cases h2
  unfold Q80 at j1 ⊢;rw[j5]at j1 ⊢;cases hb:Q16 d
  ·rw[hb]at j1;rw[qAa (by simp)]at j1 ⊢;have hlt:=n2 hb;have hlt':Q1m (Q0g (Q0c s).1) d.ls<(Q1b Q2m xs).1.rules.length:=by omega
   have j6:=qDz (xs:=Q0g (Q0c s).1) (p:=fun x:Wd=>x.ls==d.ls) (w:=hlt);have j9:∀(j:Nat) (z:ZLV),(Q1b Q2m xs).1.rules[j]? = some z->∃hj:j<(Q0g (Q0c s).1).length,Q6w s (Q0g (Q0c s).1)[j].ls z.ln.name:=by
    intro j z hz;have hj:=(qS hz).1;have ja:j<(Q0g (Q0c s).1).length:=by omega
    have j7:j<((Q0c s).1.filter Q0x).length:=by omega
    obtain⟨q,q1,q2⟩:=r2 j _ z (qE j7) hz;obtain⟨i,i1,i2,i3⟩:=l2.at' q _ z q1 q2;refine⟨ja,?_⟩;have e:(Q0g (Q0c s).1)[j]=((Q0c s).1.filter Q0x)[j].front:=by simp only[Q0g,qCd]
    rw[e];exact i2.word
   obtain⟨_,hk⟩:=j9 _ _ (qE hlt');have je:=z7c (qE hlt') (t:=n) ((Q6w.eq_iff hk hw).1 (by unfold Q1m;exact qBi.1 j6)) (fun j z hj hz e=>by
    obtain⟨ja,j7⟩:=j9 j z hz;have e2:=(Q6w.eq_iff j7 hw).2 e;have:=List.not_of_lt_findIdx (xs:=Q0g (Q0c s).1) (p:=fun x:Wd=>x.ls==d.ls) hj;simp[e2]at this) ((Q1b Q2m xs).1.rules.length+1) 0 (by omega) (by omega)
   rw[je]at j1 ⊢;by_cases jb:((Q1b Q2m xs).1.rules[Q1m (Q0g (Q0c s).1) d.ls]'hlt').ln.skip=true
   ·rw[qAb jb]at j1;omega
   rw[qAa jb];simp[Q0w,Q9v,hb]
  rw[qAb rfl];have hlt:=n1 hb;have hf:=x5s (d:=d) (y:=n) hw hI.he;rw[qAb hlt]at hf;rw[hf,qAa (by omega),← hR];simp[Q0w,Q9v,hb]
 have j0:(Q0p (Q0c s).1).length=(Q05 (Q0c s).1).length:=by unfold Q0p;rw[qAv]
 refine⟨hR.symm,hI.he.len.symm,by rw[j0];exact p1.symm,?_,?_,tabOk c3 j4 j3⟩
 ·rw[hI.hd];unfold Q0p;rw[List.map_map];rfl
 apply qEu
 ·rw[qAv,qAv,j0];exact p1.symm
 intro k h1 h2;rw[qAv]at h1 h2;have h3:k<(Q05 (Q0c s).1).length:=by omega
 rw[qCd,qCd];obtain⟨q,q1,q2⟩:=p2 k _ _ (qE h3) (qE h1);obtain⟨i,i1,i2,i3⟩:=l2.at' q _ _ q1 q2;have jg:(Q05 (Q0c s).1)[k]∈(Q0c s).1:=qAi q1;have e:(Q0p (Q0c s).1)[k]=Q8a (Q0g (Q0c s).1) (Q0j (Q0c s).1) (Q05 (Q0c s).1)[k]:=by simp only[Q0p,qCd]
 rw[e];have jf:(Q05 (Q0c s).1)[k].syms.length=((Q1b Q2m xs).1.prods[k]).ln.syms.length:=i2.syms.1;unfold Q8q Q8a;dsimp only;rw[List.map_map];apply qEu
 ·simp only[qAv];exact jf.symm
 intro j g1 g2;simp only[qAv]at g1 g2;simp only[qCd];exact num _ jg _ (qG _) _ (i2.sword (qE g2) (qE g1))
end
theorem infoBS:(Tryz.prog.info? 118).map (fun i=>(i.zero,i.size,i.bytes))=some (some (.slice none 0 0),1,24):=by kernel_rfl
theorem infoBS':∃i,Tryz.prog.info? 118=some i/\i.zero=some (.slice none 0 0)/\i.size=1/\i.bytes=24:=nfoE infoBS
def SlAt(w:World)(v:Value)(l:List Value):Prop :=
 ∃ao cap,v=.slice ao l.length cap/\l.length<=cap/\∀j (h:j<l.length),∃g o,ao=some ⟨g,o,none⟩/\w.cell? ⟨g,o+j,none⟩=some l[j]
theorem SlAt.fresh{w w':World}{v:Value}{l:List Value}(h:SlAt w v l)(hf:Q0a w w'):SlAt w' v l:=by
 obtain⟨ao,cap,h1,h2,h3⟩:=h;refine⟨ao,cap,h1,h2,fun j hj=>?_⟩;obtain⟨g,o,h4,h5⟩:=h3 j hj;exact⟨g,o,h4,Q0h hf h5⟩
structure NV(w:World)(b:Nat)(R H:Nat)(q:List Q1)(a0:Option Addr)(c0:Nat)(a1:Option Addr)(c1:Nat)(a2:Option Addr)(c2:Nat)(v3 v4:Value)(sv:List Value):Prop where
 k0:w.cell? ⟨b,0,none⟩=some (.slice a0 R c0)
 k1:w.cell? ⟨b,1,none⟩=some (.slice a1 q.length c1)
 k2:w.cell? ⟨b,2,none⟩=some (.slice a2 H c2)
 k3:w.cell? ⟨b,3,none⟩=some v3
 k4:w.cell? ⟨b,4,none⟩=some v4
 r3:Q1c w v3 (q.map Prod.fst)
 r4:SlAt w v4 sv
 len:sv.length=q.length
 each:∀(i:Nat) (v:Value) (x:Q1),sv[i]? = some v->q[i]? = some x->Q1c w v x.2
theorem NV.fresh{w w':World}{b R H:Nat}{q:List Q1}{a0 a1 a2:Option Addr}{c0 c1 c2:Nat}{v3 v4:Value}{sv:List Value}(h:NV w b R H q a0 c0 a1 c1 a2 c2 v3 v4 sv)(hf:Q0a w w'):NV w' b R H q a0 c0 a1 c1 a2 c2 v3 v4 sv :=
 ⟨Q0h hf h.k0,Q0h hf h.k1,Q0h hf h.k2,Q0h hf h.k3,Q0h hf h.k4,h.r3.fresh hf,h.r4.fresh hf,h.len,fun i v x h1 h2=>(h.each i v x h1 h2).fresh hf⟩
structure QOk(R H:Nat)(q:List Q1):Prop where
 r8:R<=8
 h8:H<=8
 p20:q.length<=20
 pos:0<q.length
 hd:∀x∈q,0<=x.1/\x.1<H
 sy:∀x∈q,x.2.length<=6/\∀c∈x.2,0<=c/\c<(R:Int)+1+H
def Q3q(w:World)(b:Nat)(R H:Nat)(q:List Q1):Prop:=∃a0 c0 a1 c1 a2 c2 v3 v4 sv,NV w b R H q a0 c0 a1 c1 a2 c2 v3 v4 sv
theorem Q3q.fresh{w w':World}{b R H:Nat}{q:List Q1}(h:Q3q w b R H q)(hf:Q0a w w'):Q3q w' b R H q:=by
 obtain⟨a0,c0,a1,c1,a2,c2,v3,v4,sv,h⟩:=h;exact⟨a0,c0,a1,c1,a2,c2,v3,v4,sv,h.fresh hf⟩
theorem Q0v(w:World)(n:Nat):Q0a w (w.drewN n):=⟨rfl,rfl,rfl,qR _,fun _ _ _=>rfl⟩
theorem z1j(w:World)(b R:Nat)(a0:Option Addr)(c0:Nat)(k0:w.cell? ⟨b,0,none⟩=some (.slice a0 R c0))(hR:R<=1000) :
  Calls Tryz.prog 47 #[.pointer (some ⟨b,0,none⟩)] w fun e w'=>e=.returned (.int .i64 (bs R))/\w'=w:=by
 go_enter Tryz.func47,Tryz.ntmps47
 go_wp2;go_ret;exact⟨by unfold bs;rfl,rfl⟩
theorem x35(base:Int)(null:List Bool)(l:List Int)(i:Nat)(hi:i<l.length):Q4b base null (l.drop i)=((decide (0<=l[i]-base)&&null.getD (l[i]-base).toNat false)&&Q4b base null (l.drop (i+1))):=by
 unfold Q4b;rw[qC hi,qDv]
theorem z4q(w:World)(b R H gn:Nat)(a0:Option Addr)(c0:Nat)(v:Value)(l:List Int)(null:List Bool)(k0:w.cell? ⟨b,0,none⟩=some (.slice a0 R c0))(hR:R<=1000)(hH:H<=1000)(hv:Q1c w v l)(hl:l.length<=1000)(hn:Q1x w gn null)(hnl:null.length=H)
  (hc:∀c∈l,0<=c/\c<(R:Int)+1+H) :
  Calls Tryz.prog 78 #[.pointer (some ⟨b,0,none⟩),v,bsl gn H] w fun e w'=>e=.returned (.bool (Q4b (bs R) null l))/\∃m,w'=w.drewN m:=by
 obtain⟨ao,cap,rfl,jh,j2⟩:=hv;have BA:=hid (fun w' (h:w'.cell? ⟨b,0,none⟩=some (.slice a0 R c0))=>z1j w' b R a0 c0 h hR);have HK:=hid k0;have HC:=hid j2;have HN:=hid hn;have jg:=hid hnl;have je:=hid hc;generalize hV:Q4b (bs R) null l=V;have HV:=hid hV;clear j2 hn hnl hc hV k0;go_enter Tryz.func78,Tryz.ntmps78
 go_wp2;go_loopw [7] (fun x7 wr=>∃(i m:Nat),x7=.int .i64 i/\wr=w.drewN m/\i<=l.length/\Q4b (bs R) null (l.drop i)=V)
   (fun x _=>1001-(intOf x).toNat)
 case atStart=>exact⟨0,0,rfl,rfl,by omega,HV.out⟩
 obtain⟨i,m,rfl,rfl,hi,j0⟩:=hrel;have jf:=hid (Q19 (B:=1001) i (by omega));have hk:=Q0h (Q0v w m) HK.out;have j4:=hid (Q0v w m);generalize hW:w.drewN m=wr at hk j4 ⊢;have HW:=hid hW;clear hW;by_cases j9:i<l.length
 ·have k1:(i:Int)<(l.length:Int):=by omega
  rw[x35 _ _ _ _ j9]at j0;obtain⟨g,o,rfl,j7⟩:=HC.out i j9;have j8:=Q0h j4.out j7;have jc:=je.out l[i] (qG j9);have ja:=fun(j:Nat) (hj:j<H)=>(HN.fresh j4.out).cell (j:=j) (by rw[jg.out];exact hj);have jb:=fun(j:Nat)=>(HN.fresh j4.out).frozen j;generalize hcv:l[i]=c at j0 j7 j8 jc;clear hcv j7;have BQ:=hid (fun n=>BA.out (wr.drewN n) (Q0h (Q0v wr n) hk));by_cases j3:c-bs R<0
  ·rw[qCa (by omega),qDh,qDh]at j0;have j1:=hid j0;have s1:decide (c-bs R<0)=true:=qCj j3;have jj:IntKind.i64.wrap (c-bs R)=c-bs R:=by rw[qBv];unfold bs;omega
   clear ja jb j0;go_wp2;go_quiet (first|(go_at_call 47;refine Calls.quiet_of_same (BQ.out _)));go_wp2;go_ret;rw[← j1.out];exact⟨rfl,by rw[← HW.out,qDu];exact⟨_,rfl⟩⟩
  rw[qCj (by omega),qBm]at j0;obtain⟨j,hj⟩:∃j:Nat,c-bs R=j:=⟨(c-bs R).toNat,by omega⟩;have ji:j<H:=by unfold bs at hj;omega
  have j5:=ja j ji;have jk:=jb j;rw[hj,qAo]at j0;have s1:¬(j:Int)<0:=by omega
  have s2:(j:Int)<(H:Int):=by omega
  have jj:IntKind.i64.wrap (c-bs R)=(j:Int):=by rw[qBv];unfold bs at hj ⊢;omega
  generalize null.getD j false=nj at j0 j5;clear ja jb hj j3 jc;cases nj
  ·rw[qDh]at j0;have j1:=hid j0;clear j0;go_wp2;go_quiet (first|(go_at_call 47;refine Calls.quiet_of_same (BQ.out _)));have j6:=Q0h (Q0v wr nq) j5;go_wp2;go_ret;rw[← j1.out];exact⟨rfl,by rw[← HW.out,qDu];exact⟨_,rfl⟩⟩
  rw[qBm]at j0;have j1:=hid j0;clear j0;go_wp2;go_quiet (first|(go_at_call 47;refine Calls.quiet_of_same (BQ.out _)));have j6:=Q0h (Q0v wr nq) j5;go_wp2;go_roundw
  case rel=>exact⟨i+1,m+nq,by go_num,by rw[← HW.out,qDu],by omega,j1.out⟩
  exact jf.out
 have k1:¬(i:Int)<(l.length:Int):=by omega
 have jd:l.drop i=[]:=qAp (by omega);rw[jd]at j0;have j1:=hid j0;clear j0 jd;go_wp2;go_ret;rw[← j1.out];exact⟨rfl,m,HW.symm⟩
end Go.Proofs.YtbdpfmalabgmbaaGreat
