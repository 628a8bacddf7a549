import Derived.Test.YtbdpfmalabgmbaaGreatKc9
namespace Go.Proofs.YtbdpfmalabgmbaaGreat
open Go.RowKit
set_option maxRecDepth 99999
set_option maxHeartbeats 0
set_option linter.all false
def NS(ps:List Pr):Nat->Int->Bool
  |0,_=>false
  |n+1,X=>ps.any fun p=>p.head==X&&p.syms.all fun s=>s.isH&&NS ps n s.num
def Q3y(N:Int->Bool)(F:Int->Bool)(t:Nat):List Sy->Bool
  | []=>false
  |s::l=>(if s.isH then F s.num else s.num==(t:Int))||(s.isH&&N s.num&&Q3y N F t l)
def FS(ps:List Pr)(N:Int->Bool)(t:Nat):Nat->Int->Bool
  |0,_=>false
  |n+1,X=>ps.any fun p=>p.head==X&&Q3y N (FS ps N t n) t p.syms
def Q4c(N:Int->Bool)(s:Sy):Bool:=s.isH&&N s.num
theorem z33{N F F':Int->Bool}{t:Nat}(h:∀X,F X=true->F' X=true):∀l:List Sy,Q3y N F t l=true->Q3y N F' t l=true
  | [],e=>e
  |s::l,e=>by
    unfold Q3y at e ⊢;cases hs:s.isH
    · rw[hs]at e;simpa using e
    rw[hs]at e;simp only[qBn,qBm,qAt,qAd]at e ⊢;rcases e with e|⟨e1,e2⟩
    · exact .inl (h _ e)
    exact .inr ⟨e1,z33 h l e2⟩
theorem z1s{N F:Int->Bool}{t:Nat}:∀{l:List Sy},Q3y N F t l=true->∃a s b,l=a++s::b/\a.all (Q4c N)=true/\(if s.isH then F s.num else s.num==(t:Int))=true
  | [],e=>by cases e
  |s::l,e=>by
    unfold Q3y at e;simp only[qAt,qAd]at e;rcases e with e|⟨e1,e2⟩
    · exact⟨[],s,l,rfl,rfl,e⟩
    obtain⟨a,s',b,h1,h2,h3⟩:=z1s e2;refine⟨s::a,s',b,by rw[h1];rfl,?_,h3⟩;simp[Q4c,e1.1,e1.2,h2]
theorem z28{N F:Int->Bool}{t:Nat}(s:Sy)(b:List Sy)(h:(if s.isH then F s.num else s.num==(t:Int))=true):∀a:List Sy,a.all (Q4c N)=true->Q3y N F t (a++s::b)=true
  | [],_=>by simp only[qCh,Q3y,qAt];exact .inl h
  |x::a,e=>by
    simp only[qDv,qAd]at e;simp only[qBh,Q3y,qAt,qAd];have e1:=e.1;simp only[Q4c,qAd]at e1;exact .inr ⟨e1,z28 s b h a e.2⟩
theorem z2v{N F:Int->Bool}{t:Nat}:∀(a b:List Sy),Q3y N F t (a++b)=(Q3y N F t a||(a.all (Q4c N)&&Q3y N F t b))
  | [],b=>by simp[Q3y]
  |x::a,b=>by
    simp only[qBh,Q3y,z2v a b,qDv,Q4c];cases x.isH<;>cases N x.num<;>simp[Bool.or_assoc]
theorem y6i(ps:List Pr):∀(n:Nat) (X:Int),NS ps n X=true->NS ps (n+1) X=true
  |0,_,h=>by cases h
  |n+1,X,h=>by
    unfold NS at h ⊢;rw[qBb]at h ⊢;obtain⟨p,hp,h⟩:=h;refine⟨p,hp,?_⟩;simp only[qAd,qAy]at h ⊢;exact⟨h.1,fun s hs=>⟨(h.2 s hs).1,y6i ps n _ (h.2 s hs).2⟩⟩
theorem x1t(ps:List Pr)(N:Int->Bool)(t:Nat):∀(n:Nat) (X:Int),FS ps N t n X=true->FS ps N t (n+1) X=true
  |0,_,h=>by cases h
  |n+1,X,h=>by
    unfold FS at h ⊢;rw[qBb]at h ⊢;obtain⟨p,hp,h⟩:=h;refine⟨p,hp,?_⟩;simp only[qAd]at h ⊢;exact⟨h.1,z33 (x1t ps N t n) _ h.2⟩
theorem x6d(l:List Bool):Q9r l<=l.length:=by unfold Q9r;exact qCc _ _
theorem y33{H:Nat}{a:Nat->List Bool}(hl:∀n,(a n).length=H)(hm:∀n,leB (a n) (a (n+1)))(hs:∀n,a n=a (n+1)->a (n+1)=a (n+2)):∀m,leB (a m) (a H):=by
  have h1:∀n,a n=a (n+1)∨Q9r (a n)+n<=H:=by
    intro n;induction n with
    |zero=>right;have:=x6d (a 0);rw[hl 0]at this;omega
    |succ n ih =>
      by_cases e:a n=a (n+1)
      · exact .inl (hs n e)
      right;have:=(y2c (hm n)).2 e;rcases ih with ih|ih
      · exact absurd ih e
      omega
  have h2:a H=a (H+1):=by
    by_cases e:a H=a (H+1)
    · exact e
    have:=(y2c (hm H)).2 e;rcases h1 H with h|h
    · exact absurd h e
    omega
  have h3:∀k,a (H+k)=a (H+k+1):=by
    intro k;induction k with
    |zero=>exact h2
    |succ k ih=>exact hs _ ih
  have h4:∀k,a (H+k)=a H:=by
    intro k;induction k with
    |zero=>rfl
    |succ k ih=>rw[← ih];exact(h3 k).symm
  have h5:∀k m,m+k=H->leB (a m) (a H):=by
    intro k;induction k with
    |zero =>
      intro m e;have:m=H:=by omega
      subst this;exact z2b _
    |succ k ih=>intro m e;exact z45 (hm m) (ih (m+1) (by omega))
  intro m;by_cases e:m<=H
  · exact h5 (H-m) m (by omega)
  have:=h4 (m-H);rw[show H+(m-H)=m by omega]at this;rw[this];exact z2b _
def Q46(H:Nat)(f:Int->Bool):List Bool:=(List.range H).map fun i=>f (i:Nat)
theorem z34{H:Nat}{f:Int->Bool}{X:Int}(h0:0<=X)(h1:X<H):(Q46 H f).getD X.toNat false=f X:=by
  have e:((X.toNat:Nat):Int)=X:=by omega
  unfold Q46;rw[qD,qBt,qFp (by omega)];simp[e]
theorem y30{H:Nat}{f g:Int->Bool}(h:∀X,f X=true->g X=true):leB (Q46 H f) (Q46 H g):=by
  unfold Q46;generalize List.range H=l;induction l with
  |nil=>trivial
  |cons x l ih=>exact⟨h _,ih⟩
theorem y3z{H:Nat}{f g:Int->Bool}(h:Q46 H f=Q46 H g){X:Int}(h0:0<=X)(h1:X<H):f X=g X:=by
  rw[← z34 h0 h1 (f:=f),h,z34 h0 h1]
theorem z8r{H:Nat}{f g:Int->Bool}(h:∀X,0<=X->X<H->f X=g X):Q46 H f=Q46 H g:=by
  unfold Q46;apply qEs;intro i hi;have:=List.mem_range.1 hi;exact h _ (by omega) (by omega)
theorem z32{α:Type}{l:List α}{f g:α->Bool}(h:∀x∈l,f x=g x):l.any f=l.any g:=by
  induction l with
  |nil=>rfl
  |cons x l ih=>simp only[List.any_cons,h x (by simp),ih (fun y hy=>h y (by simp[hy]))]
theorem z31{α:Type}{l:List α}{f g:α->Bool}(h:∀x∈l,f x=g x):l.all f=l.all g:=by
  induction l with
  |nil=>rfl
  |cons x l ih=>simp only[qDv,h x (by simp),ih (fun y hy=>h y (by simp[hy]))]
theorem y02{N F F':Int->Bool}{t:Nat}:∀(l:List Sy),(∀s∈l,s.isH=true->F s.num=F' s.num)->Q3y N F t l=Q3y N F' t l
  | [],_=>rfl
  |s::l,h=>by
    unfold Q3y;rw[y02 l (fun x hx=>h x (by simp[hx]))];cases hs:s.isH
    · rfl
    rw[h s (by simp) hs]
variable {ps:List Pr}{R H:Nat}
theorem v1w(hT:Q1d ps R H)(n:Nat)(X:Int)(h0:0<=X)(h1:X<H)(h:NS ps n X=true):NS ps H X=true:=by
  have hc:=y33 (a:=fun n=>Q46 H (NS ps n)) (H:=H) (fun n=>by simp[Q46]) (fun n=>y30 (y6i ps n)) (by
    intro n e;refine z8r (fun X _ _=>?_);show NS ps (n+1) X=NS ps (n+2) X;unfold NS;refine z32 (fun p hp=>?_);congr 1;refine z31 (fun s hs=>?_);cases hsh:s.isH
    · rfl
    have:=hT.sy p hp s hs;rw[hsh]at this;simp only[qBn]at this;rw[y3z e this.1 this.2]) n
  have:=z4v hc X.toNat (by rw[z34 h0 h1];exact h);rwa [z34 h0 h1]at this
theorem x8r(hT:Q1d ps R H)(N:Int->Bool)(t:Nat)(n:Nat)(X:Int)(h0:0<=X)(h1:X<H)(h:FS ps N t n X=true):FS ps N t H X=true:=by
  have hc:=y33 (a:=fun n=>Q46 H (FS ps N t n)) (H:=H) (fun n=>by simp[Q46]) (fun n=>y30 (x1t ps N t n)) (by
    intro n e;refine z8r (fun X _ _=>?_);show FS ps N t (n+1) X=FS ps N t (n+2) X;unfold FS;refine z32 (fun p hp=>?_);congr 1;refine y02 _ (fun s hs hsh=>?_);have:=hT.sy p hp s hs;rw[hsh]at this;simp only[qBn]at this;exact y3z e this.1 this.2) n
  have:=z4v hc X.toNat (by rw[z34 h0 h1];exact h);rwa [z34 h0 h1]at this
structure St where
  leaf:Bool
  num:Int
def ahd(N:Int->Bool)(F O:Int->Nat->Bool)(p:Pr)(t:Nat):Bool:=Q3y N (fun X=>F X t) t p.syms||(p.syms.all (Q4c N)&&O p.head t)
structure LLG(ps:List Pr)(R H:Nat)(N:Int->Bool)(F O:Int->Nat->Bool)(ch:Int->Nat->Int):Prop where
  tab:Q1d ps R H
  mx:∀p∈ps,p.syms.length<=6
  clN:∀p∈ps,p.syms.all (Q4c N)=true->N p.head=true
  clF:∀p∈ps,∀t,Q3y N (fun X=>F X t) t p.syms=true->F p.head t=true
  clO:∀p∈ps,∀a s b,p.syms=a++s::b->s.isH=true->∀t,(Q3y N (fun X=>F X t) t b||(b.all (Q4c N)&&O p.head t))=true->O s.num t=true
  leN:∀X,N X=true->NS ps H X=true
  leF:∀X t,F X t=true->FS ps N t H X=true
  st:O 0 R=true
  bF:∀X t,F X t=true->t<R
  one:∀(i:Nat) p,ps[i]? = some p->∀t,t<=R->ahd N F O p t=true->ch p.head t=i
  chr:∀X t,0<=ch X t->∃p,ps[(ch X t).toNat]? = some p/\p.head=X/\ahd N F O p t=true
def gTo(ps:List Pr)(ch:Int->Nat->Int)(t:Nat):Nat->List Sy->List St->Option (List Sy × List St)
  |0,_,_=>none
  |_+1,[],st=>some ([],st)
  | f + 1,s::k,st=>if s.isH=false then some (k,st++[⟨true,s.num⟩]) else
      if 0<=ch s.num t then(match ps[(ch s.num t).toNat]? with
        |some p=>gTo ps ch t f (p.syms++k) (st++[⟨false,ch s.num t⟩])
        |none=>none) else none
theorem z19{ps:List Pr}{ch:Int->Nat->Int}{t:Nat}:∀(f:Nat) (k:List Sy) (st:List St) (r:List Sy × List St),gTo ps ch t f k st=some r->∀g,f<=g->gTo ps ch t g k st=some r
  |0,_,_,_,h,_,_=>by cases h
  |f+1,[],st,r,h,g,hg=>by
    obtain⟨g,rfl⟩:∃k,g=k+1:=⟨g-1,by omega⟩;exact h
  |f+1,s::k,st,r,h,g,hg=>by
    obtain⟨g,rfl⟩:∃k,g=k+1:=⟨g-1,by omega⟩;unfold gTo at h ⊢;split
    · rename_i e;rw[qAb e]at h;exact h
    rename_i e;rw[qAa e]at h;split
    · rename_i e2
      rw[qAb e2]at h;cases hp:ps[(ch s.num t).toNat]? with
      |none=>rw[hp]at h;cases h
      |some p =>
        rw[hp]at h;exact z19 f _ _ r h g (by omega)
    rename_i e2;rw[qAa e2]at h;exact h
theorem y2g{ps:List Pr}{ch:Int->Nat->Int}{t:Nat}:∀(f:Nat) (k:List Sy) (st:List St) (r:List Sy × List St),gTo ps ch t f k st=some r->st.length<=r.2.length
  |0,_,_,_,h=>by cases h
  |f+1,[],st,r,h=>by cases h;exact qR _
  |f+1,s::k,st,r,h=>by
    unfold gTo at h;split at h
    · cases h;simp
    split at h
    · split at h
      · have:=y2g f _ _ r h;simp at this;omega
      cases h
    cases h
def szN:Nat->Nat
  |0=>0
  |n+1=>1+6*szN n
theorem y9o:∀n,szN n<=szN (n+1)
  |0=>by decide
  |n+1=>by have:=y9o n;simp only[szN]at *;omega
theorem v2u{n m:Nat}(h:n<=m):szN n<=szN m:=by
  obtain⟨k,rfl⟩:∃k,m=n+k:=⟨m-n,by omega⟩;induction k with
  |zero=>exact qR _
  |succ k ih=>exact qDa (ih (by omega)) (y9o _)
section
variable {ps:List Pr}{R H:Nat}{N:Int->Bool}{F O:Int->Nat->Bool}{ch:Int->Nat->Int}
theorem LLG.nsN(g:LLG ps R H N F O ch):∀(n:Nat) (X:Int),NS ps n X=true->N X=true
  |0,_,h=>by cases h
  |n+1,X,h=>by
    unfold NS at h;rw[qBb]at h;obtain⟨p,hp,h⟩:=h;simp only[qAd,qAy,qBi]at h;rw[← h.1];refine g.clN p hp ?_;rw[qAy];intro s hs;simp only[Q4c,qAd];exact⟨(h.2 s hs).1,g.nsN n _ (h.2 s hs).2⟩
theorem LLG.fsF(g:LLG ps R H N F O ch)(t:Nat):∀(n:Nat) (X:Int),FS ps N t n X=true->F X t=true
  |0,_,h=>by cases h
  |n+1,X,h=>by
    unfold FS at h;rw[qBb]at h;obtain⟨p,hp,h⟩:=h;simp only[qAd,qBi]at h;rw[← h.1];exact g.clF p hp t (z33 (g.fsF t n) _ h.2)
theorem x9w{p:Pr}(h:p∈ps):∃i:Nat,ps[i]? = some p:=by
  obtain⟨i,hi,rfl⟩:=qBf h;exact⟨i,by simp⟩
theorem LLG.nul1(g:LLG ps R H N F O ch){n:Nat}{X:Int}(h:NS ps (n+1) X=true){t:Nat}(ht:t<=R)(ho:O X t=true) :
    ∃(i:Nat) (p:Pr),ps[i]? = some p/\p.head=X/\ch X t=i/\p.syms.length<=6/\∀s∈p.syms,s.isH=true/\NS ps n s.num=true/\O s.num t=true:=by
  unfold NS at h;rw[qBb]at h;obtain⟨p,hp,h⟩:=h;simp only[qAd,qAy,qBi]at h;obtain⟨i,hi⟩:=x9w hp;have j0:p.syms.all (Q4c N)=true:=by
    rw[qAy];intro s hs;simp only[Q4c,qAd];exact⟨(h.2 s hs).1,g.nsN n _ (h.2 s hs).2⟩
  have ha:ahd N F O p t=true:=by unfold ahd;rw[j0,h.1,ho];simp
  refine⟨i,p,hi,h.1,?_,g.mx p hp,fun s hs=>⟨(h.2 s hs).1,(h.2 s hs).2,?_⟩⟩
  · rw[← h.1];exact g.one i p hi t ht ha
  obtain⟨a,b,e⟩:=qEy hs;refine g.clO p hp a s b e (h.2 s hs).1 t ?_;have hb:b.all (Q4c N)=true:=by
    rw[qAy]at j0 ⊢;intro x hx;exact j0 x (by rw[e];simp[hx])
  rw[hb,h.1,ho];simp
theorem z5j{i:Nat}{p:Pr}{s:Sy}{t:Nat}(hi:ps[i]? = some p)(hs:s.isH=true)(hc:ch s.num t=i)(f:Nat)(k:List Sy)(st:List St) :
    gTo ps ch t (f+1) (s::k) st=gTo ps ch t f (p.syms++k) (st++[⟨false,i⟩]):=by
  rw[gTo,qAa (by rw[hs];simp),hc,qAb (by omega),qAo,hi]
theorem z8a{t B:Nat}:∀(l:List Sy),(∀s∈l,∃(c:Nat) (ns:List St),ns.length=c/\c<=B/\∀f k st,gTo ps ch t (c+f) (s::k) st=gTo ps ch t f k (st++ns)) ->
    ∃(c:Nat) (ns:List St),ns.length=c/\c<=l.length*B/\∀f k st,gTo ps ch t (c+f) (l++k) st=gTo ps ch t f k (st++ns)
  | [],_=>⟨0,[],rfl,by simp,fun f k st=>by simp⟩
  |s::l,h=>by
    obtain⟨c1,n1,h1,h2,h3⟩:=h s (by simp);obtain⟨c2,n2,h4,h5,h6⟩:=z8a l (fun x hx=>h x (by simp[hx]));refine⟨c1+c2,n1++n2,by simp[h1,h4],?_,fun f k st=>?_⟩
    · simp only[qBk,qFc,Nat.one_mul];omega
    rw[qDm,qBh,h3,h6,qAs]
theorem LLG.null(g:LLG ps R H N F O ch){t:Nat}(ht:t<=R):∀(n:Nat) (s:Sy),s.isH=true->NS ps n s.num=true->O s.num t=true ->
    ∃(c:Nat) (ns:List St),ns.length=c/\c<=szN n/\∀f k st,gTo ps ch t (c+f) (s::k) st=gTo ps ch t f k (st++ns)
  |0,_,_,h,_=>by cases h
  |n+1,s,hs,h,ho=>by
    obtain⟨i,p,hi,hp,hc,hl,hall⟩:=g.nul1 h ht ho;obtain⟨c,ns,h1,h2,h3⟩:=z8a (ps:=ps) (ch:=ch) (t:=t) (B:=szN n) p.syms (fun x hx=>g.null ht n x (hall x hx).1 (hall x hx).2.1 (hall x hx).2.2);refine⟨c+1,⟨false,i⟩::ns,by simp[h1],?_,fun f k st=>?_⟩
    · have:=qCr (szN n) hl
      simp only[szN];omega
    rw[show c+1+f=c+f+1 by omega,z5j hi hs hc,h3,qAs];rfl
def szF(B:Nat):Nat->Nat
  |0=>0
  |n+1=>1+6*B+szF B n
theorem LLG.first(g:LLG ps R H N F O ch){t:Nat}(ht:t<=R):∀(n:Nat) (s:Sy),s.isH=true->FS ps N t n s.num=true ->
    ∃(c:Nat) (ns:List St) (k':List Sy),ns.length=c/\c<=szF (szN H) n/\k'.length<=6*n/\∀f k st,gTo ps ch t (c+f+1) (s::k) st=some (k'++k,st++ns++[⟨true,t⟩])
  |0,_,_,h=>by cases h
  |n+1,s,hs,h=>by
    unfold FS at h;rw[qBb]at h;obtain⟨p,hp,h⟩:=h;simp only[qAd,qBi]at h;obtain⟨i,hi⟩:=x9w hp;have hb:=z33 (g.fsF t n) _ h.2;have ha:ahd N F O p t=true:=by unfold ahd;rw[hb];rfl
    have hc:=g.one i p hi t ht ha;rw[h.1]at hc;obtain⟨a,x,b,e,h1,h2⟩:=z1s h.2;have hl:=g.mx p hp;have j1:a.length+b.length+1<=6:=by rw[e]at hl;simp at hl;omega
    have j2:(if x.isH then F x.num t else x.num==(t:Int))=true:=by
      cases hx:x.isH
      · rw[hx]at h2;exact h2
      rw[hx]at h2;exact g.fsF t n _ h2
    obtain⟨c,ns,k1,k2,k3⟩:=z8a (ps:=ps) (ch:=ch) (t:=t) (B:=szN H) a (fun y hy=>by
      have j0:=(qAy.1 h1) y hy;simp only[Q4c,qAd]at j0;refine g.null ht H y j0.1 (g.leN _ j0.2) ?_;obtain⟨a1,a2,ea⟩:=qEy hy;refine g.clO p hp a1 y (a2++x::b) (by rw[e,ea];simp) j0.1 t ?_;have:Q3y N (fun X=>F X t) t (a2++x::b)=true:=z28 x b j2 a2 (by
        rw[qAy]at h1 ⊢;intro z hz;exact h1 z (by rw[ea];simp[hz]))
      rw[this];rfl)
    have j4:c<=6*szN H:=qDa k2 (qCr _ (by omega));cases hx:x.isH
    · rw[hx]at h2
      simp only[qF,qAz,qBi]at h2;refine⟨c+1,⟨false,i⟩::ns,b,by simp[k1],by simp only[szF];omega,by omega,fun f k st=>?_⟩;rw[show c+1+f+1=c+(f+1)+1 by omega,z5j hi hs hc,e,qAs,k3,qBh,gTo,qAb hx,h2];simp
    rw[hx]at h2;simp only[qBn]at h2;obtain⟨c',j3,k',m1,m2,m3,m4⟩:=g.first ht n x hx h2;refine⟨c+1+c',⟨false,i⟩::(ns++j3),k'++b,by simp[k1,m1];omega,by simp only[szF];omega,by simp;omega,fun f k st=>?_⟩;rw[show c+1+c'+f+1=c+(c'+f+1)+1 by omega,z5j hi hs hc,e,qAs,k3,qBh,m4];simp
def Q6u(N:Int->Bool)(F:Int->Nat->Bool)(R:Nat)(k:List Sy)(t:Nat):Bool:=Q3y N (fun X=>F X t) t k||(k.all (Q4c N)&&(t==R))
def Q4z(N:Int->Bool)(F O:Int->Nat->Bool)(R:Nat)(k:List Sy):Prop:=∀a s b,k=a++s::b->s.isH=true->∀t,Q6u N F R b t=true->O s.num t=true
theorem LLG.stk0(g:LLG ps R H N F O ch):Q4z N F O R [⟨true,0⟩]:=by
  intro a s b e hs t ht;cases a with
  |nil =>
    simp only[qCh,qBe]at e;obtain⟨rfl,rfl⟩:=e;simp only[Q6u,Q3y,List.all_nil,qBm,qDj,qBi]at ht;rw[ht];exact g.st
  |cons x a=>simp at e
theorem Q4z.tail{s:Sy}{k:List Sy}(h:Q4z N F O R (s::k)):Q4z N F O R k:=fun a x b e hx t ht=>h (s::a) x b (by rw[e];rfl) hx t ht
theorem x1x{α:Type}{l k a b:List α}{s:α}(h:l++k=a++s::b):(∃c,k=c++s::b)∨∃b',b=b'++k/\l=a++s::b':=by
  rcases List.append_eq_append_iff.1 h with⟨c,h1,h2⟩|⟨c,h1,h2⟩
  · exact .inl ⟨c,h2⟩
  cases c with
  |nil=>simp only[qCh]at h2;exact .inl ⟨[],h2.symm⟩
  |cons x c =>
    simp only[qBh,qBe]at h2;obtain⟨rfl,rfl⟩:=h2;exact .inr ⟨c,rfl,h1⟩
theorem LLG.stkOpen(g:LLG ps R H N F O ch){p:Pr}(hp:p∈ps){s:Sy}{k:List Sy}(hs:s.isH=true)(he:p.head=s.num)(h:Q4z N F O R (s::k)):Q4z N F O R (p.syms++k):=by
  intro a x b e hx t ht;rcases x1x e with⟨c,hc⟩|⟨b',rfl,hb⟩
  · exact h (s::c) x b (by rw[hc];rfl) hx t ht
  refine g.clO p hp a x b' hb hx t ?_;unfold Q6u at ht;rw[z2v]at ht;cases hq:Q3y N (fun X=>F X t) t b'
  · rw[hq]at ht
    simp only[qDj,List.all_append]at ht ⊢;have hw:b'.all (Q4c N)=true/\Q6u N F R k t=true:=by
      unfold Q6u;cases h1:b'.all (Q4c N)
      · rw[h1]at ht;simp at ht
      rw[h1]at ht;simp only[qBm]at ht;exact⟨rfl,ht⟩
    rw[hw.1,he,h [] s k rfl hs t hw.2];rfl
  rfl
theorem LLG.stkTo(g:LLG ps R H N F O ch){t:Nat}:∀(f:Nat) (k:List Sy) (st:List St) (r:List Sy × List St),gTo ps ch t f k st=some r->Q4z N F O R k->Q4z N F O R r.1
  |0,_,_,_,h,_=>by cases h
  |f+1,[],st,r,h,hk=>by cases h;exact hk
  |f+1,s::k,st,r,h,hk=>by
    unfold gTo at h;split at h
    · cases h;exact hk.tail
    rename_i hs;split at h
    · rename_i h0
      obtain⟨p,hp,he,_⟩:=g.chr _ _ h0;rw[hp]at h;exact g.stkTo f _ _ r h (g.stkOpen (qAi hp) (by simpa using hs) he hk)
    cases h
def Q2y(H n:Nat):Nat:=n*szN H+szF (szN H) H+1
theorem LLG.grows(g:LLG ps R H N F O ch){t:Nat}(ht:t<=R)(k:List Sy)(hk:Q4z N F O R k)(hw:Q6u N F R k t=true)(st:List St) :
    ∃r,gTo ps ch t (Q2y H k.length) k st=some r/\r.1.length<=k.length+6*H/\r.2.length<=st.length+Q2y H k.length:=by
  have j1:∀(a:List Sy) (x:List Sy),k=a++x->a.all (Q4c N)=true->Q6u N F R x t=true->∃(c:Nat) (ns:List St),ns.length=c/\c<=a.length*szN H/\∀f k st,gTo ps ch t (c+f) (a++k) st=gTo ps ch t f k (st++ns):=by
    intro a x e ha hx;refine z8a a (fun y hy=>?_);have j0:=(qAy.1 ha) y hy;simp only[Q4c,qAd]at j0;refine g.null ht H y j0.1 (g.leN _ j0.2) ?_;obtain⟨a1,a2,ea⟩:=qEy hy;refine hk a1 y (a2++x) (by rw[e,ea];simp) j0.1 t ?_;have j2:a2.all (Q4c N)=true:=by
      rw[qAy]at ha ⊢;intro z hz;exact ha z (by rw[ea];simp[hz])
    unfold Q6u at hx ⊢;rw[z2v,List.all_append,j2];simp only[qBm];rw[Bool.or_assoc,hx];simp
  unfold Q6u at hw;cases hb:Q3y N (fun X=>F X t) t k
  · rw[hb]at hw
    simp only[qDj,qAd,qBi]at hw;obtain⟨j3,rfl⟩:=hw;obtain⟨c,ns,h1,h2,h3⟩:=j1 k [] (by simp) j3 (by simp[Q6u,Q3y]);refine⟨([],st++ns),?_,by simp,by simp only[qP,h1,Q2y];omega⟩;have h4:=h3 1 [] st;rw[qBd]at h4;refine z19 (c+1) k st _ (by rw[h4];rfl) _ (by unfold Q2y;omega)
  obtain⟨a,s,b,rfl,ha,hs⟩:=z1s hb;obtain⟨c,ns,h1,h2,h3⟩:=j1 a (s::b) rfl ha (by
    unfold Q6u;have:Q3y N (fun X=>F X t) t ([]++s::b)=true:=z28 s b hs [] rfl;rw[qCh]at this;rw[this];rfl)
  have j5:a.length*szN H<=(a++s::b).length*szN H:=qCr _ (by simp);cases hx:s.isH
  · rw[hx]at hs
    refine⟨(b,st++ns++[⟨true,s.num⟩]),?_,by simp;omega,by simp only[qP,h1,Q2y,qAj]at *;omega⟩;refine z19 (c+1) _ st _ ?_ _ (by unfold Q2y;omega);rw[h3,gTo,qAb hx]
  rw[hx]at hs;simp only[qBn]at hs;obtain⟨c',j4,k',m1,m2,m3,m4⟩:=g.first ht H s hx (g.leF _ _ hs);refine⟨(k'++b,st++ns++j4++[⟨true,t⟩]),?_,by simp;omega,by simp only[qP,h1,m1,Q2y,qAj]at *;omega⟩;refine z19 (c+(c'+0+1)) _ st _ ?_ _ (by unfold Q2y;omega);rw[h3];exact m4 0 b (st++ns)
end
theorem z39:∀(l:List Ln) (acc:List Wd) (d:Wd),d∈acc->d∈Q14 l acc
  | [],_,_,h=>h
  |x::l,acc,d,h=>by
    unfold Q14;split
    · exact z39 l acc d h
    split
    · exact z39 l acc d h
    exact z39 l _ d (by simp[h])
theorem y52{ds:List Wd}{ls:List Int}:Q1m ds ls<ds.length↔∃d∈ds,d.ls=ls:=by
  unfold Q1m;rw[List.findIdx_lt_length];simp
theorem z5l:∀(l:List Ln) (acc:List Wd) (y:Ln),y∈l->Q0x y=false->∃d∈Q14 l acc,d.ls=y.front.ls
  | [],_,_,h,_=>by cases h
  |x::l,acc,y,h,hy=>by
    simp only[qBu]at h;unfold Q14;rcases h with rfl|h
    · rw[qAa (by rw[hy];simp)]
      split
      · rename_i e
        obtain⟨d,h1,h2⟩:=y52.1 e;exact⟨d,z39 l acc d h1,h2⟩
      exact⟨y.front,z39 l _ _ (by simp),rfl⟩
    split
    · exact z5l l acc y h hy
    split
    · exact z5l l acc y h hy
    exact z5l l _ y h hy
theorem y4m(lns:List Ln):∀i,i<=lns.length->(Q14 (lns.take i) []).length<=Q3h lns i
  |0,_=>by simp[Q14]
  |i+1,hi=>by
    have ih:=y4m lns i (by omega);have j0:i<lns.length:=by omega
    rw[Q6e j0,z1x,z3i lns i j0];split
    · omega
    rename_i hr;split
    · omega
    rename_i hw;have ha:Q3b lns i=false:=by
      unfold Q3b;rw[qE j0];simp only[qCe];intro hf;apply hw;rw[y52];unfold Q2i at hf;have j4:lns.findIdx (fun y=>y.front.ls==lns[i].front.ls)<lns.length:=by omega
      have h1:=qDz (w:=j4);generalize lns.findIdx (fun y=>y.front.ls==lns[i].front.ls)=j at *;simp only[qBi]at h1;have j3:Q0x lns[j]=false:=by
        have:Q16 lns[j].front=Q16 lns[i].front:=y8s h1;unfold Q0x at hr ⊢;rw[this];simpa using hr
      obtain⟨d,j1,j2⟩:=z5l (lns.take i) [] lns[j] (List.mem_take_iff_getElem.2 ⟨j,by omega,rfl⟩) j3;exact⟨d,j1,by rw[j2,h1]⟩
    rw[ha];simp only[qDk];have j5:Q0x lns[i]=false:=by simpa using hr
    rw[j5];simp only[qP,qAj,qF,qAz];omega
theorem y34{lns:List Ln}(hp:∀y∈lns,0<=y.front.place)(h:Q3v lns=-1):(Q0j lns).length<=8/\(Q0p lns).length<=20/\∀p∈Q0p lns,p.syms.length<=6:=by
  refine⟨?_,?_,?_⟩
  · have hc:=y4m lns lns.length (qR _)
    rw[qAw]at hc;unfold Q0j;by_cases h0:lns.length=0
    · have:lns=[]:=qCm h0
      subst this;simp[Q14]
    have:=z4c hp _ 0 h (by omega) (lns.length-1) (by omega) (by omega);unfold Q7z at this;simp only[qCb,qCe]at this;have h1:=this.1.2;rw[show lns.length-1+1=lns.length by omega]at h1;omega
  · have e:(Q0p lns).length=Q22 lns lns.length:=by unfold Q0p Q05 Q22;rw[qAw,qAv]
    rw[e];by_cases h0:lns.length=0
    · rw[h0];simp[Q22]
    have:=z4c hp _ 0 h (by omega) (lns.length-1) (by omega) (by omega);unfold Q7z at this;simp only[qCb,qCe]at this;have h1:=this.1.1.2;rw[show lns.length-1+1=lns.length by omega]at h1;omega
  intro p j0;unfold Q0p at j0;obtain⟨y,hy,rfl⟩:=qBj.1 j0;have j1:=(qDi.1 hy).1;obtain⟨k,hk,rfl⟩:=qBf j1;have:=z4c hp _ 0 h (by omega) k hk (by omega);unfold Q7z at this;simp only[qCb,qCe]at this;unfold Q8a;simp only[qAv];omega
def hN(hs:List Hd)(X:Int):Bool:=(Q1k hs X).nul
def hF(hs:List Hd)(X:Int)(t:Nat):Bool:=(Q1k hs X).fi.getD t false
def hO(hs:List Hd)(X:Int)(t:Nat):Bool:=(Q1k hs X).fo.getD t false
theorem y0o{a:List Bool}(ha:a.length=9){n:Int}(h0:0<=n)(h9:n<9)(t:Nat):(Q2h a n).getD t false=(a.getD t false||(n==(t:Int))):=by
  unfold Q2h;rw[qAb ⟨h0,h9⟩];simp only[qD,qCs];by_cases e:n.toNat=t
  · have e2:(n==(t:Int))=true:=by simp;omega
    rw[qAb e,qAb (by omega),e2];simp
  have e2:(n==(t:Int))=false:=by simp;omega
  rw[qAa e,e2];simp
theorem z4h(hs:List Hd):∀(l:List Sy) (acc:List Bool),(Q2q hs l acc).2=l.all (Q4c (hN hs))
  | [],_=>rfl
  |s::l,acc=>by
    unfold Q2q;cases h1:s.isH
    · simp[Q4c,h1]
    simp only[qDf,qAz,qDv,Q4c,h1,qBm,hN];cases h2:(Q1k hs s.num).nul
    · simp
    simp only[qDf,qAz,qBm];exact z4h hs l _
theorem z61{R H:Nat}{hs:List Hd}(hok:∀x∈hs,x.ok)(hR:R<=8)(t:Nat):∀(l:List Sy) (acc:List Bool),acc.length=9->(∀s∈l,0<=s.num/\s.num<(if s.isH then(H:Int) else R)) ->
    (Q2q hs l acc).1.getD t false=(acc.getD t false||Q3y (hN hs) (fun X=>hF hs X t) t l)
  | [],acc,_,_=>by simp[Q2q,Q3y]
  |s::l,acc,ha,hv=>by
    have hv1:=hv s (by simp);unfold Q2q Q3y;cases h1:s.isH
    · rw[h1]at hv1
      simp only[qF,qAz]at hv1;simp only[qBn,qF,qAz,qDh,qDk];exact y0o ha hv1.1 (by omega) t
    simp only[qDf,qAz,qBn,qBm];have j0:=(z0k hok s.num).fi;cases h2:(Q1k hs s.num).nul
    · simp only[qBn,hN,h2,qDh,qDk]
      rw[z3q (by rw[ha,j0])];rfl
    simp only[qDf,qAz];rw[z61 hok hR t l _ (z04 ha j0) (fun x hx=>hv x (by simp[hx])),z3q (by rw[ha,j0])];simp only[hN,h2,qBm,hF,Bool.or_assoc]
theorem z4u(t:Nat):zero9.getD t false=false:=by rw[z3w]
theorem z89{R H:Nat}{hs:List Hd}(hok:∀x∈hs,x.ok)(hR:R<=8)(t:Nat)(ph:Int)(l:List Sy)(hv:∀s∈l,0<=s.num/\s.num<(if s.isH then(H:Int) else R)) :
    (Q8n hs ph l).getD t false=(Q3y (hN hs) (fun X=>hF hs X t) t l||(l.all (Q4c (hN hs))&&hO hs ph t)):=by
  have h1:=z61 hok hR t l zero9 rfl hv;rw[z4u,qDj]at h1;unfold Q8n;rw[z4h];split
  · rename_i e
    rw[z3q (by rw[z1a hok _ _ rfl,(z0k hok _).fo]),h1,e];simp[hO]
  rename_i e;rw[h1];have:l.all (Q4c (hN hs))=false:=by simpa using e
  rw[this];simp
structure Fd(ps:List Pr)(H:Nat)(hs:List Hd):Prop where
  ok:∀x∈hs,x.ok
  n:∀X,hN hs X=true->NS ps H X=true
  f:∀X t,hF hs X t=true->FS ps (NS ps H) t H X=true
theorem y3x{N N' F F':Int->Bool}{t:Nat}(hn:∀X,N X=true->N' X=true)(h:∀X,F X=true->F' X=true):∀l:List Sy,Q3y N F t l=true->Q3y N' F' t l=true
  | [],e=>e
  |s::l,e=>by
    unfold Q3y at e ⊢;cases hs:s.isH
    · rw[hs]at e;simpa using e
    rw[hs]at e;simp only[qBn,qBm,qAt,qAd]at e ⊢;rcases e with e|⟨e1,e2⟩
    · exact .inl (h _ e)
    exact .inr ⟨hn _ e1,y3x hn h l e2⟩
theorem Fd.step{ps:List Pr}{R H:Nat}(hT:Q1d ps R H)(hR:R<=8){hs:List Hd}(h:Fd ps H hs){p:Pr}(hp:p∈ps):Fd ps H (Q3i hs p).1:=by
  have j0:=h.ok;have hh:=hT.hd p hp;refine⟨(z3u j0 p false).ok,?_,?_⟩
  · intro X hX
    unfold hN Q3i at hX;rw[z1d]at hX;split at hX
    · rename_i e
      dsimp only at hX;simp only[qAt]at hX;rw[e.1];rcases hX with hX|hX
      · exact h.n _ hX
      rw[z4h]at hX;refine v1w hT (H+1) _ hh.1 hh.2 ?_;unfold NS;rw[qBb];refine⟨p,hp,?_⟩;simp only[qAd,beq_self_eq_true,true_and];rw[qAy]at hX ⊢;intro s j1;have:=hX s j1;simp only[Q4c,qAd]at this ⊢;exact⟨this.1,h.n _ this.2⟩
    exact h.n X hX
  intro X t hX;unfold hF Q3i at hX;rw[z1d]at hX;split at hX
  · rename_i e
    dsimp only at hX;rw[z3q (by rw[(z0k j0 _).fi,z1a j0 _ _ rfl])]at hX;simp only[qAt]at hX;rw[e.1];rcases hX with hX|hX
    · exact h.f _ t hX
    rw[z61 j0 hR t p.syms zero9 rfl (hT.sy p hp),z4u,qDj]at hX;refine x8r hT _ t (H+1) _ hh.1 hh.2 ?_;unfold FS;rw[qBb];refine⟨p,hp,?_⟩;simp only[qAd,beq_self_eq_true,true_and];exact y3x h.n (fun Y hY=>h.f Y t hY) _ hX
  exact h.f X t hX
theorem Fd.list{ps:List Pr}{R H:Nat}(hT:Q1d ps R H)(hR:R<=8):∀(l:List Pr) (hs:List Hd) (g:Bool),(∀p∈l,p∈ps)->Fd ps H hs->Fd ps H (Q5k l hs g).1
  | [],_,_,_,h=>h
  |p::l,hs,g,hl,h=>Fd.list hT hR l _ _ (fun q hq=>hl q (by simp[hq])) (h.step hT hR (hl p (by simp)))
theorem x1v{ps:List Pr}{R H:Nat}(hT:Q1d ps R H)(hR:R<=8):Fd ps H (Q33 ps (Q0z R H)):=by
  have j7:=z8d (R:Int) H;have hz:∀n,(Q1k (Q0z (R:Int) H) n).fi=zero9/\(Q1k (Q0z (R:Int) H) n).nul=false:=fun n=>by
    rw[z37];split
    · unfold Q5e;split<;>exact⟨rfl,rfl⟩
    exact⟨rfl,rfl⟩
  have i0:Fd ps H (Q0z (R:Int) H):=⟨j7,fun X h=>(by unfold hN at h;rw[(hz X).2]at h;cases h),fun X t h=>(by unfold hF at h;rw[(hz X).1,z4u]at h;cases h)⟩;obtain⟨i1,j8,_,_⟩:=z1o (z22 ps) (I:=Fd ps H) (fun hs _ h=>Fd.list hT hR ps hs false (fun _ hp=>hp) h) j7 i0;generalize hq1:Q47 (Q8h ps) (Q0z (R:Int) H)=hs1 at i1 j8;obtain⟨⟨j4,j1⟩,j9,_,_⟩:=z1o (z2h ps) (I:=fun hs=>Q0o Hd.nul hs1 hs/\Q0o Hd.fi hs1 hs) (fun hs _ h=>⟨h.1.trans (z1e (fun _ _=>rfl) ps hs false),h.2.trans (z1e (fun _ _=>rfl) ps hs false)⟩) j8 ⟨Q0o.refl _ _,Q0o.refl _ _⟩;generalize hq2:Q47 (Q5q ps) hs1=hs2 at j4 j1 j9;obtain⟨⟨j5,j2⟩,ja,_,_⟩:=z1o (z2g ps) (I:=fun hs=>Q0o Hd.nul hs2 hs/\Q0o Hd.fi hs2 hs) (fun hs _ h=>⟨h.1.trans (z0y (fun _ _=>rfl) ps hs false),h.2.trans (z0y (fun _ _=>rfl) ps hs false)⟩) j9 ⟨Q0o.refl _ _,Q0o.refl _ _⟩;generalize hq3:Q47 (Q64 ps) hs2=hs3 at j5 j2 ja;obtain⟨⟨j6,j3⟩,jb,_,_⟩:=z1o (z2i ps) (I:=fun hs=>Q0o Hd.nul hs3 hs/\Q0o Hd.fi hs3 hs) (fun hs _ h=>⟨h.1.trans (z02 (fun _ _=>rfl) ps hs false),h.2.trans (z02 (fun _ _=>rfl) ps hs false)⟩) ja ⟨Q0o.refl _ _,Q0o.refl _ _⟩;have j0:Q33 ps (Q0z (R:Int) H)=Q47 (Q73 ps) hs3:=by unfold Q33;rw[hq1,hq2,hq3]
  rw[j0];generalize Q47 (Q73 ps) hs3=hs4 at j6 j3 jb;have kn:Q0o Hd.nul hs1 hs4:=(j4.trans j5).trans j6;have kf:Q0o Hd.fi hs1 hs4:=(j1.trans j2).trans j3;refine⟨jb,fun X h=>i1.n X ?_,fun X t h=>i1.f X t ?_⟩
  · unfold hN at h ⊢;rw[kn X]at h;exact h
  unfold hF at h ⊢;rw[kf X]at h;exact h
def chF(hs:List Hd)(ps:List Pr)(X:Int)(t:Nat):Int:=match ovL X t (ps.zip (Q0r hs ps)) 0 with
  | []=>-1
  |a::_=>a
theorem y7b(n t:Int):∀(z:List (Pr × List Bool)) (i:Nat) (k:Int),k∈ovL n t z i↔∃(j:Nat) (x:Pr × List Bool),z[j]? = some x/\k=(i:Int)+j/\x.1.head=n/\Q9e x.2 t=true
  | [],i,k=>by simp[ovL]
  |q::z,i,k=>by
    have ih:=y7b n t z (i+1) k;unfold ovL;constructor
    · intro h
      split at h
      · rename_i e
        simp only[qBu]at h;rcases h with rfl|h
        · exact⟨0,q,rfl,by simp,e.1,e.2⟩
        obtain⟨j,x,h1,h2,h3⟩:=ih.1 h;exact⟨j+1,x,by simpa using h1,by omega,h3⟩
      obtain⟨j,x,h1,h2,h3⟩:=ih.1 h;exact⟨j+1,x,by simpa using h1,by omega,h3⟩
    rintro⟨j,x,h1,h2,h3⟩;cases j with
    |zero =>
      simp only[qCv,qO]at h1;subst h1;rw[qAb h3];simp[h2]
    |succ j =>
      have:=ih.2 ⟨j,x,by simpa using h1,by omega,h3⟩;split
      · simp[this]
      exact this
theorem x4f{n t:Int}{l:List Int}(h:Q6l n t l=[]):l.length<=1:=by
  match l with
  | []=>simp
  | [_]=>simp
  |a::b::r=>simp[Q6l]at h
theorem x2g{z:List (Pr × List Bool)}{n R:Nat}:∀(f t:Nat),clT z n R f t=[]->∀u:Nat,t<=u->u<=R->R+1<=t+f->(ovL n u z 0).length<=1
  |0,t,_,u,h1,h2,h3=>by omega
  |f+1,t,h,u,h1,h2,h3=>by
    unfold clT at h;rw[qAb (by omega)]at h;obtain⟨h4,h5⟩:=List.append_eq_nil_iff.1 h;by_cases e:t=u
    · subst e;exact x4f h4
    exact x2g f (t+1) h5 u (by omega) h2 (by omega)
theorem x2e{z:List (Pr × List Bool)}{R H:Nat}:∀(f n:Nat),clN z R H f n=[]->∀m u:Nat,n<=m->m<H->H<=n+f->u<=R->(ovL m u z 0).length<=1
  |0,n,_,m,u,h1,h2,h3,_=>by omega
  |f+1,n,h,m,u,h1,h2,h3,h6=>by
    unfold clN at h;rw[qAb (by omega)]at h;obtain⟨h4,h5⟩:=List.append_eq_nil_iff.1 h;by_cases e:n=m
    · subst e;exact x2g _ 0 h4 u (by omega) h6 (by omega)
    exact x2e f (n+1) h5 m u (by omega) h2 (by omega) h6
theorem x9r{hs:List Hd}{ps:List Pr}{j:Nat}{x:Pr × List Bool}:(ps.zip (Q0r hs ps))[j]? = some x↔∃p,ps[j]? = some p/\x=(p,Q8n hs p.head p.syms):=by
  unfold Q0r;rw[List.zip_map_right,qBt];constructor
  · intro h
    cases hq:(ps.zip ps)[j]? with
    |none=>rw[hq]at h;cases h
    |some y =>
      rw[hq]at h;rw[List.getElem?_zip_eq_some]at hq;obtain⟨y1,y2⟩:=y;have e:y1=y2:=by have:=hq.1.symm.trans hq.2;simpa using this
      subst e;refine⟨y1,hq.1,?_⟩;simp only[qDw,qO]at h;rw[← h];rfl
  rintro⟨p,h1,rfl⟩;have:(ps.zip ps)[j]? = some (p,p):=by rw[List.getElem?_zip_eq_some];exact⟨h1,h1⟩
  rw[this];rfl
theorem llg{ps:List Pr}{R H:Nat}(hT:Q1d ps R H)(hR:R<=8)(hH:0<H)(hmx:∀p∈ps,p.syms.length<=6)
    (hcl:Q6g (ps.zip (Q0r (Q33 ps (Q0z R H)) ps)) R H=[]):LLG ps R H (hN (Q33 ps (Q0z R H))) (hF (Q33 ps (Q0z R H))) (hO (Q33 ps (Q0z R H))) (chF (Q33 ps (Q0z R H)) ps):=by
  have hS:=z8o hT hR;have hD:=x1v hT hR;generalize Q33 ps (Q0z R H)=hs at *;have j3:∀n X,NS ps n X=true->hN hs X=true:=by
    intro n;induction n with
    |zero=>intro X h;cases h
    |succ n ih =>
      intro X h;unfold NS at h;rw[qBb]at h;obtain⟨p,hp,h⟩:=h;simp only[qAd,qAy,qBi]at h;rw[← h.1];refine hS.clN p hp ?_;rw[z4h,qAy];intro s j0;simp only[Q4c,qAd];exact⟨(h.2 s j0).1,ih _ (h.2 s j0).2⟩
  have j1:NS ps H=hN hs:=by
    funext X;rw[qBc];exact⟨j3 H X,hD.n X⟩
  have j2:∀p∈ps,∀t:Nat,Q9e (Q8n hs p.head p.syms) t=ahd (hN hs) (hF hs) (hO hs) p t:=fun p hp t=>by
    unfold Q9e ahd;rw[qAb (by omega),qAo];exact z89 hS.ok hR t p.head p.syms (hT.sy p hp)
  refine⟨hT,hmx,?_,?_,?_,hD.n,?_,hS.st2 hH,hS.bfi,?_,?_⟩
  · intro p hp h;exact hS.clN p hp (by rw[z4h];exact h)
  · intro p hp t h;refine hS.clF p hp t ?_
    rw[z61 hS.ok hR t p.syms zero9 rfl (hT.sy p hp),z4u,qDj];exact h
  · intro p hp a s b e j0 t h
    refine hS.clS p hp a s b e j0 t ?_;rw[z89 hS.ok hR t p.head b (fun x hx=>hT.sy p hp x (by rw[e];simp[hx]))];exact h
  · intro X t h;rw[← j1];exact hD.f X t h
  · intro i p hi t ht ha
    have hp:=qAi hi;have hh:=hT.hd p hp;have hm:(i:Int)∈ovL p.head t (ps.zip (Q0r hs ps)) 0:=by
      rw[y7b];exact⟨i,_,x9r.2 ⟨p,hi,rfl⟩,by simp,rfl,by rw[j2 p hp];exact ha⟩
    have h1:=x2e (z:=ps.zip (Q0r hs ps)) (R:=R) (H:=H) (H+1) 0 hcl p.head.toNat t (by omega) (by omega) (by omega) ht;rw[show((p.head.toNat:Nat):Int)=p.head by omega]at h1;unfold chF;generalize ovL p.head t (ps.zip (Q0r hs ps)) 0=l at hm h1;match l with
    | []=>cases hm
    | [a]=>simp at hm;simp[hm]
    |a::b::r=>simp at h1
  intro X t h0;unfold chF at h0 ⊢;cases hq:ovL X t (ps.zip (Q0r hs ps)) 0 with
  |nil=>rw[hq]at h0;simp at h0
  |cons a r =>
    have hm:a∈ovL X t (ps.zip (Q0r hs ps)) 0:=by rw[hq];simp
    rw[y7b]at hm;obtain⟨j,x,h1,h2,h3,h4⟩:=hm;obtain⟨p,h5,rfl⟩:=x9r.1 h1;refine⟨p,?_,h3,?_⟩
    · simp only[]
      rw[h2];simpa using h5
    rw[← j2 p (qAi h5)];exact h4
structure Nd where
  prod:Int
  kind:Int
  place:Int
  size:Int
def ndL:List St->Nat->List Nd
  | [],_=>[]
  |s::l,n=>if s.leaf then⟨-1,s.num,n,0⟩::ndL l (n+1) else⟨s.num,-1,n,0⟩::ndL l n
theorem z69:∀(l:List St) (n:Nat),(ndL l n).length=l.length
  | [],_=>rfl
  |s::l,n=>by unfold ndL;split<;>simp[z69 l]
def arF(ps:List Pr)(n:Nd):Nat:=if n.prod<0 then 0 else match ps[n.prod.toNat]? with
  |some p=>p.syms.length
  |none=>0
def szL(S:List Nat):Nat->Nat->Nat
  |0,z=>z
  |l+1,z=>match S[z-1]? with
    |some d=>szL S l (z+d)
    |none=>z
def Q08(ps:List Pr):List Nd->List Nat
  | []=>[]
  |n::l=>szL (Q08 ps l) (arF ps n) 1::Q08 ps l
theorem z21(ps:List Pr):∀l,(Q08 ps l).length=l.length
  | []=>rfl
  |n::l=>by simp[Q08,z21 ps l]
def Q8g(n:Nd)(z:Nat):Nd:={n with size:=z}
def Q1p(ps:List Pr)(st:List St):List Nd:=List.zipWith Q8g (ndL st 0) (Q08 ps (ndL st 0))
theorem z7b(ps:List Pr)(st:List St):(Q1p ps st).length=st.length:=by simp[Q1p,z69,z21]
theorem x9e{S:List Nat}(hS:∀j d,S[j]? = some d->1<=d/\j+d<=S.length):∀(l z:Nat),1<=z->z<=S.length+1->1<=szL S l z/\szL S l z<=S.length+1
  |0,z,h1,h2=>⟨h1,h2⟩
  |l+1,z,h1,h2=>by
    unfold szL;cases hq:S[z-1]? with
    |none=>exact⟨h1,h2⟩
    |some d =>
      have:=hS _ _ hq;exact x9e hS l (z+d) (by omega) (by omega)
theorem y0d(ps:List Pr):∀(l:List Nd) (j d:Nat),(Q08 ps l)[j]? = some d->1<=d/\j+d<=l.length
  | [],j,d,h=>by simp[Q08]at h
  |n::l,0,d,h=>by
    simp only[Q08,qCv,qO]at h;have:=x9e (S:=Q08 ps l) (fun j d h=>by rw[z21];exact y0d ps l j d h) (arF ps n) 1 (by omega) (by omega);rw[z21]at this;simp only[qBk];omega
  |n::l,j+1,d,h=>by
    simp only[Q08,qFu]at h;have:=y0d ps l j d h;simp only[qBk];omega
theorem z4t(ps:List Pr):∀(l:List Nd) (i:Nat),(Q08 ps l).drop i=Q08 ps (l.drop i)
  | [],i=>by simp[Q08]
  |n::l,0=>rfl
  |n::l,i+1=>by simp only[Q08,List.drop_succ_cons];exact z4t ps l i
theorem x48(ps:List Pr)(l:List Nd)(i:Nat)(hi:i<l.length):(Q08 ps l)[i]? = some (szL ((Q08 ps l).drop (i+1)) (arF ps l[i]) 1):=by
  have h1:(Q08 ps l)[i]? = ((Q08 ps l).drop i)[0]? := by simp
  rw[h1,z4t,qC hi,z4t];rfl
def Q57(hs:List Hd)(R:Nat)(k:List Sy):List Bool:=if(Q2q hs k zero9).2 then Q2h (Q2q hs k zero9).1 R else(Q2q hs k zero9).1
def Q7w(ps:List Pr)(hs:List Hd)(H t:Nat)(k:List Sy)(st:List St):List Sy × List St:=(gTo ps (chF hs ps) t (Q2y H k.length) k st).getD (k,st)
structure GOut where
  err:Int
  wanted:List Int
  place:Nat
  st:List St
def Q6k(ps:List Pr)(hs:List Hd)(R H:Nat):List Int->Nat->List Sy->List St->GOut
  | [],a,k,st=>if(Q57 hs R k).getD R false then⟨0,[],0,(Q7w ps hs H R k st).2⟩ else⟨10,Q3e (Q57 hs R k),a,[]⟩
  |t::l,a,k,st=>if(Q57 hs R k).getD t.toNat false then Q6k ps hs R H l (a+1) (Q7w ps hs H t.toNat k st).1 (Q7w ps hs H t.toNat k st).2 else⟨10,Q3e (Q57 hs R k),a,[]⟩
theorem z30{R H:Nat}{hs:List Hd}(hok:∀x∈hs,x.ok)(hR:R<=8)(k:List Sy)(hv:∀s∈k,0<=s.num/\s.num<(if s.isH then(H:Int) else R))(t:Nat):(Q57 hs R k).getD t false=Q6u (hN hs) (hF hs) R k t:=by
  have h1:=z61 hok hR t k zero9 rfl hv;rw[z4u,qDj]at h1;unfold Q57 Q6u;rw[z4h];split
  · rename_i e
    rw[y0o (z1a hok _ _ rfl) (by omega) (by omega),h1,e];simp only[qBm];congr 1;rw[qBc];simp;omega
  rename_i e;have:k.all (Q4c (hN hs))=false:=by simpa using e
  rw[h1,this];simp
theorem y9u{hs:List Hd}(hok:∀x∈hs,x.ok)(R:Nat)(k:List Sy):(Q57 hs R k).length=9:=by
  unfold Q57;split
  · exact z2t (z1a hok _ _ rfl)
  exact z1a hok _ _ rfl
def Nd.cells(n:Nd):List Value:=[.int .i64 n.prod,.int .i64 n.kind,.int .i64 n.place,.int .i64 n.size]
abbrev Q2x(w:World)(base:Nat)(v:Value)(l:List Nd):Prop:=w.ownsRow base 67 4 v l.length (Q0y Nd.cells l)
abbrev ndA(p k a s:Int):Array Value:=#[.int .i64 p,.int .i64 k,.int .i64 a,.int .i64 s]
theorem stoodNd:Tryz.prog.stoodInHeld 67=false:=by kernel_rfl
theorem guardNd:Tryz.prog.eqGuardType Tryz.prog.depth 67=false:=by kernel_rfl
theorem eqNd(d:Nat)(h t a b:Int)(w:World):(Op.equalIn (d+4) 67 (.agg (ndA h t a b)) (.agg (ndA h t a b))).run Tryz.prog w=.ok true w:=by
  rw[run_equalIn_struct w (d+3) _ _ _ (by kernel_rfl) stoodNd];have hf : ((Tryz.prog.fieldsOf 67).toList.map fun f => (f.name, f.type, f.offset)) = [("Prod", 3, 0), ("Kind", 3, 1), ("At", 3, 2), ("Size", 3, 3)] := by kernel_rfl
  generalize(Tryz.prog.fieldsOf 67).toList=fs at hf;rcases fs with _|⟨f0,_|⟨f1,_|⟨f2,_|⟨f3,_|⟨f4,fs⟩⟩⟩⟩⟩<;>simp at hf;obtain⟨⟨n0,t0,o0⟩,⟨n1,t1,o1⟩,⟨n2,t2,o2⟩,⟨n3,t3,o3⟩⟩:=hf;simp only[Op.eqFields,n0,t0,o0,n1,t1,o1,n2,t2,o2,n3,t3,o3];simp[partI,qFh w (d+2) 3 .i64 _ _ _ qEj]
def ldN(v:Value):Sem Value:=Instr.loadAt 67 v
theorem y2n(v:Value):Instr.loadAt 67 v=ldN v:=rfl
theorem szNd:(Tryz.prog.info? 67).map (·.size)=some 4:=by kernel_rfl
theorem x3m{w:World}{g o:Nat}{p k a s:Int}(hr:w.rangeAt g o [.int .i64 p,.int .i64 k,.int .i64 a,.int .i64 s]):(ldN (.pointer (some ⟨g,o,none⟩))).run Tryz.prog w=.ok (.agg (ndA p k a s)) w :=
  qFo w g o _ _ _ hr Tryz.underlying67 rfl szNd
def ldK(v:Value):Sem Value:=Instr.loadAt 63 v
theorem x6u(v:Value):Instr.loadAt 63 v=ldK v:=rfl
theorem szTo:(Tryz.prog.info? 63).map (·.size)=some 3:=by kernel_rfl
abbrev NdsAt:=Q18 Nd.cells 4 67
attribute [local go_sem ↓] y2n
attribute [local go_sem ↓] x6u
def Itm.cells(m:Itm):List Value:=[.int .i64 m.p,.int .i64 m.d,.int .i64 m.f]
abbrev itA(p d f:Int):Array Value:=#[.int .i64 p,.int .i64 d,.int .i64 f]
abbrev ItsAt:=Q18 Itm.cells 3 180
def itEq(a b:Itm):Bool:=a.p==b.p&&(a.d==b.d&&a.f==b.f)
theorem y8u(a b:Itm):itEq a b=true↔a=b:=by
  obtain⟨a1,a2,a3⟩:=a;obtain⟨b1,b2,b3⟩:=b;simp[itEq]
def inI(l:List Itm)(m:Itm):Bool:=l.any (itEq · m)
theorem x3a(l:List Itm)(m:Itm):inI l m=true↔m∈l:=by
  unfold inI;rw[qBb];constructor
  · rintro⟨x,hx,e⟩
    rw[y8u]at e;exact e▸hx
  intro h;exact⟨m,h,(y8u m m).2 rfl⟩
theorem stoodIt:Tryz.prog.stoodInHeld 180=false:=by kernel_rfl
theorem guardIt:Tryz.prog.eqGuardType Tryz.prog.depth 180=false:=by kernel_rfl
theorem szIt:(Tryz.prog.info? 180).map (·.size)=some 3:=by kernel_rfl
theorem eqIt(d:Nat)(a b:Itm)(w:World):(Op.equalIn (d+4) 180 (.agg (itA a.p a.d a.f)) (.agg (itA b.p b.d b.f))).run Tryz.prog w=.ok (itEq a b) w:=by
  obtain⟨a1,a2,a3⟩:=a;obtain⟨b1,b2,b3⟩:=b;rw[run_equalIn_struct w (d+3) _ _ _ (by kernel_rfl) stoodIt];have hf : ((Tryz.prog.fieldsOf 180).toList.map fun f => (f.name, f.type, f.offset)) = [("Prod", 3, 0), ("Dot", 3, 1), ("From", 3, 2)] := by kernel_rfl
  generalize(Tryz.prog.fieldsOf 180).toList=fs at hf;rcases fs with _|⟨f0,_|⟨f1,_|⟨f2,_|⟨f3,fs⟩⟩⟩⟩<;>simp at hf;obtain⟨⟨n0,t0,o0⟩,⟨n1,t1,o1⟩,⟨n2,t2,o2⟩⟩:=hf;simp only[Op.eqFields,n0,t0,o0,n1,t1,o1,n2,t2,o2];have k:∀a b:Nat,a≠b->¬((a:Int)=(b:Int)):=fun a b h e=>h (by omega);have k2:∀a b:Nat,a≠b->(a==b)=false:=fun a b h=>by simpa using h
  by_cases e1:a1=b1
  · subst e1
    by_cases e2:a2=b2
    · subst e2
      by_cases e3:a3=b3
      · subst e3
        simp[itEq,partI,qFh w (d+2) 3 .i64 _ _ _ qEj]
      simp[itEq,k _ _ e3,k2 _ _ e3,partI,qFh w (d+2) 3 .i64 _ _ _ qEj]
    simp[itEq,k _ _ e2,k2 _ _ e2,partI,qFh w (d+2) 3 .i64 _ _ _ qEj]
  simp[itEq,k _ _ e1,k2 _ _ e1,partI,qFh w (d+2) 3 .i64 _ _ _ qEj]
def ldI(v:Value):Sem Value:=Instr.loadAt 180 v
theorem z5n(v:Value):Instr.loadAt 180 v=ldI v:=rfl
theorem z3g{w:World}{g o:Nat}{m:Itm}(hr:w.rangeAt g o m.cells):(ldI (.pointer (some ⟨g,o,none⟩))).run Tryz.prog w=.ok (.agg (itA m.p m.d m.f)) w :=
  qFo w g o _ _ _ hr Tryz.underlying180 rfl szIt
theorem W0c(w:World)(m:Itm)(t:TypeId):(w.alloc (.cells (itA m.p m.d m.f) t (0,0))).rangeAt w.heap.size 0 m.cells:=fun j v hj=>by
  rw[Q0b (z0a _ _),qBy];simpa [Itm.cells]using hj
attribute [local go_sem ↓] z5n
theorem v2a(w:World)(v:Value)(l:List Itm)(m:Itm)(h:ItsAt w v l)(hl:l.length<=100000) :
    Calls Tryz.prog 113 #[v,.agg (itA m.p m.d m.f)] w fun e w'=>e=.returned (.bool (inI l m))/\Q0a w w':=by
  obtain⟨ao,cap,hv⟩:=z0c h.own;subst hv;have HA:=hid h;generalize hR:inI l m=RES;unfold inI at hR;have HR:=hid hR;have HN:=hid (W0c w m 180);have j4:Hid (Q0a w (w.alloc (.cells (itA m.p m.d m.f) 180 (0,0)))):=(mRf _ w).alloc _;clear h hR;go_enter Tryz.func113,Tryz.ntmps113
  go_wp2;go_loopw [5] (fun x5 wr=>∃(i:Nat),x5=.int .i64 i/\i<=l.length/\(l.drop i).any (itEq · m)=RES/\∃k,wr=(w.alloc (.cells (itA m.p m.d m.f) 180 (0,0))).drewN k)
      (fun x _=>100001-(intOf x).toNat)
  case atStart=>exact⟨0,rfl,by omega,HR.out,0,rfl⟩
  obtain⟨i,rfl,hi,j0,k,j6⟩:=hrel;subst j6;have j2:Hid (∀k,Q0a w ((w.alloc (.cells (itA m.p m.d m.f) 180 (0,0))).drewN k)):=fun k=>j4.trans (Q39 _ k);have j5:=hid (Q19 (B:=100001) i (by omega));by_cases j3:i<l.length
  · have j8:(i:Int)<(l.length:Int):=by omega
    rw[qC j3,List.any_cons]at j0;obtain⟨g,c',hg⟩:=Joins.ownsRow_form HA.own (by omega);rw[qI]at hg;obtain⟨rfl,_,rfl⟩:=hg;have r1:=HA.range i j3;generalize l[i]=li at r1 j0;have l1:∀k,(ldI (.pointer (some ⟨g,i*3,none⟩))).run Tryz.prog ((w.alloc (.cells (itA m.p m.d m.f) 180 (0,0))).drewN k)=.ok (.agg (itA li.p li.d li.f)) ((w.alloc (.cells (itA m.p m.d m.f) 180 (0,0))).drewN k):=fun k=>z3g (fun j v hj=>Q0h (j2.out k) (r1 j v hj));have l2:∀k,(ldI (.pointer (some ⟨w.heap.size,0,none⟩))).run Tryz.prog ((w.alloc (.cells (itA m.p m.d m.f) 180 (0,0))).drewN k)=.ok (.agg (itA m.p m.d m.f)) ((w.alloc (.cells (itA m.p m.d m.f) 180 (0,0))).drewN k):=fun k=>z3g (z0t HN.out rfl);have q1:∀w,(Op.equalIn 10000 180 (.agg (itA li.p li.d li.f)) (.agg (itA m.p m.d m.f))).run Tryz.prog w=.ok (itEq li m) w:=fun w=>eqIt 9996 li m w;have g1:=guardIt;clear r1;generalize itEq li m=bq at j0 q1;cases bq
    · rw[qDj]at j0
      have j1:=hid j0;clear j0;go_wp2_with fail
      go_quiet (fail);go_wp2;go_roundw
      case rel=>exact⟨i+1,by go_num,by omega,j1.out,_,rfl⟩
      exact j5.out
    rw[Bool.true_or]at j0;have j1:=hid j0;clear j0;go_wp2_with fail
    go_quiet (fail);go_wp2;go_ret;exact⟨z0w j1.out,(j2.out _).trans (Q39 _ _)⟩
  have j7:i=l.length:=by omega
  have j9:¬(i:Int)<(l.length:Int):=by omega
  rw[j7,qCy]at j0;have j1:=hid j0;clear j0;go_wp2;go_ret;exact⟨z0w (by rw[← j1.out];rfl),j2.out _⟩
end Go.Proofs.YtbdpfmalabgmbaaGreat
