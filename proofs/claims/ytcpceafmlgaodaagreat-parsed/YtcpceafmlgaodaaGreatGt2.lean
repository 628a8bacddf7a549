import Derived.Test.YtcpceafmlgaodaaGreatSg1
namespace Go.Proofs.YtcpceafmlgaodaaGreat
open Go.RowKit
set_option maxRecDepth 99999
set_option maxHeartbeats 0
set_option linter.all false
structure St where
  leaf:Bool
  num:Int
def ahd(N:Int->Bool)(F O:Int->Nat->Bool)(p:Pr)(t:Nat):Bool:=Q3s N (fun X=>F X t) t p.syms||(p.syms.all (Q35 N)&&O p.head t)
structure LLG(ps:List Pr)(R H:Nat)(N:Int->Bool)(F O:Int->Nat->Bool)(ch:Int->Nat->Int):Prop where
  tab:Q1b ps R H
  mx:∀p∈ps,p.syms.length<=6
  clN:∀p∈ps,p.syms.all (Q35 N)=true->N p.head=true
  clF:∀p∈ps,∀t,Q3s N (fun X=>F X t) t p.syms=true->F p.head t=true
  clO:∀p∈ps,∀a s b,p.syms=a++s::b->s.isH=true->∀t,(Q3s N (fun X=>F X t) t b||(b.all (Q35 N)&&O p.head t))=true->O s.num t=true
  leN:∀X,N X=true->NS ps H X=true
  leF:∀X t,F X t=true->FS ps N t H X=true
  st:O 0 R=true
  bF:∀X t,F X t=true->t<R
  one:∀(i:Nat) p,ps[i]? = some p->∀t,t<=R->ahd N F O p t=true->ch p.head t=i
  chr:∀X t,0<=ch X t->∃p,ps[(ch X t).toNat]? = some p/\p.head=X/\ahd N F O p t=true
def gTo(ps:List Pr)(ch:Int->Nat->Int)(t:Nat):Nat->List Sy->List St->Option (List Sy × List St)
  |0,_,_=>none
  |_+1,[],st=>some ([],st)
  | f + 1,s::k,st=>if s.isH=false then some (k,st++[⟨true,s.num⟩]) else
      if 0<=ch s.num t then(match ps[(ch s.num t).toNat]? with
        |some p=>gTo ps ch t f (p.syms++k) (st++[⟨false,ch s.num t⟩])
        |none=>none) else none
theorem z15{ps:List Pr}{ch:Int->Nat->Int}{t:Nat}:∀(f:Nat) (k:List Sy) (st:List St) (r:List Sy × List St),gTo ps ch t f k st=some r->∀g,f<=g->gTo ps ch t g k st=some r
  |0,_,_,_,h,_,_=>by cases h
  |f+1,[],st,r,h,g,hg=>by
    obtain⟨g,rfl⟩:∃k,g=k+1:=⟨g-1,by omega⟩;exact h
  |f+1,s::k,st,r,h,g,hg=>by
    obtain⟨g,rfl⟩:∃k,g=k+1:=⟨g-1,by omega⟩;unfold gTo at h ⊢;split
    · rename_i e;rw[qAb e]at h;exact h
    rename_i e;rw[qAa e]at h;split
    · rename_i e2
      rw[qAb e2]at h;cases hp:ps[(ch s.num t).toNat]? with
      |none=>rw[hp]at h;cases h
      |some p =>
        rw[hp]at h;exact z15 f _ _ r h g (by omega)
    rename_i e2;rw[qAa e2]at h;exact h
theorem y1y{ps:List Pr}{ch:Int->Nat->Int}{t:Nat}:∀(f:Nat) (k:List Sy) (st:List St) (r:List Sy × List St),gTo ps ch t f k st=some r->st.length<=r.2.length
  |0,_,_,_,h=>by cases h
  |f+1,[],st,r,h=>by cases h;exact qR _
  |f+1,s::k,st,r,h=>by
    unfold gTo at h;split at h
    · cases h;simp
    split at h
    · split at h
      · have:=y1y f _ _ r h;simp at this;omega
      cases h
    cases h
def szN:Nat->Nat
  |0=>0
  |n+1=>1+6*szN n
theorem y81:∀n,szN n<=szN (n+1)
  |0=>by decide
  |n+1=>by have:=y81 n;simp only[szN]at *;omega
theorem v1z{n m:Nat}(h:n<=m):szN n<=szN m:=by
  obtain⟨k,rfl⟩:∃k,m=n+k:=⟨m-n,by omega⟩;induction k with
  |zero=>exact qR _
  |succ k ih=>exact qCd (ih (by omega)) (y81 _)
section
variable {ps:List Pr}{R H:Nat}{N:Int->Bool}{F O:Int->Nat->Bool}{ch:Int->Nat->Int}
theorem LLG.nsN(g:LLG ps R H N F O ch):∀(n:Nat) (X:Int),NS ps n X=true->N X=true
  |0,_,h=>by cases h
  |n+1,X,h=>by
    unfold NS at h;rw[qAq]at h;obtain⟨p,hp,h⟩:=h;simp only[qAc,qAn,qAx]at h;rw[← h.1];refine g.clN p hp ?_;rw[qAn];intro s hs;simp only[Q35,qAc];exact⟨(h.2 s hs).1,g.nsN n _ (h.2 s hs).2⟩
theorem LLG.fsF(g:LLG ps R H N F O ch)(t:Nat):∀(n:Nat) (X:Int),FS ps N t n X=true->F X t=true
  |0,_,h=>by cases h
  |n+1,X,h=>by
    unfold FS at h;rw[qAq]at h;obtain⟨p,hp,h⟩:=h;simp only[qAc,qAx]at h;rw[← h.1];exact g.clF p hp t (z3z (g.fsF t n) _ h.2)
theorem x88{p:Pr}(h:p∈ps):∃i:Nat,ps[i]? = some p:=by
  obtain⟨i,hi,rfl⟩:=qAv h;exact⟨i,by simp⟩
theorem LLG.nul1(g:LLG ps R H N F O ch){n:Nat}{X:Int}(h:NS ps (n+1) X=true){t:Nat}(ht:t<=R)(ho:O X t=true) :
    ∃(i:Nat) (p:Pr),ps[i]? = some p/\p.head=X/\ch X t=i/\p.syms.length<=6/\∀s∈p.syms,s.isH=true/\NS ps n s.num=true/\O s.num t=true:=by
  unfold NS at h;rw[qAq]at h;obtain⟨p,hp,h⟩:=h;simp only[qAc,qAn,qAx]at h;obtain⟨i,hi⟩:=x88 hp;have j0:p.syms.all (Q35 N)=true:=by
    rw[qAn];intro s hs;simp only[Q35,qAc];exact⟨(h.2 s hs).1,g.nsN n _ (h.2 s hs).2⟩
  have ha:ahd N F O p t=true:=by unfold ahd;rw[j0,h.1,ho];simp
  refine⟨i,p,hi,h.1,?_,g.mx p hp,fun s hs=>⟨(h.2 s hs).1,(h.2 s hs).2,?_⟩⟩
  · rw[← h.1];exact g.one i p hi t ht ha
  obtain⟨a,b,e⟩:=qDw hs;refine g.clO p hp a s b e (h.2 s hs).1 t ?_;have hb:b.all (Q35 N)=true:=by
    rw[qAn]at j0 ⊢;intro x hx;exact j0 x (by rw[e];simp[hx])
  rw[hb,h.1,ho];simp
theorem z5d{i:Nat}{p:Pr}{s:Sy}{t:Nat}(hi:ps[i]? = some p)(hs:s.isH=true)(hc:ch s.num t=i)(f:Nat)(k:List Sy)(st:List St) :
    gTo ps ch t (f+1) (s::k) st=gTo ps ch t f (p.syms++k) (st++[⟨false,i⟩]):=by
  rw[gTo,qAa (by rw[hs];simp),hc,qAb (by omega),qAl,hi]
theorem z70{t B:Nat}:∀(l:List Sy),(∀s∈l,∃(c:Nat) (ns:List St),ns.length=c/\c<=B/\∀f k st,gTo ps ch t (c+f) (s::k) st=gTo ps ch t f k (st++ns)) ->
    ∃(c:Nat) (ns:List St),ns.length=c/\c<=l.length*B/\∀f k st,gTo ps ch t (c+f) (l++k) st=gTo ps ch t f k (st++ns)
  | [],_=>⟨0,[],rfl,by simp,fun f k st=>by simp⟩
  |s::l,h=>by
    obtain⟨c1,n1,h1,h2,h3⟩:=h s (by simp);obtain⟨c2,n2,h4,h5,h6⟩:=z70 l (fun x hx=>h x (by simp[hx]));refine⟨c1+c2,n1++n2,by simp[h1,h4],?_,fun f k st=>?_⟩
    · simp only[qAy,qDt,Nat.one_mul];omega
    rw[qCm,qAw,h3,h6,qAh]
theorem LLG.null(g:LLG ps R H N F O ch){t:Nat}(ht:t<=R):∀(n:Nat) (s:Sy),s.isH=true->NS ps n s.num=true->O s.num t=true ->
    ∃(c:Nat) (ns:List St),ns.length=c/\c<=szN n/\∀f k st,gTo ps ch t (c+f) (s::k) st=gTo ps ch t f k (st++ns)
  |0,_,_,h,_=>by cases h
  |n+1,s,hs,h,ho=>by
    obtain⟨i,p,hi,hp,hc,hl,hall⟩:=g.nul1 h ht ho;obtain⟨c,ns,h1,h2,h3⟩:=z70 (ps:=ps) (ch:=ch) (t:=t) (B:=szN n) p.syms (fun x hx=>g.null ht n x (hall x hx).1 (hall x hx).2.1 (hall x hx).2.2);refine⟨c+1,⟨false,i⟩::ns,by simp[h1],?_,fun f k st=>?_⟩
    · have:=qBv (szN n) hl
      simp only[szN];omega
    rw[show c+1+f=c+f+1 by omega,z5d hi hs hc,h3,qAh];rfl
def szF(B:Nat):Nat->Nat
  |0=>0
  |n+1=>1+6*B+szF B n
theorem LLG.first(g:LLG ps R H N F O ch){t:Nat}(ht:t<=R):∀(n:Nat) (s:Sy),s.isH=true->FS ps N t n s.num=true ->
    ∃(c:Nat) (ns:List St) (k':List Sy),ns.length=c/\c<=szF (szN H) n/\k'.length<=6*n/\∀f k st,gTo ps ch t (c+f+1) (s::k) st=some (k'++k,st++ns++[⟨true,t⟩])
  |0,_,_,h=>by cases h
  |n+1,s,hs,h=>by
    unfold FS at h;rw[qAq]at h;obtain⟨p,hp,h⟩:=h;simp only[qAc,qAx]at h;obtain⟨i,hi⟩:=x88 hp;have hb:=z3z (g.fsF t n) _ h.2;have ha:ahd N F O p t=true:=by unfold ahd;rw[hb];rfl
    have hc:=g.one i p hi t ht ha;rw[h.1]at hc;obtain⟨a,x,b,e,h1,h2⟩:=z1q h.2;have hl:=g.mx p hp;have j1:a.length+b.length+1<=6:=by rw[e]at hl;simp at hl;omega
    have j2:(if x.isH then F x.num t else x.num==(t:Int))=true:=by
      cases hx:x.isH
      · rw[hx]at h2;exact h2
      rw[hx]at h2;exact g.fsF t n _ h2
    obtain⟨c,ns,k1,k2,k3⟩:=z70 (ps:=ps) (ch:=ch) (t:=t) (B:=szN H) a (fun y hy=>by
      have j0:=(qAn.1 h1) y hy;simp only[Q35,qAc]at j0;refine g.null ht H y j0.1 (g.leN _ j0.2) ?_;obtain⟨a1,a2,ea⟩:=qDw hy;refine g.clO p hp a1 y (a2++x::b) (by rw[e,ea];simp) j0.1 t ?_;have:Q3s N (fun X=>F X t) t (a2++x::b)=true:=z22 x b j2 a2 (by
        rw[qAn]at h1 ⊢;intro z hz;exact h1 z (by rw[ea];simp[hz]))
      rw[this];rfl)
    have j3:c<=6*szN H:=qCd k2 (qBv _ (by omega));cases hx:x.isH
    · rw[hx]at h2
      simp only[qF,qAp,qAx]at h2;refine⟨c+1,⟨false,i⟩::ns,b,by simp[k1],by simp only[szF];omega,by omega,fun f k st=>?_⟩;rw[show c+1+f+1=c+(f+1)+1 by omega,z5d hi hs hc,e,qAh,k3,qAw,gTo,qAb hx,h2];simp
    rw[hx]at h2;simp only[qBb]at h2;obtain⟨c',ns',k',m1,m2,m3,m4⟩:=g.first ht n x hx h2;refine⟨c+1+c',⟨false,i⟩::(ns++ns'),k'++b,by simp[k1,m1];omega,by simp only[szF];omega,by simp;omega,fun f k st=>?_⟩;rw[show c+1+c'+f+1=c+(c'+f+1)+1 by omega,z5d hi hs hc,e,qAh,k3,qAw,m4];simp
def Q6j(N:Int->Bool)(F:Int->Nat->Bool)(R:Nat)(k:List Sy)(t:Nat):Bool:=Q3s N (fun X=>F X t) t k||(k.all (Q35 N)&&(t==R))
def Q4t(N:Int->Bool)(F O:Int->Nat->Bool)(R:Nat)(k:List Sy):Prop:=∀a s b,k=a++s::b->s.isH=true->∀t,Q6j N F R b t=true->O s.num t=true
theorem LLG.stk0(g:LLG ps R H N F O ch):Q4t N F O R [⟨true,0⟩]:=by
  intro a s b e hs t ht;cases a with
  |nil =>
    simp only[qBq,qAu]at e;obtain⟨rfl,rfl⟩:=e;simp only[Q6j,Q3s,List.all_nil,qBa,qCj,qAx]at ht;rw[ht];exact g.st
  |cons x a=>simp at e
theorem Q4t.tail{s:Sy}{k:List Sy}(h:Q4t N F O R (s::k)):Q4t N F O R k:=fun a x b e hx t ht=>h (s::a) x b (by rw[e];rfl) hx t ht
theorem x1e{α:Type}{l k a b:List α}{s:α}(h:l++k=a++s::b):(∃c,k=c++s::b)∨∃b',b=b'++k/\l=a++s::b':=by
  rcases List.append_eq_append_iff.1 h with⟨c,h1,h2⟩|⟨c,h1,h2⟩
  · exact .inl ⟨c,h2⟩
  cases c with
  |nil=>simp only[qBq]at h2;exact .inl ⟨[],h2.symm⟩
  |cons x c =>
    simp only[qAw,qAu]at h2;obtain⟨rfl,rfl⟩:=h2;exact .inr ⟨c,rfl,h1⟩
theorem LLG.stkOpen(g:LLG ps R H N F O ch){p:Pr}(hp:p∈ps){s:Sy}{k:List Sy}(hs:s.isH=true)(he:p.head=s.num)(h:Q4t N F O R (s::k)):Q4t N F O R (p.syms++k):=by
  intro a x b e hx t ht;rcases x1e e with⟨c,hc⟩|⟨b',rfl,hb⟩
  · exact h (s::c) x b (by rw[hc];rfl) hx t ht
  refine g.clO p hp a x b' hb hx t ?_;unfold Q6j at ht;rw[z2o]at ht;cases hq:Q3s N (fun X=>F X t) t b'
  · rw[hq]at ht
    simp only[qCj,qEk]at ht ⊢;have hw:b'.all (Q35 N)=true/\Q6j N F R k t=true:=by
      unfold Q6j;cases h1:b'.all (Q35 N)
      · rw[h1]at ht;simp at ht
      rw[h1]at ht;simp only[qBa]at ht;exact⟨rfl,ht⟩
    rw[hw.1,he,h [] s k rfl hs t hw.2];rfl
  rfl
theorem LLG.stkTo(g:LLG ps R H N F O ch){t:Nat}:∀(f:Nat) (k:List Sy) (st:List St) (r:List Sy × List St),gTo ps ch t f k st=some r->Q4t N F O R k->Q4t N F O R r.1
  |0,_,_,_,h,_=>by cases h
  |f+1,[],st,r,h,hk=>by cases h;exact hk
  |f+1,s::k,st,r,h,hk=>by
    unfold gTo at h;split at h
    · cases h;exact hk.tail
    rename_i hs;split at h
    · rename_i h0
      obtain⟨p,hp,he,_⟩:=g.chr _ _ h0;rw[hp]at h;exact g.stkTo f _ _ r h (g.stkOpen (qAd hp) (by simpa using hs) he hk)
    cases h
def Q2u(H n:Nat):Nat:=n*szN H+szF (szN H) H+1
theorem LLG.grows(g:LLG ps R H N F O ch){t:Nat}(ht:t<=R)(k:List Sy)(hk:Q4t N F O R k)(hw:Q6j N F R k t=true)(st:List St) :
    ∃r,gTo ps ch t (Q2u H k.length) k st=some r/\r.1.length<=k.length+6*H/\r.2.length<=st.length+Q2u H k.length:=by
  have j1:∀(a:List Sy) (x:List Sy),k=a++x->a.all (Q35 N)=true->Q6j N F R x t=true->∃(c:Nat) (ns:List St),ns.length=c/\c<=a.length*szN H/\∀f k st,gTo ps ch t (c+f) (a++k) st=gTo ps ch t f k (st++ns):=by
    intro a x e ha hx;refine z70 a (fun y hy=>?_);have j0:=(qAn.1 ha) y hy;simp only[Q35,qAc]at j0;refine g.null ht H y j0.1 (g.leN _ j0.2) ?_;obtain⟨a1,a2,ea⟩:=qDw hy;refine hk a1 y (a2++x) (by rw[e,ea];simp) j0.1 t ?_;have j2:a2.all (Q35 N)=true:=by
      rw[qAn]at ha ⊢;intro z hz;exact ha z (by rw[ea];simp[hz])
    unfold Q6j at hx ⊢;rw[z2o,qEk,j2];simp only[qBa];rw[Bool.or_assoc,hx];simp
  unfold Q6j at hw;cases hb:Q3s N (fun X=>F X t) t k
  · rw[hb]at hw
    simp only[qCj,qAc,qAx]at hw;obtain⟨hw1,rfl⟩:=hw;obtain⟨c,ns,h1,h2,h3⟩:=j1 k [] (by simp) hw1 (by simp[Q6j,Q3s]);refine⟨([],st++ns),?_,by simp,by simp only[qP,h1,Q2u];omega⟩;have h4:=h3 1 [] st;rw[qAt]at h4;refine z15 (c+1) k st _ (by rw[h4];rfl) _ (by unfold Q2u;omega)
  obtain⟨a,s,b,rfl,ha,hs⟩:=z1q hb;obtain⟨c,ns,h1,h2,h3⟩:=j1 a (s::b) rfl ha (by
    unfold Q6j;have:Q3s N (fun X=>F X t) t ([]++s::b)=true:=z22 s b hs [] rfl;rw[qBq]at this;rw[this];rfl)
  have j3:a.length*szN H<=(a++s::b).length*szN H:=qBv _ (by simp);cases hx:s.isH
  · rw[hx]at hs
    refine⟨(b,st++ns++[⟨true,s.num⟩]),?_,by simp;omega,by simp only[qP,h1,Q2u,qAf]at *;omega⟩;refine z15 (c+1) _ st _ ?_ _ (by unfold Q2u;omega);rw[h3,gTo,qAb hx]
  rw[hx]at hs;simp only[qBb]at hs;obtain⟨c',ns',k',m1,m2,m3,m4⟩:=g.first ht H s hx (g.leF _ _ hs);refine⟨(k'++b,st++ns++ns'++[⟨true,t⟩]),?_,by simp;omega,by simp only[qP,h1,m1,Q2u,qAf]at *;omega⟩;refine z15 (c+(c'+0+1)) _ st _ ?_ _ (by unfold Q2u;omega);rw[h3];exact m4 0 b (st++ns)
end
theorem z36:∀(l:List Ln) (acc:List Wd) (d:Wd),d∈acc->d∈Q11 l acc
  | [],_,_,h=>h
  |x::l,acc,d,h=>by
    unfold Q11;split
    · exact z36 l acc d h
    split
    · exact z36 l acc d h
    exact z36 l _ d (by simp[h])
theorem y5k{ds:List Wd}{ls:List Int}:Q1l ds ls<ds.length↔∃d∈ds,d.ls=ls:=by
  unfold Q1l;rw[List.findIdx_lt_length];simp
theorem z5f:∀(l:List Ln) (acc:List Wd) (y:Ln),y∈l->Q07 y=false->∃d∈Q11 l acc,d.ls=y.front.ls
  | [],_,_,h,_=>by cases h
  |x::l,acc,y,h,hy=>by
    simp only[qBc]at h;unfold Q11;rcases h with rfl|h
    · rw[qAa (by rw[hy];simp)]
      split
      · rename_i e
        obtain⟨d,h1,h2⟩:=y5k.1 e;exact⟨d,z36 l acc d h1,h2⟩
      exact⟨y.front,z36 l _ _ (by simp),rfl⟩
    split
    · exact z5f l acc y h hy
    split
    · exact z5f l acc y h hy
    exact z5f l _ y h hy
theorem y33(lns:List Ln):∀i,i<=lns.length->(Q11 (lns.take i) []).length<=Q3d lns i
  |0,_=>by simp[Q11]
  |i+1,hi=>by
    have ih:=y33 lns i (by omega);have j0:i<lns.length:=by omega
    rw[Q6g j0,z1u,z3c lns i j0];split
    · omega
    rename_i hr;split
    · omega
    rename_i hw;have ha:Q24 lns i=false:=by
      unfold Q24;rw[qE j0];simp only[qBr];intro hf;apply hw;rw[y5k];unfold Q2d at hf;have j2:lns.findIdx (fun y=>y.front.ls==lns[i].front.ls)<lns.length:=by omega
      have h1:=qDb (w:=j2);generalize lns.findIdx (fun y=>y.front.ls==lns[i].front.ls)=j at *;simp only[qAx]at h1;have j1:Q07 lns[j]=false:=by
        have:Q14 lns[j].front=Q14 lns[i].front:=y76 h1;unfold Q07 at hr ⊢;rw[this];simpa using hr
      obtain⟨d,hd1,hd2⟩:=z5f (lns.take i) [] lns[j] (List.mem_take_iff_getElem.2 ⟨j,by omega,rfl⟩) j1;exact⟨d,hd1,by rw[hd2,h1]⟩
    rw[ha];simp only[qCk];have j3:Q07 lns[i]=false:=by simpa using hr
    rw[j3];simp only[qP,qAf,qF,qAp];omega
theorem y3n{lns:List Ln}(hp:∀y∈lns,0<=y.front.place)(h:Q3q lns=-1):(Q0h lns).length<=8/\(Q0q lns).length<=20/\∀p∈Q0q lns,p.syms.length<=6:=by
  refine⟨?_,?_,?_⟩
  · have hc:=y33 lns lns.length (qR _)
    rw[qAr]at hc;unfold Q0h;by_cases h0:lns.length=0
    · have:lns=[]:=qBs h0
      subst this;simp[Q11]
    have:=z39 hp _ 0 h (by omega) (lns.length-1) (by omega) (by omega);unfold Q7l at this;simp only[qBm,qBr]at this;have h1:=this.1.2;rw[show lns.length-1+1=lns.length by omega]at h1;omega
  · have e:(Q0q lns).length=Q2y lns lns.length:=by unfold Q0q Q04 Q2y;rw[qAr,qAo]
    rw[e];by_cases h0:lns.length=0
    · rw[h0];simp[Q2y]
    have:=z39 hp _ 0 h (by omega) (lns.length-1) (by omega) (by omega);unfold Q7l at this;simp only[qBm,qBr]at this;have h1:=this.1.1.2;rw[show lns.length-1+1=lns.length by omega]at h1;omega
  intro p hpm;unfold Q0q at hpm;obtain⟨y,hy,rfl⟩:=qBp.1 hpm;have j0:=(qCx.1 hy).1;obtain⟨k,hk,rfl⟩:=qAv j0;have:=z39 hp _ 0 h (by omega) k hk (by omega);unfold Q7l at this;simp only[qBm,qBr]at this;unfold Q7x;simp only[qAo];omega
def hN(hs:List Hd)(X:Int):Bool:=(Q1i hs X).nul
def hF(hs:List Hd)(X:Int)(t:Nat):Bool:=(Q1i hs X).fi.getD t false
def hO(hs:List Hd)(X:Int)(t:Nat):Bool:=(Q1i hs X).fo.getD t false
theorem z98{a:List Bool}(ha:a.length=9){n:Int}(h0:0<=n)(h9:n<9)(t:Nat):(Q2b a n).getD t false=(a.getD t false||(n==(t:Int))):=by
  unfold Q2b;rw[qAb ⟨h0,h9⟩];simp only[qD,qBy];by_cases e:n.toNat=t
  · have e2:(n==(t:Int))=true:=by simp;omega
    rw[qAb e,qAb (by omega),e2];simp
  have e2:(n==(t:Int))=false:=by simp;omega
  rw[qAa e,e2];simp
theorem z4e(hs:List Hd):∀(l:List Sy) (acc:List Bool),(Q2m hs l acc).2=l.all (Q35 (hN hs))
  | [],_=>rfl
  |s::l,acc=>by
    unfold Q2m;cases h1:s.isH
    · simp[Q35,h1]
    simp only[qCe,qAp,qCp,Q35,h1,qBa,hN];cases h2:(Q1i hs s.num).nul
    · simp
    simp only[qCe,qAp,qBa];exact z4e hs l _
theorem z6s{R H:Nat}{hs:List Hd}(hok:∀x∈hs,x.ok)(hR:R<=8)(t:Nat):∀(l:List Sy) (acc:List Bool),acc.length=9->(∀s∈l,0<=s.num/\s.num<(if s.isH then(H:Int) else R)) ->
    (Q2m hs l acc).1.getD t false=(acc.getD t false||Q3s (hN hs) (fun X=>hF hs X t) t l)
  | [],acc,_,_=>by simp[Q2m,Q3s]
  |s::l,acc,ha,hv=>by
    have hv1:=hv s (by simp);unfold Q2m Q3s;cases h1:s.isH
    · rw[h1]at hv1
      simp only[qF,qAp]at hv1;simp only[qBb,qF,qAp,qCi,qCk];exact z98 ha hv1.1 (by omega) t
    simp only[qCe,qAp,qBb,qBa];have j0:=(z0k hok s.num).fi;cases h2:(Q1i hs s.num).nul
    · simp only[qBb,hN,h2,qCi,qCk]
      rw[z3m (by rw[ha,j0])];rfl
    simp only[qCe,qAp];rw[z6s hok hR t l _ (z04 ha j0) (fun x hx=>hv x (by simp[hx])),z3m (by rw[ha,j0])];simp only[hN,h2,qBa,hF,Bool.or_assoc]
theorem z4u(t:Nat):zero9.getD t false=false:=by rw[z3t]
theorem z8x{R H:Nat}{hs:List Hd}(hok:∀x∈hs,x.ok)(hR:R<=8)(t:Nat)(ph:Int)(l:List Sy)(hv:∀s∈l,0<=s.num/\s.num<(if s.isH then(H:Int) else R)) :
    (Q8b hs ph l).getD t false=(Q3s (hN hs) (fun X=>hF hs X t) t l||(l.all (Q35 (hN hs))&&hO hs ph t)):=by
  have h1:=z6s hok hR t l zero9 rfl hv;rw[z4u,qCj]at h1;unfold Q8b;rw[z4e];split
  · rename_i e
    rw[z3m (by rw[z09 hok _ _ rfl,(z0k hok _).fo]),h1,e];simp[hO]
  rename_i e;rw[h1];have:l.all (Q35 (hN hs))=false:=by simpa using e
  rw[this];simp
structure Fd(ps:List Pr)(H:Nat)(hs:List Hd):Prop where
  ok:∀x∈hs,x.ok
  n:∀X,hN hs X=true->NS ps H X=true
  f:∀X t,hF hs X t=true->FS ps (NS ps H) t H X=true
theorem y3g{N N' F F':Int->Bool}{t:Nat}(hn:∀X,N X=true->N' X=true)(h:∀X,F X=true->F' X=true):∀l:List Sy,Q3s N F t l=true->Q3s N' F' t l=true
  | [],e=>e
  |s::l,e=>by
    unfold Q3s at e ⊢;cases hs:s.isH
    · rw[hs]at e;simpa using e
    rw[hs]at e;simp only[qBb,qBa,qAk,qAc]at e ⊢;rcases e with e|⟨e1,e2⟩
    · exact .inl (h _ e)
    exact .inr ⟨hn _ e1,y3g hn h l e2⟩
theorem Fd.step{ps:List Pr}{R H:Nat}(hT:Q1b ps R H)(hR:R<=8){hs:List Hd}(h:Fd ps H hs){p:Pr}(hp:p∈ps):Fd ps H (Q3e hs p).1:=by
  have j0:=h.ok;have hh:=hT.hd p hp;refine⟨(z3r j0 p false).ok,?_,?_⟩
  · intro X hX
    unfold hN Q3e at hX;rw[z1c]at hX;split at hX
    · rename_i e
      dsimp only at hX;simp only[qAk]at hX;rw[e.1];rcases hX with hX|hX
      · exact h.n _ hX
      rw[z4e]at hX;refine v02 hT (H+1) _ hh.1 hh.2 ?_;unfold NS;rw[qAq];refine⟨p,hp,?_⟩;simp only[qAc,beq_self_eq_true,true_and];rw[qAn]at hX ⊢;intro s hs1;have:=hX s hs1;simp only[Q35,qAc]at this ⊢;exact⟨this.1,h.n _ this.2⟩
    exact h.n X hX
  intro X t hX;unfold hF Q3e at hX;rw[z1c]at hX;split at hX
  · rename_i e
    dsimp only at hX;rw[z3m (by rw[(z0k j0 _).fi,z09 j0 _ _ rfl])]at hX;simp only[qAk]at hX;rw[e.1];rcases hX with hX|hX
    · exact h.f _ t hX
    rw[z6s j0 hR t p.syms zero9 rfl (hT.sy p hp),z4u,qCj]at hX;refine x73 hT _ t (H+1) _ hh.1 hh.2 ?_;unfold FS;rw[qAq];refine⟨p,hp,?_⟩;simp only[qAc,beq_self_eq_true,true_and];exact y3g h.n (fun Y hY=>h.f Y t hY) _ hX
  exact h.f X t hX
theorem Fd.list{ps:List Pr}{R H:Nat}(hT:Q1b ps R H)(hR:R<=8):∀(l:List Pr) (hs:List Hd) (g:Bool),(∀p∈l,p∈ps)->Fd ps H hs->Fd ps H (Q5a l hs g).1
  | [],_,_,_,h=>h
  |p::l,hs,g,hl,h=>Fd.list hT hR l _ _ (fun q hq=>hl q (by simp[hq])) (h.step hT hR (hl p (by simp)))
theorem x1c{ps:List Pr}{R H:Nat}(hT:Q1b ps R H)(hR:R<=8):Fd ps H (Q3w ps (Q0v R H)):=by
  have j1:=z73 (R:Int) H;have hz:∀n,(Q1i (Q0v (R:Int) H) n).fi=zero9/\(Q1i (Q0v (R:Int) H) n).nul=false:=fun n=>by
    rw[z34];split
    · unfold Q45;split<;>exact⟨rfl,rfl⟩
    exact⟨rfl,rfl⟩
  have i0:Fd ps H (Q0v (R:Int) H):=⟨j1,fun X h=>(by unfold hN at h;rw[(hz X).2]at h;cases h),fun X t h=>(by unfold hF at h;rw[(hz X).1,z4u]at h;cases h)⟩;obtain⟨i1,ok1,_,_⟩:=z1m (z2v ps) (I:=Fd ps H) (fun hs _ h=>Fd.list hT hR ps hs false (fun _ hp=>hp) h) j1 i0;generalize hq1:Q40 (Q75 ps) (Q0v (R:Int) H)=hs1 at i1 ok1;obtain⟨⟨kn2,kf2⟩,ok2,_,_⟩:=z1m (z2b ps) (I:=fun hs=>Q0n Hd.nul hs1 hs/\Q0n Hd.fi hs1 hs) (fun hs _ h=>⟨h.1.trans (z1d (fun _ _=>rfl) ps hs false),h.2.trans (z1d (fun _ _=>rfl) ps hs false)⟩) ok1 ⟨Q0n.refl _ _,Q0n.refl _ _⟩;generalize hq2:Q40 (Q5f ps) hs1=hs2 at kn2 kf2 ok2;obtain⟨⟨kn3,kf3⟩,ok3,_,_⟩:=z1m (z2a ps) (I:=fun hs=>Q0n Hd.nul hs2 hs/\Q0n Hd.fi hs2 hs) (fun hs _ h=>⟨h.1.trans (z0x (fun _ _=>rfl) ps hs false),h.2.trans (z0x (fun _ _=>rfl) ps hs false)⟩) ok2 ⟨Q0n.refl _ _,Q0n.refl _ _⟩;generalize hq3:Q40 (Q6t ps) hs2=hs3 at kn3 kf3 ok3;obtain⟨⟨kn4,kf4⟩,ok4,_,_⟩:=z1m (z2c ps) (I:=fun hs=>Q0n Hd.nul hs3 hs/\Q0n Hd.fi hs3 hs) (fun hs _ h=>⟨h.1.trans (z01 (fun _ _=>rfl) ps hs false),h.2.trans (z01 (fun _ _=>rfl) ps hs false)⟩) ok3 ⟨Q0n.refl _ _,Q0n.refl _ _⟩;have j0:Q3w ps (Q0v (R:Int) H)=Q40 (Q7q ps) hs3:=by unfold Q3w;rw[hq1,hq2,hq3]
  rw[j0];generalize Q40 (Q7q ps) hs3=hs4 at kn4 kf4 ok4;have kn:Q0n Hd.nul hs1 hs4:=(kn2.trans kn3).trans kn4;have kf:Q0n Hd.fi hs1 hs4:=(kf2.trans kf3).trans kf4;refine⟨ok4,fun X h=>i1.n X ?_,fun X t h=>i1.f X t ?_⟩
  · unfold hN at h ⊢;rw[kn X]at h;exact h
  unfold hF at h ⊢;rw[kf X]at h;exact h
def chF(hs:List Hd)(ps:List Pr)(X:Int)(t:Nat):Int:=match ovL X t (ps.zip (Q0p hs ps)) 0 with
  | []=>-1
  |a::_=>a
theorem y6u(n t:Int):∀(z:List (Pr × List Bool)) (i:Nat) (k:Int),k∈ovL n t z i↔∃(j:Nat) (x:Pr × List Bool),z[j]? = some x/\k=(i:Int)+j/\x.1.head=n/\Q8y x.2 t=true
  | [],i,k=>by simp[ovL]
  |q::z,i,k=>by
    have ih:=y6u n t z (i+1) k;unfold ovL;constructor
    · intro h
      split at h
      · rename_i e
        simp only[qBc]at h;rcases h with rfl|h
        · exact⟨0,q,rfl,by simp,e.1,e.2⟩
        obtain⟨j,x,h1,h2,h3⟩:=ih.1 h;exact⟨j+1,x,by simpa using h1,by omega,h3⟩
      obtain⟨j,x,h1,h2,h3⟩:=ih.1 h;exact⟨j+1,x,by simpa using h1,by omega,h3⟩
    rintro⟨j,x,h1,h2,h3⟩;cases j with
    |zero =>
      simp only[qBz,qO]at h1;subst h1;rw[qAb h3];simp[h2]
    |succ j =>
      have:=ih.2 ⟨j,x,by simpa using h1,by omega,h3⟩;split
      · simp[this]
      exact this
theorem x3x{n t:Int}{l:List Int}(h:Q6b n t l=[]):l.length<=1:=by
  match l with
  | []=>simp
  | [_]=>simp
  |a::b::r=>simp[Q6b]at h
theorem x1p{z:List (Pr × List Bool)}{n R:Nat}:∀(f t:Nat),clT z n R f t=[]->∀u:Nat,t<=u->u<=R->R+1<=t+f->(ovL n u z 0).length<=1
  |0,t,_,u,h1,h2,h3=>by omega
  |f+1,t,h,u,h1,h2,h3=>by
    unfold clT at h;rw[qAb (by omega)]at h;obtain⟨h4,h5⟩:=List.append_eq_nil_iff.1 h;by_cases e:t=u
    · subst e;exact x3x h4
    exact x1p f (t+1) h5 u (by omega) h2 (by omega)
theorem x1n{z:List (Pr × List Bool)}{R H:Nat}:∀(f n:Nat),clN z R H f n=[]->∀m u:Nat,n<=m->m<H->H<=n+f->u<=R->(ovL m u z 0).length<=1
  |0,n,_,m,u,h1,h2,h3,_=>by omega
  |f+1,n,h,m,u,h1,h2,h3,h6=>by
    unfold clN at h;rw[qAb (by omega)]at h;obtain⟨h4,h5⟩:=List.append_eq_nil_iff.1 h;by_cases e:n=m
    · subst e;exact x1p _ 0 h4 u (by omega) h6 (by omega)
    exact x1n f (n+1) h5 m u (by omega) h2 (by omega) h6
theorem x84{hs:List Hd}{ps:List Pr}{j:Nat}{x:Pr × List Bool}:(ps.zip (Q0p hs ps))[j]? = some x↔∃p,ps[j]? = some p/\x=(p,Q8b hs p.head p.syms):=by
  unfold Q0p;rw[List.zip_map_right,qBe];constructor
  · intro h
    cases hq:(ps.zip ps)[j]? with
    |none=>rw[hq]at h;cases h
    |some y =>
      rw[hq]at h;rw[List.getElem?_zip_eq_some]at hq;obtain⟨y1,y2⟩:=y;have e:y1=y2:=by have:=hq.1.symm.trans hq.2;simpa using this
      subst e;refine⟨y1,hq.1,?_⟩;simp only[qCz,qO]at h;rw[← h];rfl
  rintro⟨p,h1,rfl⟩;have:(ps.zip ps)[j]? = some (p,p):=by rw[List.getElem?_zip_eq_some];exact⟨h1,h1⟩
  rw[this];rfl
theorem llg{ps:List Pr}{R H:Nat}(hT:Q1b ps R H)(hR:R<=8)(hH:0<H)(hmx:∀p∈ps,p.syms.length<=6)
    (hcl:Q55 (ps.zip (Q0p (Q3w ps (Q0v R H)) ps)) R H=[]):LLG ps R H (hN (Q3w ps (Q0v R H))) (hF (Q3w ps (Q0v R H))) (hO (Q3w ps (Q0v R H))) (chF (Q3w ps (Q0v R H)) ps):=by
  have hS:=z8e hT hR;have hD:=x1c hT hR;generalize Q3w ps (Q0v R H)=hs at *;have j2:∀n X,NS ps n X=true->hN hs X=true:=by
    intro n;induction n with
    |zero=>intro X h;cases h
    |succ n ih =>
      intro X h;unfold NS at h;rw[qAq]at h;obtain⟨p,hp,h⟩:=h;simp only[qAc,qAn,qAx]at h;rw[← h.1];refine hS.clN p hp ?_;rw[z4e,qAn];intro s hs1;simp only[Q35,qAc];exact⟨(h.2 s hs1).1,ih _ (h.2 s hs1).2⟩
  have j0:NS ps H=hN hs:=by
    funext X;rw[qAs];exact⟨j2 H X,hD.n X⟩
  have j1:∀p∈ps,∀t:Nat,Q8y (Q8b hs p.head p.syms) t=ahd (hN hs) (hF hs) (hO hs) p t:=fun p hp t=>by
    unfold Q8y ahd;rw[qAb (by omega),qAl];exact z8x hS.ok hR t p.head p.syms (hT.sy p hp)
  refine⟨hT,hmx,?_,?_,?_,hD.n,?_,hS.st2 hH,hS.bfi,?_,?_⟩
  · intro p hp h;exact hS.clN p hp (by rw[z4e];exact h)
  · intro p hp t h;refine hS.clF p hp t ?_
    rw[z6s hS.ok hR t p.syms zero9 rfl (hT.sy p hp),z4u,qCj];exact h
  · intro p hp a s b e hs1 t h
    refine hS.clS p hp a s b e hs1 t ?_;rw[z8x hS.ok hR t p.head b (fun x hx=>hT.sy p hp x (by rw[e];simp[hx]))];exact h
  · intro X t h;rw[← j0];exact hD.f X t h
  · intro i p hi t ht ha
    have hp:=qAd hi;have hh:=hT.hd p hp;have hm:(i:Int)∈ovL p.head t (ps.zip (Q0p hs ps)) 0:=by
      rw[y6u];exact⟨i,_,x84.2 ⟨p,hi,rfl⟩,by simp,rfl,by rw[j1 p hp];exact ha⟩
    have h1:=x1n (z:=ps.zip (Q0p hs ps)) (R:=R) (H:=H) (H+1) 0 hcl p.head.toNat t (by omega) (by omega) (by omega) ht;rw[show((p.head.toNat:Nat):Int)=p.head by omega]at h1;unfold chF;generalize ovL p.head t (ps.zip (Q0p hs ps)) 0=l at hm h1;match l with
    | []=>cases hm
    | [a]=>simp at hm;simp[hm]
    |a::b::r=>simp at h1
  intro X t h0;unfold chF at h0 ⊢;cases hq:ovL X t (ps.zip (Q0p hs ps)) 0 with
  |nil=>rw[hq]at h0;simp at h0
  |cons a r =>
    have hm:a∈ovL X t (ps.zip (Q0p hs ps)) 0:=by rw[hq];simp
    rw[y6u]at hm;obtain⟨j,x,h1,h2,h3,h4⟩:=hm;obtain⟨p,h5,rfl⟩:=x84.1 h1;refine⟨p,?_,h3,?_⟩
    · simp only[]
      rw[h2];simpa using h5
    rw[← j1 p (qAd h5)];exact h4
structure Nd where
  prod:Int
  kind:Int
  place:Int
  size:Int
def ndL:List St->Nat->List Nd
  | [],_=>[]
  |s::l,n=>if s.leaf then⟨-1,s.num,n,0⟩::ndL l (n+1) else⟨s.num,-1,n,0⟩::ndL l n
theorem z60:∀(l:List St) (n:Nat),(ndL l n).length=l.length
  | [],_=>rfl
  |s::l,n=>by unfold ndL;split<;>simp[z60 l]
def arF(ps:List Pr)(n:Nd):Nat:=if n.prod<0 then 0 else match ps[n.prod.toNat]? with
  |some p=>p.syms.length
  |none=>0
def szL(S:List Nat):Nat->Nat->Nat
  |0,z=>z
  |l+1,z=>match S[z-1]? with
    |some d=>szL S l (z+d)
    |none=>z
def Q08(ps:List Pr):List Nd->List Nat
  | []=>[]
  |n::l=>szL (Q08 ps l) (arF ps n) 1::Q08 ps l
theorem z2u(ps:List Pr):∀l,(Q08 ps l).length=l.length
  | []=>rfl
  |n::l=>by simp[Q08,z2u ps l]
def Q74(n:Nd)(z:Nat):Nd:={n with size:=z}
def Q17(ps:List Pr)(st:List St):List Nd:=List.zipWith Q74 (ndL st 0) (Q08 ps (ndL st 0))
theorem z62(ps:List Pr)(st:List St):(Q17 ps st).length=st.length:=by simp[Q17,z60,z2u]
theorem x8r{S:List Nat}(hS:∀j d,S[j]? = some d->1<=d/\j+d<=S.length):∀(l z:Nat),1<=z->z<=S.length+1->1<=szL S l z/\szL S l z<=S.length+1
  |0,z,h1,h2=>⟨h1,h2⟩
  |l+1,z,h1,h2=>by
    unfold szL;cases hq:S[z-1]? with
    |none=>exact⟨h1,h2⟩
    |some d =>
      have:=hS _ _ hq;exact x8r hS l (z+d) (by omega) (by omega)
theorem z9y(ps:List Pr):∀(l:List Nd) (j d:Nat),(Q08 ps l)[j]? = some d->1<=d/\j+d<=l.length
  | [],j,d,h=>by simp[Q08]at h
  |n::l,0,d,h=>by
    simp only[Q08,qBz,qO]at h;have:=x8r (S:=Q08 ps l) (fun j d h=>by rw[z2u];exact z9y ps l j d h) (arF ps n) 1 (by omega) (by omega);rw[z2u]at this;simp only[qAy];omega
  |n::l,j+1,d,h=>by
    simp only[Q08,qEm]at h;have:=z9y ps l j d h;simp only[qAy];omega
theorem z4s(ps:List Pr):∀(l:List Nd) (i:Nat),(Q08 ps l).drop i=Q08 ps (l.drop i)
  | [],i=>by simp[Q08]
  |n::l,0=>rfl
  |n::l,i+1=>by simp only[Q08,List.drop_succ_cons];exact z4s ps l i
theorem x4r(ps:List Pr)(l:List Nd)(i:Nat)(hi:i<l.length):(Q08 ps l)[i]? = some (szL ((Q08 ps l).drop (i+1)) (arF ps l[i]) 1):=by
  have h1:(Q08 ps l)[i]? = ((Q08 ps l).drop i)[0]? := by simp
  rw[h1,z4s,qC hi,z4s];rfl
def Q5y(hs:List Hd)(R:Nat)(k:List Sy):List Bool:=if(Q2m hs k zero9).2 then Q2b (Q2m hs k zero9).1 R else(Q2m hs k zero9).1
def Q7h(ps:List Pr)(hs:List Hd)(H t:Nat)(k:List Sy)(st:List St):List Sy × List St:=(gTo ps (chF hs ps) t (Q2u H k.length) k st).getD (k,st)
structure Q95 where
  err:Int
  wanted:List Int
  place:Nat
  st:List St
def Q6a(ps:List Pr)(hs:List Hd)(R H:Nat):List Int->Nat->List Sy->List St->Q95
  | [],a,k,st=>if(Q5y hs R k).getD R false then⟨0,[],0,(Q7h ps hs H R k st).2⟩ else⟨10,Q28 (Q5y hs R k),a,[]⟩
  |t::l,a,k,st=>if(Q5y hs R k).getD t.toNat false then Q6a ps hs R H l (a+1) (Q7h ps hs H t.toNat k st).1 (Q7h ps hs H t.toNat k st).2 else⟨10,Q28 (Q5y hs R k),a,[]⟩
theorem z3w{R H:Nat}{hs:List Hd}(hok:∀x∈hs,x.ok)(hR:R<=8)(k:List Sy)(hv:∀s∈k,0<=s.num/\s.num<(if s.isH then(H:Int) else R))(t:Nat):(Q5y hs R k).getD t false=Q6j (hN hs) (hF hs) R k t:=by
  have h1:=z6s hok hR t k zero9 rfl hv;rw[z4u,qCj]at h1;unfold Q5y Q6j;rw[z4e];split
  · rename_i e
    rw[z98 (z09 hok _ _ rfl) (by omega) (by omega),h1,e];simp only[qBa];congr 1;rw[qAs];simp;omega
  rename_i e;have:k.all (Q35 (hN hs))=false:=by simpa using e
  rw[h1,this];simp
theorem y86{hs:List Hd}(hok:∀x∈hs,x.ok)(R:Nat)(k:List Sy):(Q5y hs R k).length=9:=by
  unfold Q5y;split
  · exact z2m (z09 hok _ _ rfl)
  exact z09 hok _ _ rfl
def Nd.cells(n:Nd):List Value:=[.int .i64 n.prod,.int .i64 n.kind,.int .i64 n.place,.int .i64 n.size]
abbrev Q3l(w:World)(base:Nat)(v:Value)(l:List Nd):Prop:=w.ownsRow base 59 4 v l.length (Q00 Nd.cells l)
abbrev ndA(p k a s:Int):Array Value:=#[.int .i64 p,.int .i64 k,.int .i64 a,.int .i64 s]
theorem stoodNd:Tryz.prog.stoodInHeld 59=false:=by kernel_rfl
theorem guardNd:Tryz.prog.eqGuardType Tryz.prog.depth 59=false:=by kernel_rfl
theorem eqNd(d:Nat)(h t a b:Int)(w:World):(Op.equalIn (d+4) 59 (.agg (ndA h t a b)) (.agg (ndA h t a b))).run Tryz.prog w=.ok true w:=by
  rw[run_equalIn_struct w (d+3) _ _ _ (by kernel_rfl) stoodNd];have hf : ((Tryz.prog.fieldsOf 59).toList.map fun f => (f.name, f.type, f.offset)) = [("Prod", 3, 0), ("Kind", 3, 1), ("At", 3, 2), ("Size", 3, 3)] := by kernel_rfl
  generalize(Tryz.prog.fieldsOf 59).toList=fs at hf;rcases fs with _|⟨f0,_|⟨f1,_|⟨f2,_|⟨f3,_|⟨f4,fs⟩⟩⟩⟩⟩<;>simp at hf;obtain⟨⟨n0,t0,o0⟩,⟨n1,t1,o1⟩,⟨n2,t2,o2⟩,⟨n3,t3,o3⟩⟩:=hf;simp only[Op.eqFields,n0,t0,o0,n1,t1,o1,n2,t2,o2,n3,t3,o3];simp[partI,run_equalIn_int w (d+2) 3 .i64 _ _ _ Tryz.underlying3]
def ldN(v:Value):Sem Value:=Instr.loadAt 59 v
theorem y14(v:Value):Instr.loadAt 59 v=ldN v:=rfl
theorem szNd:(Tryz.prog.info? 59).map (·.size)=some 4:=by kernel_rfl
theorem x24{w:World}{g o:Nat}{p k a s:Int}(hr:w.rangeAt g o [.int .i64 p,.int .i64 k,.int .i64 a,.int .i64 s]):(ldN (.pointer (some ⟨g,o,none⟩))).run Tryz.prog w=.ok (.agg (ndA p k a s)) w :=
  run_loadAt_mid w g o _ _ _ hr Tryz.underlying59 rfl szNd
abbrev NdsAt:=Q2e Nd.cells 4 59
attribute [local go_sem ↓] y14
def Itm.cells(m:Itm):List Value:=[.int .i64 m.p,.int .i64 m.d,.int .i64 m.f]
abbrev itA(p d f:Int):Array Value:=#[.int .i64 p,.int .i64 d,.int .i64 f]
abbrev ItsAt:=Q2e Itm.cells 3 163
def itEq(a b:Itm):Bool:=a.p==b.p&&(a.d==b.d&&a.f==b.f)
theorem y78(a b:Itm):itEq a b=true↔a=b:=by
  obtain⟨a1,a2,a3⟩:=a;obtain⟨b1,b2,b3⟩:=b;simp[itEq]
def inI(l:List Itm)(m:Itm):Bool:=l.any (itEq · m)
theorem x2s(l:List Itm)(m:Itm):inI l m=true↔m∈l:=by
  unfold inI;rw[qAq];constructor
  · rintro⟨x,hx,e⟩
    rw[y78]at e;exact e▸hx
  intro h;exact⟨m,h,(y78 m m).2 rfl⟩
theorem stoodIt:Tryz.prog.stoodInHeld 163=false:=by kernel_rfl
theorem guardIt:Tryz.prog.eqGuardType Tryz.prog.depth 163=false:=by kernel_rfl
theorem szIt:(Tryz.prog.info? 163).map (·.size)=some 3:=by kernel_rfl
theorem eqIt(d:Nat)(a b:Itm)(w:World):(Op.equalIn (d+4) 163 (.agg (itA a.p a.d a.f)) (.agg (itA b.p b.d b.f))).run Tryz.prog w=.ok (itEq a b) w:=by
  obtain⟨a1,a2,a3⟩:=a;obtain⟨b1,b2,b3⟩:=b;rw[run_equalIn_struct w (d+3) _ _ _ (by kernel_rfl) stoodIt];have hf : ((Tryz.prog.fieldsOf 163).toList.map fun f => (f.name, f.type, f.offset)) = [("Prod", 3, 0), ("Dot", 3, 1), ("From", 3, 2)] := by kernel_rfl
  generalize(Tryz.prog.fieldsOf 163).toList=fs at hf;rcases fs with _|⟨f0,_|⟨f1,_|⟨f2,_|⟨f3,fs⟩⟩⟩⟩<;>simp at hf;obtain⟨⟨n0,t0,o0⟩,⟨n1,t1,o1⟩,⟨n2,t2,o2⟩⟩:=hf;simp only[Op.eqFields,n0,t0,o0,n1,t1,o1,n2,t2,o2];have k:∀a b:Nat,a≠b->¬((a:Int)=(b:Int)):=fun a b h e=>h (by omega);have k2:∀a b:Nat,a≠b->(a==b)=false:=fun a b h=>by simpa using h
  by_cases e1:a1=b1
  · subst e1
    by_cases e2:a2=b2
    · subst e2
      by_cases e3:a3=b3
      · subst e3
        simp[itEq,partI,run_equalIn_int w (d+2) 3 .i64 _ _ _ Tryz.underlying3]
      simp[itEq,k _ _ e3,k2 _ _ e3,partI,run_equalIn_int w (d+2) 3 .i64 _ _ _ Tryz.underlying3]
    simp[itEq,k _ _ e2,k2 _ _ e2,partI,run_equalIn_int w (d+2) 3 .i64 _ _ _ Tryz.underlying3]
  simp[itEq,k _ _ e1,k2 _ _ e1,partI,run_equalIn_int w (d+2) 3 .i64 _ _ _ Tryz.underlying3]
def ldI(v:Value):Sem Value:=Instr.loadAt 163 v
theorem z5h(v:Value):Instr.loadAt 163 v=ldI v:=rfl
theorem z3a{w:World}{g o:Nat}{m:Itm}(hr:w.rangeAt g o m.cells):(ldI (.pointer (some ⟨g,o,none⟩))).run Tryz.prog w=.ok (.agg (itA m.p m.d m.f)) w :=
  run_loadAt_mid w g o _ _ _ hr Tryz.underlying163 rfl szIt
theorem Q9x(w:World)(m:Itm)(t:TypeId):(w.alloc (.cells (itA m.p m.d m.f) t (0,0))).rangeAt w.heap.size 0 m.cells:=fun j v hj=>by
  rw[Q0b (z0a _ _),qBi];simpa [Itm.cells]using hj
attribute [local go_sem ↓] z5h
theorem v1g(w:World)(v:Value)(l:List Itm)(m:Itm)(h:ItsAt w v l)(hl:l.length<=100000) :
    Calls Tryz.prog 95 #[v,.agg (itA m.p m.d m.f)] w fun e w'=>e=.returned (.bool (inI l m))/\Q0a w w':=by
  obtain⟨ao,cap,hv⟩:=z0d h.own;subst hv;have HA:=hid h;generalize hR:inI l m=RES;unfold inI at hR;have HR:=hid hR;have HN:=hid (Q9x w m 163);have j2:Hid (Q0a w (w.alloc (.cells (itA m.p m.d m.f) 163 (0,0)))):=(mRf _ w).alloc _;clear h hR;go_enter Tryz.func95,Tryz.ntmps95
  go_wp2;go_loopw [5] (fun x5 wr=>∃(i:Nat),x5=.int .i64 i/\i<=l.length/\(l.drop i).any (itEq · m)=RES/\∃k,wr=(w.alloc (.cells (itA m.p m.d m.f) 163 (0,0))).drewN k)
      (fun x _=>100001-(intOf x).toNat)
  case atStart=>exact⟨0,rfl,by omega,HR.out,0,rfl⟩
  obtain⟨i,rfl,hi,hres,k,hfr⟩:=hrel;subst hfr;have j1:Hid (∀k,Q0a w ((w.alloc (.cells (itA m.p m.d m.f) 163 (0,0))).drewN k)):=fun k=>j2.trans (Q32 _ k);have j3:=hid (Q15 (B:=100001) i (by omega));by_cases hlt:i<l.length
  · have j5:(i:Int)<(l.length:Int):=by omega
    rw[qC hlt,List.any_cons]at hres;obtain⟨g,c',hg⟩:=Joins.ownsRow_form HA.own (by omega);rw[qI]at hg;obtain⟨rfl,_,rfl⟩:=hg;have r1:=HA.range i hlt;generalize l[i]=li at r1 hres;have l1:∀k,(ldI (.pointer (some ⟨g,i*3,none⟩))).run Tryz.prog ((w.alloc (.cells (itA m.p m.d m.f) 163 (0,0))).drewN k)=.ok (.agg (itA li.p li.d li.f)) ((w.alloc (.cells (itA m.p m.d m.f) 163 (0,0))).drewN k):=fun k=>z3a (fun j v hj=>Q0i (j1.out k) (r1 j v hj));have l2:∀k,(ldI (.pointer (some ⟨w.heap.size,0,none⟩))).run Tryz.prog ((w.alloc (.cells (itA m.p m.d m.f) 163 (0,0))).drewN k)=.ok (.agg (itA m.p m.d m.f)) ((w.alloc (.cells (itA m.p m.d m.f) 163 (0,0))).drewN k):=fun k=>z3a (z0t HN.out rfl);have q1:∀w,(Op.equalIn 10000 163 (.agg (itA li.p li.d li.f)) (.agg (itA m.p m.d m.f))).run Tryz.prog w=.ok (itEq li m) w:=fun w=>eqIt 9996 li m w;have g1:=guardIt;clear r1;generalize itEq li m=bq at hres q1;cases bq
    · rw[qCj]at hres
      have j0:=hid hres;clear hres;go_wp2_with fail
      go_quiet (fail);go_wp2;go_roundw
      case rel=>exact⟨i+1,by go_num,by omega,j0.out,_,rfl⟩
      exact j3.out
    rw[Bool.true_or]at hres;have j0:=hid hres;clear hres;go_wp2_with fail
    go_quiet (fail);go_wp2;go_ret;exact⟨z0s j0.out,(j1.out _).trans (Q32 _ _)⟩
  have j4:i=l.length:=by omega
  have j6:¬(i:Int)<(l.length:Int):=by omega
  rw[j4,qBw]at hres;have j0:=hid hres;clear hres;go_wp2;go_ret;exact⟨z0s (by rw[← j0.out];rfl),j1.out _⟩
end Go.Proofs.YtcpceafmlgaodaaGreat
