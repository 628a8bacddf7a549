import Derived.Test.YtcpceafmlgaodaaGreatTwa
namespace Go.Proofs.YtcpceafmlgaodaaGreat
open Go.RowKit
set_option linter.unusedVariables false
set_option linter.unusedSimpArgs false
def thr(ps:List Pr)(hs:List Hd)(R H:Nat):List Int->List Sy->List St->Option(List Sy × List St)
  | [],k,st=>some(k,st)
  |t::l,k,st=>if(Q57 hs R k).getD t.toNat false then thr ps hs R H l(Q7t ps hs H t.toNat k st).1(Q7t ps hs H t.toNat k st).2 else none
section
variable{ps:List Pr}{hs:List Hd}{R H:Nat}
theorem y12:∀(l:List Int)(k:List Sy)(st:List St)(r:List Sy × List St),thr ps hs R H l k st=some r->∀j,∃r',thr ps hs R H(l.take j)k st=some r'
  | [],k,st,r,h,j=>⟨_,by rw[List.take_nil];rfl⟩
  |t::l,k,st,r,h,0=>⟨_,rfl⟩
  |t::l,k,st,r,h,j+1=>by
    unfold thr at h;split at h
    · rename_i hw
      obtain⟨r',h'⟩:=y12 l _ _ r h j;exact⟨r',by rw[List.take_succ_cons,thr,if_pos hw];exact h'⟩
    cases h
theorem y7o:∀(l:List Int)(a:Nat)(k:List Sy)(st:List St),∃(n:Nat)(r:List Sy × List St),n<=l.length/\thr ps hs R H(l.take n)k st=some r /\
    ((n=l.length/\(Q57 hs R r.1).getD R false=true/\(Q6q ps hs R H l a k st).err=0) ∨
     ((Q6q ps hs R H l a k st).err=10/\(Q6q ps hs R H l a k st).place=a+n/\(Q6q ps hs R H l a k st).st=[]/\(Q6q ps hs R H l a k st).wanted=Q3e(Q57 hs R r.1) /\
      (∀h:n<l.length,(Q57 hs R r.1).getD l[n].toNat false=false)/\(n=l.length->(Q57 hs R r.1).getD R false=false)))
  | [],a,k,st=>by
    refine⟨0,(k,st),qR _,rfl,?_⟩;unfold Q6q;split
    · rename_i hw;exact .inl⟨rfl,hw,rfl⟩
    rename_i hw;exact .inr⟨rfl,rfl,rfl,rfl,fun h=>absurd h(by simp),fun _=>by simpa using hw⟩
  |t::l,a,k,st=>by
    unfold Q6q;split
    · rename_i hw
      obtain⟨n,r,h1,h2,h3⟩:=y7o l(a+1)(Q7t ps hs H t.toNat k st).1(Q7t ps hs H t.toNat k st).2;refine⟨n+1,r,by simpa using h1,by rw[List.take_succ_cons,thr,if_pos hw];exact h2,?_⟩;rcases h3 with⟨e1,e2,e3⟩|⟨e1,e2,e3,e4,e5,e6⟩
      · exact .inl⟨by simp[e1],e2,e3⟩
      exact .inr⟨e1,by rw[e2];omega,e3,e4,fun h=>by simpa using e5(by simpa using h),fun h=>e6(by simpa using h)⟩
    rename_i hw;exact⟨0,(k,st),Nat.zero_le _,rfl,.inr⟨rfl,rfl,rfl,rfl,fun _=>by simpa using hw,fun h=>by simp at h⟩⟩
end
theorem y02{R:Int}{l:List Int}(h:Q0y R l=true)(n:Nat):Q0y R(l.take n)=true:=by
  unfold Q0y at h ⊢;rw[List.all_eq_true]at h ⊢;exact fun x hx=>h x(List.mem_of_mem_take hx)
def Q1f(ps:List Pr):List St->List Sy->Option(List Sy)
  | [],k=>some k
  |_::_,[]=>none
  | s :: l,y::k=>if s.leaf then(if y.isH=false/\y.num=s.num then Q1f ps l k else none)
      else if y.isH=true/\0<=s.num then(match ps[s.num.toNat]? with
        |some p=>if p.head=y.num then Q1f ps l(p.syms++k)else none
        |none=>none)else none
def Q0d(l:List St):List Int:=(l.filter St.leaf).map St.num
theorem z0o(a b:List St):Q0d(a++b)=Q0d a++Q0d b:=by simp[Q0d]
theorem z24{a:List St}(h:∀x∈a,x.leaf=false):Q0d a=[]:=by
  unfold Q0d;rw[List.filter_eq_nil_iff.2(fun x hx=>by simp[h x hx])];rfl
theorem z1c(ps:List Pr):∀(a b:List St)(k:List Sy),Q1f ps(a++b)k=(Q1f ps a k).bind(Q1f ps b)
  | [],b,k=>rfl
  |s::a,b,[]=>rfl
  |s::a,b,y::k=>by
    simp only[List.cons_append,Q1f];split
    · split
      · exact z1c ps a b k
      rfl
    split
    · split
      · split
        · exact z1c ps a b _
        rfl
      rfl
    rfl
theorem y2t{ps:List Pr}{ch:Int->Nat->Int}{t:Nat}(hch:∀X,0<=ch X t->∃p,ps[(ch X t).toNat]? = some p/\p.head=X):∀(f:Nat)(k:List Sy)(st:List St)(r:List Sy × List St),gTo ps ch t f k st=some r->∃ns,r.2=st++ns/\Q1f ps ns k=some r.1
  |0,_,_,_,h=>by cases h
  |f+1,[],st,r,h=>by cases h;exact⟨[],by simp,rfl⟩
  |f+1,s::k,st,r,h=>by
    unfold gTo at h;split at h
    · rename_i hs
      cases h;exact⟨[⟨true,s.num⟩],rfl,by simp[Q1f,hs]⟩
    rename_i hs;split at h
    · rename_i h0
      obtain⟨p,hp,hh⟩:=hch _ h0;rw[hp]at h;obtain⟨ns,h1,h2⟩:=y2t hch f _ _ r h;refine⟨⟨false,ch s.num t⟩::ns,by rw[h1];simp,?_⟩;have j0:s.isH=true:=by simpa using hs
      simp only[Q1f,Bool.false_eq_true,if_false];rw[if_pos⟨j0,h0⟩,hp];simp only[];rw[if_pos hh];exact h2
    cases h
section
variable{ps:List Pr}{R H:Nat}{N:Int->Bool}{F O:Int->Nat->Bool}{ch:Int->Nat->Int}
theorem z6n{t:Nat}:∀(l:List Sy),(∀s∈l,∃(c:Nat)(ns:List St),(∀x∈ns,x.leaf=false)/\∀f k st,gTo ps ch t(c+f)(s::k)st=gTo ps ch t f k(st++ns)) ->
    ∃(c:Nat)(ns:List St),(∀x∈ns,x.leaf=false)/\∀f k st,gTo ps ch t(c+f)(l++k)st=gTo ps ch t f k(st++ns)
  | [],_=>⟨0,[],by simp,fun f k st=>by simp⟩
  |s::l,h=>by
    obtain⟨c1,n1,h1,h3⟩:=h s(by simp);obtain⟨c2,n2,h4,h6⟩:=z6n l(fun x hx=>h x(by simp[hx]));refine⟨c1+c2,n1++n2,?_,fun f k st=>?_⟩
    · intro x hx
      rcases List.mem_append.1 hx with hx|hx
      · exact h1 x hx
      exact h4 x hx
    rw[Nat.add_assoc,List.cons_append,h3,h6,List.append_assoc]
theorem LLG.nullN(g:LLG ps R H N F O ch){t:Nat}(ht:t<=R):∀(n:Nat)(s:Sy),s.isH=true->NS ps n s.num=true->O s.num t=true ->
    ∃(c:Nat)(ns:List St),(∀x∈ns,x.leaf=false)/\∀f k st,gTo ps ch t(c+f)(s::k)st=gTo ps ch t f k(st++ns)
  |0,_,_,h,_=>by cases h
  |n+1,s,hs,h,ho=>by
    obtain⟨i,p,hi,hp,hc,hl,hall⟩:=g.nul1 h ht ho;obtain⟨c,ns,h1,h3⟩:=z6n(ps:=ps)(ch:=ch)(t:=t)p.syms(fun x hx=>g.nullN ht n x(hall x hx).1(hall x hx).2.1(hall x hx).2.2);refine⟨c+1,⟨false,i⟩::ns,?_,fun f k st=>?_⟩
    · intro x hx
      simp only[List.mem_cons]at hx;rcases hx with rfl|hx
      · rfl
      exact h1 x hx
    rw[show c+1+f=c+f+1 by omega,z5l hi hs hc,h3,List.append_assoc];rfl
theorem LLG.firstN(g:LLG ps R H N F O ch){t:Nat}(ht:t<=R):∀(n:Nat)(s:Sy),s.isH=true->FS ps N t n s.num=true ->
    ∃(c:Nat)(ns:List St)(k':List Sy),(∀x∈ns,x.leaf=false)/\∀f k st,gTo ps ch t(c+f+1)(s::k)st=some(k'++k,st++ns++[⟨true,t⟩])
  |0,_,_,h=>by cases h
  |n+1,s,hs,h=>by
    unfold FS at h;rw[List.any_eq_true]at h;obtain⟨p,hp,h⟩:=h;simp only[Bool.and_eq_true,beq_iff_eq]at h;obtain⟨i,hi⟩:=x9c hp;have hb:=z33(g.fsF t n)_ h.2;have ha:ahd N F O p t=true:=by unfold ahd;rw[hb];rfl
    have hc:=g.one i p hi t ht ha;rw[h.1]at hc;obtain⟨a,x,b,e,h1,h2⟩:=z1q h.2;have j2:(if x.isH then F x.num t else x.num==(t:Int))=true:=by
      cases hx:x.isH
      · rw[hx]at h2;exact h2
      rw[hx]at h2;exact g.fsF t n _ h2
    obtain⟨c,ns,k1,k3⟩:=z6n(ps:=ps)(ch:=ch)(t:=t)a(fun y hy=>by
      have j0:=(List.all_eq_true.1 h1)y hy;simp only[Q4a,Bool.and_eq_true]at j0;refine g.nullN ht H y j0.1(g.leN _ j0.2)?_;obtain⟨a1,a2,ea⟩:=List.append_of_mem hy;refine g.clO p hp a1 y(a2++x::b)(by rw[e,ea];simp)j0.1 t ?_;have:Q30 N(fun X=>F X t)t(a2++x::b)=true:=z23 x b j2 a2(by
        rw[List.all_eq_true]at h1 ⊢;intro z hz;exact h1 z(by rw[ea];simp[hz]))
      rw[this];rfl)
    have j1:∀y∈(⟨false,i⟩:St)::ns,y.leaf=false:=fun y hy=>by
      simp only[List.mem_cons]at hy;rcases hy with rfl|hy
      · rfl
      exact k1 y hy
    cases hx:x.isH
    · rw[hx]at h2
      simp only[Bool.false_eq_true,if_false,beq_iff_eq]at h2;refine⟨c+1,⟨false,i⟩::ns,b,j1,fun f k st=>?_⟩;rw[show c+1+f+1=c+(f+1)+1 by omega,z5l hi hs hc,e,List.append_assoc,k3,List.cons_append,gTo,if_pos hx,h2];simp
    rw[hx]at h2;simp only[if_true]at h2;obtain⟨c',ns',k',m1,m4⟩:=g.firstN ht n x hx h2;refine⟨c+1+c',⟨false,i⟩::(ns++ns'),k'++b,?_,fun f k st=>?_⟩
    · intro y hy
      rw[← List.cons_append]at hy;rcases List.mem_append.1 hy with hy|hy
      · exact j1 y hy
      exact m1 y hy
    rw[show c+1+c'+f+1=c+(c'+f+1)+1 by omega,z5l hi hs hc,e,List.append_assoc,k3,List.cons_append,m4];simp
theorem LLG.leaf(g:LLG ps R H N F O ch){t:Nat}(ht:t<=R)(k:List Sy)(hk:Q41 N F O R k)(hin:Q3f R H k)(hw:Q6s N F R k t=true)(st:List St){f:Nat}{r:List Sy × List St}(hr:gTo ps ch t f k st=some r) :
    ∃ns,r.2=st++ns/\((t<R/\Q0d ns=[(t:Int)])∨(t=R/\Q0d ns=[]/\r.1=[])):=by
  have j2:∀(a:List Sy)(x:List Sy),k=a++x->a.all(Q4a N)=true->Q6s N F R x t=true->∃(c:Nat)(ns:List St),(∀x∈ns,x.leaf=false)/\∀f k st,gTo ps ch t(c+f)(a++k)st=gTo ps ch t f k(st++ns):=by
    intro a x e ha hx;refine z6n a(fun y hy=>?_);have j1:=(List.all_eq_true.1 ha)y hy;simp only[Q4a,Bool.and_eq_true]at j1;refine g.nullN ht H y j1.1(g.leN _ j1.2)?_;obtain⟨a1,a2,ea⟩:=List.append_of_mem hy;refine hk a1 y(a2++x)(by rw[e,ea];simp)j1.1 t ?_;have j4:a2.all(Q4a N)=true:=by
      rw[List.all_eq_true]at ha ⊢;intro z hz;exact ha z(by rw[ea];simp[hz])
    unfold Q6s at hx ⊢;rw[z2s,List.all_append,j4];simp only[Bool.true_and];rw[Bool.or_assoc,hx];simp
  have j0:∀{f':Nat}{r':List Sy × List St},gTo ps ch t f' k st=some r'->r=r':=fun{f' r'}h'=>by
    have h1:=z14 _ _ _ _ hr(f+f')(by omega);have h2:=z14 _ _ _ _ h'(f+f')(by omega);rw[h1]at h2;simpa using h2
  unfold Q6s at hw;cases hb:Q30 N(fun X=>F X t)t k
  · rw[hb]at hw
    simp only[Bool.false_or,Bool.and_eq_true,beq_iff_eq]at hw;obtain⟨hw1,rfl⟩:=hw;obtain⟨c,ns,h1,h3⟩:=j2 k [](by simp)hw1(by simp[Q6s,Q30]);have h4:=h3 1 []st;rw[List.append_nil]at h4;have e:=j0(f':=c+1)(r':=([],st++ns))(by rw[h4];rfl);rw[e];exact⟨ns,rfl,.inr⟨rfl,z24 h1,rfl⟩⟩
  obtain⟨a,s,b,rfl,ha,hs⟩:=z1q hb;have j3:t<R:=by
    cases hx:s.isH
    · rw[hx]at hs
      simp only[Bool.false_eq_true,if_false,beq_iff_eq]at hs;have:=hin s(by simp);rw[hx]at this;simp only[Bool.false_eq_true,if_false]at this;omega
    rw[hx]at hs;exact g.bF _ _ hs
  obtain⟨c,ns,h1,h3⟩:=j2 a(s::b)rfl ha(by
    unfold Q6s;have:Q30 N(fun X=>F X t)t([]++s::b)=true:=z23 s b hs []rfl;rw[List.nil_append]at this;rw[this];rfl)
  cases hx:s.isH
  · rw[hx]at hs
    simp only[Bool.false_eq_true,if_false,beq_iff_eq]at hs;have e:=j0(f':=c+1)(r':=(b,st++ns++[⟨true,s.num⟩]))(by rw[h3,gTo,if_pos hx]);rw[e];refine⟨ns++[⟨true,s.num⟩],by simp,.inl⟨j3,?_⟩⟩;rw[z0o,z24 h1,hs];rfl
  rw[hx]at hs;simp only[if_true]at hs;obtain⟨c',ns',k',m1,m4⟩:=g.firstN ht H s hx(g.leF _ _ hs);have e:=j0(f':=c+(c'+0+1))(r':=(k'++b,st++ns++ns'++[⟨true,t⟩]))(by rw[h3];exact m4 0 b(st++ns));rw[e];refine⟨ns++ns'++[⟨true,t⟩],by simp,.inl⟨j3,?_⟩⟩;rw[z0o,z0o,z24 h1,z24 m1];rfl
end
theorem z2x(ps:List Pr):∀(L:List St)(ys k:List Sy),Q1f ps L(ys++k)=some []->∃A B,L=A++B/\Q1f ps A ys=some []/\Q1f ps B k=some []
  |L,[],k,h=>⟨[],L,rfl,rfl,h⟩
  | [],y::ys,k,h=>by simp[Q1f]at h
  |s::L,y::ys,k,h=>by
    simp only[List.cons_append,Q1f]at h;cases hl:s.leaf
    · rw[hl]at h
      simp only[Bool.false_eq_true,if_false]at h;split at h
      · rename_i hy
        cases hp:ps[s.num.toNat]? with
        |none=>rw[hp]at h;cases h
        |some p =>
          rw[hp]at h;simp only[]at h;split at h
          · rename_i hh
            rw[← List.append_assoc]at h;obtain⟨A,B,h1,h2,h3⟩:=z2x ps L(p.syms++ys)k h;refine⟨s::A,B,by rw[h1];rfl,?_,h3⟩;simp only[Q1f,hl,Bool.false_eq_true,if_false];rw[if_pos hy,hp];simp only[];rw[if_pos hh];exact h2
          cases h
      cases h
    rw[hl]at h;simp only[if_true]at h;split at h
    · rename_i hy
      obtain⟨A,B,h1,h2,h3⟩:=z2x ps L ys k h;refine⟨s::A,B,by rw[h1];rfl,?_,h3⟩;simp only[Q1f,hl,if_true];rw[if_pos hy];exact h2
    cases h
theorem z20{ps:List Pr}:∀{A:List St},Q1f ps A []=some []->A=[]
  | [],_=>rfl
  |_::_,h=>by simp[Q1f]at h
theorem y13:∀(a b:List St)(c:Nat),ndL(a++b)c=ndL a c++ndL b(c+(Q0d a).length)
  | [],b,c=>by simp[ndL,Q0d]
  |s::a,b,c=>by
    cases hl:s.leaf
    · have e:Q0d(s::a)=Q0d a:=by simp[Q0d,hl]
      simp only[List.cons_append,ndL,hl,Bool.false_eq_true,if_false,e,y13 a b c]
    have e:Q0d(s::a)=s.num::Q0d a:=by simp[Q0d,hl]
    simp only[List.cons_append,ndL,hl,if_true,e,y13 a b(c+1),List.length_cons];rw[show c+1+(Q0d a).length=c+((Q0d a).length+1)by omega]
theorem z6l(ps:List Pr):∀(n:Nat)(A B:List St)(y:Sy)(c:Nat),A.length<=n->Q1f ps A [y]=some []->(Q1a ps(ndL(A++B)c))[0]? = some A.length:=by
  intro n;induction n with
  |zero =>
    intro A B y c hn h;have:A=[]:=List.eq_nil_of_length_eq_zero(by omega);subst this;simp[Q1f]at h
  |succ n ih =>
    have j0:∀(ys:List Sy)(A' pre B:List St)(c:Nat),A'.length<=n->Q1f ps A' ys=some []->szL(Q1a ps(ndL(pre++(A'++B))c))ys.length(1+pre.length)=1+pre.length+A'.length:=by
      intro ys;induction ys with
      |nil =>
        intro A' pre B c hn h;have:=z20 h;subst this;rfl
      |cons y ys ih2 =>
        intro A' pre B c hn h;obtain⟨A1,A2,e,h1,h2⟩:=z2x ps A' [y]ys h;subst e;simp only[List.length_append]at hn;have hs:(Q1a ps(ndL(pre++(A1++A2++B))c))[1+pre.length-1]? = some A1.length:=by
          have e1:(Q1a ps(ndL(pre++(A1++A2++B))c))[1+pre.length-1]? = ((Q1a ps(ndL(pre++(A1++A2++B))c)).drop pre.length)[0]? := by
            rw[List.getElem?_drop];congr 1;omega
          rw[e1,z4f,y13,List.drop_left'(by rw[z7a]),List.append_assoc];exact ih A1(A2++B)y _(by omega)h1
        rw[List.length_cons,szL,hs];simp only[];have h3:=ih2 A2(pre++A1)B c(by omega)h2;rw[List.append_assoc,← List.append_assoc A1 A2 B,List.length_append]at h3;rw[show 1+pre.length+A1.length=1+(pre.length+A1.length)by omega,h3];simp only[List.length_append];omega
    intro A B y c hn h;cases A with
    |nil=>simp[Q1f]at h
    |cons s A' =>
      simp only[Q1f]at h;simp only[List.length_cons]at hn;cases hl:s.leaf
      · rw[hl]at h
        simp only[Bool.false_eq_true,if_false]at h;split at h
        · rename_i hy
          cases hp:ps[s.num.toNat]? with
          |none=>rw[hp]at h;cases h
          |some p =>
            rw[hp]at h;simp only[List.append_nil]at h;split at h
            · have hc:=j0 p.syms A' []B c(by omega)h
              simp only[List.nil_append,List.length_nil,Nat.add_zero]at hc;simp only[List.cons_append,ndL,hl,Bool.false_eq_true,if_false,Q1a,List.getElem?_cons_zero,Option.some.injEq,List.length_cons];have ha:arF ps⟨s.num,-1,c,0⟩=p.syms.length:=by
                unfold arF;dsimp only;rw[if_neg(by omega),hp]
              rw[ha,hc];omega
            cases h
        cases h
      rw[hl]at h;simp only[if_true]at h;split at h
      · have:=z20 h
        subst this;simp only[List.cons_append,List.nil_append,ndL,hl,if_true,Q1a,List.getElem?_cons_zero,Option.some.injEq,List.length_cons,List.length_nil];have ha:arF ps⟨-1,s.num,c,0⟩=0:=by unfold arF;rw[if_pos(by dsimp only;omega)]
        rw[ha];rfl
      cases h
theorem z05{ps:List Pr}{s:St}{l:List St}{k r:List Sy}(hs:s.leaf=false)(h:Q1f ps(s::l)k=some r) :
    ∃y k' p,k=y::k'/\y.isH=true/\0<=s.num/\ps[s.num.toNat]? = some p/\p.head=y.num/\Q1f ps l(p.syms++k')=some r:=by
  cases k with
  |nil=>simp[Q1f]at h
  |cons y k =>
    simp only[Q1f,hs,Bool.false_eq_true,if_false]at h;split at h
    · rename_i hy
      cases hp:ps[s.num.toNat]? with
      |none=>rw[hp]at h;cases h
      |some p =>
        rw[hp]at h;simp only[]at h;split at h
        · rename_i hh
          exact⟨y,k,p,rfl,hy.1,hy.2,rfl,hh,h⟩
        cases h
    cases h
theorem z08{ps:List Pr}{s:St}{l:List St}{k r:List Sy}(hs:s.leaf=true)(h:Q1f ps(s::l)k=some r) :
    ∃y k',k=y::k'/\y.isH=false/\y.num=s.num/\Q1f ps l k'=some r:=by
  cases k with
  |nil=>simp[Q1f]at h
  |cons y k =>
    simp only[Q1f,hs,if_true]at h;split at h
    · rename_i hy
      exact⟨y,k,rfl,hy.1,hy.2,h⟩
    cases h
theorem y84{ps:List Pr}{R H:Nat}(hT:Q1c ps R H):∀(A:List St)(k r:List Sy),Q3f R H k->Q1f ps A k=some r->∀x∈A,0<=x.num/\(x.leaf=true->x.num<R)/\(x.leaf=false->x.num<ps.length)
  | [],_,_,_,_,x,hx=>by cases hx
  |s::A,k,r,hk,h,x,hx=>by
    cases hs:s.leaf
    · obtain⟨y,k',p,rfl,h1,h2,h3,h4,h5⟩:=z05 hs h
      rcases List.mem_cons.1 hx with rfl|hx
      · have:=(qS h3).1
        exact⟨h2,fun e=>by rw[hs]at e;(cases e),fun _=>by omega⟩
      refine y84 hT A(p.syms++k')r(fun z hz=>?_)h5 x hx;rcases List.mem_append.1 hz with hz|hz
      · exact hT.sy p(List.mem_of_getElem? h3)z hz
      exact hk z(List.mem_cons_of_mem _ hz)
    obtain⟨y,k',rfl,h1,h2,h3⟩:=z08 hs h;rcases List.mem_cons.1 hx with rfl|hx
    · have:=hk y(by simp)
      rw[h1,h2]at this;exact⟨this.1,fun _=>by simpa using this.2,fun e=>by rw[hs]at e;(cases e)⟩
    exact y84 hT A k' r(fun z hz=>hk z(List.mem_cons_of_mem _ hz))h3 x hx
section
variable{ps:List Pr}{R H:Nat}{N:Int->Bool}{F O:Int->Nat->Bool}{ch:Int->Nat->Int}
theorem LLG.runNull(g:LLG ps R H N F O ch):∀(B:List St)(k:List Sy),(∀x∈B,x.leaf=false)->Q1f ps B k=some []->k.all(Q4a N)=true
  | [],k,_,h=>by cases h;rfl
  |s::B,k,hl,h=>by
    obtain⟨y,k',p,rfl,h1,h2,h3,h4,h5⟩:=z05(hl s(by simp))h;have:=g.runNull B _(fun x hx=>hl x(List.mem_cons_of_mem _ hx))h5;rw[List.all_append,Bool.and_eq_true]at this;have hn:=g.clN p(List.mem_of_getElem? h3)this.1;rw[List.all_cons,this.2,Q4a,h1,← h4,hn];rfl
theorem LLG.runFirst(g:LLG ps R H N F O ch){t:Nat}{C:List St}:∀(B:List St)(k r:List Sy),(∀x∈B,x.leaf=false)->Q1f ps(B++⟨true,t⟩::C)k=some r->Q30 N(fun X=>F X t)t k=true
  | [],k,r,_,h=>by
    obtain⟨y,k',rfl,h1,h2,h3⟩:=z08 rfl h;simp only[Q30,h1,Bool.false_eq_true,if_false,h2];simp
  |s::B,k,r,hl,h=>by
    obtain⟨y,k',p,rfl,h1,h2,h3,h4,h5⟩:=z05(hl s(by simp))h;have:=g.runFirst B _ r(fun x hx=>hl x(List.mem_cons_of_mem _ hx))h5;rw[z2s,Bool.or_eq_true,Bool.and_eq_true]at this;simp only[Q30,h1,if_true,Bool.true_and];rcases this with h6|⟨h6,h7⟩
    · rw[← h4,g.clF p(List.mem_of_getElem? h3)t h6];rfl
    rw[← h4,g.clN p(List.mem_of_getElem? h3)h6,h7];simp
theorem LLG.runTo(g:LLG ps R H N F O ch){t:Nat}(ht:t<=R){C:List St}:∀(B:List St)(k r:List Sy)(st:List St),Q41 N F O R k->(∀x∈B,x.leaf=false)->Q1f ps(B++⟨true,t⟩::C)k=some r ->
    ∃f k',Q1f ps C k'=some r/\gTo ps ch t f k st=some(k',st++(B++[⟨true,t⟩]))
  | [],k,r,st,hk,_,h=>by
    obtain⟨y,k',rfl,h1,h2,h3⟩:=z08 rfl h;refine⟨1,k',h3,?_⟩;simp only[gTo,h1,if_true,h2,List.nil_append]
  |s::B,k,r,st,hk,hl,h=>by
    have hs:=hl s(by simp);have hB:=fun x hx=>hl x(List.mem_cons_of_mem s hx);obtain⟨y,k',p,rfl,h1,h2,h3,h4,h5⟩:=z05 hs h;have hb:=g.runFirst B _ r hB h5;rw[z2s,Bool.or_eq_true,Bool.and_eq_true]at hb;have ha:ahd N F O p t=true:=by
      unfold ahd;rcases hb with hb|⟨hb,hc⟩
      · rw[hb];rfl
      rw[hb,h4,hk []y k' rfl h1 t(by unfold Q6s;rw[hc];rfl)];simp
    have j0:=g.one s.num.toNat p h3 t ht ha;rw[h4]at j0;obtain⟨f,k2,e1,e2⟩:=g.runTo ht B(p.syms++k')r(st++[s])(g.stkOpen(List.mem_of_getElem? h3)h1 h4 hk)hB h5;refine⟨f+1,k2,e1,?_⟩;have j1:s=⟨false,ch y.num t⟩:=by
      obtain⟨sl,sn⟩:=s;dsimp only at hs j0 h2 ⊢;rw[j0,hs];congr 1;omega
    rw[gTo,if_neg(by simp[h1]),if_pos(by omega)];have:(ch y.num t).toNat=s.num.toNat:=by omega
    rw[this,h3];simp only[];rw[← j1,e2];simp
theorem LLG.runEnd(g:LLG ps R H N F O ch):∀(B:List St)(k:List Sy)(st:List St),Q41 N F O R k->(∀x∈B,x.leaf=false)->Q1f ps B k=some []->∃f,gTo ps ch R f k st=some([],st++B)
  | [],k,st,hk,_,h=>by
    cases h;exact⟨1,by simp[gTo]⟩
  |s::B,k,st,hk,hl,h=>by
    have hs:=hl s(by simp);have hB:=fun x hx=>hl x(List.mem_cons_of_mem s hx);obtain⟨y,k',p,rfl,h1,h2,h3,h4,h5⟩:=z05 hs h;have hb:=g.runNull B _ hB h5;rw[List.all_append,Bool.and_eq_true]at hb;have ha:ahd N F O p R=true:=by
      unfold ahd;rw[hb.1,h4,hk []y k' rfl h1 R(by unfold Q6s;rw[hb.2];simp)];simp
    have j0:=g.one s.num.toNat p h3 R(qR _)ha;rw[h4]at j0;obtain⟨f,e2⟩:=g.runEnd B(p.syms++k')(st++[s])(g.stkOpen(List.mem_of_getElem? h3)h1 h4 hk)hB h5;refine⟨f+1,?_⟩;have j1:s=⟨false,ch y.num R⟩:=by
      obtain⟨sl,sn⟩:=s;dsimp only at hs j0 h2 ⊢;rw[j0,hs];congr 1;omega
    rw[gTo,if_neg(by simp[h1]),if_pos(by omega)];have:(ch y.num R).toNat=s.num.toNat:=by omega
    rw[this,h3];simp only[];rw[← j1,e2];simp
end
theorem y1p{A:List St}(h:Q0d A=[]):∀x∈A,x.leaf=false:=by
  intro x hx;unfold Q0d at h;rw[List.map_eq_nil_iff,List.filter_eq_nil_iff]at h;simpa using h x hx
theorem z4g:∀{A:List St}{t:Int}{l:List Int},Q0d A=t::l->∃B C,A=B++⟨true,t⟩::C/\(∀x∈B,x.leaf=false)/\Q0d C=l
  | [],t,l,h=>by simp[Q0d]at h
  |s::A,t,l,h=>by
    obtain⟨sl,sn⟩:=s;cases sl
    · have e:Q0d(⟨false,sn⟩::A)=Q0d A:=by simp[Q0d]
      rw[e]at h;obtain⟨B,C,h1,h2,h3⟩:=z4g h;refine⟨⟨false,sn⟩::B,C,by rw[h1];rfl,fun x hx=>?_,h3⟩;rcases List.mem_cons.1 hx with rfl|hx
      · rfl
      exact h2 x hx
    have e:Q0d(⟨true,sn⟩::A)=sn::Q0d A:=by simp[Q0d]
    rw[e,List.cons.injEq]at h;exact⟨[],A,by rw[h.1];rfl,fun x hx=>by(cases hx),h.2⟩
theorem z8d{ps:List Pr}{R H:Nat}{hs:List Hd}(h:Tab ps R H hs):∀(l:List Int)(A:List St)(a:Nat)(k:List Sy)(st:List St),Q0d A=l->Q41(hN hs)(hF hs)(hO hs)R k->Q3f R H k->(∀s∈st,0<=s.num/\s.num<=127)->Q1f ps A k=some [] ->
    Q6q ps hs R H l a k st=⟨0,[],0,st++A⟩
  | [],A,a,k,st,hl,h1,h2,h3,hru=>by
    have hA:=y1p hl;have j0:=h.g.runNull A k hA hru;have j1:Q6s(hN hs)(hF hs)R k R=true:=by unfold Q6s;rw[j0];simp
    have hw:(Q57 hs R k).getD R false=true:=by rw[z3u h.ok h.hR k h2 R];exact j1
    obtain⟨s1,_⟩:=h.step(qR _)h1 h2 h3 hw;rw[z26(R:=R)(H:=H)(t:=R)(ch:=chL(Q6c(ps.zip(Q0q hs ps))72))(ch':=chF hs ps)(fun X x0 x1=>z8y x0(by have:=h.hH;omega)(by have:=h.hR;omega))(fun p hp=>(h.syms p hp).2)_ _ _ h2]at s1;obtain⟨f,e⟩:=h.g.runEnd A k st h1 hA hru;have m1:=z14 _ _ _ _ s1(max f(Q22 H k.length))(by omega);have m2:=z14 _ _ _ _ e(max f(Q22 H k.length))(by omega);rw[m1,Option.some.injEq]at m2;unfold Q6q;rw[if_pos hw,m2]
  |t::l,A,a,k,st,hl,h1,h2,h3,hru=>by
    obtain⟨B,C,rfl,hB,hC⟩:=z4g hl;have j2:=y84 h.g.tab _ _ _ h2 hru⟨true,t⟩(by simp);obtain⟨n,rfl⟩:∃n:Nat,t=n:=⟨t.toNat,by have:=j2.1;dsimp only at this;omega⟩;have j3:n<=R:=by have:=j2.2.1 rfl;dsimp only at this;omega
    have j1:Q6s(hN hs)(hF hs)R k n=true:=by unfold Q6s;rw[h.g.runFirst B k _ hB hru];rfl
    have hw:(Q57 hs R k).getD n false=true:=by rw[z3u h.ok h.hR k h2 n];exact j1
    obtain⟨s1,_,_,s4,s5,s6,_⟩:=h.step j3 h1 h2 h3 hw;rw[z26(R:=R)(H:=H)(t:=n)(ch:=chL(Q6c(ps.zip(Q0q hs ps))72))(ch':=chF hs ps)(fun X x0 x1=>z8y x0(by have:=h.hH;omega)(by have:=h.hR;omega))(fun p hp=>(h.syms p hp).2)_ _ _ h2]at s1;obtain⟨f,k',e1,e⟩:=h.g.runTo j3 B k []st h1 hB hru;have m1:=z14 _ _ _ _ s1(max f(Q22 H k.length))(by omega);have m2:=z14 _ _ _ _ e(max f(Q22 H k.length))(by omega);rw[m1,Option.some.injEq]at m2;rw[m2]at s4 s5 s6;unfold Q6q;rw[Int.toNat_natCast,if_pos hw,m2];rw[z8d h l C(a+1)k' _ hC s4 s5 s6 e1];simp
def Q4j(ps:List Pr)(A:List St)(c:Nat):List Nd:=List.zipWith Q8b(ndL A c)(Q1a ps(ndL A c))
theorem x0k(ps:List Pr)(A:List St)(c:Nat):(Q4j ps A c).length=A.length:=by simp[Q4j,z7a,z2r]
theorem y6w(ps:List Pr)(A:List St):Q4j ps A 0=Q2d ps A:=rfl
theorem y4i(ps:List Pr):∀(A B:List St)(ys:List Sy)(c:Nat),Q1f ps A ys=some []->Q1a ps(ndL(A++B)c)=Q1a ps(ndL A c)++Q1a ps(ndL B(c+(Q0d A).length))
  | [],B,ys,c,h=>by simp[ndL,Q1a,Q0d]
  |s::A,B,ys,c,h=>by
    have key:∃ys',Q1f ps A ys'=some []:=by
      cases hs:s.leaf
      · obtain⟨y,k',p,_,_,_,_,_,h5⟩:=z05 hs h;exact⟨_,h5⟩
      obtain⟨y,k',_,_,_,h5⟩:=z08 hs h;exact⟨_,h5⟩
    obtain⟨ys',hA⟩:=key;have j0:(Q1a ps(ndL(s::A++B)c))[0]? = (Q1a ps(ndL(s::A)c))[0]? := by
      cases ys with
      |nil=>simp[Q1f]at h
      |cons y ys =>
        obtain⟨T,A2,e,h1,h2⟩:=z2x ps(s::A) [y]ys h;have q1:=z6l ps _ T(A2++B)y c(qR _)h1;have q2:=z6l ps _ T A2 y c(qR _)h1;rw[e,List.append_assoc,q1,q2]
    have j1:∀c',Q1a ps(ndL(A++B)c')=Q1a ps(ndL A c')++Q1a ps(ndL B(c'+(Q0d A).length)):=fun c'=>y4i ps A B ys' c' hA;cases hl:s.leaf
    · have e:Q0d(s::A)=Q0d A:=by simp[Q0d,hl]
      simp only[List.cons_append,ndL,hl,Bool.false_eq_true,if_false,Q1a,List.getElem?_cons_zero,Option.some.injEq,e]at j0 ⊢;rw[j0,j1]
    have e:(Q0d(s::A)).length=(Q0d A).length+1:=by simp[Q0d,hl]
    simp only[List.cons_append,ndL,hl,if_true,Q1a,List.getElem?_cons_zero,Option.some.injEq,e]at j0 ⊢;rw[j0,j1,show c+1+(Q0d A).length=c+((Q0d A).length+1)by omega]
theorem x0x(ps:List Pr){A B:List St}{ys:List Sy}(c:Nat)(h:Q1f ps A ys=some []):Q4j ps(A++B)c=Q4j ps A c++Q4j ps B(c+(Q0d A).length):=by
  unfold Q4j;rw[y4i ps A B ys c h,y13,List.zipWith_append(by rw[z2r])]
theorem y69(ps:List Pr){A:List St}{n:Int}{y:Sy}(c:Nat)(h:Q1f ps(⟨false,n⟩::A) [y]=some []):Q4j ps(⟨false,n⟩::A)c=⟨n,-1,c,A.length+1⟩::Q4j ps A c:=by
  have q:=z6l ps _(⟨false,n⟩::A) []y c(qR _)h;rw[List.append_nil]at q;unfold Q4j;simp only[ndL,Bool.false_eq_true,if_false,Q1a,List.getElem?_cons_zero,Option.some.injEq,List.zipWith_cons_cons]at q ⊢;rw[q];simp[Q8b]
theorem y5z(ps:List Pr)(n:Int)(c:Nat):Q4j ps [⟨true,n⟩]c=[⟨-1,n,c,1⟩]:=by
  have q:=z6l ps 1 [⟨true,n⟩] []⟨false,n⟩c(qR _)(by simp[Q1f]);rw[List.append_nil]at q;unfold Q4j;simp only[ndL,if_true,Q1a,List.getElem?_cons_zero,Option.some.injEq,List.zipWith_cons_cons]at q ⊢;rw[q];simp[Q8b,ndL,Q1a]
section
variable{ps:List Pr}{R H:Nat}
end
attribute [local go_sem ↓] y2m
structure XV(w:World)(xb g3 c3 g5 c5:Nat)(sv:Nat->Value)(ps:List Pr):Prop where
  k3:w.cell?⟨xb,3,none⟩=some(.slice(some⟨g3,0,none⟩)ps.length c3)
  k5:w.cell?⟨xb,5,none⟩=some(.slice(some⟨g5,0,none⟩)ps.length c5)
  hd:∀p(h:p<ps.length),w.cell?⟨g3,p,none⟩=some(.int .i64 ps[p].head)
  sy:∀p(h:p<ps.length),w.cell?⟨g5,p,none⟩=some(sv p)/\Q02 w(sv p)(ps[p].syms.map sInt)
section
variable{w W w1:World}{b B u u':Nat}{vx vc vh vn vk v':Value}{NL:List Nd}{KL:List Int}
end
def HtAt(w:World)(hb:Nat)(hts:List Nat):Prop:=w.heap[hb]? = some(.cells(i64s(hts.map Int.ofNat))3(0,0))
section
variable{ps:List Pr}{hts:List Nat}{X i:Nat}{al:List Int}{lo:Int}
end
structure TX(w:World)(xb g3 c3 g5 c5 hb:Nat)(sv:Nat->Value)(ps:List Pr)(hts:List Nat)(vc:Value)(code:List Int):Prop where
  xv:XV w xb g3 c3 g5 c5 sv ps
  ht:HtAt w hb hts
  co:Q02 w vc code
theorem z21{ps:List Pr}:∀(A:List St)(ys r k:List Sy),Q1f ps A ys=some r->Q1f ps A(ys++k)=some(r++k)
  | [],ys,r,k,h=>by cases h;rfl
  |s::A,ys,r,k,h=>by
    cases hs:s.leaf
    · obtain⟨y,k',p,rfl,h1,h2,h3,h4,h5⟩:=z05 hs h
      have:=z21 A _ _ k h5;simp only[List.cons_append,Q1f,hs,Bool.false_eq_true,if_false];rw[if_pos⟨h1,h2⟩,h3];simp only[];rw[if_pos h4,← List.append_assoc];exact this
    obtain⟨y,k',rfl,h1,h2,h3⟩:=z08 hs h;simp only[List.cons_append,Q1f,hs,if_true];rw[if_pos⟨h1,h2⟩];exact z21 A _ _ k h3
theorem y4j{ps:List Pr}{A T:List St}{ys:List Sy}{y:Sy}(h1:Q1f ps A ys=some [])(h2:Q1f ps T [y]=some []):Q1f ps(A++T)(ys++[y])=some []:=by
  rw[z1c,z21 A ys [] [y]h1];exact h2
attribute [local go_sem ↓] z16
section
variable{ps:List Pr}{R H:Nat}{hs:List Hd}
theorem y7e(h:Tab ps R H hs):∀(l:List Int)(A:List St)(k β:List Sy)(st:List St),Q0d A=l->Q41(hN hs)(hF hs)(hO hs)R k->Q3f R H k->(∀s∈st,0<=s.num/\s.num<=127)->Q1f ps A k=some β ->
    ∃k' st' C,thr ps hs R H l k st=some(k',st')/\(∀x∈C,x.leaf=false)/\Q1f ps C k'=some β/\Q41(hN hs)(hF hs)(hO hs)R k'/\Q3f R H k'
  | [],A,k,β,st,hl,h1,h2,h3,hru=>⟨k,st,A,rfl,y1p hl,hru,h1,h2⟩
  |t::l,A,k,β,st,hl,h1,h2,h3,hru=>by
    obtain⟨B,C,rfl,hB,hC⟩:=z4g hl;have j0:=y84 h.g.tab _ _ _ h2 hru⟨true,t⟩(by simp);obtain⟨n,rfl⟩:∃n:Nat,t=n:=⟨t.toNat,by have:=j0.1;dsimp only at this;omega⟩;have j1:n<=R:=by have:=j0.2.1 rfl;dsimp only at this;omega
    have j2:Q6s(hN hs)(hF hs)R k n=true:=by unfold Q6s;rw[h.g.runFirst B k _ hB hru];rfl
    have hw:(Q57 hs R k).getD n false=true:=by rw[z3u h.ok h.hR k h2 n];exact j2
    obtain⟨s1,_,_,s4,s5,s6,_⟩:=h.step j1 h1 h2 h3 hw;rw[z26(R:=R)(H:=H)(t:=n)(ch:=chL(Q6c(ps.zip(Q0q hs ps))72))(ch':=chF hs ps)(fun X x0 x1=>z8y x0(by have:=h.hH;omega)(by have:=h.hR;omega))(fun p hp=>(h.syms p hp).2)_ _ _ h2]at s1;obtain⟨f,k',e1,e⟩:=h.g.runTo j1 B k β st h1 hB hru;have m1:=z14 _ _ _ _ s1(max f(Q22 H k.length))(by omega);have m2:=z14 _ _ _ _ e(max f(Q22 H k.length))(by omega);rw[m1,Option.some.injEq]at m2;rw[m2]at s4 s5 s6;unfold thr;rw[Int.toNat_natCast,if_pos hw,m2];exact y7e h l C k' β _ hC s4 s5 s6 e1
theorem z6j(h:Tab ps R H hs):∀(l:List Int)(k:List Sy)(st:List St)(r:List Sy × List St),Q0y R l=true->Q41(hN hs)(hF hs)(hO hs)R k->Q3f R H k->(∀s∈st,0<=s.num/\s.num<=127)->thr ps hs R H l k st=some r ->
    ∃A,Q0d A=l/\Q1f ps A k=some r.1/\Q41(hN hs)(hF hs)(hO hs)R r.1/\Q3f R H r.1/\∀s∈r.2,0<=s.num/\s.num<=127
  | [],k,st,r,_,h1,h2,h3,hr=>by
    cases hr;exact⟨[],rfl,rfl,h1,h2,h3⟩
  |t::l,k,st,r,h4,h1,h2,h3,hr=>by
    have h5:(0<=t/\t<R)/\Q0y R l=true:=by
      unfold Q0y at h4 ⊢;simpa using h4
    unfold thr at hr;split at hr
    · rename_i hw
      have j2:t.toNat<=R:=by omega
      obtain⟨s1,_,_,s4,s5,s6,_⟩:=h.step j2 h1 h2 h3 hw;have j0:=s1;rw[z26(R:=R)(H:=H)(t:=t.toNat)(ch:=chL(Q6c(ps.zip(Q0q hs ps))72))(ch':=chF hs ps)(fun X x0 x1=>z8y x0(by have:=h.hH;omega)(by have:=h.hR;omega))(fun p hp=>(h.syms p hp).2)_ _ _ h2]at j0;have j1:=hw;rw[z3u h.ok h.hR k h2]at j1;obtain⟨ns,e1,e2⟩:=h.g.leaf j2 k h1 h2 j1 st j0;obtain⟨ns',e3,e4⟩:=y2t(t:=t.toNat)(fun X hX=>by obtain⟨p,q1,q2,_⟩:=h.g.chr X t.toNat hX;exact⟨p,q1,q2⟩)_ _ _ _ j0;have en:ns'=ns:=by rw[e1]at e3;exact(List.append_cancel_left e3).symm
      subst en;rcases e2 with⟨_,q1⟩|⟨q,_⟩
      · obtain⟨A,z1,z2,z3⟩:=z6j h l _ _ r h5.2 s4 s5 s6 hr
        refine⟨ns'++A,by rw[z0o,q1,z1,show((t.toNat:Nat):Int)=t by omega];rfl,?_,z3⟩;rw[z1c,e4];exact z2
      omega
    cases hr
def Vb(ps:List Pr)(l:List Int)(t:Nat):Prop:=∃A β,Q0d A=l/\Q1f ps A [⟨true,0⟩]=some(⟨false,t⟩::β)
def Ve(ps:List Pr)(l:List Int):Prop:=∃A,Q0d A=l/\Q1f ps A [⟨true,0⟩]=some []
theorem z90(h:Tab ps R H hs){l:List Int}(hk:Q0y R l=true){r:List Sy × List St}(hr:thr ps hs R H l [⟨true,0⟩] []=some r){t:Nat}(ht:t<R):(Q57 hs R r.1).getD t false=true↔Vb ps l t:=by
  obtain⟨A,z1,z2,z3,z4,z5⟩:=z6j h l _ _ r hk h.start.1 h.start.2(by simp)hr;rw[z3u h.ok h.hR r.1 z4 t];constructor
  · intro hw
    have j1:(Q57 hs R r.1).getD t false=true:=by rw[z3u h.ok h.hR r.1 z4 t];exact hw
    obtain⟨s1,_⟩:=h.step(by omega:t<=R)z3 z4 z5 j1;have j0:=s1;rw[z26(R:=R)(H:=H)(t:=t)(ch:=chL(Q6c(ps.zip(Q0q hs ps))72))(ch':=chF hs ps)(fun X x0 x1=>z8y x0(by have:=h.hH;omega)(by have:=h.hR;omega))(fun p hp=>(h.syms p hp).2)_ _ _ z4]at j0;obtain⟨ns,e1,e2⟩:=h.g.leaf(by omega)r.1 z3 z4 hw r.2 j0;obtain⟨ns',e3,e4⟩:=y2t(t:=t)(fun X hX=>by obtain⟨p,q1,q2,_⟩:=h.g.chr X t hX;exact⟨p,q1,q2⟩)_ _ _ _ j0;have en:ns'=ns:=by rw[e1]at e3;exact(List.append_cancel_left e3).symm
    subst en;rcases e2 with⟨_,q1⟩|⟨q,_⟩
    · obtain⟨B,C,rfl,hB,hC⟩:=z4g q1
      rw[z1c]at e4;cases hb:Q1f ps B r.1 with
      |none=>rw[hb]at e4;cases e4
      |some β =>
        rw[hb,Option.bind_some]at e4;obtain⟨y,k',rfl,y1,y2,_⟩:=z08 rfl e4;refine⟨A++B,k',by rw[z0o,z1,z24 hB,List.append_nil],?_⟩;rw[z1c,z2,Option.bind_some,hb];obtain⟨yh,yn⟩:=y;dsimp only at y1 y2;rw[y1,y2]
    omega
  rintro⟨A',β,q1,q2⟩;obtain⟨k',st',C,e1,e2,e3,e4,e5⟩:=y7e h l A' [⟨true,0⟩]_ []q1 h.start.1 h.start.2(by simp)q2;rw[hr,Option.some.injEq]at e1;have j2:r.1=k':=by rw[e1]
  rw[j2];have:Q1f ps(C++⟨true,(t:Int)⟩::[])k'=some β:=by
    rw[z1c,e3,Option.bind_some];simp[Q1f]
  unfold Q6s;rw[h.g.runFirst C k' _ e2 this];rfl
theorem y19(h:Tab ps R H hs){l:List Int}(hk:Q0y R l=true){r:List Sy × List St}(hr:thr ps hs R H l [⟨true,0⟩] []=some r):(Q57 hs R r.1).getD R false=true↔Ve ps l:=by
  obtain⟨A,z1,z2,z3,z4,z5⟩:=z6j h l _ _ r hk h.start.1 h.start.2(by simp)hr;rw[z3u h.ok h.hR r.1 z4 R];constructor
  · intro hw
    have j1:(Q57 hs R r.1).getD R false=true:=by rw[z3u h.ok h.hR r.1 z4 R];exact hw
    obtain⟨s1,_⟩:=h.step(qR R)z3 z4 z5 j1;have j0:=s1;rw[z26(R:=R)(H:=H)(t:=R)(ch:=chL(Q6c(ps.zip(Q0q hs ps))72))(ch':=chF hs ps)(fun X x0 x1=>z8y x0(by have:=h.hH;omega)(by have:=h.hR;omega))(fun p hp=>(h.syms p hp).2)_ _ _ z4]at j0;obtain⟨ns,e1,e2⟩:=h.g.leaf(qR _)r.1 z3 z4 hw r.2 j0;obtain⟨ns',e3,e4⟩:=y2t(t:=R)(fun X hX=>by obtain⟨p,q1,q2,_⟩:=h.g.chr X R hX;exact⟨p,q1,q2⟩)_ _ _ _ j0;have en:ns'=ns:=by rw[e1]at e3;exact(List.append_cancel_left e3).symm
    subst en;rcases e2 with⟨q,_⟩|⟨_,q1,q2⟩
    · omega
    refine⟨A++ns',by rw[z0o,z1,q1,List.append_nil],?_⟩;rw[z1c,z2,Option.bind_some,e4,q2]
  rintro⟨A',q1,q2⟩;obtain⟨k',st',C,e1,e2,e3,e4,e5⟩:=y7e h l A' [⟨true,0⟩]_ []q1 h.start.1 h.start.2(by simp)q2;rw[hr,Option.some.injEq]at e1;have j2:r.1=k':=by rw[e1]
  rw[j2];unfold Q6s;rw[h.g.runNull C k' e2 e3];simp
theorem y70:∀(l:List Int)(k:List Sy)(st:List St)(t:Int),thr ps hs R H(l++[t])k st=(thr ps hs R H l k st).bind(fun r=>if(Q57 hs R r.1).getD t.toNat false=true then some(Q7t ps hs H t.toNat r.1 r.2)else none)
  | [],k,st,t=>by
    rw[List.nil_append,thr];simp only[thr,Option.bind_some]
  |x::l,k,st,t=>by
    rw[List.cons_append,thr,thr];split
    · exact y70 l _ _ t
    rfl
end
end Go.Proofs.YtcpceafmlgaodaaGreat
