import Derived.Test.YtcpceafmlgaodaaGreatLx3
namespace Go.Proofs.YtcpceafmlgaodaaGreat
open Go.RowKit
set_option linter.all false
def PN(s:ByteArray):Nat->List Wd->List ByteArray->Nat->Prop
 |p,[],[],q=>p=q
 |p,d::ds,n::ns,q=>atB s p=32/\∃m,WordAt s ((p+1:Nat):Int) m d/\p+1+m<=s.size/\n=s.extract (p+1) (p+1+m)/\PN s (p+1+m) ds ns q
 |_,[],_::_,_=>False
 |_,_::_,[],_=>False
theorem PN.nil{s:ByteArray}(p:Nat):PN s p [] [] p:=rfl
theorem PN.cons{s:ByteArray}{p m q:Nat}{d:Wd}{ds:List Wd}{ns:List ByteArray}(h32:atB s p=32)(hw:WordAt s ((p+1:Nat):Int) m d)(hle:p+1+m<=s.size)(h:PN s (p+1+m) ds ns q) :
  PN s p (d::ds) (s.extract (p+1) (p+1+m)::ns) q:=⟨h32,m,hw,hle,rfl,h⟩
theorem PN.ind{s:ByteArray}{q:Nat}{M:Nat->List Wd->List ByteArray->Prop}(hn:M q [] [])
  (hc:∀(p m:Nat) (d:Wd) (ds:List Wd) (ns:List ByteArray),atB s p=32->WordAt s ((p+1:Nat):Int) m d->p+1+m<=s.size->PN s (p+1+m) ds ns q->M (p+1+m) ds ns->M p (d::ds) (s.extract (p+1) (p+1+m)::ns)) :
  ∀(ds:List Wd) (p:Nat) (ns:List ByteArray),PN s p ds ns q->M p ds ns
 | [],p,[],h=>by
  have:p=q:=h;subst this;exact hn
 | [],p,n::ns,h=>False.elim h
 |d::ds,p,[],h=>False.elim h
 |d::ds,p,n::ns,h=>by
  obtain⟨h32,m,hw,hle,rfl,h2⟩:=h;exact hc p m d ds ns h32 hw hle h2 (PN.ind hn hc ds _ ns h2)
theorem PN.next{s:ByteArray}{p q:Nat}:∀{ds:List Wd}{ns:List ByteArray},PN s p ds ns q->p=q∨atB s p=32
 | [],[],h=>.inl h
 | [],_::_,h=>False.elim h
 |_::_,[],h=>False.elim h
 |_::_,_::_,h=>.inr h.1
theorem PN.le{s:ByteArray}{p q:Nat}{ds:List Wd}{ns:List ByteArray}(h:PN s p ds ns q):p<=q:=by
 refine PN.ind (M:=fun p _ _=>p<=q) (qR _) ?_ ds p ns h;intro p m d ds ns _ _ _ _ ih;omega
theorem PN.clean{s:ByteArray}{p q:Nat}{ds:List Wd}{ns:List ByteArray}(h:PN s p ds ns q):Q1g s p q:=by
 refine PN.ind (M:=fun(p:Nat) _ _=>Q1g s p q) Q1g.nil ?_ ds p ns h;intro p m d ds ns h32 hw hle h ih;refine Q1g.trans (j:=(p:Int)+1) (Q1g.one (by omega)) (Q1g.trans (j:=((p+1+m:Nat):Int)) ?_ ih);intro k h1 h2;have:=hw.byte (k-((p:Int)+1)).toNat (by omega);have e:(((p+1:Nat):Int)+((k-((p:Int)+1)).toNat:Int))=k:=by omega
 rw[e]at this;omega
theorem z8g{s:ByteArray}{i:Int}(h:0<=atB s i):0<=i/\i<s.size:=by
 unfold atB at h;split at h
 ·rename_i h1;omega
 omega
theorem WordAt.in'{s:ByteArray}{i:Int}{m:Nat}{d:Wd}(h:WordAt s i m d):0<=i/\i+m<=s.size:=by
 have h1:=h.byte 0 (by have:=h.pos;omega);have h2:=h.byte (m-1) (by have:=h.pos;omega);have h3:=z8g (s:=s) (i:=i+((0:Nat):Int)) (by omega);have h4:=z8g (s:=s) (i:=i+((m-1:Nat):Int)) (by omega);have:=h.pos;omega
theorem z9o(s:ByteArray)(d:Wd):∀(f:Nat) (next:Nat) (syms:List Wd),(Q2w s d f next syms).2.2=true ->
  ∃ds ns q,PN s next ds ns q/\atB s (q:Nat)=10/\Q2w s d f next syms=(⟨d,false,[],0,0,syms++ds⟩,((q+1:Nat):Int),true)
 |0,next,syms,h=>by simp[Q2w]at h
 |f+1,next,syms,h=>by
  unfold Q2w at h ⊢;by_cases h32:atB s next=32
  ·rw[qAb h32]at h ⊢;cases hw:(Q06 s (next+1)).2.2
   ·rw[qAb hw]at h;cases h
   rw[qAa (by simp[hw])]at h ⊢;obtain⟨m,hwd,hnx⟩:=z8a s (next+1) hw;have j0:=hwd.in';have e:(Q06 s (next+1)).2.1=((next+1+m:Nat):Int):=by rw[hnx];omega
   rw[e]at h ⊢;obtain⟨ds,ns,q,h1,h2,h3⟩:=z9o s d f _ _ h;refine⟨(Q06 s (next+1)).1::ds,_,q,PN.cons h32 (by simpa using hwd) (by omega) h1,h2,?_⟩;rw[h3];simp
  rw[qAa h32]at h ⊢;by_cases h10:atB s next=10
  ·rw[qAa (by simpa using h10)];exact⟨[],[],next,PN.nil _,h10,by simp⟩
  rw[qAb h10]at h;cases h
theorem x7y(s:ByteArray)(a e:Nat)(he:e<=s.size):∀{p q:Nat}{ds:List Wd}{ns:List ByteArray},PN s p ds ns q->q=e->a<=p->∀(f:Nat) (acc:List ByteArray),e+1<=f+p ->
  Q68 (s.extract a e) f (if p<e then p+1-a else p-a) acc=acc++ns:=by
 intro p q ds ns h hq;have j0:(s.extract a e).size=e-a:=by rw[qAz];omega
 refine PN.ind (M:=fun p _ ns=>a<=p->∀(f:Nat) (acc:List ByteArray),e+1<=f+p->Q68 (s.extract a e) f (if p<e then p+1-a else p-a) acc=acc++ns) ?_ ?_ ds p ns h
 ·intro ha f acc hf;rw[qAa (by omega)];cases f with
  |zero=>simp[Q68]
  |succ f=>unfold Q68;rw[qAa (by omega)];simp
 intro p m d ds ns h32 hw hle h ih ha f acc hf;have j3:=h.le;have hm:=hw.pos;rw[qAb (by omega)];obtain⟨f,rfl⟩:∃g,f=g+1:=⟨f-1,by omega⟩;unfold Q68;have hx:(s.extract a e).extract (p+1-a) (s.extract a e).size=s.extract (p+1) e:=by
  rw[j0];apply qEb;simp only[qDi,qDx];have:s.size=s.data.size:=rfl;congr 1<;>omega
 have j2:Q36 (s.extract (p+1) e) 32 32=m:=by
  refine z7a s (p+1) e m 32 32 he (by omega) ?_ ?_
  ·intro k hk;have:=hw.byte k hk;exact⟨by omega,by omega⟩
  rcases h.next with h9|h9
  ·left;omega
  right;left;rw[← h9];congr 1
 rw[hx,j2,qAb (show p+1-a<(s.extract a e).size by omega),qAb (show 0<m by omega)];have j1:(s.extract a e).extract (p+1-a) (p+1-a+m)=s.extract (p+1) (p+1+m):=by
  apply qEb;simp only[qDi,qDx];have:s.size=s.data.size:=rfl;congr 1<;>omega
 rw[j1];have:=ih (by omega) f (acc++[s.extract (p+1) (p+1+m)]) (by omega);have e2:(if p+1-a+m<(s.extract a e).size then p+1-a+m+1 else p+1-a+m)=(if p+1+m<e then p+1+m+1-a else p+1+m-a):=by
  rw[j0];by_cases hh:p+1+m<e
  ·rw[qAb (by omega),qAb hh];omega
  rw[qAa (by omega),qAa hh];omega
 rw[e2,this];simp
theorem WordAt.clean{s:ByteArray}{i:Int}{m:Nat}{d:Wd}(h:WordAt s i m d):Q1g s i (i+m):=by
 intro k h1 h2;have:=h.byte (k-i).toNat (by omega);have e:i+((k-i).toNat:Int)=k:=by omega
 rw[e]at this;omega
theorem WordAt.head{s:ByteArray}{i:Int}{m:Nat}{d:Wd}(h:WordAt s i m d):Q14 d=Q1a (atB s i):=by
 unfold Q14;rw[h.ls];have:=h.pos;simp[List.range,List.range.loop,show 0<m by omega]
structure RuleAt(s:ByteArray)(i:Nat)(x:Ln)(e m:Nat):Prop where
 hw:WordAt s i m x.front
 hs:Q0l (atB s i)=true
 hr:Q07 x=true
 hle:i+m<e
 hc:Q1g s i e
 hm:atB s ((i:Int)+m)=61∨atB s ((i:Int)+m)=126
 hk:x.skip=(atB s ((i:Int)+m)==126)
 hsy:x.syms=[]
structure ProdAt(s:ByteArray)(i:Nat)(x:Ln)(e m:Nat)(ns:List ByteArray):Prop where
 hw:WordAt s i m x.front
 hs:Q1a (atB s i)=true
 hr:Q07 x=false
 hc:Q1g s i e
 hm:atB s ((i:Int)+m)=58
 hp:PN s (i+m+1) x.syms ns e
def Q8r(s:ByteArray)(i:Nat)(x:Ln)(e:Nat):Prop:=(∃m,RuleAt s i x e m)∨(∃m ns,ProdAt s i x e m ns)
theorem Q8r.clean{s:ByteArray}{i e:Nat}{x:Ln}(h:Q8r s i x e):Q1g s i e:=by
 rcases h with⟨m,h⟩|⟨m,ns,h⟩
 ·exact h.hc
 exact h.hc
theorem y2i(s:ByteArray)(i:Nat)(h:(Q2s s i).2.2=true):∃e:Nat,e<s.size/\i<e/\atB s (e:Nat)=10/\(Q2s s i).2.1=((e+1:Nat):Int)/\Q8r s i (Q2s s i).1 e:=by
 unfold Q2s at h ⊢;cases hw:(Q06 s i).2.2
 ·rw[qAb hw]at h;cases h
 rw[qAa (by simp[hw])]at h ⊢;obtain⟨m,hwd,hnx⟩:=z8a s i hw;have j4:=hwd.in';have j2:=hwd.pos;have j1:=hwd.head;generalize(Q06 s i).1=d at *;rw[hnx]at h ⊢;cases hh:Q14 d
 ·rw[hh]at h;simp only[qF,qAp]at h ⊢;unfold Q6f at h ⊢;by_cases c1:atB s ((i:Int)+m)≠61/\atB s ((i:Int)+m)≠126
  ·rw[qAb c1]at h;cases h
  rw[qAa c1]at h ⊢;cases c2:(Q1o s ((i:Int)+m+1)).ok
  ·rw[qAb c2]at h;cases h
  rw[qAa (by simp[c2])]at h ⊢;by_cases c3:atB s (Q1o s ((i:Int)+m+1)).next=10
  ·rw[qAa (by simpa using c3)]at h ⊢;have cl:=y6z c2;have j6:=z8g (s:=s) (i:=(Q1o s ((i:Int)+m+1)).next) (by omega);have j3:(i:Int)+m+1<=(Q1o s ((i:Int)+m+1)).next:=by
    by_cases hq:(Q1o s ((i:Int)+m+1)).next<(i:Int)+m+1
    ·exfalso;have hg:=(z5e s 6) ((i:Int)+m+1) [] (by omega) (by
      have:0<=atB s ((i:Int)+m):=by
       by_cases q:atB s ((i:Int)+m)=61
       ·omega
       by_cases q2:atB s ((i:Int)+m)=126
       ·omega
       exact absurd ⟨q,q2⟩ c1
      have:=z8g this;omega)
     have:=hg.lo;unfold Q1o at hq;omega
    omega
   refine⟨(Q1o s ((i:Int)+m+1)).next.toNat,by omega,by omega,?_,by dsimp only;omega,?_⟩
   ·rw[Int.toNat_of_nonneg (by omega)];exact c3
   have j0:atB s ((i:Int)+m)=61∨atB s ((i:Int)+m)=126:=by
    by_cases q:atB s ((i:Int)+m)=61
    ·exact .inl q
    by_cases q2:atB s ((i:Int)+m)=126
    ·exact .inr q2
    exact absurd ⟨q,q2⟩ c1
   refine .inl ⟨m,hwd,?_,?_,by omega,?_,j0,rfl,rfl⟩
   ·rcases hwd.first with h1|h1
    ·exact h1
    rw[← j1,hh]at h1;cases h1
   ·show(!Q14 d)=true;rw[hh];rfl
   rw[Int.toNat_of_nonneg (by omega)];exact(hwd.clean.trans (Q1g.one (by rcases j0 with q|q<;>omega))).trans cl
  rw[qAb c3]at h;cases h
 rw[hh]at h;simp only[qBb]at h ⊢;unfold Q6e at h ⊢;by_cases c1:atB s ((i:Int)+m)=58
 ·rw[qAa (by simpa using c1)]at h ⊢;have e1:(i:Int)+m+1=((i+m+1:Nat):Int):=by omega
  rw[e1]at h ⊢;obtain⟨ds,ns,q,h1,h2,h3⟩:=z9o s d _ _ _ h;rw[h3];have:=z8g (s:=s) (i:=(q:Nat)) (by omega);have j5:=h1.le;refine⟨q,by omega,by omega,h2,rfl,?_⟩;refine .inr ⟨m,ns,hwd,by rw[← j1];exact hh,?_,?_,c1,by simpa using h1⟩
  ·show(!Q14 d)=false;rw[hh];rfl
  exact(hwd.clean.trans (Q1g.one (by omega))).trans (by rw[e1];exact h1.clean)
 rw[qAb c1]at h;cases h
theorem y7p(s:ByteArray)(a e:Nat)(he:e<=s.size)(h:a<e):atB (s.extract a e) 0=atB s a:=by
 have:=z3u s a e 0 he (by omega);simpa using this
theorem y6g(s:ByteArray)(a e c:Nat)(he:e<=s.size)(hc:a+c<=e):(s.extract a e).extract 0 c=s.extract a (a+c):=by
 apply qEb;simp only[qDi,qDx];have:s.size=s.data.size:=rfl;congr 1;omega
theorem x9g(s:ByteArray)(a e c:Nat)(he:e<=s.size)(hc:a+c<=e):(s.extract a e).extract c (s.extract a e).size=s.extract (a+c) e:=by
 apply qEb;rw[qAz];simp only[qDi,qDx];have:s.size=s.data.size:=rfl;congr 1;omega
theorem z7v(s:ByteArray)(i e m:Nat)(d:Wd)(x:LO)(he:e<=s.size)(hw:WordAt s i m d)(hs:Q0l (atB s i)=true)(hle:i+m<e)(hm:atB s ((i:Int)+m)=61∨atB s ((i:Int)+m)=126) :
  Q9h (s.extract i e) x={x with rules:=x.rules++[s.extract i (i+m)],skip:=x.skip++[atB s ((i:Int)+m)==126]}:=by
 have j0:(s.extract i e).size=e-i:=by rw[qAz];omega
 have j1:Q36 (s.extract i e) 61 126=m:=by
  refine z7a s i e m 61 126 he (by omega) ?_ (.inr hm);intro k hk;have:=hw.byte k hk;exact⟨by omega,by omega⟩
 unfold Q9h;rw[qAa (by omega),y7p s i e he (by omega),qAb (by simpa [Q0l]using hs),j1,y6g s i e m he (by omega),z3u s i e m he (by omega)];simp[j0,show m<e-i by omega]
theorem z7u(s:ByteArray)(i e m:Nat)(d:Wd)(ds:List Wd)(ns:List ByteArray)(x:LO)(he:e<=s.size)(hw:WordAt s i m d)(hs:Q1a (atB s i)=true)(hm:atB s ((i:Int)+m)=58)(hp:PN s (i+m+1) ds ns e) :
  Q9h (s.extract i e) x={x with
   heads:=if Q1v x.heads (s.extract i (i+m))<0 then x.heads++[s.extract i (i+m)] else x.heads
   head:=x.head++[if Q1v x.heads (s.extract i (i+m))<0 then(x.heads.length:Int) else Q1v x.heads (s.extract i (i+m))]
   names:=x.names++[ns]}:=by
 have j2:=hp.le;have j6:(s.extract i e).size=e-i:=by rw[qAz];omega
 have j4:Q36 (s.extract i e) 58 58=m:=by
  refine z7a s i e m 58 58 he (by omega) ?_ (.inr (.inl hm));intro k hk;have:=hw.byte k hk;exact⟨by omega,by omega⟩
 have j1:=x1j hs;have j5:wordsF (s.extract (i+m) e)=s.extract (i+m) (i+m+1)::ns:=by
  have j3:(s.extract (i+m) e).size=e-(i+m):=by rw[qAz];omega
  unfold wordsF;have j0:Q36 (s.extract (i+m) e) 32 32=1:=by
   refine z7a s (i+m) e 1 32 32 he (by omega) ?_ ?_
   ·intro k hk;have:k=0:=by omega
    subst this;have e1:(((i+m:Nat):Int)+((0:Nat):Int))=(i:Int)+m:=by omega
    rw[e1,hm];exact⟨by omega,by omega⟩
   rcases hp.next with h9|h9
   ·left;omega
   right;left;rw[← h9];congr 1
  conv=>lhs;unfold Q68
  have e0:(s.extract (i+m) e).extract 0 (s.extract (i+m) e).size=s.extract (i+m) e:=x9f _;rw[e0,j0,qAb (show 0<(s.extract (i+m) e).size by omega),qAb (show 0<1 by omega)];have:=x7y s (i+m) e he hp rfl (by omega) (s.extract (i+m) e).size [s.extract (i+m) (i+m+1)] (by omega);have e2:(if 0+1<(s.extract (i+m) e).size then 0+1+1 else 0+1)=(if i+m+1<e then i+m+1+1-(i+m) else i+m+1-(i+m)):=by
   rw[j3];by_cases hh:i+m+1<e
   ·rw[qAb (by omega),qAb hh];omega
   rw[qAa (by omega),qAa hh];omega
  rw[e2];have e3:([]:List ByteArray)++[(s.extract (i+m) e).extract 0 (0+1)]=[s.extract (i+m) (i+m+1)]:=by
   rw[qBi,y6g s (i+m) e 1 he (by omega)];rfl
  rw[e3,this];rfl
 unfold Q9h;rw[qAa (by omega),y7p s i e he (by omega),qAa (by omega),j4,y6g s i e m he (by omega),x9g s i e m he (by omega),j5];rfl
theorem y7z{l:List ByteArray}{t:ByteArray}(h:∃y∈l,y.toList=t.toList):0<=Q1v l t:=by
 obtain⟨y,hy,he⟩:=h;unfold Q1v;have:l.findIdx (fun x=>x.toList==t.toList)<l.length:=qEq ⟨y,hy,by simp[he]⟩;rw[qAb this];omega
theorem z56{l:List ByteArray}{t:ByteArray}(h:¬Q1v l t<0):∃y∈l,y.toList=t.toList:=by
 unfold Q1v at h;by_cases hq:l.findIdx (fun x=>x.toList==t.toList)<l.length
 ·have:=qDb (w:=hq);exact⟨_,qG hq,by simpa using this⟩
 rw[qAa hq]at h;omega
def Named(s:ByteArray)(x:Ln)(l:List ByteArray):Prop:=∃i m:Nat,WordAt s i m x.front/\∃y∈l,y.toList=(s.extract i (i+m)).toList
theorem Named.mono{s:ByteArray}{x:Ln}{l l':List ByteArray}(h:Named s x l)(hl:∀y∈l,y∈l'):Named s x l':=by
 obtain⟨i,m,h1,y,h2,h3⟩:=h;exact⟨i,m,h1,y,hl y h2,h3⟩
def WordOf(s:ByteArray)(ds:List Wd)(t:ByteArray):Prop:=∃d∈ds,∃j m:Nat,WordAt s j m d/\t=s.extract j (j+m)
theorem PN.words{s:ByteArray}{p q:Nat}{ds:List Wd}{ns:List ByteArray}(h:PN s p ds ns q):∀t∈ns,WordOf s ds t:=by
 refine PN.ind (M:=fun _ ds ns=>∀t∈ns,WordOf s ds t) ?_ ?_ ds p ns h
 ·intro t ht;simp at ht
 intro p m d ds ns h32 hw hle h ih t ht;simp at ht;rcases ht with rfl|ht
 ·exact⟨d,by simp,p+1,m,hw,rfl⟩
 obtain⟨d',h1,h2⟩:=ih t ht;exact⟨d',by simp[h1],h2⟩
theorem PN.places{s:ByteArray}{p q:Nat}{ds:List Wd}{ns:List ByteArray}(h:PN s p ds ns q):∀d∈ds,0<=d.place:=by
 refine PN.ind (M:=fun _ ds _=>∀d∈ds,0<=d.place) ?_ ?_ ds p ns h
 ·intro t ht;simp at ht
 intro p m d ds ns h32 hw hle h ih t ht;simp at ht;rcases ht with rfl|ht
 ·rw[hw.place];omega
 exact ih t ht
structure Inv(s:ByteArray)(lns:List Ln)(x:LO):Prop where
 rules:x.rules.length=(lns.filter Q07).length
 skip:x.skip=(lns.filter Q07).map Ln.skip
 count:x.names.length=(lns.filter (fun y=>!Q07 y)).length
 named:∀y∈lns,if Q07 y then Named s y x.rules else Named s y x.heads
 words:∀l∈x.names,∀t∈l,∃y∈lns,WordOf s y.syms t
 places:∀y∈lns,0<=y.front.place/\∀d∈y.syms,0<=d.place
theorem x59{s:ByteArray}{lns:List Ln}{x:LO}{y:Ln}{i e:Nat}(h:Inv s lns x)(he:e<=s.size)(hl:Q8r s i y e):Inv s (lns++[y]) (Q9h (s.extract i e) x):=by
 rcases hl with⟨m,hw,hs,hr,hle,hc,hm,hk,hsy⟩|⟨m,ns,hw,hs,hr,hc,hm,hp⟩
 ·rw[z7v s i e m _ x he hw hs hle hm];refine⟨?_,?_,?_,?_,?_,?_⟩
  ·simp[h.rules,qAj,hr]
  ·simp[h.skip,qAj,hr,hk]
  ·simp[h.count,qAj,hr]
  ·intro z hz;simp only[qU,qM]at hz;rcases hz with hz|rfl
   ·have:=h.named z hz;split
    ·rename_i hq;rw[qAb hq]at this;exact this.mono (fun y hy=>by simp[hy])
    rename_i hq;rw[qAa hq]at this;exact this
   rw[qAb hr];exact⟨i,m,hw,s.extract i (i+m),by simp,rfl⟩
  ·intro l hl t ht;obtain⟨z,hz,hw⟩:=h.words l hl t ht;exact⟨z,by simp[hz],hw⟩
  intro z hz;simp only[qU,qM]at hz;rcases hz with hz|rfl
  ·exact h.places z hz
  exact⟨by rw[hw.place];omega,by rw[hsy];intro d hd;cases hd⟩
 rw[z7u s i e m _ _ ns x he hw hs hm hp];refine⟨?_,?_,?_,?_,?_,?_⟩
 ·simp[h.rules,qAj,hr]
 ·simp[h.skip,qAj,hr]
 ·simp[h.count,qAj,hr]
 ·intro z hz;simp only[qU,qM]at hz;rcases hz with hz|rfl
  ·have:=h.named z hz;split
   ·rename_i hq;rw[qAb hq]at this;exact this
   rename_i hq;rw[qAa hq]at this;refine this.mono (fun y hy=>?_);dsimp only;split
   ·simp[hy]
   exact hy
  rw[qAa (by simp[hr])];dsimp only;split
  ·exact⟨i,m,hw,s.extract i (i+m),by simp,rfl⟩
  rename_i hq;obtain⟨y,h1,h2⟩:=z56 hq;exact⟨i,m,hw,y,h1,h2⟩
 ·intro l hl t ht;simp only[qU,qM]at hl;rcases hl with hl|rfl
  ·obtain⟨z,hz,hw⟩:=h.words l hl t ht;exact⟨z,by simp[hz],hw⟩
  exact⟨y,by simp,hp.words t ht⟩
 intro z hz;simp only[qU,qM]at hz;rcases hz with hz|rfl
 ·exact h.places z hz
 exact⟨by rw[hw.place];omega,hp.places⟩
theorem y35(s:ByteArray):∀(f i:Nat) (acc:List Ln) (g:Nat) (x:LO),(Q1k s f i acc).2.2=true->i<=s.size->s.size+1<=g+i->Inv s acc x->Inv s (Q1k s f i acc).1 (Q9z s g i x)
 |0,i,acc,g,x,h,hi,hg,hI=>by simp[Q1k]at h
 |f+1,i,acc,g,x,h,hi,hg,hI=>by
  obtain⟨g,rfl⟩:∃k,g=k+1:=⟨g-1,by omega⟩;unfold Q1k at h ⊢;unfold Q9z;by_cases hlt:i<s.size
  ·rw[qAb (by omega)]at h ⊢;rw[qAb hlt];cases hok:(Q2s s i).2.2
   ·rw[qAb hok]at h;cases h
   rw[qAa (by simp[hok])]at h ⊢;obtain⟨e,he1,he2,he3,he4,he5⟩:=y2i s i hok;rw[he4]at h ⊢;have j0:Q1g s i e:=he5.clean;have j1:Q36 (s.extract i s.size) 10 10=e-i:=by
    refine z7a s i s.size (e-i) 10 10 (by omega) (by omega) ?_ ?_
    ·intro k hk;have:=j0 ((i:Int)+k) (by omega) (by omega);exact⟨by omega,by omega⟩
    right;left;have e1:(i:Int)+((e-i:Nat):Int)=(e:Nat):=by omega
    rw[e1];exact he3
   rw[j1,show i+(e-i)=e by omega,qAb he1];exact y35 s f (e+1) _ g _ h (by omega) (by omega) (x59 hI (by omega) he5)
  rw[qAa (by omega)]at h ⊢;rw[qAa hlt];exact hI
theorem z92{lns:List Ln}{syms:List Wd}(hp:∀d∈syms,0<=d.place):∀(f j:Nat),Q60 lns syms f j=none->syms.length+1<=f+j->∀k (hk:k<syms.length),j<=k->Q92 lns syms[k]=true
 |0,j,h,hf,k,hk,hjk=>by omega
 |f+1,j,h,hf,k,hk,hjk=>by
  unfold Q60 at h;have hj:j<syms.length:=by omega
  rw[qE hj]at h;simp only[]at h;cases hs:Q92 lns syms[j]
  ·rw[hs]at h;simp at h
  rw[hs]at h;simp only[qBb]at h;by_cases e:j=k
  ·subst e;exact hs
  exact z92 hp f (j+1) h (by omega) k hk (by omega)
theorem z7b{lns:List Ln}(hp:∀y∈lns,0<=y.front.place/\∀d∈y.syms,0<=d.place):∀(f i:Nat),Q6u lns f i=-1->lns.length+1<=f+i->∀k (hk:k<lns.length),i<=k->Q7r lns lns[k].syms=none
 |0,i,h,hf,k,hk,hik=>by omega
 |f+1,i,h,hf,k,hk,hik=>by
  unfold Q6u at h;have hi:i<lns.length:=by omega
  rw[qE hi]at h;simp only[]at h;have j0:=hp lns[i] (qG hi);by_cases c:(Q07 lns[i]&&Q24 lns i)=true
  ·rw[qAb c]at h;omega
  rw[qAa c]at h;cases hs:Q7r lns lns[i].syms with
  |some p =>
   rw[hs]at h;simp only[]at h;exfalso;have:∀(f j:Nat),Q60 lns lns[i].syms f j=some p->0<=p:=by
    intro f;induction f with
    |zero=>intro j h;simp[Q60]at h
    |succ f ih =>
     intro j h;unfold Q60 at h;split at h
     ·rename_i d hd;split at h
      ·exact ih _ h
      simp at h;rw[← h];exact j0.2 d (qAd hd)
     cases h
   have:=this _ _ hs;omega
  |none =>
   rw[hs]at h;simp only[]at h;by_cases e:i=k
   ·subst e;exact hs
   exact z7b hp f (i+1) h (by omega) k hk (by omega)
theorem z19{s:ByteArray}(h:Q0t s=(0,0)):s.size<=800/\(Q0c s).2.2=true/\Q16 (Q0c s).1=-1/\Q33 (Q0c s).1=true/\Q3q (Q0c s).1=-1:=by
 unfold Q0t at h;split at h
 ·simp at h
 rename_i h1;split at h
 ·simp at h
 rename_i h2;split at h
 ·simp at h
 rename_i h3;split at h
 ·simp at h
 rename_i h4;split at h
 ·simp at h
 split at h
 ·simp at h
 rename_i h5;exact⟨by omega,by simpa using h2,by simpa using h4,by simpa using h5,by simpa using h3⟩
theorem x6a{s:ByteArray}:Inv s [] Q86:=by
 refine⟨rfl,rfl,rfl,?_,?_,?_⟩
 ·intro y hy;simp at hy
 ·intro l hl;simp[Q86]at hl
 intro y hy;simp at hy
theorem Q6r{s:ByteArray}(h:Q0t s=(0,0)):Inv s (Q0c s).1 (linesX s):=by
 obtain⟨h1,h2,h3,h4,h5⟩:=z19 h;have j0:(Q1k s (s.size+5) ((0:Nat):Int) []).2.2=true:=h2;exact y35 s (s.size+5) 0 [] (s.size+1) Q86 j0 (by omega) (by omega) x6a
def Q39(ns:List Q0o)(o:Option Nat)(a b:Nat):Prop :=
 ∃x,ns[a]? = some x/\b<ns.length/\match o with
  |none=>x.reads=false/\((b:Int)=x.next∨(b:Int)=x.other)
  |some c=>x.reads=true/\Q5n x.set c=true/\(b:Int)=x.next
def Run(ns:List Q0o):List (Option Nat)->Nat->Nat->Prop
 | [],a,b=>a=b
 |o::r,a,b=>∃m,Q39 ns o a m/\Run ns r m b
def Q2j(ns:List Q0o)(a:Nat)(w:List Nat)(b:Nat):Prop:=∃r,Run ns r a b/\r.filterMap id=w
theorem Run.append{ns:List Q0o}:∀{r q:List (Option Nat)}{a b c:Nat},Run ns r a b->Run ns q b c->Run ns (r++q) a c
 | [],_,_,_,_,h,k=>by cases h;exact k
 |_::_,_,_,_,_,⟨m,h1,h2⟩,k=>⟨m,h1,h2.append k⟩
theorem Run.split{ns:List Q0o}:∀{r q:List (Option Nat)}{a c:Nat},Run ns (r++q) a c->∃b,Run ns r a b/\Run ns q b c
 | [],_,a,_,h=>⟨a,rfl,h⟩
 |_::_,_,_,_,⟨m,h1,h2⟩=>by
  obtain⟨b,k1,k2⟩:=h2.split;exact⟨b,⟨m,h1,k1⟩,k2⟩
theorem Q2j.refl(ns:List Q0o)(a:Nat):Q2j ns a [] a:=⟨[],rfl,rfl⟩
theorem Q2j.trans{ns:List Q0o}{a b c:Nat}{u v:List Nat}(h:Q2j ns a u b)(k:Q2j ns b v c):Q2j ns a (u++v) c:=by
 obtain⟨r,h1,h2⟩:=h;obtain⟨q,k1,k2⟩:=k;exact⟨r++q,h1.append k1,by rw[List.filterMap_append,h2,k2]⟩
theorem Q2j.eps{ns:List Q0o}{a b:Nat}(h:Q39 ns none a b):Q2j ns a [] b:=⟨[none],⟨b,h,rfl⟩,rfl⟩
theorem Q2j.byte{ns:List Q0o}{a b c:Nat}(h:Q39 ns (some c) a b):Q2j ns a [c] b:=⟨[some c],⟨b,h,rfl⟩,rfl⟩
theorem z9h{n:Nat}{l:List Nat}{m:Int}{x:Nat}(hl:∀y∈l,y<n):x∈Q1c n l m↔x∈l∨(x<n/\(x:Int)=m):=by
 unfold Q1c;split
 ·rename_i h;rw[qU,qM];constructor
  ·rintro(h1|rfl)
   ·exact .inl h1
   exact .inr ⟨by omega,by omega⟩
  rintro(h1|⟨_,h1⟩)
  ·exact .inl h1
  exact .inr (by omega)
 rename_i h;constructor
 ·exact .inl
 rintro(h1|⟨h1,h2⟩)
 ·exact h1
 rcases Classical.em (m.toNat∈l)with q|q
 ·rwa [show m.toNat=x by omega]at q
 exact absurd ⟨by omega,by omega,q⟩ h
theorem y3s(n:Nat)(l:List Nat)(m:Int):∃t,Q1c n l m=l++t:=by
 unfold Q1c;split
 ·exact⟨_,rfl⟩
 exact⟨[],by simp⟩
theorem z49(ns:List Q0o):∀(f i:Nat) (l:List Nat),l.Nodup->(∀x∈l,x<ns.length)->ns.length+1<=f+i->i<=l.length ->
  (∀j (hj:j<l.length),j<i->∀b,Q39 ns none l[j] b->b∈l) ->
  (∀x∈l,x∈Q22 ns f i l)/\(∀x∈Q22 ns f i l,x<ns.length)/\(∀x∈Q22 ns f i l,∃a∈l,Q2j ns a [] x)/\(∀x∈Q22 ns f i l,∀b,Q39 ns none x b->b∈Q22 ns f i l)
 |0,i,l,hd,hl,hf,hi,hc=>by
  have h1:l.length<=ns.length:=z4a hd hl;omega
 |f+1,i,l,hd,hl,hf,hi,hc=>by
  unfold Q22;by_cases h:i<l.length
  ·rw[qEi h];have j0:l[i]<ns.length:=hl _ (qG h);rw[qE j0];simp only[];by_cases hr:ns[l[i]].reads=true
   ·rw[qAb hr];refine z49 ns f (i+1) l hd hl (by omega) (by omega) (fun j hj hji b hs=>?_);by_cases e:j=i
    ·subst e;obtain⟨x,hx,_,hx2,_⟩:=hs;rw[qE j0]at hx;have:ns[l[j]]=x:=by simpa using hx
     rw[this]at hr;rw[hr]at hx2;cases hx2
    exact hc j hj (by omega) b hs
   rw[qAa hr];have j3:ns[l[i]].reads=false:=by simpa using hr
   have j2:=z33 ns[l[i]].next hl;have j4:=z33 ns[l[i]].other j2;obtain⟨t1,e1⟩:=y3s ns.length l ns[l[i]].next;obtain⟨t2,e2⟩:=y3s ns.length (Q1c ns.length l ns[l[i]].next) ns[l[i]].other;have ee:Q1c ns.length (Q1c ns.length l ns[l[i]].next) ns[l[i]].other=l++(t1++t2):=by rw[e2,e1,qAh]
   have hm:∀x,x∈Q1c ns.length (Q1c ns.length l ns[l[i]].next) ns[l[i]].other↔x∈l∨Q39 ns none l[i] x:=fun x=>by
    rw[z9h j2,z9h hl];constructor
    ·rintro((q|⟨q1,q2⟩)|⟨q1,q2⟩)
     ·exact .inl q
     ·exact .inr ⟨_,qE j0,q1,j3,.inl q2⟩
     exact .inr ⟨_,qE j0,q1,j3,.inr q2⟩
    rintro(q|⟨y,q1,q2,q3,q4⟩)
    ·exact .inl (.inl q)
    rw[qE j0]at q1;have:ns[l[i]]=y:=by simpa using q1
    subst this;rcases q4 with q4|q4
    ·exact .inl (.inr ⟨q2,q4⟩)
    exact .inr ⟨q2,q4⟩
   obtain⟨r1,r2,r3,r4⟩:=z49 ns f (i+1) _ (z23 _ (z23 _ hd)) j4 (by omega) (by rw[ee];simp;omega) (fun j hj hji b hs=>by
    have j1:j<l.length:=by omega
    have ej:(Q1c ns.length (Q1c ns.length l ns[l[i]].next) ns[l[i]].other)[j]=l[j]:=by simp only[ee];rw[List.getElem_append_left j1]
    rw[ej]at hs;rw[hm];by_cases e:j=i
    ·subst e;exact .inr hs
    exact .inl (hc j j1 (by omega) b hs))
   refine⟨fun x hx=>r1 x ((hm x).2 (.inl hx)),r2,fun x hx=>?_,r4⟩;obtain⟨a,ha,hp⟩:=r3 x hx;rcases(hm a).1 ha with q|q
   ·exact⟨a,q,hp⟩
   exact⟨l[i],qG h,by simpa using(Q2j.eps q).trans hp⟩
  rw[qEp h];exact⟨fun x hx=>hx,hl,fun x hx=>⟨x,hx,Q2j.refl ns x⟩,fun x hx b hs=>by
   obtain⟨j,hj,rfl⟩:=qAv hx;exact hc j hj (by omega) b hs⟩
theorem z9z{ns:List Q0o}{l:List Nat}(hd:l.Nodup)(hl:∀x∈l,x<ns.length)(b:Nat):b∈Q1x ns l↔∃a∈l,Q2j ns a [] b:=by
 obtain⟨h1,h2,h3,h4⟩:=z49 ns (ns.length+1) 0 l hd hl (by omega) (by omega) (fun j hj h=>by omega);refine⟨h3 b,fun⟨a,ha,r,hr,he⟩=>?_⟩;have go:∀(r:List (Option Nat)) (a:Nat),a∈Q1x ns l->Run ns r a b->r.filterMap id=[]->b∈Q1x ns l:=by
  intro r;induction r with
  |nil=>intro a ha hr _;cases hr;exact ha
  |cons o r ih =>
   intro a ha hr he;obtain⟨m,k1,k2⟩:=hr;cases o with
   |none=>exact ih m (h4 a ha m k1) k2 (by simpa using he)
   |some c=>simp at he
 exact go r a (h1 a ha) hr he
theorem y5d{ns:List Q0o}{c:Nat}:∀(l acc:List Nat),(∀x∈acc,x<ns.length)->∀b,b∈Q46 ns c l acc↔b∈acc∨∃a∈l,Q39 ns (some c) a b
 | [],acc,_,b=>by simp[Q46]
 |m::l,acc,ha,b=>by
  unfold Q46;rw[List.foldl_cons];have hlt:∀x∈Q3p ns c acc m,x<ns.length:=by
   unfold Q3p;split
   ·split
    ·exact z33 _ ha
    exact ha
   exact ha
  have ih:=y5d (ns:=ns) (c:=c) l (Q3p ns c acc m) hlt b;unfold Q46 at ih;rw[ih];have j0:b∈Q3p ns c acc m↔b∈acc∨Q39 ns (some c) m b:=by
   unfold Q3p Q39;cases hq:ns[m]? with
   |none=>simp
   |some nd =>
    simp only[qO];split
    ·rename_i h;rw[qAc]at h;rw[z9h ha];constructor
     ·rintro(q|⟨q1,q2⟩)
      ·exact .inl q
      exact .inr ⟨nd,rfl,q1,h.1,h.2,q2⟩
     rintro(q|⟨x,rfl,q1,_,_,q2⟩)
     ·exact .inl q
     exact .inr ⟨q1,q2⟩
    rename_i h;constructor
    ·exact .inl
    rintro(q|⟨x,rfl,q1,q3,q4,q2⟩)
    ·exact q
    exact absurd (by rw[q3,q4];rfl) h
  rw[j0];simp only[qBc,exists_eq_or_imp];exact or_assoc
theorem y8y{ns:List Q0o}{c:Nat}:∀(l acc:List Nat),acc.Nodup->(∀x∈acc,x<ns.length)->(Q46 ns c l acc).Nodup/\∀x∈Q46 ns c l acc,x<ns.length
 | [],acc,h1,h2=>⟨h1,h2⟩
 |m::l,acc,h1,h2=>by
  unfold Q46;rw[List.foldl_cons];refine y8y l (Q3p ns c acc m) ?_ ?_
  ·unfold Q3p;split
   ·split
    ·exact z23 _ h1
    exact h1
   exact h1
  unfold Q3p;split
  ·split
   ·exact z33 _ h2
   exact h2
  exact h2
theorem x75(ns:List Q0o)(st:Int)(s:ByteArray)(i:Nat):∀k,(crK ns st s i k).Nodup/\∀x∈crK ns st s i k,x<ns.length
 |0=>by
  unfold crK;exact⟨z23 _ List.nodup_nil,z33 _ (by simp)⟩
 |k+1=>by
  unfold crK Q50;split
  ·exact y8y _ _ List.nodup_nil (by simp)
  simp
def Q10(s:ByteArray)(i:Nat):Nat->List Nat
 |0=>[]
 |k+1=>Q10 s i k++(if h:i+k<s.size then [s[i+k].toNat] else [])
theorem Q2j.snoc{ns:List Q0o}{a b:Nat}{u:List Nat}{c:Nat}:Q2j ns a (u++[c]) b↔∃p m,Q2j ns a u p/\Q39 ns (some c) p m/\Q2j ns m [] b:=by
 constructor
 ·rintro⟨r,h1,h2⟩;rw[List.filterMap_eq_append_iff]at h2;obtain⟨r1,r2,rfl,e1,e2⟩:=h2;rw[List.filterMap_eq_cons_iff]at e2;obtain⟨q1,o,q2,rfl,k1,k2,k3⟩:=e2;obtain⟨x,hx1,hx2⟩:=h1.split;obtain⟨y,hy1,hy2⟩:=hx2.split;obtain⟨m,hm1,hm2⟩:=hy2;have ho:o=some c:=k2;subst ho;refine⟨y,m,⟨r1++q1,hx1.append hy1,?_⟩,hm1,⟨q2,hm2,k3⟩⟩;rw[List.filterMap_append,e1];have:q1.filterMap id=[]:=by
   rw[List.filterMap_eq_nil_iff];exact k1
  rw[this,qAt]
 rintro⟨p,m,h1,h2,h3⟩;have:=(h1.trans (Q2j.byte h2)).trans h3;simpa using this
theorem y7v{ns:List Q0o}{a:Nat}(ha:a<ns.length)(s:ByteArray)(i:Nat):∀k,i+k<=s.size->∀b,b∈Q1x ns (crK ns (a:Int) s i k)↔Q2j ns a (Q10 s i k) b
 |0,_,b=>by
  obtain⟨h1,h2⟩:=x75 ns (a:Int) s i 0;rw[z9z h1 h2];have e:crK ns (a:Int) s i 0=[a]:=by
   unfold crK Q1c;rw[qAb ⟨by omega,by omega,by simp⟩];simp
  rw[e];simp[Q10]
 |k+1,hk,b=>by
  obtain⟨h1,h2⟩:=x75 ns (a:Int) s i (k+1);rw[z9z h1 h2];have j0:i+k<s.size:=by omega
  have ih:=y7v ha s i k (by omega);have e:Q10 s i (k+1)=Q10 s i k++[s[i+k].toNat]:=by
   show Q10 s i k++_=_;rw[qEi j0]
  rw[e,Q2j.snoc];have hm:∀m,m∈crK ns (a:Int) s i (k+1)↔∃p,Q2j ns a (Q10 s i k) p/\Q39 ns (some s[i+k].toNat) p m:=fun m=>by
   show m∈Q50 ns s (i+k) (Q1x ns (crK ns (a:Int) s i k))↔_;unfold Q50;rw[qEi j0,y5d _ _ (by simp)];simp only[qCt,false_or];constructor
   ·rintro⟨p,q1,q2⟩;exact⟨p,(ih p).1 q1,q2⟩
   rintro⟨p,q1,q2⟩;exact⟨p,(ih p).2 q1,q2⟩
  constructor
  ·rintro⟨m,q1,q2⟩;obtain⟨p,q3,q4⟩:=(hm m).1 q1;exact⟨p,m,q3,q4,q2⟩
  rintro⟨p,m,q3,q4,q2⟩;exact⟨m,(hm m).2 ⟨p,q3,q4⟩,q2⟩
theorem x1b{ns:List Q0o}{a e:Nat}(ha:a<ns.length)(he:e<ns.length)(s:ByteArray)(i k:Nat)(hk:i+k<=s.size):Q8u ns (a:Int) (e:Int) s i k=true↔Q2j ns a (Q10 s i k) e:=by
 rw[← y7v ha s i k hk];unfold Q8u Q67;simp[he]
theorem Run.stay{ns ns':List Q0o}{S:Nat->Prop}(h:∀x,S x->∀o y,Q39 ns' o x y->Q39 ns o x y/\S y):∀(r:List (Option Nat)) (x z:Nat),S x->Run ns' r x z->Run ns r x z/\S z
 | [],x,z,hx,hr=>by cases hr;exact⟨rfl,hx⟩
 |o::r,x,z,hx,⟨m,h1,h2⟩=>by
  obtain⟨k1,k2⟩:=h x hx o m h1;obtain⟨k3,k4⟩:=Run.stay h r m z k2 h2;exact⟨⟨m,k1,k3⟩,k4⟩
theorem Q2j.stay{ns ns':List Q0o}{S:Nat->Prop}(h:∀x,S x->∀o y,Q39 ns' o x y->Q39 ns o x y/\S y){x z:Nat}{w:List Nat}(hx:S x)(hp:Q2j ns' x w z):Q2j ns x w z/\S z:=by
 obtain⟨r,h1,h2⟩:=hp;obtain⟨k1,k2⟩:=Run.stay h r x z hx h1;exact⟨⟨r,k1,h2⟩,k2⟩
theorem Run.exit{ns ns':List Q0o}{S:Nat->Prop}{e:Nat}(h:∀x,S x->x≠e->∀o y,Q39 ns' o x y->Q39 ns o x y/\S y)(he:∀o y,Q39 ns' o e y->o=none) :
  ∀(r:List (Option Nat)) (x z:Nat),S x->¬S z->Run ns' r x z->∃r1 t r2,r=r1++none::r2/\Run ns r1 x e/\Q39 ns' none e t/\Run ns' r2 t z
 | [],x,z,hx,hz,hr=>by cases hr;exact absurd hx hz
 |o::r,x,z,hx,hz,⟨m,h1,h2⟩=>by
  by_cases q:x=e
  ·subst q;have ho:=he o m h1;subst ho;exact⟨[],m,r,rfl,rfl,h1,h2⟩
  obtain⟨k1,k2⟩:=h x hx q o m h1;obtain⟨r1,t,r2,e1,e2,e3,e4⟩:=Run.exit h he r m z k2 hz h2;exact⟨o::r1,t,r2,by rw[e1];rfl,⟨m,k1,e2⟩,e3,e4⟩
theorem Q2j.exit{ns ns':List Q0o}{S:Nat->Prop}{e:Nat}(h:∀x,S x->x≠e->∀o y,Q39 ns' o x y->Q39 ns o x y/\S y)(he:∀o y,Q39 ns' o e y->o=none){x z:Nat}{w:List Nat}(hx:S x)(hz:¬S z)(hp:Q2j ns' x w z) :
  ∃u v t,w=u++v/\Q2j ns x u e/\Q39 ns' none e t/\Q2j ns' t v z:=by
 obtain⟨r,h1,h2⟩:=hp;obtain⟨r1,t,r2,e1,e2,e3,e4⟩:=Run.exit h he r x z hx hz h1;refine⟨r1.filterMap id,r2.filterMap id,t,?_,⟨r1,e2,rfl⟩,e3,⟨r2,e4,rfl⟩⟩;rw[← h2,e1,List.filterMap_append];rfl
theorem Q2j.mono{ns ns':List Q0o}{S:Nat->Prop}(h:∀x,S x->∀o y,Q39 ns o x y->Q39 ns' o x y/\S y){x z:Nat}{w:List Nat}(hx:S x)(hp:Q2j ns x w z):Q2j ns' x w z :=
 (Q2j.stay h hx hp).1
abbrev Q02:=List Nat->Prop
def Q02.cat(A B:Q02):Q02:=fun w=>∃u v,w=u++v/\A u/\B v
def Q02.alt(A B:Q02):Q02:=fun w=>A w∨B w
def Q02.byte(P:Nat->Prop):Q02:=fun w=>∃c,P c/\w=[c]
structure Frg(ns:List Q0o)(lo hi a e:Nat)(L:Q02):Prop where
 bd:hi<=ns.length
 ia:lo<=a/\a<hi
 ie:lo<=e/\e<hi
 en:ns[e]? = some plainNode
 nb:∀x,lo<=x->x<hi->∀nd,ns[x]? = some nd->(nd.next=-1∨(lo:Int)<=nd.next/\nd.next<hi)/\(nd.other=-1∨(lo:Int)<=nd.other/\nd.other<hi)
 lg:∀w,Q2j ns a w e↔L w
theorem Frg.cl{ns:List Q0o}{lo hi a e:Nat}{L:Q02}(h:Frg ns lo hi a e L)(x:Nat)(h1:lo<=x)(h2:x<hi)(o:Option Nat)(y:Nat)(st:Q39 ns o x y):lo<=y/\y<hi:=by
 obtain⟨nd,q1,q2,q3⟩:=st;obtain⟨n1,n2⟩:=h.nb x h1 h2 nd q1;cases o with
 |none=>rcases q3.2 with q|q<;>omega
 |some c=>have:=q3.2.2;omega
theorem Frg.keep{ns ns':List Q0o}{lo hi a e:Nat}{L:Q02}(h:Frg ns lo hi a e L)(hl:hi<=ns'.length)(hk:∀x,lo<=x->x<hi->ns'[x]? = ns[x]?):Frg ns' lo hi a e L:=by
 have s1:∀x,(lo<=x/\x<hi)->∀o y,Q39 ns' o x y->Q39 ns o x y/\(lo<=y/\y<hi):=fun x hx o y ⟨nd,q1,q2,q3⟩=>by
  rw[hk x hx.1 hx.2]at q1;obtain⟨n1,n2⟩:=h.nb x hx.1 hx.2 nd q1;have hy:y<hi:=by
   cases o with
   |none=>rcases q3.2 with q|q<;>omega
   |some c=>have:=q3.2.2;omega
  have st:Q39 ns o x y:=⟨nd,q1,by have:=h.bd;omega,q3⟩;exact⟨st,h.cl x hx.1 hx.2 o y st⟩
 have s2:∀x,(lo<=x/\x<hi)->∀o y,Q39 ns o x y->Q39 ns' o x y/\(lo<=y/\y<hi):=fun x hx o y st=>by
  have hy:=h.cl x hx.1 hx.2 o y st;obtain⟨nd,q1,q2,q3⟩:=st;exact⟨⟨nd,by rw[hk x hx.1 hx.2];exact q1,by omega,q3⟩,hy⟩
 refine⟨hl,h.ia,h.ie,by rw[hk e h.ie.1 h.ie.2];exact h.en,fun x h1 h2 nd q=>h.nb x h1 h2 nd (by rw[← hk x h1 h2];exact q),fun w=>?_⟩;rw[← h.lg w];exact⟨fun q=>(Q2j.stay s1 h.ia q).1,fun q=>(Q2j.stay s2 h.ia q).1⟩
theorem Frg.one(ns:List Q0o)(ws:List Int):Frg (Q8o ns ws) ns.length (ns.length+2) (ns.length+1) ns.length (Q02.byte fun c=>Q5n ws c=true):=by
 have l0:(Q8o ns ws).length=ns.length+2:=by simp[Q8o]
 have g0:(Q8o ns ws)[ns.length]? = some plainNode:=by simp[Q8o]
 have g1:(Q8o ns ws)[ns.length+1]? = some (Q4h ws ns.length):=by simp[Q8o]
 have e0:∀o y,¬Q39 (Q8o ns ws) o ns.length y:=fun o y ⟨nd,q1,q2,q3⟩=>by
  rw[g0]at q1;have:plainNode=nd:=by simpa using q1
  subst this;cases o with
  |none=>rcases q3.2 with q|q<;>(simp only[plainNode]at q;omega)
  |some c=>have:=q3.1;simp[plainNode]at this
 have e1:∀o y,Q39 (Q8o ns ws) o (ns.length+1) y↔∃c,o=some c/\Q5n ws c=true/\y=ns.length:=fun o y=>by
  constructor
  ·rintro⟨nd,q1,q2,q3⟩;rw[g1]at q1;have:Q4h ws ns.length=nd:=by simpa using q1
   subst this;cases o with
   |none=>have:=q3.1;simp[Q4h]at this
   |some c=>exact⟨c,rfl,q3.2.1,by have:=q3.2.2;simp only[Q4h]at this;omega⟩
  rintro⟨c,rfl,q1,rfl⟩;exact⟨_,g1,by omega,rfl,q1,rfl⟩
 refine⟨by omega,by omega,by omega,g0,fun x h1 h2 nd hx=>?_,fun w=>?_⟩
 ·rcases(show x=ns.length∨x=ns.length+1 by omega)with rfl|rfl
  ·rw[g0]at hx;have:plainNode=nd:=by simpa using hx
   subst this;exact⟨.inl rfl,.inl rfl⟩
  rw[g1]at hx;have:Q4h ws ns.length=nd:=by simpa using hx
  subst this;exact⟨.inr ⟨by simp[Q4h],by simp only[Q4h];omega⟩,.inl rfl⟩
 constructor
 ·rintro⟨r,h1,h2⟩;cases r with
  |nil=>have:ns.length+1=ns.length:=h1;omega
  |cons o r =>
   obtain⟨m,k1,k2⟩:=h1;obtain⟨c,rfl,q1,rfl⟩:=(e1 o m).1 k1;cases r with
   |nil=>exact⟨c,q1,h2.symm⟩
   |cons o2 r =>
    obtain⟨m2,k3,_⟩:=k2;exact absurd k3 (e0 o2 m2)
 rintro⟨c,q1,rfl⟩;exact Q2j.byte ((e1 _ _).2 ⟨c,rfl,q1,rfl⟩)
theorem x6g{ns:List Q0o}{e b:Nat}(he:ns[e]? = some plainNode)(x:Nat):(Q1e ns (e:Int) (b:Int))[x]? = if x=e then some {plainNode with next:=(b:Int)} else ns[x]? := by
 have hl:=(qS he).1;unfold Q1e;rw[qAa (by omega),List.getElem?_modify];by_cases q:x=e
 ·subst q;simp[he,plainNode]
 rw[qAa q];have q2:¬(e:Int).toNat=x:=by omega
 simp only[q2,qAp];cases ns[x]?<;>rfl
theorem Frg.join{ns:List Q0o}{lo mi hi a e b f:Nat}{A B:Q02}(h:Frg ns lo mi a e A)(k:Frg ns mi hi b f B):Frg (Q1e ns (e:Int) (b:Int)) lo hi a f (Q02.cat A B):=by
 have j2:=z0n ns (e:Int) (b:Int);have j0:=x6g (b:=b) h.en;have b1:=h.bd;have b2:=k.bd;have i1:=h.ia;have i2:=h.ie;have i3:=k.ia;have i4:=k.ie;have ee:(Q1e ns (e:Int) (b:Int))[e]? = some {plainNode with next:=(b:Int)}:=by rw[j0,qAb rfl]
 have K:Frg (Q1e ns (e:Int) (b:Int)) mi hi b f B:=k.keep (by omega) (fun x h1 h2=>by rw[j0,qAa (by omega)]);have hs:∀x,x≠e->∀o y,Q39 (Q1e ns (e:Int) (b:Int)) o x y↔Q39 ns o x y:=fun x hx o y=>by
  unfold Q39;rw[j0,qAa hx,j2]
 have j1:∀o y,Q39 (Q1e ns (e:Int) (b:Int)) o e y↔o=none/\y=b:=fun o y=>by
  constructor
  ·rintro⟨nd,q1,q2,q3⟩;rw[ee]at q1;have:{plainNode with next:=(b:Int)}=nd:=by simpa using q1
   subst this;cases o with
   |none =>
    rcases q3.2 with q|q
    ·exact⟨rfl,by simp only at q;omega⟩
    simp only[plainNode]at q;omega
   |some c=>have:=q3.1;simp[plainNode]at this
  rintro⟨rfl,rfl⟩;exact⟨_,ee,by omega,rfl,.inl rfl⟩
 have ho:∀o y,¬Q39 ns o e y:=fun o y ⟨nd,q1,q2,q3⟩=>by
  rw[h.en]at q1;have:plainNode=nd:=by simpa using q1
  subst this;cases o with
  |none=>rcases q3.2 with q|q<;>(simp only[plainNode]at q;omega)
  |some c=>have:=q3.1;simp[plainNode]at this
 refine⟨by omega,by omega,by omega,K.en,fun x h1 h2 nd hx=>?_,fun w=>?_⟩
 ·by_cases q:x=e
  ·subst q;rw[ee]at hx;have:{plainNode with next:=(b:Int)}=nd:=by simpa using hx
   subst this;exact⟨.inr ⟨by simp only;omega,by simp only;omega⟩,.inl rfl⟩
  rw[j0,qAa q]at hx;by_cases hm:x<mi
  ·have:=h.nb x h1 hm nd hx;omega
  have:=k.nb x (by omega) h2 nd hx;omega
 constructor
 ·intro hp;obtain⟨u,v,t,e1,e2,e3,e4⟩:=Q2j.exit (ns:=ns) (S:=fun x=>lo<=x/\x<mi) (e:=e) (fun x hx hne o y st=>⟨(hs x hne o y).1 st,h.cl x hx.1 hx.2 o y ((hs x hne o y).1 st)⟩) (fun o y st=>((j1 o y).1 st).1) h.ia (by omega) hp;obtain⟨_,rfl⟩:=(j1 _ _).1 e3;exact⟨u,v,e1,(h.lg u).1 e2,(K.lg v).1 e4⟩
 rintro⟨u,v,rfl,q1,q2⟩;have p1:=(h.lg u).2 q1;have j3:Q2j (Q1e ns (e:Int) (b:Int)) a u e:=Q2j.mono (ns:=ns) (S:=fun _=>True) (fun x _ o y st=>⟨(hs x (fun q=>by subst q;exact ho o y st) o y).2 st,trivial⟩) trivial p1;have:=(j3.trans (Q2j.eps ((j1 none b).2 ⟨rfl,rfl⟩))).trans ((K.lg v).2 q2);simpa using this
theorem z2j{ns:List Q0o}{e:Nat}(b:Int)(hl:e<ns.length)(x:Nat):(Q1e ns (e:Int) b)[x]? = if x=e then(ns[e]?).map (fun nd=>if nd.next=-1 then {nd with next:=b} else {nd with other:=b}) else ns[x]? := by
 unfold Q1e;rw[qAa (by omega),List.getElem?_modify];by_cases q:x=e
 ·subst q;simp
 rw[qAa q];have q2:¬(e:Int).toNat=x:=by omega
 simp only[q2,qAp];cases ns[x]?<;>rfl
theorem Q2j.stuck{ns:List Q0o}{x z:Nat}{w:List Nat}(h:∀o y,¬Q39 ns o x y)(hp:Q2j ns x w z):w=[]/\z=x:=by
 obtain⟨r,h1,h2⟩:=hp;cases r with
 |nil=>exact⟨h2.symm,Eq.symm h1⟩
 |cons o r=>obtain⟨m,k,_⟩:=h1;exact absurd k (h o m)
theorem z4q{ns:List Q0o}{e:Nat}(h:ns[e]? = some plainNode)(o:Option Nat)(y:Nat):¬Q39 ns o e y:=fun⟨nd,q1,q2,q3⟩=>by
 rw[h]at q1;have:plainNode=nd:=by simpa using q1
 subst this;cases o with
 |none=>rcases q3.2 with q|q<;>(simp only[plainNode]at q;omega)
 |some c=>have:=q3.1;simp[plainNode]at this
theorem z14{ns:List Q0o}{x:Nat}{p q:Int}(h:ns[x]? = some ⟨false,zero4,p,q⟩)(o:Option Nat)(y:Nat):Q39 ns o x y↔o=none/\y<ns.length/\((y:Int)=p∨(y:Int)=q):=by
 constructor
 ·rintro⟨nd,q1,q2,q3⟩;rw[h]at q1;have:(⟨false,zero4,p,q⟩:Q0o)=nd:=by simpa using q1
  subst this;cases o with
  |none=>exact⟨rfl,q2,q3.2⟩
  |some c=>have:=q3.1;simp at this
 rintro⟨rfl,q1,q2⟩;exact⟨_,h,q1,rfl,q2⟩
theorem Frg.out{ns ns':List Q0o}{lo hi a e:Nat}{A:Q02}(h:Frg ns lo hi a e A)(hl:ns.length<=ns'.length)(hk:∀x,lo<=x->x<hi->x≠e->ns'[x]? = ns[x]?){p q:Int}(he:ns'[e]? = some ⟨false,zero4,p,q⟩) :
  (∀{w:List Nat}{z:Nat},¬(lo<=z/\z<hi)->Q2j ns' a w z->∃u v t,w=u++v/\A u/\Q39 ns' none e t/\Q2j ns' t v z)/\(∀u,A u->Q2j ns' a u e):=by
 have b1:=h.bd;have s1:∀x,(lo<=x/\x<hi)->x≠e->∀o y,Q39 ns' o x y->Q39 ns o x y/\(lo<=y/\y<hi):=fun x hx j0 o y ⟨nd,q1,q2,q3⟩=>by
  rw[hk x hx.1 hx.2 j0]at q1;have n1:=h.nb x hx.1 hx.2 nd q1;have hy:y<hi:=by
   cases o with
   |none=>rcases q3.2 with q|q<;>omega
   |some c=>have:=q3.2.2;omega
  have st:Q39 ns o x y:=⟨nd,q1,by omega,q3⟩;exact⟨st,h.cl x hx.1 hx.2 o y st⟩
 refine⟨fun hz hp=>?_,fun u hu=>?_⟩
 ·obtain⟨u,v,t,e1,e2,e3,e4⟩:=Q2j.exit (ns:=ns) (S:=fun x=>lo<=x/\x<hi) (e:=e) s1 (fun o y st=>((z14 he o y).1 st).1) h.ia hz hp;exact⟨u,v,t,e1,(h.lg u).1 e2,e3,e4⟩
 refine Q2j.mono (ns:=ns) (S:=fun x=>lo<=x/\x<hi) (fun x hx o y st=>?_) h.ia ((h.lg u).2 hu);have hy:=h.cl x hx.1 hx.2 o y st;have j0:x≠e:=fun q=>by subst q;exact z4q h.en o y st
 obtain⟨nd,q1,q2,q3⟩:=st;exact⟨⟨nd,by rw[hk x hx.1 hx.2 j0];exact q1,by omega,q3⟩,hy⟩
theorem Q2j.head{ns:List Q0o}{x z:Nat}{w:List Nat}{p q:Int}(h:ns[x]? = some ⟨false,zero4,p,q⟩)(hne:x≠z)(hp:Q2j ns x w z):∃y:Nat,((y:Int)=p∨(y:Int)=q)/\Q2j ns y w z:=by
 obtain⟨r,h1,h2⟩:=hp;cases r with
 |nil=>exact absurd h1 hne
 |cons o r =>
  obtain⟨m,k1,k2⟩:=h1;obtain⟨rfl,_,q2⟩:=(z14 h o m).1 k1;exact⟨m,q2,⟨r,k2,by simpa using h2⟩⟩
theorem y3o{ns:List Q0o}{a e b f:Nat}(he:ns[e]? = some plainNode)(hf:ns[f]? = some plainNode)(hef:e≠f) :
  (Q30 ns (a:Int) (e:Int) (b:Int) (f:Int)).length=ns.length+2 /\
  ∀x,(Q30 ns (a:Int) (e:Int) (b:Int) (f:Int))[x]? = if x=f∨x=e then some ⟨false,zero4,(ns.length+1:Int),-1⟩ else if x=ns.length then some ⟨false,zero4,a,b⟩ else if x=ns.length+1 then some plainNode else ns[x]? := by
 have le:=(qS he).1;have lf:=(qS hf).1;have l0:(Q30 ns (a:Int) (e:Int) (b:Int) (f:Int)).length=ns.length+2:=by simp[Q30,z0n]
 refine⟨l0,fun x=>?_⟩;have m0:∀x,(ns++[plainNode]++[plainNode])[x]? = if x=ns.length then some plainNode else if x=ns.length+1 then some plainNode else ns[x]? := fun x=>by
  by_cases h1:x<ns.length
  ·rw[qAa (by omega),qAa (by omega),qAh,qAe h1]
  by_cases h2:x=ns.length
  ·subst h2;simp
  by_cases h3:x=ns.length+1
  ·subst h3;simp
  rw[qAa h2,qAa h3,qN (by simp;omega),qN (by omega)]
 have lm:(ns++[plainNode]++[plainNode]).length=ns.length+2:=by simp
 unfold Q30;generalize ns++[plainNode]++[plainNode]=M at m0 lm;have g1:∀x,(Q1e M (ns.length:Int) (a:Int))[x]? = if x=ns.length then some ⟨false,zero4,a,-1⟩ else if x=ns.length+1 then some plainNode else ns[x]? := fun x=>by
  rw[z2j _ (by omega)];by_cases q:x=ns.length
  ·rw[qAb q,qAb q,m0,qAb rfl];rfl
  rw[qAa q,qAa q,m0,qAa q]
 have l1:(Q1e M (ns.length:Int) (a:Int)).length=ns.length+2:=by rw[z0n];exact lm
 generalize Q1e M (ns.length:Int) (a:Int)=M1 at g1 l1;have g2:∀x,(Q1e M1 (ns.length:Int) (b:Int))[x]? = if x=ns.length then some ⟨false,zero4,a,b⟩ else if x=ns.length+1 then some plainNode else ns[x]? := fun x=>by
  rw[z2j _ (by omega)];by_cases q:x=ns.length
  ·rw[qAb q,qAb q,g1,qAb rfl];have h6:¬((a:Int)=-1):=by omega
   simp[h6]
  rw[qAa q,qAa q,g1,qAa q]
 have l2:(Q1e M1 (ns.length:Int) (b:Int)).length=ns.length+2:=by rw[z0n];exact l1
 generalize Q1e M1 (ns.length:Int) (b:Int)=M2 at g2 l2;have me:M2[e]? = some plainNode:=by rw[g2,qAa (by omega),qAa (by omega)];exact he
 have g3:∀x,(Q1e M2 (e:Int) (ns.length+1:Int))[x]? = if x=e then some ⟨false,zero4,(ns.length+1:Int),-1⟩ else M2[x]? := fun x=>by
  rw[z2j _ (by omega),me];rfl
 have l3:(Q1e M2 (e:Int) (ns.length+1:Int)).length=ns.length+2:=by rw[z0n];exact l2
 generalize Q1e M2 (e:Int) (ns.length+1:Int)=M3 at g3 l3;have mf:M3[f]? = some plainNode:=by rw[g3,qAa (fun q=>hef q.symm),g2,qAa (by omega),qAa (by omega)];exact hf
 rw[z2j _ (by omega),mf];by_cases h1:x=f
 ·rw[qAb h1,qAb (.inl h1)];rfl
 rw[qAa h1,g3];by_cases h2:x=e
 ·rw[qAb h2,qAb (.inr h2)]
 rw[qAa h2,qAa (fun q=>q.elim h1 h2),g2]
theorem Frg.either{ns:List Q0o}{lo mi a e b f:Nat}{A B:Q02}(h:Frg ns lo mi a e A)(k:Frg ns mi ns.length b f B):Frg (Q30 ns (a:Int) (e:Int) (b:Int) (f:Int)) lo (ns.length+2) ns.length (ns.length+1) (Q02.alt A B):=by
 have i1:=h.ia;have i2:=h.ie;have i3:=k.ia;have i4:=k.ie;have b1:=h.bd;obtain⟨ln,hat⟩:=y3o (a:=a) (b:=b) h.en k.en (by omega);generalize Q30 ns (a:Int) (e:Int) (b:Int) (f:Int)=N at ln hat
 have gS:N[ns.length]? = some ⟨false,zero4,a,b⟩:=by rw[hat,qAa (by omega),qAb rfl]
 have gE:N[ns.length+1]? = some plainNode:=by rw[hat,qAa (by omega),qAa (by omega),qAb rfl]
 have ge:N[e]? = some ⟨false,zero4,(ns.length+1:Int),-1⟩:=by rw[hat,qAb (.inr rfl)]
 have gf:N[f]? = some ⟨false,zero4,(ns.length+1:Int),-1⟩:=by rw[hat,qAb (.inl rfl)]
 have ha:=h.out (by omega) (fun x h1 h2 h3=>by rw[hat,qAa (by omega),qAa (by omega),qAa (by omega)]) ge;have hb:=k.out (by omega) (fun x h1 h2 h3=>by rw[hat,qAa (by omega),qAa (by omega),qAa (by omega)]) gf;have fin:∀{x t:Nat}{v:List Nat},N[x]? = some ⟨false,zero4,(ns.length+1:Int),-1⟩->Q39 N none x t->Q2j N t v (ns.length+1)->v=[]:=fun {x t v} g st hp=>by
  obtain⟨_,_,q⟩:=(z14 g _ _).1 st;have ht:t=ns.length+1:=by rcases q with q|q<;>omega
  subst ht;exact(Q2j.stuck (z4q gE) hp).1
 have bk:∀{x:Nat},N[x]? = some ⟨false,zero4,(ns.length+1:Int),-1⟩->Q39 N none x (ns.length+1):=fun g=>(z14 g _ _).2 ⟨rfl,by omega,.inl (by omega)⟩;refine⟨by omega,by omega,by omega,gE,fun x h1 h2 nd hx=>?_,fun w=>?_⟩
 ·rw[hat]at hx;split at hx
  ·have:(⟨false,zero4,(ns.length+1:Int),-1⟩:Q0o)=nd:=by simpa using hx
   subst this;exact⟨.inr ⟨by simp only;omega,by simp only;omega⟩,.inl rfl⟩
  split at hx
  ·have:(⟨false,zero4,a,b⟩:Q0o)=nd:=by simpa using hx
   subst this;exact⟨.inr ⟨by simp only;omega,by simp only;omega⟩,.inr ⟨by simp only;omega,by simp only;omega⟩⟩
  split at hx
  ·have:plainNode=nd:=by simpa using hx
   subst this;exact⟨.inl rfl,.inl rfl⟩
  by_cases hm:x<mi
  ·have:=h.nb x h1 hm nd hx;omega
  have:=k.nb x (by omega) (by omega) nd hx;omega
 constructor
 ·intro hp;obtain⟨y,q,hp2⟩:=Q2j.head gS (by omega) hp;rcases q with q|q
  ·have:y=a:=by omega
   subst this;obtain⟨u,v,t,rfl,q1,q2,q3⟩:=ha.1 (by omega) hp2;have:=fin ge q2 q3;subst this;exact .inl (by simpa using q1)
  have:y=b:=by omega
  subst this;obtain⟨u,v,t,rfl,q1,q2,q3⟩:=hb.1 (by omega) hp2;have:=fin gf q2 q3;subst this;exact .inr (by simpa using q1)
 rintro(q|q)
 ·have:=((Q2j.eps ((z14 gS none a).2 ⟨rfl,by omega,.inl rfl⟩)).trans (ha.2 w q)).trans (Q2j.eps (bk ge));simpa using this
 have:=((Q2j.eps ((z14 gS none b).2 ⟨rfl,by omega,.inr rfl⟩)).trans (hb.2 w q)).trans (Q2j.eps (bk gf));simpa using this
def Q02.rep(m:Int)(A:Q02):Q02:=fun w=>∃ws:List (List Nat),(∀u∈ws,A u)/\w=ws.flatten/\(m=43->ws≠[])/\(m=63->ws.length<=1)
theorem y47{ns:List Q0o}{a e:Nat}(m:Int)(he:ns[e]? = some plainNode) :
  (Q13 ns (a:Int) (e:Int) m).length=ns.length+2 /\
  ∀x,(Q13 ns (a:Int) (e:Int) m)[x]? = if x=e then some ⟨false,zero4,(ns.length+1:Int),if m=63 then -1 else a⟩ else if x=ns.length then some ⟨false,zero4,a,if m=43 then -1 else(ns.length+1:Int)⟩ else if x=ns.length+1 then some plainNode else ns[x]? := by
 have le:=(qS he).1;have l0:(Q13 ns (a:Int) (e:Int) m).length=ns.length+2:=by
  unfold Q13;dsimp only;split<;>split<;>simp[z0n]
 refine⟨l0,fun x=>?_⟩;have m0:∀x,(ns++[plainNode]++[plainNode])[x]? = if x=ns.length then some plainNode else if x=ns.length+1 then some plainNode else ns[x]? := fun x=>by
  by_cases h1:x<ns.length
  ·rw[qAa (by omega),qAa (by omega),qAh,qAe h1]
  by_cases h2:x=ns.length
  ·subst h2;simp
  by_cases h3:x=ns.length+1
  ·subst h3;simp
  rw[qAa h2,qAa h3,qN (by simp;omega),qN (by omega)]
 have lm:(ns++[plainNode]++[plainNode]).length=ns.length+2:=by simp
 unfold Q13;dsimp only;generalize ns++[plainNode]++[plainNode]=M at m0 lm;have g1:∀x,(Q1e M (ns.length:Int) (a:Int))[x]? = if x=ns.length then some ⟨false,zero4,a,-1⟩ else if x=ns.length+1 then some plainNode else ns[x]? := fun x=>by
  rw[z2j _ (by omega)];by_cases q:x=ns.length
  ·rw[qAb q,qAb q,m0,qAb rfl];rfl
  rw[qAa q,qAa q,m0,qAa q]
 have l1:(Q1e M (ns.length:Int) (a:Int)).length=ns.length+2:=by rw[z0n];exact lm
 generalize Q1e M (ns.length:Int) (a:Int)=M1 at g1 l1;have me:M1[e]? = some plainNode:=by rw[g1,qAa (by omega),qAa (by omega)];exact he
 have g2:∀x,(Q1e M1 (e:Int) (ns.length+1:Int))[x]? = if x=e then some ⟨false,zero4,(ns.length+1:Int),-1⟩ else M1[x]? := fun x=>by
  rw[z2j _ (by omega),me];rfl
 have l2:(Q1e M1 (e:Int) (ns.length+1:Int)).length=ns.length+2:=by rw[z0n];exact l1
 generalize Q1e M1 (e:Int) (ns.length+1:Int)=M2 at g2 l2;have g3:∀x,(if m=43 then M2 else Q1e M2 (ns.length:Int) (ns.length+1:Int))[x]? = if x=e then some ⟨false,zero4,(ns.length+1:Int),-1⟩ else if x=ns.length then some ⟨false,zero4,a,if m=43 then -1 else(ns.length+1:Int)⟩ else if x=ns.length+1 then some plainNode else ns[x]? := fun x=>by
  by_cases hm:m=43
  ·rw[qAb hm,g2];by_cases q:x=e
   ·rw[qAb q,qAb q]
   rw[qAa q,qAa q,g1,qAb hm]
  rw[qAa hm,z2j _ (by omega)];by_cases q2:x=ns.length
  ·rw[qAb q2,qAa (by omega),qAb q2,g2,qAa (by omega),g1,qAb rfl,qAa hm];have h6:¬((a:Int)=-1):=by omega
   simp[h6]
  rw[qAa q2,g2];by_cases q:x=e
  ·rw[qAb q,qAb q]
  rw[qAa q,qAa q,qAa q2,g1,qAa q2]
 have l3:(if m=43 then M2 else Q1e M2 (ns.length:Int) (ns.length+1:Int)).length=ns.length+2:=by
  split
  ·exact l2
  rw[z0n];exact l2
 generalize(if m=43 then M2 else Q1e M2 (ns.length:Int) (ns.length+1:Int))=M3 at g3 l3;by_cases h6:m=63
 ·rw[qAb h6,g3];by_cases q:x=e
  ·rw[qAb q,qAb q,qAb h6]
  rw[qAa q,qAa q]
 rw[qAa h6,z2j _ (by omega)];by_cases q:x=e
 ·rw[qAb q,qAb q,g3,qAb rfl,qAa h6];have h7:¬(((ns.length:Int)+1)=-1):=by omega
  simp[h7]
 rw[qAa q,qAa q,g3,qAa q]
theorem Frg.rep{ns:List Q0o}{lo a e:Nat}{A:Q02}(m:Int)(h:Frg ns lo ns.length a e A):Frg (Q13 ns (a:Int) (e:Int) m) lo (ns.length+2) ns.length (ns.length+1) (Q02.rep m A):=by
 have i1:=h.ia;have i2:=h.ie;obtain⟨ln,hat⟩:=y47 (a:=a) m h.en;generalize Q13 ns (a:Int) (e:Int) m=N at ln hat
 have gS:N[ns.length]? = some ⟨false,zero4,a,if m=43 then -1 else(ns.length+1:Int)⟩:=by rw[hat,qAa (by omega),qAb rfl]
 have gE:N[ns.length+1]? = some plainNode:=by rw[hat,qAa (by omega),qAa (by omega),qAb rfl]
 have ge:N[e]? = some ⟨false,zero4,(ns.length+1:Int),if m=63 then -1 else a⟩:=by rw[hat,qAb rfl]
 have j0:∀x,lo<=x->x<ns.length->x≠e->N[x]? = ns[x]? := fun x h1 h2 h3=>by rw[hat,qAa h3,qAa (by omega),qAa (by omega)]
 have ha:=h.out (by omega) j0 ge;have s1:∀x,(lo<=x/\x<ns.length)->x≠e->∀o y,Q39 N o x y->Q39 ns o x y/\(lo<=y/\y<ns.length):=fun x hx hne o y ⟨nd,q1,q2,q3⟩=>by
  rw[j0 x hx.1 hx.2 hne]at q1;have n1:=h.nb x hx.1 hx.2 nd q1;have hy:y<ns.length:=by
   cases o with
   |none=>rcases q3.2 with q|q<;>omega
   |some c=>have:=q3.2.2;omega
  have st:Q39 ns o x y:=⟨nd,q1,by omega,q3⟩;exact⟨st,h.cl x hx.1 hx.2 o y st⟩
 have j2:∀(n:Nat) (r:List (Option Nat)),r.length<=n->Run N r a (ns.length+1)->∃ws:List (List Nat),ws≠[]/\(∀u∈ws,A u)/\r.filterMap id=ws.flatten/\(m=63->ws.length<=1):=by
  intro n;induction n with
  |zero =>
   intro r hr hrun;have:r=[]:=qBs (by omega);subst this;have h2:a=ns.length+1:=hrun;omega
  |succ n ih =>
   intro r hr hrun;obtain⟨r1,t,r2,e1,e2,e3,e4⟩:=Run.exit (ns:=ns) (S:=fun x=>lo<=x/\x<ns.length) (e:=e) s1 (fun o y st=>((z14 ge o y).1 st).1) r a _ h.ia (by omega) hrun;have hA:A (r1.filterMap id):=(h.lg _).1 ⟨r1,e2,rfl⟩;obtain⟨_,_,q⟩:=(z14 ge _ _).1 e3;have hf:r.filterMap id=r1.filterMap id++r2.filterMap id:=by rw[e1,List.filterMap_append];rfl
   rcases q with q|q
   ·have ht:t=ns.length+1:=by omega
    subst ht;have hv:=(Q2j.stuck (z4q gE) ⟨r2,e4,rfl⟩).1;exact⟨[r1.filterMap id],by simp,by simpa using hA,by rw[hf,hv];simp,fun _=>by simp⟩
   by_cases h6:m=63
   ·rw[qAb h6]at q;omega
   rw[qAa h6]at q;have ht:t=a:=by omega
   subst ht;obtain⟨ws,w1,w2,w3,_⟩:=ih r2 (by rw[e1]at hr;simp at hr;omega) e4;refine⟨r1.filterMap id::ws,by simp,?_,by rw[hf,w3];rfl,fun x=>absurd x h6⟩;intro u hu;rcases qBc.1 hu with rfl|hu
   ·exact hA
   exact w2 u hu
 have up:∀(ws:List (List Nat)),ws≠[]->(∀u∈ws,A u)->(m=63->ws.length<=1)->Q2j N a ws.flatten (ns.length+1):=by
  intro ws;induction ws with
  |nil=>intro h0;exact absurd rfl h0
  |cons u ws ih =>
   intro _ hA h6;have p1:=ha.2 u (hA u (by simp));cases ws with
   |nil =>
    have p2:Q2j N e [] (ns.length+1):=Q2j.eps ((z14 ge _ _).2 ⟨rfl,by omega,.inl (by omega)⟩);simpa using p1.trans p2
   |cons v ws =>
    have j3:¬m=63:=fun e=>by have:=h6 e;simp at this
    have p2:Q2j N e [] a:=Q2j.eps ((z14 ge _ _).2 ⟨rfl,by omega,.inr (by rw[qAa j3])⟩);have p3:=ih (by simp) (fun x hx=>hA x (qDc _ hx)) (fun e=>absurd e j3);simpa using(p1.trans p2).trans p3
 refine⟨by omega,by omega,by omega,gE,fun x h1 h2 nd hx=>?_,fun w=>?_⟩
 ·rw[hat]at hx;split at hx
  ·have:(⟨false,zero4,(ns.length+1:Int),if m=63 then -1 else a⟩:Q0o)=nd:=by simpa using hx
   subst this;refine⟨.inr ⟨by simp only;omega,by simp only;omega⟩,?_⟩;dsimp only;split
   ·exact .inl rfl
   exact .inr ⟨by omega,by omega⟩
  split at hx
  ·have:(⟨false,zero4,a,if m=43 then -1 else(ns.length+1:Int)⟩:Q0o)=nd:=by simpa using hx
   subst this;refine⟨.inr ⟨by simp only;omega,by simp only;omega⟩,?_⟩;dsimp only;split
   ·exact .inl rfl
   exact .inr ⟨by omega,by omega⟩
  split at hx
  ·have:plainNode=nd:=by simpa using hx
   subst this;exact⟨.inl rfl,.inl rfl⟩
  have:=h.nb x h1 (by omega) nd hx;omega
 constructor
 ·intro hp;obtain⟨y,q,hp2⟩:=Q2j.head gS (by omega) hp;rcases q with q|q
  ·have:y=a:=by omega
   subst this;obtain⟨r,hr,hw⟩:=hp2;obtain⟨ws,w1,w2,w3,w4⟩:=j2 _ r (qR _) hr;exact⟨ws,w2,by rw[← hw,w3],fun _=>w1,w4⟩
  by_cases j1:m=43
  ·rw[qAb j1]at q;omega
  rw[qAa j1]at q;have:y=ns.length+1:=by omega
  subst this;have hv:=(Q2j.stuck (z4q gE) hp2).1;exact⟨[],by simp,by rw[hv];rfl,fun e=>absurd e j1,fun _=>by simp⟩
 rintro⟨ws,w1,rfl,w3,w4⟩;by_cases h0:ws=[]
 ·subst h0;have j1:¬m=43:=fun e=>w3 e rfl;have:=Q2j.eps ((z14 gS none (ns.length+1)).2 ⟨rfl,by omega,.inr (by rw[qAa j1];omega)⟩);simpa using this
 have:=(Q2j.eps ((z14 gS none a).2 ⟨rfl,by omega,.inl rfl⟩)).trans (up ws h0 w1 w4);simpa using this
structure LR where
 next:Int
 ok:Bool
 lang:Q02
def noL:Q02:=fun _=>False
def Q3i(g:Int->LR)(s:ByteArray)(i:Int):LR :=
 if atB s i=40 then g i
 else if(Q2n s i).2.2=false then⟨(Q2n s i).2.1,false,noL⟩
 else⟨(Q2n s i).2.1,true,Q02.byte fun c=>Q5n (Q2n s i).1 c=true⟩
def Q2a(s:ByteArray):Nat->LR->LR
 |0,r=>r
 |f+1,r=>if(r.ok&&Q1q (atB s r.next))=true then Q2a s f ⟨r.next+1,true,Q02.rep (atB s r.next) r.lang⟩ else r
def Q1r(a:Int->LR)(s:ByteArray)(i:Int):LR:=Q2a s (s.size+5) (a i)
def Q5o(r p:LR):LR:=if p.ok then⟨p.next,true,Q02.cat r.lang p.lang⟩ else⟨p.next,false,noL⟩
def Q1m(p:Int->LR)(s:ByteArray):Nat->LR->LR
 |0,r=>r
 |f+1,r=>if(r.ok&&Q2r s r.next)=true then Q1m p s f (Q5o r (p r.next)) else r
def Q0x(p:Int->LR)(s:ByteArray)(i:Int):LR:=Q1m p s (s.size+5) (p i)
def Q1w(r p:LR):LR:=if p.ok then⟨p.next,true,Q02.alt r.lang p.lang⟩ else⟨p.next,false,noL⟩
def Q03(p:Int->LR)(s:ByteArray):Nat->LR->LR
 |0,r=>r
 |f+1,r=>if(r.ok&&(atB s r.next==124))=true then Q03 p s f (Q1w r (p (r.next+1))) else r
def Q20(p:Int->LR)(s:ByteArray)(i:Int):LR:=Q03 p s (s.size+5) (p i)
def Q56(c:Int->LR)(s:ByteArray)(i:Int):LR :=
 if(c (i+1)).ok=false then⟨(c (i+1)).next,false,noL⟩
 else if atB s (c (i+1)).next≠41 then⟨(c (i+1)).next,false,noL⟩
 else⟨(c (i+1)).next+1,true,(c (i+1)).lang⟩
def lgK(s:ByteArray):Nat->Int->LR
 |0=>fun i=>⟨i,false,noL⟩
 |k+1=>Q56 (Q20 (Q0x (Q1r (Q3i (lgK s k) s) s) s) s) s
def Q6q(s:ByteArray)(k:Nat):Int->LR:=Q20 (Q0x (Q1r (Q3i (lgK s k) s) s) s) s
structure Lk(ns:List Q0o)(r:PR)(l:LR):Prop where
 ok:r.ok=l.ok
 next:r.next=l.next
 frg:l.ok=true->ns.length<=r.ns.length/\(∀x,x<ns.length->r.ns[x]? = ns[x]?)/\∃a e:Nat,r.st=a/\r.en=e/\Frg r.ns ns.length r.ns.length a e l.lang
def LkF(f:Int->List Q0o->PR)(l:Int->LR):Prop:=∀i ns,Lk ns (f i ns) (l i)
theorem z9b{g:Int->List Q0o->PR}{l:Int->LR}{s:ByteArray}(h:LkF g l):LkF (Q5p g s) (Q3i l s):=by
 intro i ns;unfold Q5p Q3i;split
 ·exact h i ns
 split
 ·exact⟨rfl,rfl,fun e=>by cases e⟩
 have hl:(Q8o ns (Q2n s i).1).length=ns.length+2:=by simp[Q8o]
 refine⟨rfl,rfl,fun _=>⟨by dsimp only;omega,fun x hx=>?_,ns.length+1,ns.length,by dsimp only;omega,rfl,?_⟩⟩
 ·dsimp only[Q8o];rw[qAh,qAe hx]
 dsimp only;rw[hl];exact Frg.one ns _
theorem y4f(s:ByteArray)(ns:List Q0o):∀(f:Nat) (r:PR) (l:LR),Lk ns r l->Lk ns (Q3o s f r) (Q2a s f l)
 |0,r,l,h=>h
 |f+1,r,l,h=>by
  unfold Q3o Q2a;rw[h.ok,h.next];split
  ·rename_i hc;rw[qAc]at hc;refine y4f s ns f _ _ ⟨rfl,rfl,fun _=>?_⟩;obtain⟨q1,q2,a,e,q3,q4,q5⟩:=h.frg hc.1;have i2:=q5.ie;obtain⟨ln,hat⟩:=y47 (a:=a) (atB s l.next) q5.en;dsimp only;rw[q3,q4];refine⟨by omega,fun x hx=>?_,r.ns.length,r.ns.length+1,rfl,by omega,?_⟩
   ·rw[hat,qAa (by omega),qAa (by omega),qAa (by omega)];exact q2 x hx
   rw[ln];exact q5.rep _
  exact h
theorem z76{f:Int->List Q0o->PR}{l:Int->LR}{s:ByteArray}(h:LkF f l):LkF (Q7n f s) (Q1r l s):=fun i ns=>y4f s ns _ _ _ (h i ns)
theorem x9x{ns:List Q0o}{r p:PR}{l q:LR}(h:Lk ns r l)(hok:l.ok=true)(hp:Lk r.ns p q):Lk ns (Q69 r p) (Q5o l q):=by
 unfold Q69 Q5o;rw[hp.ok];cases hq:q.ok
 ·exact⟨rfl,hp.next,fun e=>by cases e⟩
 obtain⟨q1,q2,a,e,q3,q4,q5⟩:=h.frg hok;obtain⟨p1,p2,b,f,p3,p4,p5⟩:=hp.frg hq;have i2:=q5.ie;simp only[qBb];refine⟨rfl,hp.next,fun _=>?_⟩;dsimp only;rw[q3,q4,p3,p4];have hk:=q5.keep p1 (fun x _ h2=>p2 x h2);rw[z0n];refine⟨by omega,fun x hx=>?_,a,f,rfl,rfl,hk.join p5⟩;rw[z2j _ (by omega),qAa (by omega),p2 x (by omega)];exact q2 x hx
theorem y01{p:Int->List Q0o->PR}{q:Int->LR}{s:ByteArray}(hp:LkF p q)(ns:List Q0o):∀(f:Nat) (r:PR) (l:LR),Lk ns r l->Lk ns (Q2k p s f r) (Q1m q s f l)
 |0,r,l,h=>h
 |f+1,r,l,h=>by
  unfold Q2k Q1m;rw[h.ok,h.next];split
  ·rename_i hc;rw[qAc]at hc;exact y01 hp ns f _ _ (x9x h hc.1 (hp _ _))
  exact h
theorem z9c{f:Int->List Q0o->PR}{l:Int->LR}{s:ByteArray}(h:LkF f l):LkF (Q6c f s) (Q0x l s):=fun i ns=>y01 h ns _ _ _ (h i ns)
theorem x3b{ns:List Q0o}{r p:PR}{l q:LR}(h:Lk ns r l)(hok:l.ok=true)(hp:Lk r.ns p q):Lk ns (Q31 r p) (Q1w l q):=by
 unfold Q31 Q1w;rw[hp.ok];cases hq:q.ok
 ·exact⟨rfl,hp.next,fun e=>by cases e⟩
 obtain⟨q1,q2,a,e,q3,q4,q5⟩:=h.frg hok;obtain⟨p1,p2,b,f,p3,p4,p5⟩:=hp.frg hq;have i2:=q5.ie;have i4:=p5.ie;simp only[qBb];refine⟨rfl,hp.next,fun _=>?_⟩;dsimp only;rw[q3,q4,p3,p4];have hk:=q5.keep p1 (fun x _ h2=>p2 x h2);obtain⟨ln,hat⟩:=y3o (a:=a) (b:=b) hk.en p5.en (by omega);refine⟨by omega,fun x hx=>?_,p.ns.length,p.ns.length+1,rfl,by omega,?_⟩
 ·rw[hat,qAa (by omega),qAa (by omega),qAa (by omega),p2 x (by omega)];exact q2 x hx
 rw[ln];exact hk.either p5
theorem y02{p:Int->List Q0o->PR}{q:Int->LR}{s:ByteArray}(hp:LkF p q)(ns:List Q0o):∀(f:Nat) (r:PR) (l:LR),Lk ns r l->Lk ns (Q2l p s f r) (Q03 q s f l)
 |0,r,l,h=>h
 |f+1,r,l,h=>by
  unfold Q2l Q03;rw[h.ok,h.next];split
  ·rename_i hc;rw[qAc]at hc;exact y02 hp ns f _ _ (x3b h hc.1 (hp _ _))
  exact h
theorem y4e{f:Int->List Q0o->PR}{l:Int->LR}{s:ByteArray}(h:LkF f l):LkF (Q6d f s) (Q20 l s):=fun i ns=>y02 h ns _ _ _ (h i ns)
theorem x6h{f:Int->List Q0o->PR}{l:Int->LR}{s:ByteArray}(h:LkF f l):LkF (Q5s f s) (Q56 l s):=by
 intro i ns;have hh:=h (i+1) ns;unfold Q5s Q56;rw[hh.ok,hh.next];split
 ·exact⟨rfl,rfl,fun e=>by cases e⟩
 rename_i h1;split
 ·exact⟨rfl,rfl,fun e=>by cases e⟩
 exact⟨rfl,rfl,fun _=>hh.frg (by simpa using h1)⟩
theorem x3c(s:ByteArray):∀k,LkF (gK s k) (lgK s k)
 |0=>fun i ns=>⟨rfl,rfl,fun e=>by cases e⟩
 |k+1=>x6h (y4e (z9c (z76 (z9b (x3c s k)))))
theorem y8d(s:ByteArray)(k:Nat):LkF (chK s k) (Q6q s k):=y4e (z9c (z76 (z9b (x3c s k))))
def bytesOf(t:ByteArray):List Nat:=Q10 t 0 t.size
theorem y91{s:ByteArray}{i:Int}(hok:(Q1o s i).ok=true)(d:Wd)(sk:Bool)(t:ByteArray):Q5t ⟨d,sk,(Q1o s i).ns,(Q1o s i).st,(Q1o s i).en,[]⟩ t=true↔(Q6q s 6 i).lang (bytesOf t):=by
 have h:=y8d s 6 i [];obtain⟨_,_,a,e,h3,h4,h5⟩:=h.frg (by rw[← h.ok];exact hok);have h3:(Q1o s i).st=a:=h3;have h4:(Q1o s i).en=e:=h4;have h5:Frg (Q1o s i).ns 0 (Q1o s i).ns.length a e (Q6q s 6 i).lang:=h5;have m:=x3i ⟨d,sk,(Q1o s i).ns,(Q1o s i).st,(Q1o s i).en,[]⟩ t 0 t.size (by omega);rw[qBi,show t.extract 0 t.size=t from by simp]at m;rw[m];dsimp only;rw[h3,h4,x1b h5.ia.2 h5.ie.2 t 0 t.size (by omega)];exact h5.lg _
def Q3a(s:ByteArray)(i:Int)(s':ByteArray)(i':Int)(n:Nat):Prop:=∀j:Nat,j<n->atB s (i+j)=atB s' (i'+j)
theorem Q3a.at0{s s':ByteArray}{i i':Int}{n:Nat}(h:Q3a s i s' i' n)(hn:0<n):atB s' i'=atB s i:=by
 have:=h 0 hn;simpa using this.symm
theorem Q3a.on{s s':ByteArray}{i i':Int}{n:Nat}(h:Q3a s i s' i' n)(k:Nat):Q3a s (i+k) s' (i'+k) (n-k):=fun j hj=>by
 have:=h (k+j) (by omega);rw[show i+(k:Int)+(j:Int)=i+((k+j:Nat):Int) by omega,show i'+(k:Int)+(j:Int)=i'+((k+j:Nat):Int) by omega];exact this
theorem Q3a.less{s s':ByteArray}{i i':Int}{n m:Nat}(h:Q3a s i s' i' n)(hm:m<=n):Q3a s i s' i' m:=fun j hj=>h j (by omega)
theorem Q3a.atK{s s':ByteArray}{i i':Int}{n:Nat}(h:Q3a s i s' i' n){x:Int}(h0:i<=x)(h1:x<i+n):atB s' (x-i+i')=atB s x:=by
 have:=h (x-i).toNat (by omega);rw[show i+((x-i).toNat:Int)=x by omega,show i'+((x-i).toNat:Int)=x-i+i' by omega]at this;exact this.symm
theorem Q3a.tail{s s':ByteArray}{i i':Int}{n:Nat}(h:Q3a s i s' i' n):Q3a s (i+1) s' (i'+1) (n-1):=h.on 1
theorem z3e(s:ByteArray)(i:Int)(f:Nat)(next:Int)(ws:List Int):Q05 s i (f+1) next ws=if next=i∨atB s next≠93 then
   if(Q0m s next).2.2.2=false then(zero4,(Q0m s next).2.2.1,false)
   else Q05 s i f (Q0m s next).2.2.1 (Q19 ws (Q0m s next).1 (Q0m s next).2.1)
  else(ws,next+1,true):=rfl
section
variable {s s':ByteArray}{i i':Int}{n:Nat}
theorem y4q(h:Q3a s i s' i' n)(h0:0<=i)(hok:(Q2g s i).2.2=true)(hn:(Q2g s i).2.1<=i+n):Q2g s' i'=((Q2g s i).1,(Q2g s i).2.1-i+i',true):=by
 have hb:=(z79 s i h0).2.2.2.2 hok;have e:=h.at0 (by omega);unfold Q2g at hok hb ⊢;rw[e];split
 ·simp;omega
 split
 ·simp;omega
 rename_i h1 h2;rw[qAa h1,qAa h2]at hok;split
 ·rename_i h3;rw[qAb h3]at hok;cases hok
 simp;omega
theorem y2h(h:Q3a s i s' i' n)(h0:0<=i)(hok:(Q1p s i).2.2=true)(hn:(Q1p s i).2.1<=i+n):Q1p s' i'=((Q1p s i).1,(Q1p s i).2.1-i+i',true):=by
 have hb:=(z4r s i h0).2.2.2.2 hok;have e:=h.at0 (by omega);unfold Q1p at hok hb hn ⊢;rw[e];split
 ·rename_i h1;rw[qAb h1]at hok hn hb;have:=y4q h.tail (by omega) hok (by omega);rw[this];simp;omega
 rename_i h1;rw[qAa h1]at hok;split
 ·rename_i h2;rw[qAb h2]at hok;cases hok
 rename_i h2;rw[qAa h2]at hok;split
 ·rename_i h3;rw[qAb h3]at hok;cases hok
 simp;omega
theorem x0d(h:Q3a s i s' i' n)(h0:0<=i)(hok:(Q0m s i).2.2.2=true)(hn:(Q0m s i).2.2.1<i+n):Q0m s' i'=((Q0m s i).1,(Q0m s i).2.1,(Q0m s i).2.2.1-i+i',true):=by
 have b1:=z4r s i h0;have b2:=z4r s ((Q1p s i).2.1+1) (by omega);unfold Q0m at hok hn ⊢;by_cases c1:(Q1p s i).2.2=false
 ·rw[qAb c1]at hok;cases hok
 have j0:(Q1p s i).2.2=true:=by simpa using c1
 have b3:=b1.2.2.2.2 j0;rw[qAa c1]at hok hn ⊢;by_cases c2:atB s (Q1p s i).2.1≠45
 ·rw[qAb c2]at hok hn ⊢;have r1:=y2h h h0 j0 (by dsimp only at hn;omega);have a1:=h.atK (x:=(Q1p s i).2.1) (by omega) hn;rw[r1];dsimp only;rw[qAa (by simp),a1,qAb c2]
 rw[qAa c2]at hok hn ⊢;by_cases c3:(Q1p s ((Q1p s i).2.1+1)).2.2=false
 ·rw[qAb c3]at hok;cases hok
 have j1:(Q1p s ((Q1p s i).2.1+1)).2.2=true:=by simpa using c3
 have b4:=b2.2.2.2.2 j1;rw[qAa c3]at hok hn ⊢;by_cases c4:(Q1p s ((Q1p s i).2.1+1)).1<(Q1p s i).1
 ·rw[qAb c4]at hok;cases hok
 rw[qAa c4]at hok hn ⊢;dsimp only at hn ⊢;have r1:=y2h h h0 j0 (by omega);have a1:=h.atK (x:=(Q1p s i).2.1) (by omega) (by omega);have hh:=h.on ((Q1p s i).2.1+1-i).toNat
 rw[show i+(((Q1p s i).2.1+1-i).toNat:Int)=(Q1p s i).2.1+1 by omega,show i'+(((Q1p s i).2.1+1-i).toNat:Int)=(Q1p s i).2.1-i+i'+1 by omega]at hh;have r2:=y2h hh (by omega) j1 (by omega);rw[r1];dsimp only;rw[qAa (by simp),a1,qAa c2,r2];dsimp only;rw[qAa (by simp),qAa c4];simp;omega
theorem y1a(h:Q3a s i s' i' n)(h0:0<=i):∀(f:Nat) (next:Int) (ws:List Int),i<=next->(Q05 s i f next ws).2.2=true->(Q05 s i f next ws).2.1<=i+n ->
  ∀f':Nat,(s'.size:Int)+2<=f'+(next-i+i')->Q05 s' i' f' (next-i+i') ws=((Q05 s i f next ws).1,(Q05 s i f next ws).2.1-i+i',true)/\next<(Q05 s i f next ws).2.1
 |0,next,ws,_,hok,_,_,_=>by cases hok
 |f+1,next,ws,hi,hok,hn,f',hf=>by
  rw[z3e s i f next ws]at hok hn ⊢;by_cases c:next=i∨atB s next≠93
  ·rw[qAb c]at hok hn ⊢;by_cases c1:(Q0m s next).2.2.2=false
   ·rw[qAb c1]at hok;cases hok
   have c1':(Q0m s next).2.2.2=true:=by simpa using c1
   have b:=(z1j s next (by omega)).2.2.2.2.2.2 c1';rw[qAa c1]at hok hn ⊢;have j0:=fun f' hf=>y1a h h0 f (Q0m s next).2.2.1 (Q19 ws (Q0m s next).1 (Q0m s next).2.1) (by omega) hok hn f' hf;have r1:=(j0 (s'.size+2+((Q0m s next).2.2.1-i+i').natAbs) (by omega)).2;have hh:=h.on (next-i).toNat
   rw[show i+((next-i).toNat:Int)=next by omega,show i'+((next-i).toNat:Int)=next-i+i' by omega]at hh;have r2:=x0d hh (by omega) c1' (by omega);have b':=(z1j s' (next-i+i') (by
    by_cases q:0<=next-i+i'
    ·exact q
    exfalso;have a0:=h.atK (x:=next) hi (by omega);have hz:atB s' (next-i+i')=-1:=by unfold atB;rw[qEp (by omega)]
    rw[hz]at a0;have j1:(Q1p s next).2.2=false:=by
     unfold Q1p;rw[← a0];simp[Q4e]
    unfold Q0m at c1';rw[qAb j1]at c1';cases c1')).2.2.2.2.2.2 (by rw[r2])
   rw[r2]at b';dsimp only at b';cases f' with
   |zero=>omega
   |succ f' =>
    rw[z3e s' i' f'];have a1:next-i+i'=i'∨atB s' (next-i+i')≠93:=by
     rcases c with c|c
     ·exact .inl (by omega)
     exact .inr (by rw[h.atK hi (by omega)];exact c)
    rw[qAb a1,r2];dsimp only;rw[qAa (by simp)];have e:(Q0m s next).2.2.1-next+(next-i+i')=(Q0m s next).2.2.1-i+i':=by omega
    rw[e];exact⟨(j0 f' (by omega)).1,by omega⟩
  rw[qAa c]at hok hn ⊢;dsimp only at hn ⊢;have c':¬next=i/\atB s next=93:=by
   by_cases q:next=i
   ·exact absurd (.inl q) c
   exact⟨q,by
    by_cases q2:atB s next=93
    ·exact q2
    exact absurd (.inr q2) c⟩
  have a1:=h.atK hi (x:=next) (by omega);have a2:=z0q (s:=s') (i:=next-i+i') (by rw[a1,c'.2];decide);cases f' with
  |zero=>omega
  |succ f' =>
   rw[z3e s' i' f'];rw[qAa (by rw[a1];intro q;rcases q with q|q;omega;exact q c'.2)];exact⟨by simp;omega,by omega⟩
theorem y4p(h:Q3a s i s' i' n)(h0:0<=i)(h0':0<=i')(hok:(Q29 s i).2.2=true)(hn:(Q29 s i).2.1<=i+n):Q29 s' i'=((Q29 s i).1,(Q29 s i).2.1-i+i',true):=by
 have:=(y1a h h0 (s.size+5) i zero4 (by omega) hok hn (s'.size+5) (by omega)).1;rw[show i-i+i'=i' by omega]at this;exact this
theorem v0j(h:Q3a s i s' i' n)(h0:0<=i)(h0':0<=i')(hs:i<=s.size)(hok:(rBr s i).2.2=true)(hn:(rBr s i).2.1<=i+n):rBr s' i'=((rBr s i).1,(rBr s i).2.1-i+i',true):=by
 have hb:=(x4a s i h0 hs).2.2 hok;have e:=h.at0 (by omega);unfold rBr at hok hn ⊢;rw[e];split
 ·rename_i h1;rw[qAb h1]at hok hn;have:=y4p h.tail (by omega) (by omega) hok (by dsimp only at hn;omega);rw[this];simp;omega
 rename_i h1;rw[qAa h1]at hok hn;exact y4p h h0 h0' hok hn
theorem x7b(h:Q3a s i s' i' n)(h0:0<=i)(h0':0<=i')(hok:(Q2n s i).2.2=true)(hn:(Q2n s i).2.1<=i+n):Q2n s' i'=((Q2n s i).1,(Q2n s i).2.1-i+i',true):=by
 have hb:=(y2j s i h0).2.2 hok;have e:=h.at0 (by omega);unfold Q2n at hok hn hb ⊢;rw[e];by_cases c1:atB s i=46
 ·rw[qAb c1,qAb c1];simp;omega
 rw[qAa c1]at hok hn hb ⊢;rw[qAa c1];by_cases c2:atB s i=91
 ·rw[qAb c2]at hok hn hb ⊢;rw[qAb c2];have:=v0j h.tail (by omega) (by omega) (by omega) hok (by omega);rw[this];simp;omega
 rw[qAa c2]at hok hn hb ⊢;rw[qAa c2];by_cases c3:atB s i=92
 ·rw[qAb c3]at hok hn hb ⊢;rw[qAb c3];have:=y4q h.tail (by omega) hok (by dsimp only at hn;omega);rw[this];simp;omega
 rw[qAa c3]at hok hn hb ⊢;rw[qAa c3];by_cases c4:Q01 (atB s i)=false
 ·rw[qAb c4]at hok;cases hok
 rw[qAa c4,qAa c4];simp;omega
end
def Q97(c:Int):Bool:=c==40||c==46||c==91||c==92||Q01 c
theorem z2d(s:ByteArray)(i:Int):Q2r s i=Q97 (atB s i):=rfl
def Q76(c:Int):Bool:=!Q1q c&&!Q97 c&&c != 124
theorem x0s{c:Int}(h:Q76 c=true):Q1q c=false:=by
 unfold Q76 at h;cases h1:Q1q c
 ·rfl
 rw[h1]at h;simp at h
theorem x40{c:Int}(h:Q76 c=true):Q97 c=false:=by
 unfold Q76 at h;cases h1:Q97 c
 ·rfl
 rw[h1]at h;simp at h
theorem x4z{c:Int}(h:Q76 c=true):c≠124:=by
 unfold Q76 at h;intro e;rw[e]at h;simp at h
theorem z9g{c:Int}(h:Q1q c=true):c≠-1:=by intro e;rw[e]at h;revert h;decide
theorem y3h{c:Int}(h:Q97 c=true):c≠-1:=by intro e;rw[e]at h;revert h;decide
def Q3t(s:ByteArray)(l:Int->LR):Prop:=∀i:Int,0<=i->i<=s.size->(l i).ok=true->i<(l i).next/\(l i).next<=s.size
theorem z75{s:ByteArray}{f:Int->List Q0o->PR}{l:Int->LR}(h:Q5l s f)(k:LkF f l):Q3t s l:=fun i h0 h1 hok=>by
 have h2:=(h i [] h0 h1).good (by rw[(k i []).ok];exact hok);rw[(k i []).next]at h2;exact h2
theorem z2r(s:ByteArray)(k:Nat):Q3t s (Q3i (lgK s k) s):=z75 (z3h (z6y s k)) (z9b (x3c s k))
theorem z6c(s:ByteArray)(k:Nat):Q3t s (Q1r (Q3i (lgK s k) s) s):=z75 (z35 (z3h (z6y s k))) (z76 (z9b (x3c s k)))
theorem y39(s:ByteArray)(k:Nat):Q3t s (Q0x (Q1r (Q3i (lgK s k) s) s) s):=z75 (z4j (z35 (z3h (z6y s k)))) (z9c (z76 (z9b (x3c s k))))
theorem y4a(s:ByteArray)(k:Nat):Q3t s (Q6q s k):=z75 (z5e s k) (y8d s k)
structure Same(r r':LR)(i i':Int):Prop where
 ok:r'.ok=true
 next:r'.next=r.next-i+i'
 lang:r'.lang=r.lang
def LocG(s s':ByteArray)(l l':Int->LR):Prop:=∀(i i':Int) (n:Nat),0<=i->0<=i'->atB s i=40->Q3a s i s' i' n->(l i).ok=true->(l i).next<=i+n->Same (l i) (l' i') i i'
def LocA(s s':ByteArray)(l l':Int->LR):Prop:=∀(i i':Int) (n:Nat),0<=i->i<=s.size->0<=i'->Q3a s i s' i' n->(l i).ok=true->(l i).next<=i+n->Same (l i) (l' i') i i'
def Loc(s s':ByteArray)(l l':Int->LR):Prop:=∀(i i':Int) (n:Nat),0<=i->i<=s.size->0<=i'->Q3a s i s' i' n->Q76 (atB s' (i'+n))=true->(l i).ok=true->(l i).next<=i+n->Same (l i) (l' i') i i'
theorem z37(s:ByteArray)(f:Nat)(r:LR):Q2a s (f+1) r=if(r.ok&&Q1q (atB s r.next))=true then Q2a s f ⟨r.next+1,true,Q02.rep (atB s r.next) r.lang⟩ else r:=rfl
theorem z2f(p:Int->LR)(s:ByteArray)(f:Nat)(r:LR):Q1m p s (f+1) r=if(r.ok&&Q2r s r.next)=true then Q1m p s f (Q5o r (p r.next)) else r:=rfl
theorem z2q(p:Int->LR)(s:ByteArray)(f:Nat)(r:LR):Q03 p s (f+1) r=if(r.ok&&(atB s r.next==124))=true then Q03 p s f (Q1w r (p (r.next+1))) else r:=rfl
section
variable {s s':ByteArray}
theorem z77{g g':Int->LR}(hg:LocG s s' g g')(hgd:Q3t s (Q3i g s)):LocA s s' (Q3i g s) (Q3i g' s'):=by
 intro i i' n h0 h1 h0' h hok hn;have hgd:=hgd i h0 h1 hok;have e:=h.at0 (by omega);unfold Q3i at hok hn ⊢;rw[e];by_cases c:atB s i=40
 ·rw[qAb c]at hok hn ⊢;rw[qAb c];exact hg i i' n h0 h0' c h hok hn
 rw[qAa c]at hok hn ⊢;rw[qAa c];by_cases c2:(Q2n s i).2.2=false
 ·rw[qAb c2]at hok;cases hok
 rw[qAa c2]at hok hn ⊢;have r:=x7b h h0 h0' (by simpa using c2) hn;rw[r];rw[qAa (by simp)];exact⟨rfl,rfl,rfl⟩
theorem y05{i i':Int}{n:Nat}(h:Q3a s i s' i' n)(hst:Q76 (atB s' (i'+n))=true):∀(f:Nat) (x:Int) (L:Q02),i<=x->x<=s.size->(s.size:Int)+2<=f+x->(Q2a s f ⟨x,true,L⟩).next<=i+n->∀f':Nat,(s'.size:Int)+2<=f'+(x-i+i') ->
  Same (Q2a s f ⟨x,true,L⟩) (Q2a s' f' ⟨x-i+i',true,L⟩) i i'/\x<=(Q2a s f ⟨x,true,L⟩).next/\(Q2a s f ⟨x,true,L⟩).ok=true
 |0,x,L,_,hx,hf,_,_,_=>by omega
 |f+1,x,L,hi,hx,hf,hn,f',hf'=>by
  rw[z37 s f ⟨x,true,L⟩]at hn ⊢;dsimp only at hn ⊢;rw[qBa]at hn ⊢;by_cases c:Q1q (atB s x)=true
  ·rw[qAb c]at hn ⊢;have hx2:=z0q (s:=s) (i:=x) (z9g c);have j1:=fun f' hf'=>y05 h hst f (x+1) (Q02.rep (atB s x) L) (by omega) (by omega) (by omega) hn f' hf';have r1:=(j1 (s'.size+2+(x+1-i+i').natAbs) (by omega)).2;have a1:=h.atK hi (x:=x) (by omega);have a2:=z0q (s:=s') (i:=x-i+i') (by rw[a1];exact z9g c);cases f' with
   |zero=>omega
   |succ f' =>
    have j0:(true&&Q1q (atB s' (x-i+i')))=true:=by rw[a1];simpa using c
    rw[z37 s' f'];dsimp only;rw[qAb j0,a1,show x-i+i'+1=x+1-i+i' by omega];exact⟨(j1 f' (by omega)).1,by omega,r1.2⟩
  rw[qAa c]at hn ⊢;dsimp only at hn ⊢;have a1:Q1q (atB s' (x-i+i'))=false:=by
   by_cases q:x<i+n
   ·rw[h.atK hi q];simpa using c
   rw[show x-i+i'=i'+n by omega];exact x0s hst
  cases f' with
  |zero=>exact⟨⟨rfl,rfl,rfl⟩,by omega,rfl⟩
  |succ f' =>
   have j0:¬(true&&Q1q (atB s' (x-i+i')))=true:=by rw[a1];simp
   rw[z37 s' f'];dsimp only;rw[qAa j0];exact⟨⟨rfl,rfl,rfl⟩,by omega,rfl⟩
theorem z87(s:ByteArray):∀(f:Nat) (r:LR),r.ok=false->Q2a s f r=r
 |0,r,_=>rfl
 |f+1,r,h=>by unfold Q2a;rw[h];rfl
theorem z2k{r:LR}(h:r.ok=true):r=⟨r.next,true,r.lang⟩:=by obtain⟨a,b,c⟩:=r;dsimp only at h ⊢;rw[h]
theorem z9f{a a':Int->LR}(ha:LocA s s' a a')(hg:Q3t s a):Loc s s' (Q1r a s) (Q1r a' s'):=by
 intro i i' n h0 h1 h0' h hst hok hn;unfold Q1r at hok hn ⊢;have j0:(a i).ok=true:=by
  cases e:(a i).ok
  ·rw[z87 s _ _ e,e]at hok;cases hok
  rfl
 have g:=hg i h0 h1 j0;rw[z2k j0]at hn ⊢;have j1:=fun f' hf'=>y05 h hst (s.size+5) (a i).next (a i).lang (by omega) (by omega) (by omega) hn f' hf';have k1:=(j1 (s'.size+2+((a i).next-i+i').natAbs) (by omega)).2.1;have sm:=ha i i' n h0 h1 h0' h j0 (by omega);rw[z2k sm.ok,sm.next,sm.lang];exact(j1 (s'.size+5) (by omega)).1
theorem z1w(p:Int->LR)(s:ByteArray):∀(f:Nat) (r:LR),r.ok=false->Q1m p s f r=r
 |0,r,_=>rfl
 |f+1,r,h=>by unfold Q1m;rw[h];rfl
theorem z1x(p:Int->LR)(s:ByteArray):∀(f:Nat) (r:LR),r.ok=false->Q03 p s f r=r
 |0,r,_=>rfl
 |f+1,r,h=>by unfold Q03;rw[h];rfl
theorem z9d{p p':Int->LR}(hp:Loc s s' p p')(hg:Q3t s p){i i':Int}{n:Nat}(h0:0<=i)(h0':0<=i')(h:Q3a s i s' i' n)(hst:Q76 (atB s' (i'+n))=true):∀(f:Nat) (x:Int) (L:Q02),i<=x->x<=s.size->(s.size:Int)+2<=f+x->(Q1m p s f ⟨x,true,L⟩).ok=true->(Q1m p s f ⟨x,true,L⟩).next<=i+n->∀f':Nat,(s'.size:Int)+2<=f'+(x-i+i') ->
  Same (Q1m p s f ⟨x,true,L⟩) (Q1m p' s' f' ⟨x-i+i',true,L⟩) i i'/\x<=(Q1m p s f ⟨x,true,L⟩).next
 |0,x,L,_,hx,hf,_,_,_,_=>by omega
 |f+1,x,L,hi,hx,hf,hok,hn,f',hf'=>by
  rw[z2f p s f ⟨x,true,L⟩]at hok hn ⊢;dsimp only at hok hn ⊢;rw[qBa]at hok hn ⊢;by_cases c:Q2r s x=true
  ·rw[qAb c]at hok hn ⊢;have hx2:=z0q (s:=s) (i:=x) (y3h c);have j1:(p x).ok=true:=by
    cases e:(p x).ok
    ·have:(Q5o ⟨x,true,L⟩ (p x)).ok=false:=by unfold Q5o;rw[e];rfl
     rw[z1w p s f _ this,this]at hok;cases hok
    rfl
   have ej:Q5o ⟨x,true,L⟩ (p x)=⟨(p x).next,true,Q02.cat L (p x).lang⟩:=by unfold Q5o;rw[qAb j1]
   rw[ej]at hok hn ⊢;have g:=hg x (by omega) (by omega) j1;have j2:=fun f' hf'=>z9d hp hg h0 h0' h hst f (p x).next (Q02.cat L (p x).lang) (by omega) (by omega) (by omega) hok hn f' hf';have r1:=(j2 (s'.size+2+((p x).next-i+i').natAbs) (by omega)).2;have a1:=h.atK hi (x:=x) (by omega);have a2:=z0q (s:=s') (i:=x-i+i') (by rw[a1];exact y3h c);have hh:=h.on (x-i).toNat
   rw[show i+((x-i).toNat:Int)=x by omega,show i'+((x-i).toNat:Int)=x-i+i' by omega]at hh;have sm:=hp x (x-i+i') (n-(x-i).toNat) (by omega) hx (by omega) hh (by rw[show x-i+i'+((n-(x-i).toNat:Nat):Int)=i'+n by omega];exact hst) j1 (by omega);cases f' with
   |zero=>omega
   |succ f' =>
    have j0:(true&&Q2r s' (x-i+i'))=true:=by rw[z2d,a1,← z2d,c];rfl
    have j3:Q5o ⟨x-i+i',true,L⟩ (p' (x-i+i'))=⟨(p x).next-i+i',true,Q02.cat L (p x).lang⟩:=by
     unfold Q5o;rw[qAb sm.ok,sm.next,sm.lang,show(p x).next-x+(x-i+i')=(p x).next-i+i' by omega]
    rw[z2f p' s' f'];dsimp only;rw[qAb j0,j3];exact⟨(j2 f' (by omega)).1,by omega⟩
  rw[qAa c]at hok hn ⊢;dsimp only at hn ⊢;have a1:Q2r s' (x-i+i')=false:=by
   rw[z2d];by_cases q:x<i+n
   ·rw[h.atK hi q];simpa [z2d]using c
   rw[show x-i+i'=i'+n by omega];exact x40 hst
  cases f' with
  |zero=>exact⟨⟨rfl,rfl,rfl⟩,by omega⟩
  |succ f' =>
   have j0:¬(true&&Q2r s' (x-i+i'))=true:=by rw[a1];simp
   rw[z2f p' s' f'];dsimp only;rw[qAa j0];exact⟨⟨rfl,rfl,rfl⟩,by omega⟩
theorem y03{p p':Int->LR}(hp:Loc s s' p p')(hg:Q3t s p):Loc s s' (Q0x p s) (Q0x p' s'):=by
 intro i i' n h0 h1 h0' h hst hok hn;unfold Q0x at hok hn ⊢;have j0:(p i).ok=true:=by
  cases e:(p i).ok
  ·rw[z1w p s _ _ e,e]at hok;cases hok
  rfl
 have g:=hg i h0 h1 j0;rw[z2k j0]at hok hn ⊢;have j1:=fun f' hf'=>z9d hp hg h0 h0' h hst (s.size+5) (p i).next (p i).lang (by omega) (by omega) (by omega) hok hn f' hf';have k1:=(j1 (s'.size+2+((p i).next-i+i').natAbs) (by omega)).2;have sm:=hp i i' n h0 h1 h0' h hst j0 (by omega);rw[z2k sm.ok,sm.next,sm.lang];exact(j1 (s'.size+5) (by omega)).1
theorem z9e{p p':Int->LR}(hp:Loc s s' p p')(hg:Q3t s p){i i':Int}{n:Nat}(h0:0<=i)(h0':0<=i')(h:Q3a s i s' i' n)(hst:Q76 (atB s' (i'+n))=true):∀(f:Nat) (x:Int) (L:Q02),i<=x->x<=s.size->(s.size:Int)+2<=f+x->(Q03 p s f ⟨x,true,L⟩).ok=true->(Q03 p s f ⟨x,true,L⟩).next<=i+n->∀f':Nat,(s'.size:Int)+2<=f'+(x-i+i') ->
  Same (Q03 p s f ⟨x,true,L⟩) (Q03 p' s' f' ⟨x-i+i',true,L⟩) i i'/\x<=(Q03 p s f ⟨x,true,L⟩).next
 |0,x,L,_,hx,hf,_,_,_,_=>by omega
 |f+1,x,L,hi,hx,hf,hok,hn,f',hf'=>by
  rw[z2q p s f ⟨x,true,L⟩]at hok hn ⊢;dsimp only at hok hn ⊢;rw[qBa]at hok hn ⊢;by_cases c:(atB s x==124)=true
  ·rw[qAb c]at hok hn ⊢;have c':atB s x=124:=by simpa using c
   have j4:=z0q (s:=s) (i:=x) (by omega);have j1:(p (x+1)).ok=true:=by
    cases e:(p (x+1)).ok
    ·have:(Q1w ⟨x,true,L⟩ (p (x+1))).ok=false:=by unfold Q1w;rw[e];rfl
     rw[z1x p s f _ this,this]at hok;cases hok
    rfl
   have ej:Q1w ⟨x,true,L⟩ (p (x+1))=⟨(p (x+1)).next,true,Q02.alt L (p (x+1)).lang⟩:=by unfold Q1w;rw[qAb j1]
   rw[ej]at hok hn ⊢;have g:=hg (x+1) (by omega) (by omega) j1;have j2:=fun f' hf'=>z9e hp hg h0 h0' h hst f (p (x+1)).next (Q02.alt L (p (x+1)).lang) (by omega) (by omega) (by omega) hok hn f' hf';have r1:=(j2 (s'.size+2+((p (x+1)).next-i+i').natAbs) (by omega)).2;have a1:=h.atK hi (x:=x) (by omega);have a2:=z0q (s:=s') (i:=x-i+i') (by rw[a1];omega);have hh:=h.on (x+1-i).toNat
   rw[show i+((x+1-i).toNat:Int)=x+1 by omega,show i'+((x+1-i).toNat:Int)=x-i+i'+1 by omega]at hh;have sm:=hp (x+1) (x-i+i'+1) (n-(x+1-i).toNat) (by omega) (by omega) (by omega) hh (by rw[show x-i+i'+1+((n-(x+1-i).toNat:Nat):Int)=i'+n by omega];exact hst) j1 (by omega);cases f' with
   |zero=>omega
   |succ f' =>
    have j0:(true&&(atB s' (x-i+i')==124))=true:=by rw[a1];simpa using c
    have j3:Q1w ⟨x-i+i',true,L⟩ (p' (x-i+i'+1))=⟨(p (x+1)).next-i+i',true,Q02.alt L (p (x+1)).lang⟩:=by
     unfold Q1w;rw[qAb sm.ok,sm.next,sm.lang,show(p (x+1)).next-(x+1)+(x-i+i'+1)=(p (x+1)).next-i+i' by omega]
    rw[z2q p' s' f'];dsimp only;rw[qAb j0,j3];exact⟨(j2 f' (by omega)).1,by omega⟩
  rw[qAa c]at hok hn ⊢;dsimp only at hn ⊢;have a1:(atB s' (x-i+i')==124)=false:=by
   by_cases q:x<i+n
   ·rw[h.atK hi q];simpa using c
   rw[show x-i+i'=i'+n by omega];simpa using x4z hst
  cases f' with
  |zero=>exact⟨⟨rfl,rfl,rfl⟩,by omega⟩
  |succ f' =>
   have j0:¬(true&&(atB s' (x-i+i')==124))=true:=by rw[a1];simp
   rw[z2q p' s' f'];dsimp only;rw[qAa j0];exact⟨⟨rfl,rfl,rfl⟩,by omega⟩
theorem y04{p p':Int->LR}(hp:Loc s s' p p')(hg:Q3t s p):Loc s s' (Q20 p s) (Q20 p' s'):=by
 intro i i' n h0 h1 h0' h hst hok hn;unfold Q20 at hok hn ⊢;have j0:(p i).ok=true:=by
  cases e:(p i).ok
  ·rw[z1x p s _ _ e,e]at hok;cases hok
  rfl
 have g:=hg i h0 h1 j0;rw[z2k j0]at hok hn ⊢;have j1:=fun f' hf'=>z9e hp hg h0 h0' h hst (s.size+5) (p i).next (p i).lang (by omega) (by omega) (by omega) hok hn f' hf';have k1:=(j1 (s'.size+2+((p i).next-i+i').natAbs) (by omega)).2;have sm:=hp i i' n h0 h1 h0' h hst j0 (by omega);rw[z2k sm.ok,sm.next,sm.lang];exact(j1 (s'.size+5) (by omega)).1
theorem x3d{c c':Int->LR}(hc:Loc s s' c c')(hg:Q3t s c):LocG s s' (Q56 c s) (Q56 c' s'):=by
 intro i i' n h0 h0' h40 h hok hn;have hi:=z0q (s:=s) (i:=i) (by omega);unfold Q56 at hok hn ⊢;by_cases c1:(c (i+1)).ok=false
 ·rw[qAb c1]at hok;cases hok
 have j0:(c (i+1)).ok=true:=by simpa using c1
 rw[qAa c1]at hok hn ⊢;by_cases c2:atB s (c (i+1)).next≠41
 ·rw[qAb c2]at hok;cases hok
 rw[qAa c2]at hok hn ⊢;dsimp only at hn ⊢;have j1:atB s (c (i+1)).next=41:=by
  by_cases q:atB s (c (i+1)).next=41
  ·exact q
  exact absurd q c2
 have g:=hg (i+1) (by omega) (by omega) j0;have a1:=h.atK (x:=(c (i+1)).next) (by omega) (by omega);have hh:=h.tail.less (m:=((c (i+1)).next-(i+1)).toNat) (by omega);have sm:=hc (i+1) (i'+1) _ (by omega) (by omega) (by omega) hh (by
  rw[show i'+1+(((c (i+1)).next-(i+1)).toNat:Int)=(c (i+1)).next-i+i' by omega,a1,j1];decide) j0 (by omega)
 have e3:(c' (i'+1)).next=(c (i+1)).next-i+i':=by rw[sm.next];omega
 rw[qAa (by rw[sm.ok];simp),e3,a1,qAa c2];exact⟨rfl,by dsimp only;omega,sm.lang⟩
end
theorem y8e(s s':ByteArray):∀k k':Nat,k<=k'->LocG s s' (lgK s k) (lgK s' k')
 |0,_,_=>fun i i' n _ _ _ _ hok _=>by cases hok
 |k+1,0,h=>by omega
 |k+1,k'+1,h=>x3d (y04 (y03 (z9f (z77 (y8e s s' k k' (by omega)) (z2r s k)) (z2r s k)) (z6c s k)) (y39 s k)) (y4a s k)
theorem y16(s s':ByteArray){k k':Nat}(h:k<=k'):Loc s s' (Q6q s k) (Q6q s' k'):=y04 (y03 (z9f (z77 (y8e s s' k k' h) (z2r s k)) (z2r s k)) (z6c s k)) (y39 s k)
section
variable {s:ByteArray}{a p:Int->LR}{i:Int}
theorem y52{g:Int->LR}(h:(Q3i g s i).ok=true):Q97 (atB s i)=true:=by
 unfold Q3i at h;by_cases c:atB s i=40
 ·rw[c];decide
 rw[qAa c]at h;by_cases c2:(Q2n s i).2.2=false
 ·rw[qAb c2]at h;cases h
 unfold Q2n at c2;by_cases d1:atB s i=46
 ·rw[d1];decide
 rw[qAa d1]at c2;by_cases d2:atB s i=91
 ·rw[d2];decide
 rw[qAa d2]at c2;by_cases d3:atB s i=92
 ·rw[d3];decide
 rw[qAa d3]at c2;by_cases d4:Q01 (atB s i)=false
 ·rw[qAb d4]at c2;exact absurd rfl c2
 unfold Q97;have:Q01 (atB s i)=true:=by simpa using d4
 rw[this];simp
theorem y2d(h:(Q1r a s i).ok=true):(a i).ok=true:=by
 cases e:(a i).ok
 ·unfold Q1r at h;rw[z87 s _ _ e,e]at h;cases h
 rfl
theorem x1i(h:(Q0x p s i).ok=true):(p i).ok=true:=by
 cases e:(p i).ok
 ·unfold Q0x at h;rw[z1w p s _ _ e,e]at h;cases h
 rfl
theorem x1m(h:(Q20 p s i).ok=true):(p i).ok=true:=by
 cases e:(p i).ok
 ·unfold Q20 at h;rw[z1x p s _ _ e,e]at h;cases h
 rfl
theorem z8n:∀(f:Nat) (x:Int) (b:Bool) (L L':Q02),(Q03 p s f ⟨x,b,L⟩).next=(Q03 p s f ⟨x,b,L'⟩).next/\(Q03 p s f ⟨x,b,L⟩).ok=(Q03 p s f ⟨x,b,L'⟩).ok
 |0,x,b,L,L'=>⟨rfl,rfl⟩
 |f+1,x,b,L,L'=>by
  unfold Q03;dsimp only;by_cases c:(b&&(atB s x==124))=true
  ·rw[qAb c,qAb c];cases e:(p (x+1)).ok
   ·have q1:∀L,(Q1w ⟨x,b,L⟩ (p (x+1)))=⟨(p (x+1)).next,false,noL⟩:=fun L=>by unfold Q1w;rw[e];rfl
    rw[q1,q1];exact⟨rfl,rfl⟩
   have q1:∀L,(Q1w ⟨x,b,L⟩ (p (x+1)))=⟨(p (x+1)).next,true,Q02.alt L (p (x+1)).lang⟩:=fun L=>by unfold Q1w;rw[qAb e]
   rw[q1,q1];exact z8n f _ _ _ _
  rw[qAa c,qAa c];exact⟨rfl,rfl⟩
end
def pre4:ByteArray:=⟨#[97,61,120,40]⟩
def post5:ByteArray:=⟨#[41,10,83,58,10]⟩
def specX(b:ByteArray):ByteArray:=pre4++b++post5
section
variable (b:ByteArray)
end
theorem v0m{s:ByteArray}{i:Int}(h:(Q1o s i).ok=true):(Q6q s 6 i).ok=true/\(Q1o s i).next=(Q6q s 6 i).next:=by
 have hk:=y8d s 6 i [];exact⟨by rw[← h];exact hk.ok.symm,hk.next⟩
section
variable {b p q:ByteArray}{L M:Q02}
end
end Go.Proofs.YtcpceafmlgaodaaGreat
