import Derived.Test.YtbdpfmalabgmbaaGreatCk7
namespace Go.Proofs.YtbdpfmalabgmbaaGreat
open Go.RowKit
set_option linter.all false
def PN(s:ByteArray):Nat->List Wd->List ByteArray->Nat->Prop
 |p,[],[],q=>p=q
 |p,d::ds,n::ns,q=>atB s p=32/\∃m,WordAt s ((p+1:Nat):Int) m d/\p+1+m<=s.size/\n=s.extract (p+1) (p+1+m)/\PN s (p+1+m) ds ns q
 |_,[],_::_,_=>False
 |_,_::_,[],_=>False
theorem PN.nil{s:ByteArray}(p:Nat):PN s p [] [] p:=rfl
theorem PN.cons{s:ByteArray}{p m q:Nat}{d:Wd}{ds:List Wd}{ns:List ByteArray}(h32:atB s p=32)(hw:WordAt s ((p+1:Nat):Int) m d)(hle:p+1+m<=s.size)(h:PN s (p+1+m) ds ns q) :
  PN s p (d::ds) (s.extract (p+1) (p+1+m)::ns) q:=⟨h32,m,hw,hle,rfl,h⟩
theorem PN.ind{s:ByteArray}{q:Nat}{M:Nat->List Wd->List ByteArray->Prop}(hn:M q [] [])
  (hc:∀(p m:Nat) (d:Wd) (ds:List Wd) (ns:List ByteArray),atB s p=32->WordAt s ((p+1:Nat):Int) m d->p+1+m<=s.size->PN s (p+1+m) ds ns q->M (p+1+m) ds ns->M p (d::ds) (s.extract (p+1) (p+1+m)::ns)) :
  ∀(ds:List Wd) (p:Nat) (ns:List ByteArray),PN s p ds ns q->M p ds ns
 | [],p,[],h=>by
  have:p=q:=h;subst this;exact hn
 | [],p,n::ns,h=>False.elim h
 |d::ds,p,[],h=>False.elim h
 |d::ds,p,n::ns,h=>by
  obtain⟨j0,m,hw,j1,rfl,h2⟩:=h;exact hc p m d ds ns j0 hw j1 h2 (PN.ind hn hc ds _ ns h2)
theorem PN.next{s:ByteArray}{p q:Nat}:∀{ds:List Wd}{ns:List ByteArray},PN s p ds ns q->p=q∨atB s p=32
 | [],[],h=>.inl h
 | [],_::_,h=>False.elim h
 |_::_,[],h=>False.elim h
 |_::_,_::_,h=>.inr h.1
theorem PN.le{s:ByteArray}{p q:Nat}{ds:List Wd}{ns:List ByteArray}(h:PN s p ds ns q):p<=q:=by
 refine PN.ind (M:=fun p _ _=>p<=q) (qR _) ?_ ds p ns h;intro p m d ds ns _ _ _ _ ih;omega
theorem PN.clean{s:ByteArray}{p q:Nat}{ds:List Wd}{ns:List ByteArray}(h:PN s p ds ns q):Q1j s p q:=by
 refine PN.ind (M:=fun(p:Nat) _ _=>Q1j s p q) Q1j.nil ?_ ds p ns h;intro p m d ds ns j0 hw j1 h ih;refine Q1j.trans (j:=(p:Int)+1) (Q1j.one (by omega)) (Q1j.trans (j:=((p+1+m:Nat):Int)) ?_ ih);intro k h1 h2;have:=hw.byte (k-((p:Int)+1)).toNat (by omega);have e:(((p+1:Nat):Int)+((k-((p:Int)+1)).toNat:Int))=k:=by omega
 rw[e]at this;omega
theorem z8q{s:ByteArray}{i:Int}(h:0<=atB s i):0<=i/\i<s.size:=by
 unfold atB at h;split at h
 ·rename_i h1;omega
 omega
theorem WordAt.in'{s:ByteArray}{i:Int}{m:Nat}{d:Wd}(h:WordAt s i m d):0<=i/\i+m<=s.size:=by
 have h1:=h.byte 0 (by have:=h.pos;omega);have h2:=h.byte (m-1) (by have:=h.pos;omega);have h3:=z8q (s:=s) (i:=i+((0:Nat):Int)) (by omega);have h4:=z8q (s:=s) (i:=i+((m-1:Nat):Int)) (by omega);have:=h.pos;omega
theorem z92(s:ByteArray)(d:Wd):∀(f:Nat) (next:Nat) (syms:List Wd),(Q20 s d f next syms).2.2=true ->
  ∃ds ns q,PN s next ds ns q/\atB s (q:Nat)=10/\Q20 s d f next syms=(⟨d,false,[],0,0,syms++ds⟩,((q+1:Nat):Int),true)
 |0,next,syms,h=>by simp[Q20]at h
 |f+1,next,syms,h=>by
  unfold Q20 at h ⊢;by_cases h32:atB s next=32
  ·rw[qAb h32]at h ⊢;cases hw:(Q07 s (next+1)).2.2
   ·rw[qAb hw]at h;cases h
   rw[qAa (by simp[hw])]at h ⊢;obtain⟨m,hwd,hnx⟩:=z8k s (next+1) hw;have j1:=hwd.in';have e:(Q07 s (next+1)).2.1=((next+1+m:Nat):Int):=by rw[hnx];omega
   rw[e]at h ⊢;obtain⟨ds,ns,q,h1,h2,h3⟩:=z92 s d f _ _ h;refine⟨(Q07 s (next+1)).1::ds,_,q,PN.cons h32 (by simpa using hwd) (by omega) h1,h2,?_⟩;rw[h3];simp
  rw[qAa h32]at h ⊢;by_cases j0:atB s next=10
  ·rw[qAa (by simpa using j0)];exact⟨[],[],next,PN.nil _,j0,by simp⟩
  rw[qAb j0]at h;cases h
theorem x8j(s:ByteArray)(a e:Nat)(he:e<=s.size):∀{p q:Nat}{ds:List Wd}{ns:List ByteArray},PN s p ds ns q->q=e->a<=p->∀(f:Nat) (acc:List ByteArray),e+1<=f+p ->
  Q7l (s.extract a e) f (if p<e then p+1-a else p-a) acc=acc++ns:=by
 intro p q ds ns h hq;have j0:(s.extract a e).size=e-a:=by rw[qBl];omega
 refine PN.ind (M:=fun p _ ns=>a<=p->∀(f:Nat) (acc:List ByteArray),e+1<=f+p->Q7l (s.extract a e) f (if p<e then p+1-a else p-a) acc=acc++ns) ?_ ?_ ds p ns h
 ·intro ha f acc hf;rw[qAa (by omega)];cases f with
  |zero=>simp[Q7l]
  |succ f=>unfold Q7l;rw[qAa (by omega)];simp
 intro p m d ds ns j3 hw j4 h ih ha f acc hf;have j5:=h.le;have hm:=hw.pos;rw[qAb (by omega)];obtain⟨f,rfl⟩:∃g,f=g+1:=⟨f-1,by omega⟩;unfold Q7l;have hx:(s.extract a e).extract (p+1-a) (s.extract a e).size=s.extract (p+1) e:=by
  rw[j0];apply qFi;simp only[qEg,qEz];have:s.size=s.data.size:=rfl;congr 1<;>omega
 have j2:Q4d (s.extract (p+1) e) 32 32=m:=by
  refine z7j s (p+1) e m 32 32 he (by omega) ?_ ?_
  ·intro k hk;have:=hw.byte k hk;exact⟨by omega,by omega⟩
  rcases h.next with h9|h9
  ·left;omega
  right;left;rw[← h9];congr 1
 rw[hx,j2,qAb (show p+1-a<(s.extract a e).size by omega),qAb (show 0<m by omega)];have j1:(s.extract a e).extract (p+1-a) (p+1-a+m)=s.extract (p+1) (p+1+m):=by
  apply qFi;simp only[qEg,qEz];have:s.size=s.data.size:=rfl;congr 1<;>omega
 rw[j1];have:=ih (by omega) f (acc++[s.extract (p+1) (p+1+m)]) (by omega);have e2:(if p+1-a+m<(s.extract a e).size then p+1-a+m+1 else p+1-a+m)=(if p+1+m<e then p+1+m+1-a else p+1+m-a):=by
  rw[j0];by_cases hh:p+1+m<e
  ·rw[qAb (by omega),qAb hh];omega
  rw[qAa (by omega),qAa hh];omega
 rw[e2,this];simp
theorem WordAt.clean{s:ByteArray}{i:Int}{m:Nat}{d:Wd}(h:WordAt s i m d):Q1j s i (i+m):=by
 intro k h1 h2;have:=h.byte (k-i).toNat (by omega);have e:i+((k-i).toNat:Int)=k:=by omega
 rw[e]at this;omega
theorem WordAt.head{s:ByteArray}{i:Int}{m:Nat}{d:Wd}(h:WordAt s i m d):Q16 d=Q1a (atB s i):=by
 unfold Q16;rw[h.ls];have:=h.pos;simp[List.range,List.range.loop,show 0<m by omega]
structure RuleAt(s:ByteArray)(i:Nat)(x:Ln)(e m:Nat):Prop where
 hw:WordAt s i m x.front
 hs:Q0m (atB s i)=true
 hr:Q0x x=true
 hle:i+m<e
 hc:Q1j s i e
 hm:atB s ((i:Int)+m)=61∨atB s ((i:Int)+m)=126
 hk:x.skip=(atB s ((i:Int)+m)==126)
 hsy:x.syms=[]
structure ProdAt(s:ByteArray)(i:Nat)(x:Ln)(e m:Nat)(ns:List ByteArray):Prop where
 hw:WordAt s i m x.front
 hs:Q1a (atB s i)=true
 hr:Q0x x=false
 hc:Q1j s i e
 hm:atB s ((i:Int)+m)=58
 hp:PN s (i+m+1) x.syms ns e
def Q87(s:ByteArray)(i:Nat)(x:Ln)(e:Nat):Prop:=(∃m,RuleAt s i x e m)∨(∃m ns,ProdAt s i x e m ns)
theorem Q87.clean{s:ByteArray}{i e:Nat}{x:Ln}(h:Q87 s i x e):Q1j s i e:=by
 rcases h with⟨m,h⟩|⟨m,ns,h⟩
 ·exact h.hc
 exact h.hc
theorem y20(s:ByteArray)(i:Nat)(h:(Q2w s i).2.2=true):∃e:Nat,e<s.size/\i<e/\atB s (e:Nat)=10/\(Q2w s i).2.1=((e+1:Nat):Int)/\Q87 s i (Q2w s i).1 e:=by
 unfold Q2w at h ⊢;cases hw:(Q07 s i).2.2
 ·rw[qAb hw]at h;cases h
 rw[qAa (by simp[hw])]at h ⊢;obtain⟨m,j0,j3⟩:=z8k s i hw;have j6:=j0.in';have j4:=j0.pos;have j2:=j0.head;generalize(Q07 s i).1=d at *;rw[j3]at h ⊢;cases hh:Q16 d
 ·rw[hh]at h;simp only[qF,qAz]at h ⊢;unfold Q6q at h ⊢;by_cases c1:atB s ((i:Int)+m)≠61/\atB s ((i:Int)+m)≠126
  ·rw[qAb c1]at h;cases h
  rw[qAa c1]at h ⊢;cases c2:(Q1r s ((i:Int)+m+1)).ok
  ·rw[qAb c2]at h;cases h
  rw[qAa (by simp[c2])]at h ⊢;by_cases c3:atB s (Q1r s ((i:Int)+m+1)).next=10
  ·rw[qAa (by simpa using c3)]at h ⊢;have cl:=y7h c2;have j8:=z8q (s:=s) (i:=(Q1r s ((i:Int)+m+1)).next) (by omega);have j5:(i:Int)+m+1<=(Q1r s ((i:Int)+m+1)).next:=by
    by_cases hq:(Q1r s ((i:Int)+m+1)).next<(i:Int)+m+1
    ·exfalso;have hg:=(z5k s 6) ((i:Int)+m+1) [] (by omega) (by
      have:0<=atB s ((i:Int)+m):=by
       by_cases q:atB s ((i:Int)+m)=61
       ·omega
       by_cases q2:atB s ((i:Int)+m)=126
       ·omega
       exact absurd ⟨q,q2⟩ c1
      have:=z8q this;omega)
     have:=hg.lo;unfold Q1r at hq;omega
    omega
   refine⟨(Q1r s ((i:Int)+m+1)).next.toNat,by omega,by omega,?_,by dsimp only;omega,?_⟩
   ·rw[Int.toNat_of_nonneg (by omega)];exact c3
   have j1:atB s ((i:Int)+m)=61∨atB s ((i:Int)+m)=126:=by
    by_cases q:atB s ((i:Int)+m)=61
    ·exact .inl q
    by_cases q2:atB s ((i:Int)+m)=126
    ·exact .inr q2
    exact absurd ⟨q,q2⟩ c1
   refine .inl ⟨m,j0,?_,?_,by omega,?_,j1,rfl,rfl⟩
   ·rcases j0.first with h1|h1
    ·exact h1
    rw[← j2,hh]at h1;cases h1
   ·show(!Q16 d)=true;rw[hh];rfl
   rw[Int.toNat_of_nonneg (by omega)];exact(j0.clean.trans (Q1j.one (by rcases j1 with q|q<;>omega))).trans cl
  rw[qAb c3]at h;cases h
 rw[hh]at h;simp only[qBn]at h ⊢;unfold Q6p at h ⊢;by_cases c1:atB s ((i:Int)+m)=58
 ·rw[qAa (by simpa using c1)]at h ⊢;have e1:(i:Int)+m+1=((i+m+1:Nat):Int):=by omega
  rw[e1]at h ⊢;obtain⟨ds,ns,q,h1,h2,h3⟩:=z92 s d _ _ _ h;rw[h3];have:=z8q (s:=s) (i:=(q:Nat)) (by omega);have j7:=h1.le;refine⟨q,by omega,by omega,h2,rfl,?_⟩;refine .inr ⟨m,ns,j0,by rw[← j2];exact hh,?_,?_,c1,by simpa using h1⟩
  ·show(!Q16 d)=false;rw[hh];rfl
  exact(j0.clean.trans (Q1j.one (by omega))).trans (by rw[e1];exact h1.clean)
 rw[qAb c1]at h;cases h
theorem y77(s:ByteArray)(a e:Nat)(he:e<=s.size)(h:a<e):atB (s.extract a e) 0=atB s a:=by
 have:=z3x s a e 0 he (by omega);simpa using this
theorem y6y(s:ByteArray)(a e c:Nat)(he:e<=s.size)(hc:a+c<=e):(s.extract a e).extract 0 c=s.extract a (a+c):=by
 apply qFi;simp only[qEg,qEz];have:s.size=s.data.size:=rfl;congr 1;omega
theorem x96(s:ByteArray)(a e c:Nat)(he:e<=s.size)(hc:a+c<=e):(s.extract a e).extract c (s.extract a e).size=s.extract (a+c) e:=by
 apply qFi;rw[qBl];simp only[qEg,qEz];have:s.size=s.data.size:=rfl;congr 1;omega
theorem z73(s:ByteArray)(i e m:Nat)(d:Wd)(x:LO)(he:e<=s.size)(hw:WordAt s i m d)(hs:Q0m (atB s i)=true)(hle:i+m<e)(hm:atB s ((i:Int)+m)=61∨atB s ((i:Int)+m)=126) :
  Q9w (s.extract i e) x={x with rules:=x.rules++[s.extract i (i+m)],skip:=x.skip++[atB s ((i:Int)+m)==126]}:=by
 have j0:(s.extract i e).size=e-i:=by rw[qBl];omega
 have j1:Q4d (s.extract i e) 61 126=m:=by
  refine z7j s i e m 61 126 he (by omega) ?_ (.inr hm);intro k hk;have:=hw.byte k hk;exact⟨by omega,by omega⟩
 unfold Q9w;rw[qAa (by omega),y77 s i e he (by omega),qAb (by simpa [Q0m]using hs),j1,y6y s i e m he (by omega),z3x s i e m he (by omega)];simp[j0,show m<e-i by omega]
theorem z72(s:ByteArray)(i e m:Nat)(d:Wd)(ds:List Wd)(ns:List ByteArray)(x:LO)(he:e<=s.size)(hw:WordAt s i m d)(hs:Q1a (atB s i)=true)(hm:atB s ((i:Int)+m)=58)(hp:PN s (i+m+1) ds ns e) :
  Q9w (s.extract i e) x={x with
   heads:=if Q1y x.heads (s.extract i (i+m))<0 then x.heads++[s.extract i (i+m)] else x.heads
   head:=x.head++[if Q1y x.heads (s.extract i (i+m))<0 then(x.heads.length:Int) else Q1y x.heads (s.extract i (i+m))]
   names:=x.names++[ns]}:=by
 have j2:=hp.le;have j6:(s.extract i e).size=e-i:=by rw[qBl];omega
 have j4:Q4d (s.extract i e) 58 58=m:=by
  refine z7j s i e m 58 58 he (by omega) ?_ (.inr (.inl hm));intro k hk;have:=hw.byte k hk;exact⟨by omega,by omega⟩
 have j1:=x2a hs;have j5:wordsF (s.extract (i+m) e)=s.extract (i+m) (i+m+1)::ns:=by
  have j3:(s.extract (i+m) e).size=e-(i+m):=by rw[qBl];omega
  unfold wordsF;have j0:Q4d (s.extract (i+m) e) 32 32=1:=by
   refine z7j s (i+m) e 1 32 32 he (by omega) ?_ ?_
   ·intro k hk;have:k=0:=by omega
    subst this;have e1:(((i+m:Nat):Int)+((0:Nat):Int))=(i:Int)+m:=by omega
    rw[e1,hm];exact⟨by omega,by omega⟩
   rcases hp.next with h9|h9
   ·left;omega
   right;left;rw[← h9];congr 1
  conv=>lhs;unfold Q7l
  have e0:(s.extract (i+m) e).extract 0 (s.extract (i+m) e).size=s.extract (i+m) e:=x95 _;rw[e0,j0,qAb (show 0<(s.extract (i+m) e).size by omega),qAb (show 0<1 by omega)];have:=x8j s (i+m) e he hp rfl (by omega) (s.extract (i+m) e).size [s.extract (i+m) (i+m+1)] (by omega);have e2:(if 0+1<(s.extract (i+m) e).size then 0+1+1 else 0+1)=(if i+m+1<e then i+m+1+1-(i+m) else i+m+1-(i+m)):=by
   rw[j3];by_cases hh:i+m+1<e
   ·rw[qAb (by omega),qAb hh];omega
   rw[qAa (by omega),qAa hh];omega
  rw[e2];have e3:([]:List ByteArray)++[(s.extract (i+m) e).extract 0 (0+1)]=[s.extract (i+m) (i+m+1)]:=by
   rw[qBy,y6y s (i+m) e 1 he (by omega)];rfl
  rw[e3,this];rfl
 unfold Q9w;rw[qAa (by omega),y77 s i e he (by omega),qAa (by omega),j4,y6y s i e m he (by omega),x96 s i e m he (by omega),j5];rfl
theorem y8k{l:List ByteArray}{t:ByteArray}(h:∃y∈l,y.toList=t.toList):0<=Q1y l t:=by
 obtain⟨y,hy,he⟩:=h;unfold Q1y;have:l.findIdx (fun x=>x.toList==t.toList)<l.length:=qFw ⟨y,hy,by simp[he]⟩;rw[qAb this];omega
theorem z6f{l:List ByteArray}{t:ByteArray}(h:¬Q1y l t<0):∃y∈l,y.toList=t.toList:=by
 unfold Q1y at h;by_cases hq:l.findIdx (fun x=>x.toList==t.toList)<l.length
 ·have:=qDz (w:=hq);exact⟨_,qG hq,by simpa using this⟩
 rw[qAa hq]at h;omega
def Named(s:ByteArray)(x:Ln)(l:List ByteArray):Prop:=∃i m:Nat,WordAt s i m x.front/\∃y∈l,y.toList=(s.extract i (i+m)).toList
theorem Named.mono{s:ByteArray}{x:Ln}{l l':List ByteArray}(h:Named s x l)(hl:∀y∈l,y∈l'):Named s x l':=by
 obtain⟨i,m,h1,y,h2,h3⟩:=h;exact⟨i,m,h1,y,hl y h2,h3⟩
def WordOf(s:ByteArray)(ds:List Wd)(t:ByteArray):Prop:=∃d∈ds,∃j m:Nat,WordAt s j m d/\t=s.extract j (j+m)
theorem PN.words{s:ByteArray}{p q:Nat}{ds:List Wd}{ns:List ByteArray}(h:PN s p ds ns q):∀t∈ns,WordOf s ds t:=by
 refine PN.ind (M:=fun _ ds ns=>∀t∈ns,WordOf s ds t) ?_ ?_ ds p ns h
 ·intro t ht;simp at ht
 intro p m d ds ns j0 hw j1 h ih t ht;simp at ht;rcases ht with rfl|ht
 ·exact⟨d,by simp,p+1,m,hw,rfl⟩
 obtain⟨d',h1,h2⟩:=ih t ht;exact⟨d',by simp[h1],h2⟩
theorem PN.places{s:ByteArray}{p q:Nat}{ds:List Wd}{ns:List ByteArray}(h:PN s p ds ns q):∀d∈ds,0<=d.place:=by
 refine PN.ind (M:=fun _ ds _=>∀d∈ds,0<=d.place) ?_ ?_ ds p ns h
 ·intro t ht;simp at ht
 intro p m d ds ns j0 hw j1 h ih t ht;simp at ht;rcases ht with rfl|ht
 ·rw[hw.place];omega
 exact ih t ht
structure Inv(s:ByteArray)(lns:List Ln)(x:LO):Prop where
 rules:x.rules.length=(lns.filter Q0x).length
 skip:x.skip=(lns.filter Q0x).map Ln.skip
 count:x.names.length=(lns.filter (fun y=>!Q0x y)).length
 named:∀y∈lns,if Q0x y then Named s y x.rules else Named s y x.heads
 words:∀l∈x.names,∀t∈l,∃y∈lns,WordOf s y.syms t
 places:∀y∈lns,0<=y.front.place/\∀d∈y.syms,0<=d.place
theorem x6p{s:ByteArray}{lns:List Ln}{x:LO}{y:Ln}{i e:Nat}(h:Inv s lns x)(he:e<=s.size)(hl:Q87 s i y e):Inv s (lns++[y]) (Q9w (s.extract i e) x):=by
 rcases hl with⟨m,hw,hs,hr,j0,hc,hm,hk,j1⟩|⟨m,ns,hw,hs,hr,hc,hm,hp⟩
 ·rw[z73 s i e m _ x he hw hs j0 hm];refine⟨?_,?_,?_,?_,?_,?_⟩
  ·simp[h.rules,qAq,hr]
  ·simp[h.skip,qAq,hr,hk]
  ·simp[h.count,qAq,hr]
  ·intro z hz;simp only[qU,qM]at hz;rcases hz with hz|rfl
   ·have:=h.named z hz;split
    ·rename_i hq;rw[qAb hq]at this;exact this.mono (fun y hy=>by simp[hy])
    rename_i hq;rw[qAa hq]at this;exact this
   rw[qAb hr];exact⟨i,m,hw,s.extract i (i+m),by simp,rfl⟩
  ·intro l hl t ht;obtain⟨z,hz,hw⟩:=h.words l hl t ht;exact⟨z,by simp[hz],hw⟩
  intro z hz;simp only[qU,qM]at hz;rcases hz with hz|rfl
  ·exact h.places z hz
  exact⟨by rw[hw.place];omega,by rw[j1];intro d hd;cases hd⟩
 rw[z72 s i e m _ _ ns x he hw hs hm hp];refine⟨?_,?_,?_,?_,?_,?_⟩
 ·simp[h.rules,qAq,hr]
 ·simp[h.skip,qAq,hr]
 ·simp[h.count,qAq,hr]
 ·intro z hz;simp only[qU,qM]at hz;rcases hz with hz|rfl
  ·have:=h.named z hz;split
   ·rename_i hq;rw[qAb hq]at this;exact this
   rename_i hq;rw[qAa hq]at this;refine this.mono (fun y hy=>?_);dsimp only;split
   ·simp[hy]
   exact hy
  rw[qAa (by simp[hr])];dsimp only;split
  ·exact⟨i,m,hw,s.extract i (i+m),by simp,rfl⟩
  rename_i hq;obtain⟨y,h1,h2⟩:=z6f hq;exact⟨i,m,hw,y,h1,h2⟩
 ·intro l hl t ht;simp only[qU,qM]at hl;rcases hl with hl|rfl
  ·obtain⟨z,hz,hw⟩:=h.words l hl t ht;exact⟨z,by simp[hz],hw⟩
  exact⟨y,by simp,hp.words t ht⟩
 intro z hz;simp only[qU,qM]at hz;rcases hz with hz|rfl
 ·exact h.places z hz
 exact⟨by rw[hw.place];omega,hp.places⟩
theorem y4o(s:ByteArray):∀(f i:Nat) (acc:List Ln) (g:Nat) (x:LO),(Q1l s f i acc).2.2=true->i<=s.size->s.size+1<=g+i->Inv s acc x->Inv s (Q1l s f i acc).1 (W0e s g i x)
 |0,i,acc,g,x,h,hi,hg,hI=>by simp[Q1l]at h
 |f+1,i,acc,g,x,h,hi,hg,hI=>by
  obtain⟨g,rfl⟩:∃k,g=k+1:=⟨g-1,by omega⟩;unfold Q1l at h ⊢;unfold W0e;by_cases j1:i<s.size
  ·rw[qAb (by omega)]at h ⊢;rw[qAb j1];cases hok:(Q2w s i).2.2
   ·rw[qAb hok]at h;cases h
   rw[qAa (by simp[hok])]at h ⊢;obtain⟨e,j3,j7,j4,j5,j0⟩:=y20 s i hok;rw[j5]at h ⊢;have j2:Q1j s i e:=j0.clean;have j6:Q4d (s.extract i s.size) 10 10=e-i:=by
    refine z7j s i s.size (e-i) 10 10 (by omega) (by omega) ?_ ?_
    ·intro k hk;have:=j2 ((i:Int)+k) (by omega) (by omega);exact⟨by omega,by omega⟩
    right;left;have e1:(i:Int)+((e-i:Nat):Int)=(e:Nat):=by omega
    rw[e1];exact j4
   rw[j6,show i+(e-i)=e by omega,qAb j3];exact y4o s f (e+1) _ g _ h (by omega) (by omega) (x6p hI (by omega) j0)
  rw[qAa (by omega)]at h ⊢;rw[qAa j1];exact hI
theorem y0h{lns:List Ln}{syms:List Wd}(hp:∀d∈syms,0<=d.place):∀(f j:Nat),Q7c lns syms f j=none->syms.length+1<=f+j->∀k (hk:k<syms.length),j<=k->W0h lns syms[k]=true
 |0,j,h,hf,k,hk,hjk=>by omega
 |f+1,j,h,hf,k,hk,hjk=>by
  unfold Q7c at h;have hj:j<syms.length:=by omega
  rw[qE hj]at h;simp only[]at h;cases hs:W0h lns syms[j]
  ·rw[hs]at h;simp at h
  rw[hs]at h;simp only[qBn]at h;by_cases e:j=k
  ·subst e;exact hs
  exact y0h hp f (j+1) h (by omega) k hk (by omega)
theorem z7k{lns:List Ln}(hp:∀y∈lns,0<=y.front.place/\∀d∈y.syms,0<=d.place):∀(f i:Nat),Q65 lns f i=-1->lns.length+1<=f+i->∀k (hk:k<lns.length),i<=k->Q74 lns lns[k].syms=none
 |0,i,h,hf,k,hk,hik=>by omega
 |f+1,i,h,hf,k,hk,hik=>by
  unfold Q65 at h;have hi:i<lns.length:=by omega
  rw[qE hi]at h;simp only[]at h;have j0:=hp lns[i] (qG hi);by_cases c:(Q0x lns[i]&&Q3b lns i)=true
  ·rw[qAb c]at h;omega
  rw[qAa c]at h;cases hs:Q74 lns lns[i].syms with
  |some p =>
   rw[hs]at h;simp only[]at h;exfalso;have:∀(f j:Nat),Q7c lns lns[i].syms f j=some p->0<=p:=by
    intro f;induction f with
    |zero=>intro j h;simp[Q7c]at h
    |succ f ih =>
     intro j h;unfold Q7c at h;split at h
     ·rename_i d hd;split at h
      ·exact ih _ h
      simp at h;rw[← h];exact j0.2 d (qAi hd)
     cases h
   have:=this _ _ hs;omega
  |none =>
   rw[hs]at h;simp only[]at h;by_cases e:i=k
   ·subst e;exact hs
   exact z7k hp f (i+1) h (by omega) k hk (by omega)
theorem z2d{s:ByteArray}(h:Q0u s=(0,0)):s.size<=800/\(Q0c s).2.2=true/\Q2b (Q0c s).1=-1/\Q4a (Q0c s).1=true/\Q3v (Q0c s).1=-1:=by
 unfold Q0u at h;split at h
 ·simp at h
 rename_i h1;split at h
 ·simp at h
 rename_i h2;split at h
 ·simp at h
 rename_i h3;split at h
 ·simp at h
 rename_i h4;split at h
 ·simp at h
 split at h
 ·simp at h
 rename_i h5;exact⟨by omega,by simpa using h2,by simpa using h4,by simpa using h5,by simpa using h3⟩
theorem x6q{s:ByteArray}:Inv s [] Q9n:=by
 refine⟨rfl,rfl,rfl,?_,?_,?_⟩
 ·intro y hy;simp at hy
 ·intro l hl;simp[Q9n]at hl
 intro y hy;simp at hy
theorem Q62{s:ByteArray}(h:Q0u s=(0,0)):Inv s (Q0c s).1 (linesX s):=by
 obtain⟨h1,h2,h3,h4,h5⟩:=z2d h;have j0:(Q1l s (s.size+5) ((0:Nat):Int) []).2.2=true:=h2;exact y4o s (s.size+5) 0 [] (s.size+1) Q9n j0 (by omega) (by omega) x6q
def Q4g(ns:List Q0q)(o:Option Nat)(a b:Nat):Prop :=
 ∃x,ns[a]? = some x/\b<ns.length/\match o with
  |none=>x.reads=false/\((b:Int)=x.next∨(b:Int)=x.other)
  |some c=>x.reads=true/\Q5y x.set c=true/\(b:Int)=x.next
def Run(ns:List Q0q):List (Option Nat)->Nat->Nat->Prop
 | [],a,b=>a=b
 |o::r,a,b=>∃m,Q4g ns o a m/\Run ns r m b
def Q2n(ns:List Q0q)(a:Nat)(w:List Nat)(b:Nat):Prop:=∃r,Run ns r a b/\r.filterMap id=w
theorem Run.append{ns:List Q0q}:∀{r q:List (Option Nat)}{a b c:Nat},Run ns r a b->Run ns q b c->Run ns (r++q) a c
 | [],_,_,_,_,h,k=>by cases h;exact k
 |_::_,_,_,_,_,⟨m,h1,h2⟩,k=>⟨m,h1,h2.append k⟩
theorem Run.split{ns:List Q0q}:∀{r q:List (Option Nat)}{a c:Nat},Run ns (r++q) a c->∃b,Run ns r a b/\Run ns q b c
 | [],_,a,_,h=>⟨a,rfl,h⟩
 |_::_,_,_,_,⟨m,h1,h2⟩=>by
  obtain⟨b,k1,k2⟩:=h2.split;exact⟨b,⟨m,h1,k1⟩,k2⟩
theorem Q2n.refl(ns:List Q0q)(a:Nat):Q2n ns a [] a:=⟨[],rfl,rfl⟩
theorem Q2n.trans{ns:List Q0q}{a b c:Nat}{u v:List Nat}(h:Q2n ns a u b)(k:Q2n ns b v c):Q2n ns a (u++v) c:=by
 obtain⟨r,h1,h2⟩:=h;obtain⟨q,k1,k2⟩:=k;exact⟨r++q,h1.append k1,by rw[List.filterMap_append,h2,k2]⟩
theorem Q2n.eps{ns:List Q0q}{a b:Nat}(h:Q4g ns none a b):Q2n ns a [] b:=⟨[none],⟨b,h,rfl⟩,rfl⟩
theorem Q2n.byte{ns:List Q0q}{a b c:Nat}(h:Q4g ns (some c) a b):Q2n ns a [c] b:=⟨[some c],⟨b,h,rfl⟩,rfl⟩
theorem z9v{n:Nat}{l:List Nat}{m:Int}{x:Nat}(hl:∀y∈l,y<n):x∈Q1f n l m↔x∈l∨(x<n/\(x:Int)=m):=by
 unfold Q1f;split
 ·rename_i h;rw[qU,qM];constructor
  ·rintro(h1|rfl)
   ·exact .inl h1
   exact .inr ⟨by omega,by omega⟩
  rintro(h1|⟨_,h1⟩)
  ·exact .inl h1
  exact .inr (by omega)
 rename_i h;constructor
 ·exact .inl
 rintro(h1|⟨h1,h2⟩)
 ·exact h1
 rcases Classical.em (m.toNat∈l)with q|q
 ·rwa [show m.toNat=x by omega]at q
 exact absurd ⟨by omega,by omega,q⟩ h
theorem y39(n:Nat)(l:List Nat)(m:Int):∃t,Q1f n l m=l++t:=by
 unfold Q1f;split
 ·exact⟨_,rfl⟩
 exact⟨[],by simp⟩
theorem z5d(ns:List Q0q):∀(f i:Nat) (l:List Nat),l.Nodup->(∀x∈l,x<ns.length)->ns.length+1<=f+i->i<=l.length ->
  (∀j (hj:j<l.length),j<i->∀b,Q4g ns none l[j] b->b∈l) ->
  (∀x∈l,x∈Q28 ns f i l)/\(∀x∈Q28 ns f i l,x<ns.length)/\(∀x∈Q28 ns f i l,∃a∈l,Q2n ns a [] x)/\(∀x∈Q28 ns f i l,∀b,Q4g ns none x b->b∈Q28 ns f i l)
 |0,i,l,hd,hl,hf,hi,hc=>by
  have h1:l.length<=ns.length:=z4d hd hl;omega
 |f+1,i,l,hd,hl,hf,hi,hc=>by
  unfold Q28;by_cases h:i<l.length
  ·rw[qEt h];have j0:l[i]<ns.length:=hl _ (qG h);rw[qE j0];simp only[];by_cases hr:ns[l[i]].reads=true
   ·rw[qAb hr];refine z5d ns f (i+1) l hd hl (by omega) (by omega) (fun j hj hji b hs=>?_);by_cases e:j=i
    ·subst e;obtain⟨x,hx,_,j4,_⟩:=hs;rw[qE j0]at hx;have:ns[l[j]]=x:=by simpa using hx
     rw[this]at hr;rw[hr]at j4;cases j4
    exact hc j hj (by omega) b hs
   rw[qAa hr];have j3:ns[l[i]].reads=false:=by simpa using hr
   have j2:=z36 ns[l[i]].next hl;have j5:=z36 ns[l[i]].other j2;obtain⟨t1,e1⟩:=y39 ns.length l ns[l[i]].next;obtain⟨t2,e2⟩:=y39 ns.length (Q1f ns.length l ns[l[i]].next) ns[l[i]].other;have ee:Q1f ns.length (Q1f ns.length l ns[l[i]].next) ns[l[i]].other=l++(t1++t2):=by rw[e2,e1,qAs]
   have hm:∀x,x∈Q1f ns.length (Q1f ns.length l ns[l[i]].next) ns[l[i]].other↔x∈l∨Q4g ns none l[i] x:=fun x=>by
    rw[z9v j2,z9v hl];constructor
    ·rintro((q|⟨q1,q2⟩)|⟨q1,q2⟩)
     ·exact .inl q
     ·exact .inr ⟨_,qE j0,q1,j3,.inl q2⟩
     exact .inr ⟨_,qE j0,q1,j3,.inr q2⟩
    rintro(q|⟨y,q1,q2,q3,q4⟩)
    ·exact .inl (.inl q)
    rw[qE j0]at q1;have:ns[l[i]]=y:=by simpa using q1
    subst this;rcases q4 with q4|q4
    ·exact .inl (.inr ⟨q2,q4⟩)
    exact .inr ⟨q2,q4⟩
   obtain⟨r1,r2,r3,r4⟩:=z5d ns f (i+1) _ (z29 _ (z29 _ hd)) j5 (by omega) (by rw[ee];simp;omega) (fun j hj hji b hs=>by
    have j1:j<l.length:=by omega
    have ej:(Q1f ns.length (Q1f ns.length l ns[l[i]].next) ns[l[i]].other)[j]=l[j]:=by simp only[ee];rw[List.getElem_append_left j1]
    rw[ej]at hs;rw[hm];by_cases e:j=i
    ·subst e;exact .inr hs
    exact .inl (hc j j1 (by omega) b hs))
   refine⟨fun x hx=>r1 x ((hm x).2 (.inl hx)),r2,fun x hx=>?_,r4⟩;obtain⟨a,ha,hp⟩:=r3 x hx;rcases(hm a).1 ha with q|q
   ·exact⟨a,q,hp⟩
   exact⟨l[i],qG h,by simpa using(Q2n.eps q).trans hp⟩
  rw[qFm h];exact⟨fun x hx=>hx,hl,fun x hx=>⟨x,hx,Q2n.refl ns x⟩,fun x hx b hs=>by
   obtain⟨j,hj,rfl⟩:=qBf hx;exact hc j hj (by omega) b hs⟩
theorem y0e{ns:List Q0q}{l:List Nat}(hd:l.Nodup)(hl:∀x∈l,x<ns.length)(b:Nat):b∈Q11 ns l↔∃a∈l,Q2n ns a [] b:=by
 obtain⟨h1,h2,h3,h4⟩:=z5d ns (ns.length+1) 0 l hd hl (by omega) (by omega) (fun j hj h=>by omega);refine⟨h3 b,fun⟨a,ha,r,hr,he⟩=>?_⟩;have go:∀(r:List (Option Nat)) (a:Nat),a∈Q11 ns l->Run ns r a b->r.filterMap id=[]->b∈Q11 ns l:=by
  intro r;induction r with
  |nil=>intro a ha hr _;cases hr;exact ha
  |cons o r ih =>
   intro a ha hr he;obtain⟨m,k1,k2⟩:=hr;cases o with
   |none=>exact ih m (h4 a ha m k1) k2 (by simpa using he)
   |some c=>simp at he
 exact go r a (h1 a ha) hr he
theorem y5v{ns:List Q0q}{c:Nat}:∀(l acc:List Nat),(∀x∈acc,x<ns.length)->∀b,b∈Q5g ns c l acc↔b∈acc∨∃a∈l,Q4g ns (some c) a b
 | [],acc,_,b=>by simp[Q5g]
 |m::l,acc,ha,b=>by
  unfold Q5g;rw[List.foldl_cons];have hlt:∀x∈Q3u ns c acc m,x<ns.length:=by
   unfold Q3u;split
   ·split
    ·exact z36 _ ha
    exact ha
   exact ha
  have ih:=y5v (ns:=ns) (c:=c) l (Q3u ns c acc m) hlt b;unfold Q5g at ih;rw[ih];have j0:b∈Q3u ns c acc m↔b∈acc∨Q4g ns (some c) m b:=by
   unfold Q3u Q4g;cases hq:ns[m]? with
   |none=>simp
   |some nd =>
    simp only[qO];split
    ·rename_i h;rw[qAd]at h;rw[z9v ha];constructor
     ·rintro(q|⟨q1,q2⟩)
      ·exact .inl q
      exact .inr ⟨nd,rfl,q1,h.1,h.2,q2⟩
     rintro(q|⟨x,rfl,q1,_,_,q2⟩)
     ·exact .inl q
     exact .inr ⟨q1,q2⟩
    rename_i h;constructor
    ·exact .inl
    rintro(q|⟨x,rfl,q1,q3,q4,q2⟩)
    ·exact q
    exact absurd (by rw[q3,q4];rfl) h
  rw[j0];simp only[qBu,exists_eq_or_imp];exact or_assoc
theorem y9l{ns:List Q0q}{c:Nat}:∀(l acc:List Nat),acc.Nodup->(∀x∈acc,x<ns.length)->(Q5g ns c l acc).Nodup/\∀x∈Q5g ns c l acc,x<ns.length
 | [],acc,h1,h2=>⟨h1,h2⟩
 |m::l,acc,h1,h2=>by
  unfold Q5g;rw[List.foldl_cons];refine y9l l (Q3u ns c acc m) ?_ ?_
  ·unfold Q3u;split
   ·split
    ·exact z29 _ h1
    exact h1
   exact h1
  unfold Q3u;split
  ·split
   ·exact z36 _ h2
   exact h2
  exact h2
theorem x8t(ns:List Q0q)(st:Int)(s:ByteArray)(i:Nat):∀k,(crK ns st s i k).Nodup/\∀x∈crK ns st s i k,x<ns.length
 |0=>by
  unfold crK;exact⟨z29 _ List.nodup_nil,z36 _ (by simp)⟩
 |k+1=>by
  unfold crK Q6a;split
  ·exact y9l _ _ List.nodup_nil (by simp)
  simp
def Q1n(s:ByteArray)(i:Nat):Nat->List Nat
 |0=>[]
 |k+1=>Q1n s i k++(if h:i+k<s.size then [s[i+k].toNat] else [])
theorem Q2n.snoc{ns:List Q0q}{a b:Nat}{u:List Nat}{c:Nat}:Q2n ns a (u++[c]) b↔∃p m,Q2n ns a u p/\Q4g ns (some c) p m/\Q2n ns m [] b:=by
 constructor
 ·rintro⟨r,h1,h2⟩;rw[List.filterMap_eq_append_iff]at h2;obtain⟨r1,r2,rfl,e1,e2⟩:=h2;rw[List.filterMap_eq_cons_iff]at e2;obtain⟨q1,o,q2,rfl,k1,k2,k3⟩:=e2;obtain⟨x,j2,j3⟩:=h1.split;obtain⟨y,j4,j5⟩:=j3.split;obtain⟨m,j0,j1⟩:=j5;have ho:o=some c:=k2;subst ho;refine⟨y,m,⟨r1++q1,j2.append j4,?_⟩,j0,⟨q2,j1,k3⟩⟩;rw[List.filterMap_append,e1];have:q1.filterMap id=[]:=by
   rw[List.filterMap_eq_nil_iff];exact k1
  rw[this,qBd]
 rintro⟨p,m,h1,h2,h3⟩;have:=(h1.trans (Q2n.byte h2)).trans h3;simpa using this
theorem y8f{ns:List Q0q}{a:Nat}(ha:a<ns.length)(s:ByteArray)(i:Nat):∀k,i+k<=s.size->∀b,b∈Q11 ns (crK ns (a:Int) s i k)↔Q2n ns a (Q1n s i k) b
 |0,_,b=>by
  obtain⟨h1,h2⟩:=x8t ns (a:Int) s i 0;rw[y0e h1 h2];have e:crK ns (a:Int) s i 0=[a]:=by
   unfold crK Q1f;rw[qAb ⟨by omega,by omega,by simp⟩];simp
  rw[e];simp[Q1n]
 |k+1,hk,b=>by
  obtain⟨h1,h2⟩:=x8t ns (a:Int) s i (k+1);rw[y0e h1 h2];have j0:i+k<s.size:=by omega
  have ih:=y8f ha s i k (by omega);have e:Q1n s i (k+1)=Q1n s i k++[s[i+k].toNat]:=by
   show Q1n s i k++_=_;rw[qEt j0]
  rw[e,Q2n.snoc];have hm:∀m,m∈crK ns (a:Int) s i (k+1)↔∃p,Q2n ns a (Q1n s i k) p/\Q4g ns (some s[i+k].toNat) p m:=fun m=>by
   show m∈Q6a ns s (i+k) (Q11 ns (crK ns (a:Int) s i k))↔_;unfold Q6a;rw[qEt j0,y5v _ _ (by simp)];simp only[qEi,false_or];constructor
   ·rintro⟨p,q1,q2⟩;exact⟨p,(ih p).1 q1,q2⟩
   rintro⟨p,q1,q2⟩;exact⟨p,(ih p).2 q1,q2⟩
  constructor
  ·rintro⟨m,q1,q2⟩;obtain⟨p,q3,q4⟩:=(hm m).1 q1;exact⟨p,m,q3,q4,q2⟩
  rintro⟨p,m,q3,q4,q2⟩;exact⟨m,(hm m).2 ⟨p,q3,q4⟩,q2⟩
theorem x1u{ns:List Q0q}{a e:Nat}(ha:a<ns.length)(he:e<ns.length)(s:ByteArray)(i k:Nat)(hk:i+k<=s.size):Q8w ns (a:Int) (e:Int) s i k=true↔Q2n ns a (Q1n s i k) e:=by
 rw[← y8f ha s i k hk];unfold Q8w Q7k;simp[he]
theorem Run.stay{ns ns':List Q0q}{S:Nat->Prop}(h:∀x,S x->∀o y,Q4g ns' o x y->Q4g ns o x y/\S y):∀(r:List (Option Nat)) (x z:Nat),S x->Run ns' r x z->Run ns r x z/\S z
 | [],x,z,hx,hr=>by cases hr;exact⟨rfl,hx⟩
 |o::r,x,z,hx,⟨m,h1,h2⟩=>by
  obtain⟨k1,k2⟩:=h x hx o m h1;obtain⟨k3,k4⟩:=Run.stay h r m z k2 h2;exact⟨⟨m,k1,k3⟩,k4⟩
theorem Q2n.stay{ns ns':List Q0q}{S:Nat->Prop}(h:∀x,S x->∀o y,Q4g ns' o x y->Q4g ns o x y/\S y){x z:Nat}{w:List Nat}(hx:S x)(hp:Q2n ns' x w z):Q2n ns x w z/\S z:=by
 obtain⟨r,h1,h2⟩:=hp;obtain⟨k1,k2⟩:=Run.stay h r x z hx h1;exact⟨⟨r,k1,h2⟩,k2⟩
theorem Run.exit{ns ns':List Q0q}{S:Nat->Prop}{e:Nat}(h:∀x,S x->x≠e->∀o y,Q4g ns' o x y->Q4g ns o x y/\S y)(he:∀o y,Q4g ns' o e y->o=none) :
  ∀(r:List (Option Nat)) (x z:Nat),S x->¬S z->Run ns' r x z->∃r1 t r2,r=r1++none::r2/\Run ns r1 x e/\Q4g ns' none e t/\Run ns' r2 t z
 | [],x,z,hx,hz,hr=>by cases hr;exact absurd hx hz
 |o::r,x,z,hx,hz,⟨m,h1,h2⟩=>by
  by_cases q:x=e
  ·subst q;have ho:=he o m h1;subst ho;exact⟨[],m,r,rfl,rfl,h1,h2⟩
  obtain⟨k1,k2⟩:=h x hx q o m h1;obtain⟨r1,t,r2,e1,e2,e3,e4⟩:=Run.exit h he r m z k2 hz h2;exact⟨o::r1,t,r2,by rw[e1];rfl,⟨m,k1,e2⟩,e3,e4⟩
theorem Q2n.exit{ns ns':List Q0q}{S:Nat->Prop}{e:Nat}(h:∀x,S x->x≠e->∀o y,Q4g ns' o x y->Q4g ns o x y/\S y)(he:∀o y,Q4g ns' o e y->o=none){x z:Nat}{w:List Nat}(hx:S x)(hz:¬S z)(hp:Q2n ns' x w z) :
  ∃u v t,w=u++v/\Q2n ns x u e/\Q4g ns' none e t/\Q2n ns' t v z:=by
 obtain⟨r,h1,h2⟩:=hp;obtain⟨r1,t,r2,e1,e2,e3,e4⟩:=Run.exit h he r x z hx hz h1;refine⟨r1.filterMap id,r2.filterMap id,t,?_,⟨r1,e2,rfl⟩,e3,⟨r2,e4,rfl⟩⟩;rw[← h2,e1,List.filterMap_append];rfl
theorem Q2n.mono{ns ns':List Q0q}{S:Nat->Prop}(h:∀x,S x->∀o y,Q4g ns o x y->Q4g ns' o x y/\S y){x z:Nat}{w:List Nat}(hx:S x)(hp:Q2n ns x w z):Q2n ns' x w z :=
 (Q2n.stay h hx hp).1
abbrev Q03:=List Nat->Prop
def Q03.cat(A B:Q03):Q03:=fun w=>∃u v,w=u++v/\A u/\B v
def Q03.alt(A B:Q03):Q03:=fun w=>A w∨B w
def Q03.byte(P:Nat->Prop):Q03:=fun w=>∃c,P c/\w=[c]
structure Frg(ns:List Q0q)(lo hi a e:Nat)(L:Q03):Prop where
 bd:hi<=ns.length
 ia:lo<=a/\a<hi
 ie:lo<=e/\e<hi
 en:ns[e]? = some plainNode
 nb:∀x,lo<=x->x<hi->∀nd,ns[x]? = some nd->(nd.next=-1∨(lo:Int)<=nd.next/\nd.next<hi)/\(nd.other=-1∨(lo:Int)<=nd.other/\nd.other<hi)
 lg:∀w,Q2n ns a w e↔L w
theorem Frg.cl{ns:List Q0q}{lo hi a e:Nat}{L:Q03}(h:Frg ns lo hi a e L)(x:Nat)(h1:lo<=x)(h2:x<hi)(o:Option Nat)(y:Nat)(st:Q4g ns o x y):lo<=y/\y<hi:=by
 obtain⟨nd,q1,q2,q3⟩:=st;obtain⟨n1,n2⟩:=h.nb x h1 h2 nd q1;cases o with
 |none=>rcases q3.2 with q|q<;>omega
 |some c=>have:=q3.2.2;omega
theorem Frg.keep{ns ns':List Q0q}{lo hi a e:Nat}{L:Q03}(h:Frg ns lo hi a e L)(hl:hi<=ns'.length)(hk:∀x,lo<=x->x<hi->ns'[x]? = ns[x]?):Frg ns' lo hi a e L:=by
 have s1:∀x,(lo<=x/\x<hi)->∀o y,Q4g ns' o x y->Q4g ns o x y/\(lo<=y/\y<hi):=fun x hx o y ⟨nd,q1,q2,q3⟩=>by
  rw[hk x hx.1 hx.2]at q1;obtain⟨n1,n2⟩:=h.nb x hx.1 hx.2 nd q1;have hy:y<hi:=by
   cases o with
   |none=>rcases q3.2 with q|q<;>omega
   |some c=>have:=q3.2.2;omega
  have st:Q4g ns o x y:=⟨nd,q1,by have:=h.bd;omega,q3⟩;exact⟨st,h.cl x hx.1 hx.2 o y st⟩
 have s2:∀x,(lo<=x/\x<hi)->∀o y,Q4g ns o x y->Q4g ns' o x y/\(lo<=y/\y<hi):=fun x hx o y st=>by
  have hy:=h.cl x hx.1 hx.2 o y st;obtain⟨nd,q1,q2,q3⟩:=st;exact⟨⟨nd,by rw[hk x hx.1 hx.2];exact q1,by omega,q3⟩,hy⟩
 refine⟨hl,h.ia,h.ie,by rw[hk e h.ie.1 h.ie.2];exact h.en,fun x h1 h2 nd q=>h.nb x h1 h2 nd (by rw[← hk x h1 h2];exact q),fun w=>?_⟩;rw[← h.lg w];exact⟨fun q=>(Q2n.stay s1 h.ia q).1,fun q=>(Q2n.stay s2 h.ia q).1⟩
theorem Frg.one(ns:List Q0q)(ws:List Int):Frg (Q84 ns ws) ns.length (ns.length+2) (ns.length+1) ns.length (Q03.byte fun c=>Q5y ws c=true):=by
 have l0:(Q84 ns ws).length=ns.length+2:=by simp[Q84]
 have g0:(Q84 ns ws)[ns.length]? = some plainNode:=by simp[Q84]
 have g1:(Q84 ns ws)[ns.length+1]? = some (Q4o ws ns.length):=by simp[Q84]
 have e0:∀o y,¬Q4g (Q84 ns ws) o ns.length y:=fun o y ⟨nd,q1,q2,q3⟩=>by
  rw[g0]at q1;have:plainNode=nd:=by simpa using q1
  subst this;cases o with
  |none=>rcases q3.2 with q|q<;>(simp only[plainNode]at q;omega)
  |some c=>have:=q3.1;simp[plainNode]at this
 have e1:∀o y,Q4g (Q84 ns ws) o (ns.length+1) y↔∃c,o=some c/\Q5y ws c=true/\y=ns.length:=fun o y=>by
  constructor
  ·rintro⟨nd,q1,q2,q3⟩;rw[g1]at q1;have:Q4o ws ns.length=nd:=by simpa using q1
   subst this;cases o with
   |none=>have:=q3.1;simp[Q4o]at this
   |some c=>exact⟨c,rfl,q3.2.1,by have:=q3.2.2;simp only[Q4o]at this;omega⟩
  rintro⟨c,rfl,q1,rfl⟩;exact⟨_,g1,by omega,rfl,q1,rfl⟩
 refine⟨by omega,by omega,by omega,g0,fun x h1 h2 nd hx=>?_,fun w=>?_⟩
 ·rcases(show x=ns.length∨x=ns.length+1 by omega)with rfl|rfl
  ·rw[g0]at hx;have:plainNode=nd:=by simpa using hx
   subst this;exact⟨.inl rfl,.inl rfl⟩
  rw[g1]at hx;have:Q4o ws ns.length=nd:=by simpa using hx
  subst this;exact⟨.inr ⟨by simp[Q4o],by simp only[Q4o];omega⟩,.inl rfl⟩
 constructor
 ·rintro⟨r,h1,h2⟩;cases r with
  |nil=>have:ns.length+1=ns.length:=h1;omega
  |cons o r =>
   obtain⟨m,k1,k2⟩:=h1;obtain⟨c,rfl,q1,rfl⟩:=(e1 o m).1 k1;cases r with
   |nil=>exact⟨c,q1,h2.symm⟩
   |cons o2 r =>
    obtain⟨m2,k3,_⟩:=k2;exact absurd k3 (e0 o2 m2)
 rintro⟨c,q1,rfl⟩;exact Q2n.byte ((e1 _ _).2 ⟨c,rfl,q1,rfl⟩)
theorem x6x{ns:List Q0q}{e b:Nat}(he:ns[e]? = some plainNode)(x:Nat):(Q1h ns (e:Int) (b:Int))[x]? = if x=e then some {plainNode with next:=(b:Int)} else ns[x]? := by
 have hl:=(qS he).1;unfold Q1h;rw[qAa (by omega),List.getElem?_modify];by_cases q:x=e
 ·subst q;simp[he,plainNode]
 rw[qAa q];have q2:¬(e:Int).toNat=x:=by omega
 simp only[q2,qAz];cases ns[x]?<;>rfl
theorem Frg.join{ns:List Q0q}{lo mi hi a e b f:Nat}{A B:Q03}(h:Frg ns lo mi a e A)(k:Frg ns mi hi b f B):Frg (Q1h ns (e:Int) (b:Int)) lo hi a f (Q03.cat A B):=by
 have j2:=z0n ns (e:Int) (b:Int);have j0:=x6x (b:=b) h.en;have b1:=h.bd;have b2:=k.bd;have i1:=h.ia;have i2:=h.ie;have i3:=k.ia;have i4:=k.ie;have ee:(Q1h ns (e:Int) (b:Int))[e]? = some {plainNode with next:=(b:Int)}:=by rw[j0,qAb rfl]
 have K:Frg (Q1h ns (e:Int) (b:Int)) mi hi b f B:=k.keep (by omega) (fun x h1 h2=>by rw[j0,qAa (by omega)]);have hs:∀x,x≠e->∀o y,Q4g (Q1h ns (e:Int) (b:Int)) o x y↔Q4g ns o x y:=fun x hx o y=>by
  unfold Q4g;rw[j0,qAa hx,j2]
 have j1:∀o y,Q4g (Q1h ns (e:Int) (b:Int)) o e y↔o=none/\y=b:=fun o y=>by
  constructor
  ·rintro⟨nd,q1,q2,q3⟩;rw[ee]at q1;have:{plainNode with next:=(b:Int)}=nd:=by simpa using q1
   subst this;cases o with
   |none =>
    rcases q3.2 with q|q
    ·exact⟨rfl,by simp only at q;omega⟩
    simp only[plainNode]at q;omega
   |some c=>have:=q3.1;simp[plainNode]at this
  rintro⟨rfl,rfl⟩;exact⟨_,ee,by omega,rfl,.inl rfl⟩
 have ho:∀o y,¬Q4g ns o e y:=fun o y ⟨nd,q1,q2,q3⟩=>by
  rw[h.en]at q1;have:plainNode=nd:=by simpa using q1
  subst this;cases o with
  |none=>rcases q3.2 with q|q<;>(simp only[plainNode]at q;omega)
  |some c=>have:=q3.1;simp[plainNode]at this
 refine⟨by omega,by omega,by omega,K.en,fun x h1 h2 nd hx=>?_,fun w=>?_⟩
 ·by_cases q:x=e
  ·subst q;rw[ee]at hx;have:{plainNode with next:=(b:Int)}=nd:=by simpa using hx
   subst this;exact⟨.inr ⟨by simp only;omega,by simp only;omega⟩,.inl rfl⟩
  rw[j0,qAa q]at hx;by_cases hm:x<mi
  ·have:=h.nb x h1 hm nd hx;omega
  have:=k.nb x (by omega) h2 nd hx;omega
 constructor
 ·intro hp;obtain⟨u,v,t,e1,e2,e3,e4⟩:=Q2n.exit (ns:=ns) (S:=fun x=>lo<=x/\x<mi) (e:=e) (fun x hx hne o y st=>⟨(hs x hne o y).1 st,h.cl x hx.1 hx.2 o y ((hs x hne o y).1 st)⟩) (fun o y st=>((j1 o y).1 st).1) h.ia (by omega) hp;obtain⟨_,rfl⟩:=(j1 _ _).1 e3;exact⟨u,v,e1,(h.lg u).1 e2,(K.lg v).1 e4⟩
 rintro⟨u,v,rfl,q1,q2⟩;have p1:=(h.lg u).2 q1;have j3:Q2n (Q1h ns (e:Int) (b:Int)) a u e:=Q2n.mono (ns:=ns) (S:=fun _=>True) (fun x _ o y st=>⟨(hs x (fun q=>by subst q;exact ho o y st) o y).2 st,trivial⟩) trivial p1;have:=(j3.trans (Q2n.eps ((j1 none b).2 ⟨rfl,rfl⟩))).trans ((K.lg v).2 q2);simpa using this
theorem z2q{ns:List Q0q}{e:Nat}(b:Int)(hl:e<ns.length)(x:Nat):(Q1h ns (e:Int) b)[x]? = if x=e then(ns[e]?).map (fun nd=>if nd.next=-1 then {nd with next:=b} else {nd with other:=b}) else ns[x]? := by
 unfold Q1h;rw[qAa (by omega),List.getElem?_modify];by_cases q:x=e
 ·subst q;simp
 rw[qAa q];have q2:¬(e:Int).toNat=x:=by omega
 simp only[q2,qAz];cases ns[x]?<;>rfl
theorem Q2n.stuck{ns:List Q0q}{x z:Nat}{w:List Nat}(h:∀o y,¬Q4g ns o x y)(hp:Q2n ns x w z):w=[]/\z=x:=by
 obtain⟨r,h1,h2⟩:=hp;cases r with
 |nil=>exact⟨h2.symm,Eq.symm h1⟩
 |cons o r=>obtain⟨m,k,_⟩:=h1;exact absurd k (h o m)
theorem z4r{ns:List Q0q}{e:Nat}(h:ns[e]? = some plainNode)(o:Option Nat)(y:Nat):¬Q4g ns o e y:=fun⟨nd,q1,q2,q3⟩=>by
 rw[h]at q1;have:plainNode=nd:=by simpa using q1
 subst this;cases o with
 |none=>rcases q3.2 with q|q<;>(simp only[plainNode]at q;omega)
 |some c=>have:=q3.1;simp[plainNode]at this
theorem z18{ns:List Q0q}{x:Nat}{p q:Int}(h:ns[x]? = some ⟨false,zero4,p,q⟩)(o:Option Nat)(y:Nat):Q4g ns o x y↔o=none/\y<ns.length/\((y:Int)=p∨(y:Int)=q):=by
 constructor
 ·rintro⟨nd,q1,q2,q3⟩;rw[h]at q1;have:(⟨false,zero4,p,q⟩:Q0q)=nd:=by simpa using q1
  subst this;cases o with
  |none=>exact⟨rfl,q2,q3.2⟩
  |some c=>have:=q3.1;simp at this
 rintro⟨rfl,q1,q2⟩;exact⟨_,h,q1,rfl,q2⟩
theorem Frg.out{ns ns':List Q0q}{lo hi a e:Nat}{A:Q03}(h:Frg ns lo hi a e A)(hl:ns.length<=ns'.length)(hk:∀x,lo<=x->x<hi->x≠e->ns'[x]? = ns[x]?){p q:Int}(he:ns'[e]? = some ⟨false,zero4,p,q⟩) :
  (∀{w:List Nat}{z:Nat},¬(lo<=z/\z<hi)->Q2n ns' a w z->∃u v t,w=u++v/\A u/\Q4g ns' none e t/\Q2n ns' t v z)/\(∀u,A u->Q2n ns' a u e):=by
 have b1:=h.bd;have s1:∀x,(lo<=x/\x<hi)->x≠e->∀o y,Q4g ns' o x y->Q4g ns o x y/\(lo<=y/\y<hi):=fun x hx j0 o y ⟨nd,q1,q2,q3⟩=>by
  rw[hk x hx.1 hx.2 j0]at q1;have n1:=h.nb x hx.1 hx.2 nd q1;have hy:y<hi:=by
   cases o with
   |none=>rcases q3.2 with q|q<;>omega
   |some c=>have:=q3.2.2;omega
  have st:Q4g ns o x y:=⟨nd,q1,by omega,q3⟩;exact⟨st,h.cl x hx.1 hx.2 o y st⟩
 refine⟨fun hz hp=>?_,fun u hu=>?_⟩
 ·obtain⟨u,v,t,e1,e2,e3,e4⟩:=Q2n.exit (ns:=ns) (S:=fun x=>lo<=x/\x<hi) (e:=e) s1 (fun o y st=>((z18 he o y).1 st).1) h.ia hz hp;exact⟨u,v,t,e1,(h.lg u).1 e2,e3,e4⟩
 refine Q2n.mono (ns:=ns) (S:=fun x=>lo<=x/\x<hi) (fun x hx o y st=>?_) h.ia ((h.lg u).2 hu);have hy:=h.cl x hx.1 hx.2 o y st;have j0:x≠e:=fun q=>by subst q;exact z4r h.en o y st
 obtain⟨nd,q1,q2,q3⟩:=st;exact⟨⟨nd,by rw[hk x hx.1 hx.2 j0];exact q1,by omega,q3⟩,hy⟩
theorem Q2n.head{ns:List Q0q}{x z:Nat}{w:List Nat}{p q:Int}(h:ns[x]? = some ⟨false,zero4,p,q⟩)(hne:x≠z)(hp:Q2n ns x w z):∃y:Nat,((y:Int)=p∨(y:Int)=q)/\Q2n ns y w z:=by
 obtain⟨r,h1,h2⟩:=hp;cases r with
 |nil=>exact absurd h1 hne
 |cons o r =>
  obtain⟨m,k1,k2⟩:=h1;obtain⟨rfl,_,q2⟩:=(z18 h o m).1 k1;exact⟨m,q2,⟨r,k2,by simpa using h2⟩⟩
theorem y35{ns:List Q0q}{a e b f:Nat}(he:ns[e]? = some plainNode)(hf:ns[f]? = some plainNode)(hef:e≠f) :
  (Q37 ns (a:Int) (e:Int) (b:Int) (f:Int)).length=ns.length+2 /\
  ∀x,(Q37 ns (a:Int) (e:Int) (b:Int) (f:Int))[x]? = if x=f∨x=e then some ⟨false,zero4,(ns.length+1:Int),-1⟩ else if x=ns.length then some ⟨false,zero4,a,b⟩ else if x=ns.length+1 then some plainNode else ns[x]? := by
 have le:=(qS he).1;have lf:=(qS hf).1;have l0:(Q37 ns (a:Int) (e:Int) (b:Int) (f:Int)).length=ns.length+2:=by simp[Q37,z0n]
 refine⟨l0,fun x=>?_⟩;have m0:∀x,(ns++[plainNode]++[plainNode])[x]? = if x=ns.length then some plainNode else if x=ns.length+1 then some plainNode else ns[x]? := fun x=>by
  by_cases h1:x<ns.length
  ·rw[qAa (by omega),qAa (by omega),qAs,qAl h1]
  by_cases h2:x=ns.length
  ·subst h2;simp
  by_cases h3:x=ns.length+1
  ·subst h3;simp
  rw[qAa h2,qAa h3,qN (by simp;omega),qN (by omega)]
 have lm:(ns++[plainNode]++[plainNode]).length=ns.length+2:=by simp
 unfold Q37;generalize ns++[plainNode]++[plainNode]=M at m0 lm;have g1:∀x,(Q1h M (ns.length:Int) (a:Int))[x]? = if x=ns.length then some ⟨false,zero4,a,-1⟩ else if x=ns.length+1 then some plainNode else ns[x]? := fun x=>by
  rw[z2q _ (by omega)];by_cases q:x=ns.length
  ·rw[qAb q,qAb q,m0,qAb rfl];rfl
  rw[qAa q,qAa q,m0,qAa q]
 have l1:(Q1h M (ns.length:Int) (a:Int)).length=ns.length+2:=by rw[z0n];exact lm
 generalize Q1h M (ns.length:Int) (a:Int)=M1 at g1 l1;have g2:∀x,(Q1h M1 (ns.length:Int) (b:Int))[x]? = if x=ns.length then some ⟨false,zero4,a,b⟩ else if x=ns.length+1 then some plainNode else ns[x]? := fun x=>by
  rw[z2q _ (by omega)];by_cases q:x=ns.length
  ·rw[qAb q,qAb q,g1,qAb rfl];have h6:¬((a:Int)=-1):=by omega
   simp[h6]
  rw[qAa q,qAa q,g1,qAa q]
 have l2:(Q1h M1 (ns.length:Int) (b:Int)).length=ns.length+2:=by rw[z0n];exact l1
 generalize Q1h M1 (ns.length:Int) (b:Int)=M2 at g2 l2;have me:M2[e]? = some plainNode:=by rw[g2,qAa (by omega),qAa (by omega)];exact he
 have g3:∀x,(Q1h M2 (e:Int) (ns.length+1:Int))[x]? = if x=e then some ⟨false,zero4,(ns.length+1:Int),-1⟩ else M2[x]? := fun x=>by
  rw[z2q _ (by omega),me];rfl
 have l3:(Q1h M2 (e:Int) (ns.length+1:Int)).length=ns.length+2:=by rw[z0n];exact l2
 generalize Q1h M2 (e:Int) (ns.length+1:Int)=M3 at g3 l3;have mf:M3[f]? = some plainNode:=by rw[g3,qAa (fun q=>hef q.symm),g2,qAa (by omega),qAa (by omega)];exact hf
 rw[z2q _ (by omega),mf];by_cases h1:x=f
 ·rw[qAb h1,qAb (.inl h1)];rfl
 rw[qAa h1,g3];by_cases h2:x=e
 ·rw[qAb h2,qAb (.inr h2)]
 rw[qAa h2,qAa (fun q=>q.elim h1 h2),g2]
theorem Frg.either{ns:List Q0q}{lo mi a e b f:Nat}{A B:Q03}(h:Frg ns lo mi a e A)(k:Frg ns mi ns.length b f B):Frg (Q37 ns (a:Int) (e:Int) (b:Int) (f:Int)) lo (ns.length+2) ns.length (ns.length+1) (Q03.alt A B):=by
 have i1:=h.ia;have i2:=h.ie;have i3:=k.ia;have i4:=k.ie;have b1:=h.bd;obtain⟨ln,j0⟩:=y35 (a:=a) (b:=b) h.en k.en (by omega);generalize Q37 ns (a:Int) (e:Int) (b:Int) (f:Int)=N at ln j0
 have gS:N[ns.length]? = some ⟨false,zero4,a,b⟩:=by rw[j0,qAa (by omega),qAb rfl]
 have gE:N[ns.length+1]? = some plainNode:=by rw[j0,qAa (by omega),qAa (by omega),qAb rfl]
 have ge:N[e]? = some ⟨false,zero4,(ns.length+1:Int),-1⟩:=by rw[j0,qAb (.inr rfl)]
 have gf:N[f]? = some ⟨false,zero4,(ns.length+1:Int),-1⟩:=by rw[j0,qAb (.inl rfl)]
 have ha:=h.out (by omega) (fun x h1 h2 h3=>by rw[j0,qAa (by omega),qAa (by omega),qAa (by omega)]) ge;have hb:=k.out (by omega) (fun x h1 h2 h3=>by rw[j0,qAa (by omega),qAa (by omega),qAa (by omega)]) gf;have fin:∀{x t:Nat}{v:List Nat},N[x]? = some ⟨false,zero4,(ns.length+1:Int),-1⟩->Q4g N none x t->Q2n N t v (ns.length+1)->v=[]:=fun {x t v} g st hp=>by
  obtain⟨_,_,q⟩:=(z18 g _ _).1 st;have ht:t=ns.length+1:=by rcases q with q|q<;>omega
  subst ht;exact(Q2n.stuck (z4r gE) hp).1
 have bk:∀{x:Nat},N[x]? = some ⟨false,zero4,(ns.length+1:Int),-1⟩->Q4g N none x (ns.length+1):=fun g=>(z18 g _ _).2 ⟨rfl,by omega,.inl (by omega)⟩;refine⟨by omega,by omega,by omega,gE,fun x h1 h2 nd hx=>?_,fun w=>?_⟩
 ·rw[j0]at hx;split at hx
  ·have:(⟨false,zero4,(ns.length+1:Int),-1⟩:Q0q)=nd:=by simpa using hx
   subst this;exact⟨.inr ⟨by simp only;omega,by simp only;omega⟩,.inl rfl⟩
  split at hx
  ·have:(⟨false,zero4,a,b⟩:Q0q)=nd:=by simpa using hx
   subst this;exact⟨.inr ⟨by simp only;omega,by simp only;omega⟩,.inr ⟨by simp only;omega,by simp only;omega⟩⟩
  split at hx
  ·have:plainNode=nd:=by simpa using hx
   subst this;exact⟨.inl rfl,.inl rfl⟩
  by_cases hm:x<mi
  ·have:=h.nb x h1 hm nd hx;omega
  have:=k.nb x (by omega) (by omega) nd hx;omega
 constructor
 ·intro hp;obtain⟨y,q,j1⟩:=Q2n.head gS (by omega) hp;rcases q with q|q
  ·have:y=a:=by omega
   subst this;obtain⟨u,v,t,rfl,q1,q2,q3⟩:=ha.1 (by omega) j1;have:=fin ge q2 q3;subst this;exact .inl (by simpa using q1)
  have:y=b:=by omega
  subst this;obtain⟨u,v,t,rfl,q1,q2,q3⟩:=hb.1 (by omega) j1;have:=fin gf q2 q3;subst this;exact .inr (by simpa using q1)
 rintro(q|q)
 ·have:=((Q2n.eps ((z18 gS none a).2 ⟨rfl,by omega,.inl rfl⟩)).trans (ha.2 w q)).trans (Q2n.eps (bk ge));simpa using this
 have:=((Q2n.eps ((z18 gS none b).2 ⟨rfl,by omega,.inr rfl⟩)).trans (hb.2 w q)).trans (Q2n.eps (bk gf));simpa using this
def Q03.rep(m:Int)(A:Q03):Q03:=fun w=>∃ws:List (List Nat),(∀u∈ws,A u)/\w=ws.flatten/\(m=43->ws≠[])/\(m=63->ws.length<=1)
theorem y5q{ns:List Q0q}{a e:Nat}(m:Int)(he:ns[e]? = some plainNode) :
  (Q17 ns (a:Int) (e:Int) m).length=ns.length+2 /\
  ∀x,(Q17 ns (a:Int) (e:Int) m)[x]? = if x=e then some ⟨false,zero4,(ns.length+1:Int),if m=63 then -1 else a⟩ else if x=ns.length then some ⟨false,zero4,a,if m=43 then -1 else(ns.length+1:Int)⟩ else if x=ns.length+1 then some plainNode else ns[x]? := by
 have le:=(qS he).1;have l0:(Q17 ns (a:Int) (e:Int) m).length=ns.length+2:=by
  unfold Q17;dsimp only;split<;>split<;>simp[z0n]
 refine⟨l0,fun x=>?_⟩;have m0:∀x,(ns++[plainNode]++[plainNode])[x]? = if x=ns.length then some plainNode else if x=ns.length+1 then some plainNode else ns[x]? := fun x=>by
  by_cases h1:x<ns.length
  ·rw[qAa (by omega),qAa (by omega),qAs,qAl h1]
  by_cases h2:x=ns.length
  ·subst h2;simp
  by_cases h3:x=ns.length+1
  ·subst h3;simp
  rw[qAa h2,qAa h3,qN (by simp;omega),qN (by omega)]
 have lm:(ns++[plainNode]++[plainNode]).length=ns.length+2:=by simp
 unfold Q17;dsimp only;generalize ns++[plainNode]++[plainNode]=M at m0 lm;have g1:∀x,(Q1h M (ns.length:Int) (a:Int))[x]? = if x=ns.length then some ⟨false,zero4,a,-1⟩ else if x=ns.length+1 then some plainNode else ns[x]? := fun x=>by
  rw[z2q _ (by omega)];by_cases q:x=ns.length
  ·rw[qAb q,qAb q,m0,qAb rfl];rfl
  rw[qAa q,qAa q,m0,qAa q]
 have l1:(Q1h M (ns.length:Int) (a:Int)).length=ns.length+2:=by rw[z0n];exact lm
 generalize Q1h M (ns.length:Int) (a:Int)=M1 at g1 l1;have me:M1[e]? = some plainNode:=by rw[g1,qAa (by omega),qAa (by omega)];exact he
 have g2:∀x,(Q1h M1 (e:Int) (ns.length+1:Int))[x]? = if x=e then some ⟨false,zero4,(ns.length+1:Int),-1⟩ else M1[x]? := fun x=>by
  rw[z2q _ (by omega),me];rfl
 have l2:(Q1h M1 (e:Int) (ns.length+1:Int)).length=ns.length+2:=by rw[z0n];exact l1
 generalize Q1h M1 (e:Int) (ns.length+1:Int)=M2 at g2 l2;have g3:∀x,(if m=43 then M2 else Q1h M2 (ns.length:Int) (ns.length+1:Int))[x]? = if x=e then some ⟨false,zero4,(ns.length+1:Int),-1⟩ else if x=ns.length then some ⟨false,zero4,a,if m=43 then -1 else(ns.length+1:Int)⟩ else if x=ns.length+1 then some plainNode else ns[x]? := fun x=>by
  by_cases hm:m=43
  ·rw[qAb hm,g2];by_cases q:x=e
   ·rw[qAb q,qAb q]
   rw[qAa q,qAa q,g1,qAb hm]
  rw[qAa hm,z2q _ (by omega)];by_cases q2:x=ns.length
  ·rw[qAb q2,qAa (by omega),qAb q2,g2,qAa (by omega),g1,qAb rfl,qAa hm];have h6:¬((a:Int)=-1):=by omega
   simp[h6]
  rw[qAa q2,g2];by_cases q:x=e
  ·rw[qAb q,qAb q]
  rw[qAa q,qAa q,qAa q2,g1,qAa q2]
 have l3:(if m=43 then M2 else Q1h M2 (ns.length:Int) (ns.length+1:Int)).length=ns.length+2:=by
  split
  ·exact l2
  rw[z0n];exact l2
 generalize(if m=43 then M2 else Q1h M2 (ns.length:Int) (ns.length+1:Int))=M3 at g3 l3;by_cases h6:m=63
 ·rw[qAb h6,g3];by_cases q:x=e
  ·rw[qAb q,qAb q,qAb h6]
  rw[qAa q,qAa q]
 rw[qAa h6,z2q _ (by omega)];by_cases q:x=e
 ·rw[qAb q,qAb q,g3,qAb rfl,qAa h6];have h7:¬(((ns.length:Int)+1)=-1):=by omega
  simp[h7]
 rw[qAa q,qAa q,g3,qAa q]
theorem Frg.rep{ns:List Q0q}{lo a e:Nat}{A:Q03}(m:Int)(h:Frg ns lo ns.length a e A):Frg (Q17 ns (a:Int) (e:Int) m) lo (ns.length+2) ns.length (ns.length+1) (Q03.rep m A):=by
 have i1:=h.ia;have i2:=h.ie;obtain⟨ln,j2⟩:=y5q (a:=a) m h.en;generalize Q17 ns (a:Int) (e:Int) m=N at ln j2
 have gS:N[ns.length]? = some ⟨false,zero4,a,if m=43 then -1 else(ns.length+1:Int)⟩:=by rw[j2,qAa (by omega),qAb rfl]
 have gE:N[ns.length+1]? = some plainNode:=by rw[j2,qAa (by omega),qAa (by omega),qAb rfl]
 have ge:N[e]? = some ⟨false,zero4,(ns.length+1:Int),if m=63 then -1 else a⟩:=by rw[j2,qAb rfl]
 have j0:∀x,lo<=x->x<ns.length->x≠e->N[x]? = ns[x]? := fun x h1 h2 h3=>by rw[j2,qAa h3,qAa (by omega),qAa (by omega)]
 have ha:=h.out (by omega) j0 ge;have s1:∀x,(lo<=x/\x<ns.length)->x≠e->∀o y,Q4g N o x y->Q4g ns o x y/\(lo<=y/\y<ns.length):=fun x hx hne o y ⟨nd,q1,q2,q3⟩=>by
  rw[j0 x hx.1 hx.2 hne]at q1;have n1:=h.nb x hx.1 hx.2 nd q1;have hy:y<ns.length:=by
   cases o with
   |none=>rcases q3.2 with q|q<;>omega
   |some c=>have:=q3.2.2;omega
  have st:Q4g ns o x y:=⟨nd,q1,by omega,q3⟩;exact⟨st,h.cl x hx.1 hx.2 o y st⟩
 have j4:∀(n:Nat) (r:List (Option Nat)),r.length<=n->Run N r a (ns.length+1)->∃ws:List (List Nat),ws≠[]/\(∀u∈ws,A u)/\r.filterMap id=ws.flatten/\(m=63->ws.length<=1):=by
  intro n;induction n with
  |zero =>
   intro r hr j1;have:r=[]:=qCm (by omega);subst this;have h2:a=ns.length+1:=j1;omega
  |succ n ih =>
   intro r hr j1;obtain⟨r1,t,r2,e1,e2,e3,e4⟩:=Run.exit (ns:=ns) (S:=fun x=>lo<=x/\x<ns.length) (e:=e) s1 (fun o y st=>((z18 ge o y).1 st).1) r a _ h.ia (by omega) j1;have hA:A (r1.filterMap id):=(h.lg _).1 ⟨r1,e2,rfl⟩;obtain⟨_,_,q⟩:=(z18 ge _ _).1 e3;have hf:r.filterMap id=r1.filterMap id++r2.filterMap id:=by rw[e1,List.filterMap_append];rfl
   rcases q with q|q
   ·have ht:t=ns.length+1:=by omega
    subst ht;have hv:=(Q2n.stuck (z4r gE) ⟨r2,e4,rfl⟩).1;exact⟨[r1.filterMap id],by simp,by simpa using hA,by rw[hf,hv];simp,fun _=>by simp⟩
   by_cases h6:m=63
   ·rw[qAb h6]at q;omega
   rw[qAa h6]at q;have ht:t=a:=by omega
   subst ht;obtain⟨ws,w1,w2,w3,_⟩:=ih r2 (by rw[e1]at hr;simp at hr;omega) e4;refine⟨r1.filterMap id::ws,by simp,?_,by rw[hf,w3];rfl,fun x=>absurd x h6⟩;intro u hu;rcases qBu.1 hu with rfl|hu
   ·exact hA
   exact w2 u hu
 have up:∀(ws:List (List Nat)),ws≠[]->(∀u∈ws,A u)->(m=63->ws.length<=1)->Q2n N a ws.flatten (ns.length+1):=by
  intro ws;induction ws with
  |nil=>intro h0;exact absurd rfl h0
  |cons u ws ih =>
   intro _ hA h6;have p1:=ha.2 u (hA u (by simp));cases ws with
   |nil =>
    have p2:Q2n N e [] (ns.length+1):=Q2n.eps ((z18 ge _ _).2 ⟨rfl,by omega,.inl (by omega)⟩);simpa using p1.trans p2
   |cons v ws =>
    have j5:¬m=63:=fun e=>by have:=h6 e;simp at this
    have p2:Q2n N e [] a:=Q2n.eps ((z18 ge _ _).2 ⟨rfl,by omega,.inr (by rw[qAa j5])⟩);have p3:=ih (by simp) (fun x hx=>hA x (qEa _ hx)) (fun e=>absurd e j5);simpa using(p1.trans p2).trans p3
 refine⟨by omega,by omega,by omega,gE,fun x h1 h2 nd hx=>?_,fun w=>?_⟩
 ·rw[j2]at hx;split at hx
  ·have:(⟨false,zero4,(ns.length+1:Int),if m=63 then -1 else a⟩:Q0q)=nd:=by simpa using hx
   subst this;refine⟨.inr ⟨by simp only;omega,by simp only;omega⟩,?_⟩;dsimp only;split
   ·exact .inl rfl
   exact .inr ⟨by omega,by omega⟩
  split at hx
  ·have:(⟨false,zero4,a,if m=43 then -1 else(ns.length+1:Int)⟩:Q0q)=nd:=by simpa using hx
   subst this;refine⟨.inr ⟨by simp only;omega,by simp only;omega⟩,?_⟩;dsimp only;split
   ·exact .inl rfl
   exact .inr ⟨by omega,by omega⟩
  split at hx
  ·have:plainNode=nd:=by simpa using hx
   subst this;exact⟨.inl rfl,.inl rfl⟩
  have:=h.nb x h1 (by omega) nd hx;omega
 constructor
 ·intro hp;obtain⟨y,q,j6⟩:=Q2n.head gS (by omega) hp;rcases q with q|q
  ·have:y=a:=by omega
   subst this;obtain⟨r,hr,hw⟩:=j6;obtain⟨ws,w1,w2,w3,w4⟩:=j4 _ r (qR _) hr;exact⟨ws,w2,by rw[← hw,w3],fun _=>w1,w4⟩
  by_cases j3:m=43
  ·rw[qAb j3]at q;omega
  rw[qAa j3]at q;have:y=ns.length+1:=by omega
  subst this;have hv:=(Q2n.stuck (z4r gE) j6).1;exact⟨[],by simp,by rw[hv];rfl,fun e=>absurd e j3,fun _=>by simp⟩
 rintro⟨ws,w1,rfl,w3,w4⟩;by_cases h0:ws=[]
 ·subst h0;have j3:¬m=43:=fun e=>w3 e rfl;have:=Q2n.eps ((z18 gS none (ns.length+1)).2 ⟨rfl,by omega,.inr (by rw[qAa j3];omega)⟩);simpa using this
 have:=(Q2n.eps ((z18 gS none a).2 ⟨rfl,by omega,.inl rfl⟩)).trans (up ws h0 w1 w4);simpa using this
structure LR where
 next:Int
 ok:Bool
 lang:Q03
def noL:Q03:=fun _=>False
def Q3m(g:Int->LR)(s:ByteArray)(i:Int):LR :=
 if atB s i=40 then g i
 else if(Q2r s i).2.2=false then⟨(Q2r s i).2.1,false,noL⟩
 else⟨(Q2r s i).2.1,true,Q03.byte fun c=>Q5y (Q2r s i).1 c=true⟩
def Q2g(s:ByteArray):Nat->LR->LR
 |0,r=>r
 |f+1,r=>if(r.ok&&Q1t (atB s r.next))=true then Q2g s f ⟨r.next+1,true,Q03.rep (atB s r.next) r.lang⟩ else r
def Q1u(a:Int->LR)(s:ByteArray)(i:Int):LR:=Q2g s (s.size+5) (a i)
def Q5z(r p:LR):LR:=if p.ok then⟨p.next,true,Q03.cat r.lang p.lang⟩ else⟨p.next,false,noL⟩
def Q1o(p:Int->LR)(s:ByteArray):Nat->LR->LR
 |0,r=>r
 |f+1,r=>if(r.ok&&Q2v s r.next)=true then Q1o p s f (Q5z r (p r.next)) else r
def Q00(p:Int->LR)(s:ByteArray)(i:Int):LR:=Q1o p s (s.size+5) (p i)
def Q10(r p:LR):LR:=if p.ok then⟨p.next,true,Q03.alt r.lang p.lang⟩ else⟨p.next,false,noL⟩
def Q04(p:Int->LR)(s:ByteArray):Nat->LR->LR
 |0,r=>r
 |f+1,r=>if(r.ok&&(atB s r.next==124))=true then Q04 p s f (Q10 r (p (r.next+1))) else r
def Q25(p:Int->LR)(s:ByteArray)(i:Int):LR:=Q04 p s (s.size+5) (p i)
def Q6h(c:Int->LR)(s:ByteArray)(i:Int):LR :=
 if(c (i+1)).ok=false then⟨(c (i+1)).next,false,noL⟩
 else if atB s (c (i+1)).next≠41 then⟨(c (i+1)).next,false,noL⟩
 else⟨(c (i+1)).next+1,true,(c (i+1)).lang⟩
def lgK(s:ByteArray):Nat->Int->LR
 |0=>fun i=>⟨i,false,noL⟩
 |k+1=>Q6h (Q25 (Q00 (Q1u (Q3m (lgK s k) s) s) s) s) s
def Q61(s:ByteArray)(k:Nat):Int->LR:=Q25 (Q00 (Q1u (Q3m (lgK s k) s) s) s) s
structure Lk(ns:List Q0q)(r:PR)(l:LR):Prop where
 ok:r.ok=l.ok
 next:r.next=l.next
 frg:l.ok=true->ns.length<=r.ns.length/\(∀x,x<ns.length->r.ns[x]? = ns[x]?)/\∃a e:Nat,r.st=a/\r.en=e/\Frg r.ns ns.length r.ns.length a e l.lang
def LkF(f:Int->List Q0q->PR)(l:Int->LR):Prop:=∀i ns,Lk ns (f i ns) (l i)
theorem z9o{g:Int->List Q0q->PR}{l:Int->LR}{s:ByteArray}(h:LkF g l):LkF (Q50 g s) (Q3m l s):=by
 intro i ns;unfold Q50 Q3m;split
 ·exact h i ns
 split
 ·exact⟨rfl,rfl,fun e=>by cases e⟩
 have hl:(Q84 ns (Q2r s i).1).length=ns.length+2:=by simp[Q84]
 refine⟨rfl,rfl,fun _=>⟨by dsimp only;omega,fun x hx=>?_,ns.length+1,ns.length,by dsimp only;omega,rfl,?_⟩⟩
 ·dsimp only[Q84];rw[qAs,qAl hx]
 dsimp only;rw[hl];exact Frg.one ns _
theorem y4x(s:ByteArray)(ns:List Q0q):∀(f:Nat) (r:PR) (l:LR),Lk ns r l->Lk ns (Q3t s f r) (Q2g s f l)
 |0,r,l,h=>h
 |f+1,r,l,h=>by
  unfold Q3t Q2g;rw[h.ok,h.next];split
  ·rename_i hc;rw[qAd]at hc;refine y4x s ns f _ _ ⟨rfl,rfl,fun _=>?_⟩;obtain⟨q1,q2,a,e,q3,q4,q5⟩:=h.frg hc.1;have i2:=q5.ie;obtain⟨ln,j0⟩:=y5q (a:=a) (atB s l.next) q5.en;dsimp only;rw[q3,q4];refine⟨by omega,fun x hx=>?_,r.ns.length,r.ns.length+1,rfl,by omega,?_⟩
   ·rw[j0,qAa (by omega),qAa (by omega),qAa (by omega)];exact q2 x hx
   rw[ln];exact q5.rep _
  exact h
theorem z8g{f:Int->List Q0q->PR}{l:Int->LR}{s:ByteArray}(h:LkF f l):LkF (Q71 f s) (Q1u l s):=fun i ns=>y4x s ns _ _ _ (h i ns)
theorem v0o{ns:List Q0q}{r p:PR}{l q:LR}(h:Lk ns r l)(hok:l.ok=true)(hp:Lk r.ns p q):Lk ns (Q7m r p) (Q5z l q):=by
 unfold Q7m Q5z;rw[hp.ok];cases hq:q.ok
 ·exact⟨rfl,hp.next,fun e=>by cases e⟩
 obtain⟨q1,q2,a,e,q3,q4,q5⟩:=h.frg hok;obtain⟨p1,p2,b,f,p3,p4,p5⟩:=hp.frg hq;have i2:=q5.ie;simp only[qBn];refine⟨rfl,hp.next,fun _=>?_⟩;dsimp only;rw[q3,q4,p3,p4];have hk:=q5.keep p1 (fun x _ h2=>p2 x h2);rw[z0n];refine⟨by omega,fun x hx=>?_,a,f,rfl,rfl,hk.join p5⟩;rw[z2q _ (by omega),qAa (by omega),p2 x (by omega)];exact q2 x hx
theorem y1k{p:Int->List Q0q->PR}{q:Int->LR}{s:ByteArray}(hp:LkF p q)(ns:List Q0q):∀(f:Nat) (r:PR) (l:LR),Lk ns r l->Lk ns (Q2o p s f r) (Q1o q s f l)
 |0,r,l,h=>h
 |f+1,r,l,h=>by
  unfold Q2o Q1o;rw[h.ok,h.next];split
  ·rename_i hc;rw[qAd]at hc;exact y1k hp ns f _ _ (v0o h hc.1 (hp _ _))
  exact h
theorem z9p{f:Int->List Q0q->PR}{l:Int->LR}{s:ByteArray}(h:LkF f l):LkF (Q6n f s) (Q00 l s):=fun i ns=>y1k h ns _ _ _ (h i ns)
theorem x3t{ns:List Q0q}{r p:PR}{l q:LR}(h:Lk ns r l)(hok:l.ok=true)(hp:Lk r.ns p q):Lk ns (Q38 r p) (Q10 l q):=by
 unfold Q38 Q10;rw[hp.ok];cases hq:q.ok
 ·exact⟨rfl,hp.next,fun e=>by cases e⟩
 obtain⟨q1,q2,a,e,q3,q4,q5⟩:=h.frg hok;obtain⟨p1,p2,b,f,p3,p4,p5⟩:=hp.frg hq;have i2:=q5.ie;have i4:=p5.ie;simp only[qBn];refine⟨rfl,hp.next,fun _=>?_⟩;dsimp only;rw[q3,q4,p3,p4];have hk:=q5.keep p1 (fun x _ h2=>p2 x h2);obtain⟨ln,j0⟩:=y35 (a:=a) (b:=b) hk.en p5.en (by omega);refine⟨by omega,fun x hx=>?_,p.ns.length,p.ns.length+1,rfl,by omega,?_⟩
 ·rw[j0,qAa (by omega),qAa (by omega),qAa (by omega),p2 x (by omega)];exact q2 x hx
 rw[ln];exact hk.either p5
theorem y1l{p:Int->List Q0q->PR}{q:Int->LR}{s:ByteArray}(hp:LkF p q)(ns:List Q0q):∀(f:Nat) (r:PR) (l:LR),Lk ns r l->Lk ns (Q2p p s f r) (Q04 q s f l)
 |0,r,l,h=>h
 |f+1,r,l,h=>by
  unfold Q2p Q04;rw[h.ok,h.next];split
  ·rename_i hc;rw[qAd]at hc;exact y1l hp ns f _ _ (x3t h hc.1 (hp _ _))
  exact h
theorem y4w{f:Int->List Q0q->PR}{l:Int->LR}{s:ByteArray}(h:LkF f l):LkF (Q6o f s) (Q25 l s):=fun i ns=>y1l h ns _ _ _ (h i ns)
theorem x6y{f:Int->List Q0q->PR}{l:Int->LR}{s:ByteArray}(h:LkF f l):LkF (Q53 f s) (Q6h l s):=by
 intro i ns;have hh:=h (i+1) ns;unfold Q53 Q6h;rw[hh.ok,hh.next];split
 ·exact⟨rfl,rfl,fun e=>by cases e⟩
 rename_i h1;split
 ·exact⟨rfl,rfl,fun e=>by cases e⟩
 exact⟨rfl,rfl,fun _=>hh.frg (by simpa using h1)⟩
theorem x3u(s:ByteArray):∀k,LkF (gK s k) (lgK s k)
 |0=>fun i ns=>⟨rfl,rfl,fun e=>by cases e⟩
 |k+1=>x6y (y4w (z9p (z8g (z9o (x3u s k)))))
theorem y80(s:ByteArray)(k:Nat):LkF (chK s k) (Q61 s k):=y4w (z9p (z8g (z9o (x3u s k))))
def Q36(t:ByteArray):List Nat:=Q1n t 0 t.size
theorem x0n{s:ByteArray}{i:Int}(hok:(Q1r s i).ok=true)(d:Wd)(sk:Bool)(t:ByteArray):Q31 ⟨d,sk,(Q1r s i).ns,(Q1r s i).st,(Q1r s i).en,[]⟩ t=true↔(Q61 s 6 i).lang (Q36 t):=by
 have h:=y80 s 6 i [];obtain⟨_,_,a,e,h3,h4,h5⟩:=h.frg (by rw[← h.ok];exact hok);have h3:(Q1r s i).st=a:=h3;have h4:(Q1r s i).en=e:=h4;have h5:Frg (Q1r s i).ns 0 (Q1r s i).ns.length a e (Q61 s 6 i).lang:=h5;have m:=y40 ⟨d,sk,(Q1r s i).ns,(Q1r s i).st,(Q1r s i).en,[]⟩ t 0 t.size (by omega);rw[qBy,show t.extract 0 t.size=t from by simp]at m;rw[m];dsimp only;rw[h3,h4,x1u h5.ia.2 h5.ie.2 t 0 t.size (by omega)];exact h5.lg _
def Q3g(s:ByteArray)(i:Int)(s':ByteArray)(i':Int)(n:Nat):Prop:=∀j:Nat,j<n->atB s (i+j)=atB s' (i'+j)
theorem Q3g.at0{s s':ByteArray}{i i':Int}{n:Nat}(h:Q3g s i s' i' n)(hn:0<n):atB s' i'=atB s i:=by
 have:=h 0 hn;simpa using this.symm
theorem Q3g.on{s s':ByteArray}{i i':Int}{n:Nat}(h:Q3g s i s' i' n)(k:Nat):Q3g s (i+k) s' (i'+k) (n-k):=fun j hj=>by
 have:=h (k+j) (by omega);rw[show i+(k:Int)+(j:Int)=i+((k+j:Nat):Int) by omega,show i'+(k:Int)+(j:Int)=i'+((k+j:Nat):Int) by omega];exact this
theorem Q3g.less{s s':ByteArray}{i i':Int}{n m:Nat}(h:Q3g s i s' i' n)(hm:m<=n):Q3g s i s' i' m:=fun j hj=>h j (by omega)
theorem Q3g.atK{s s':ByteArray}{i i':Int}{n:Nat}(h:Q3g s i s' i' n){x:Int}(h0:i<=x)(h1:x<i+n):atB s' (x-i+i')=atB s x:=by
 have:=h (x-i).toNat (by omega);rw[show i+((x-i).toNat:Int)=x by omega,show i'+((x-i).toNat:Int)=x-i+i' by omega]at this;exact this.symm
theorem Q3g.tail{s s':ByteArray}{i i':Int}{n:Nat}(h:Q3g s i s' i' n):Q3g s (i+1) s' (i'+1) (n-1):=h.on 1
theorem z3k(s:ByteArray)(i:Int)(f:Nat)(next:Int)(ws:List Int):Q06 s i (f+1) next ws=if next=i∨atB s next≠93 then
   if(Q0n s next).2.2.2=false then(zero4,(Q0n s next).2.2.1,false)
   else Q06 s i f (Q0n s next).2.2.1 (Q2d ws (Q0n s next).1 (Q0n s next).2.1)
  else(ws,next+1,true):=rfl
section
variable {s s':ByteArray}{i i':Int}{n:Nat}
theorem y49(h:Q3g s i s' i' n)(h0:0<=i)(hok:(Q2k s i).2.2=true)(hn:(Q2k s i).2.1<=i+n):Q2k s' i'=((Q2k s i).1,(Q2k s i).2.1-i+i',true):=by
 have hb:=(z8j s i h0).2.2.2.2 hok;have e:=h.at0 (by omega);unfold Q2k at hok hb ⊢;rw[e];split
 ·simp;omega
 split
 ·simp;omega
 rename_i h1 h2;rw[qAa h1,qAa h2]at hok;split
 ·rename_i h3;rw[qAb h3]at hok;cases hok
 simp;omega
theorem y2z(h:Q3g s i s' i' n)(h0:0<=i)(hok:(Q1s s i).2.2=true)(hn:(Q1s s i).2.1<=i+n):Q1s s' i'=((Q1s s i).1,(Q1s s i).2.1-i+i',true):=by
 have hb:=(z4s s i h0).2.2.2.2 hok;have e:=h.at0 (by omega);unfold Q1s at hok hb hn ⊢;rw[e];split
 ·rename_i h1;rw[qAb h1]at hok hn hb;have:=y49 h.tail (by omega) hok (by omega);rw[this];simp;omega
 rename_i h1;rw[qAa h1]at hok;split
 ·rename_i h2;rw[qAb h2]at hok;cases hok
 rename_i h2;rw[qAa h2]at hok;split
 ·rename_i h3;rw[qAb h3]at hok;cases hok
 simp;omega
theorem x0w(h:Q3g s i s' i' n)(h0:0<=i)(hok:(Q0n s i).2.2.2=true)(hn:(Q0n s i).2.2.1<i+n):Q0n s' i'=((Q0n s i).1,(Q0n s i).2.1,(Q0n s i).2.2.1-i+i',true):=by
 have b1:=z4s s i h0;have b2:=z4s s ((Q1s s i).2.1+1) (by omega);unfold Q0n at hok hn ⊢;by_cases c1:(Q1s s i).2.2=false
 ·rw[qAb c1]at hok;cases hok
 have j0:(Q1s s i).2.2=true:=by simpa using c1
 have b3:=b1.2.2.2.2 j0;rw[qAa c1]at hok hn ⊢;by_cases c2:atB s (Q1s s i).2.1≠45
 ·rw[qAb c2]at hok hn ⊢;have r1:=y2z h h0 j0 (by dsimp only at hn;omega);have a1:=h.atK (x:=(Q1s s i).2.1) (by omega) hn;rw[r1];dsimp only;rw[qAa (by simp),a1,qAb c2]
 rw[qAa c2]at hok hn ⊢;by_cases c3:(Q1s s ((Q1s s i).2.1+1)).2.2=false
 ·rw[qAb c3]at hok;cases hok
 have j1:(Q1s s ((Q1s s i).2.1+1)).2.2=true:=by simpa using c3
 have b4:=b2.2.2.2.2 j1;rw[qAa c3]at hok hn ⊢;by_cases c4:(Q1s s ((Q1s s i).2.1+1)).1<(Q1s s i).1
 ·rw[qAb c4]at hok;cases hok
 rw[qAa c4]at hok hn ⊢;dsimp only at hn ⊢;have r1:=y2z h h0 j0 (by omega);have a1:=h.atK (x:=(Q1s s i).2.1) (by omega) (by omega);have hh:=h.on ((Q1s s i).2.1+1-i).toNat
 rw[show i+(((Q1s s i).2.1+1-i).toNat:Int)=(Q1s s i).2.1+1 by omega,show i'+(((Q1s s i).2.1+1-i).toNat:Int)=(Q1s s i).2.1-i+i'+1 by omega]at hh;have r2:=y2z hh (by omega) j1 (by omega);rw[r1];dsimp only;rw[qAa (by simp),a1,qAa c2,r2];dsimp only;rw[qAa (by simp),qAa c4];simp;omega
theorem y1s(h:Q3g s i s' i' n)(h0:0<=i):∀(f:Nat) (next:Int) (ws:List Int),i<=next->(Q06 s i f next ws).2.2=true->(Q06 s i f next ws).2.1<=i+n ->
  ∀f':Nat,(s'.size:Int)+2<=f'+(next-i+i')->Q06 s' i' f' (next-i+i') ws=((Q06 s i f next ws).1,(Q06 s i f next ws).2.1-i+i',true)/\next<(Q06 s i f next ws).2.1
 |0,next,ws,_,hok,_,_,_=>by cases hok
 |f+1,next,ws,hi,hok,hn,f',hf=>by
  rw[z3k s i f next ws]at hok hn ⊢;by_cases c:next=i∨atB s next≠93
  ·rw[qAb c]at hok hn ⊢;by_cases c1:(Q0n s next).2.2.2=false
   ·rw[qAb c1]at hok;cases hok
   have c1':(Q0n s next).2.2.2=true:=by simpa using c1
   have b:=(z1l s next (by omega)).2.2.2.2.2.2 c1';rw[qAa c1]at hok hn ⊢;have j0:=fun f' hf=>y1s h h0 f (Q0n s next).2.2.1 (Q2d ws (Q0n s next).1 (Q0n s next).2.1) (by omega) hok hn f' hf;have r1:=(j0 (s'.size+2+((Q0n s next).2.2.1-i+i').natAbs) (by omega)).2;have hh:=h.on (next-i).toNat
   rw[show i+((next-i).toNat:Int)=next by omega,show i'+((next-i).toNat:Int)=next-i+i' by omega]at hh;have r2:=x0w hh (by omega) c1' (by omega);have b':=(z1l s' (next-i+i') (by
    by_cases q:0<=next-i+i'
    ·exact q
    exfalso;have a0:=h.atK (x:=next) hi (by omega);have hz:atB s' (next-i+i')=-1:=by unfold atB;rw[qFm (by omega)]
    rw[hz]at a0;have j1:(Q1s s next).2.2=false:=by
     unfold Q1s;rw[← a0];simp[Q4l]
    unfold Q0n at c1';rw[qAb j1]at c1';cases c1')).2.2.2.2.2.2 (by rw[r2])
   rw[r2]at b';dsimp only at b';cases f' with
   |zero=>omega
   |succ f' =>
    rw[z3k s' i' f'];have a1:next-i+i'=i'∨atB s' (next-i+i')≠93:=by
     rcases c with c|c
     ·exact .inl (by omega)
     exact .inr (by rw[h.atK hi (by omega)];exact c)
    rw[qAb a1,r2];dsimp only;rw[qAa (by simp)];have e:(Q0n s next).2.2.1-next+(next-i+i')=(Q0n s next).2.2.1-i+i':=by omega
    rw[e];exact⟨(j0 f' (by omega)).1,by omega⟩
  rw[qAa c]at hok hn ⊢;dsimp only at hn ⊢;have c':¬next=i/\atB s next=93:=by
   by_cases q:next=i
   ·exact absurd (.inl q) c
   exact⟨q,by
    by_cases q2:atB s next=93
    ·exact q2
    exact absurd (.inr q2) c⟩
  have a1:=h.atK hi (x:=next) (by omega);have a2:=z0r (s:=s') (i:=next-i+i') (by rw[a1,c'.2];decide);cases f' with
  |zero=>omega
  |succ f' =>
   rw[z3k s' i' f'];rw[qAa (by rw[a1];intro q;rcases q with q|q;omega;exact q c'.2)];exact⟨by simp;omega,by omega⟩
theorem y48(h:Q3g s i s' i' n)(h0:0<=i)(h0':0<=i')(hok:(Q3f s i).2.2=true)(hn:(Q3f s i).2.1<=i+n):Q3f s' i'=((Q3f s i).1,(Q3f s i).2.1-i+i',true):=by
 have:=(y1s h h0 (s.size+5) i zero4 (by omega) hok hn (s'.size+5) (by omega)).1;rw[show i-i+i'=i' by omega]at this;exact this
theorem v09(h:Q3g s i s' i' n)(h0:0<=i)(h0':0<=i')(hs:i<=s.size)(hok:(rBr s i).2.2=true)(hn:(rBr s i).2.1<=i+n):rBr s' i'=((rBr s i).1,(rBr s i).2.1-i+i',true):=by
 have hb:=(x4n s i h0 hs).2.2 hok;have e:=h.at0 (by omega);unfold rBr at hok hn ⊢;rw[e];split
 ·rename_i h1;rw[qAb h1]at hok hn;have:=y48 h.tail (by omega) (by omega) hok (by dsimp only at hn;omega);rw[this];simp;omega
 rename_i h1;rw[qAa h1]at hok hn;exact y48 h h0 h0' hok hn
theorem x7s(h:Q3g s i s' i' n)(h0:0<=i)(h0':0<=i')(hok:(Q2r s i).2.2=true)(hn:(Q2r s i).2.1<=i+n):Q2r s' i'=((Q2r s i).1,(Q2r s i).2.1-i+i',true):=by
 have hb:=(y21 s i h0).2.2 hok;have e:=h.at0 (by omega);unfold Q2r at hok hn hb ⊢;rw[e];by_cases c1:atB s i=46
 ·rw[qAb c1,qAb c1];simp;omega
 rw[qAa c1]at hok hn hb ⊢;rw[qAa c1];by_cases c2:atB s i=91
 ·rw[qAb c2]at hok hn hb ⊢;rw[qAb c2];have:=v09 h.tail (by omega) (by omega) (by omega) hok (by omega);rw[this];simp;omega
 rw[qAa c2]at hok hn hb ⊢;rw[qAa c2];by_cases c3:atB s i=92
 ·rw[qAb c3]at hok hn hb ⊢;rw[qAb c3];have:=y49 h.tail (by omega) hok (by dsimp only at hn;omega);rw[this];simp;omega
 rw[qAa c3]at hok hn hb ⊢;rw[qAa c3];by_cases c4:Q02 (atB s i)=false
 ·rw[qAb c4]at hok;cases hok
 rw[qAa c4,qAa c4];simp;omega
end
def W0m(c:Int):Bool:=c==40||c==46||c==91||c==92||Q02 c
theorem z2j(s:ByteArray)(i:Int):Q2v s i=W0m (atB s i):=rfl
def Q8i(c:Int):Bool:=!Q1t c&&!W0m c&&c != 124
theorem x1c{c:Int}(h:Q8i c=true):Q1t c=false:=by
 unfold Q8i at h;cases h1:Q1t c
 ·rfl
 rw[h1]at h;simp at h
theorem x5h{c:Int}(h:Q8i c=true):W0m c=false:=by
 unfold Q8i at h;cases h1:W0m c
 ·rfl
 rw[h1]at h;simp at h
theorem x5g{c:Int}(h:Q8i c=true):c≠124:=by
 unfold Q8i at h;intro e;rw[e]at h;simp at h
theorem z9u{c:Int}(h:Q1t c=true):c≠-1:=by intro e;rw[e]at h;revert h;decide
theorem y3y{c:Int}(h:W0m c=true):c≠-1:=by intro e;rw[e]at h;revert h;decide
def Q3z(s:ByteArray)(l:Int->LR):Prop:=∀i:Int,0<=i->i<=s.size->(l i).ok=true->i<(l i).next/\(l i).next<=s.size
theorem z8f{s:ByteArray}{f:Int->List Q0q->PR}{l:Int->LR}(h:Q5w s f)(k:LkF f l):Q3z s l:=fun i h0 h1 hok=>by
 have h2:=(h i [] h0 h1).good (by rw[(k i []).ok];exact hok);rw[(k i []).next]at h2;exact h2
theorem z2y(s:ByteArray)(k:Nat):Q3z s (Q3m (lgK s k) s):=z8f (z3n (z66 s k)) (z9o (x3u s k))
theorem z6l(s:ByteArray)(k:Nat):Q3z s (Q1u (Q3m (lgK s k) s) s):=z8f (z38 (z3n (z66 s k))) (z8g (z9o (x3u s k)))
theorem y4s(s:ByteArray)(k:Nat):Q3z s (Q00 (Q1u (Q3m (lgK s k) s) s) s):=z8f (z4m (z38 (z3n (z66 s k)))) (z9p (z8g (z9o (x3u s k))))
theorem y4t(s:ByteArray)(k:Nat):Q3z s (Q61 s k):=z8f (z5k s k) (y80 s k)
structure Same(r r':LR)(i i':Int):Prop where
 ok:r'.ok=true
 next:r'.next=r.next-i+i'
 lang:r'.lang=r.lang
def LocG(s s':ByteArray)(l l':Int->LR):Prop:=∀(i i':Int) (n:Nat),0<=i->0<=i'->atB s i=40->Q3g s i s' i' n->(l i).ok=true->(l i).next<=i+n->Same (l i) (l' i') i i'
def LocA(s s':ByteArray)(l l':Int->LR):Prop:=∀(i i':Int) (n:Nat),0<=i->i<=s.size->0<=i'->Q3g s i s' i' n->(l i).ok=true->(l i).next<=i+n->Same (l i) (l' i') i i'
def Loc(s s':ByteArray)(l l':Int->LR):Prop:=∀(i i':Int) (n:Nat),0<=i->i<=s.size->0<=i'->Q3g s i s' i' n->Q8i (atB s' (i'+n))=true->(l i).ok=true->(l i).next<=i+n->Same (l i) (l' i') i i'
theorem z4a(s:ByteArray)(f:Nat)(r:LR):Q2g s (f+1) r=if(r.ok&&Q1t (atB s r.next))=true then Q2g s f ⟨r.next+1,true,Q03.rep (atB s r.next) r.lang⟩ else r:=rfl
theorem z2m(p:Int->LR)(s:ByteArray)(f:Nat)(r:LR):Q1o p s (f+1) r=if(r.ok&&Q2v s r.next)=true then Q1o p s f (Q5z r (p r.next)) else r:=rfl
theorem z2x(p:Int->LR)(s:ByteArray)(f:Nat)(r:LR):Q04 p s (f+1) r=if(r.ok&&(atB s r.next==124))=true then Q04 p s f (Q10 r (p (r.next+1))) else r:=rfl
section
variable {s s':ByteArray}
theorem z8h{g g':Int->LR}(hg:LocG s s' g g')(hgd:Q3z s (Q3m g s)):LocA s s' (Q3m g s) (Q3m g' s'):=by
 intro i i' n h0 h1 j1 h j0 hn;have hgd:=hgd i h0 h1 j0;have e:=h.at0 (by omega);unfold Q3m at j0 hn ⊢;rw[e];by_cases c:atB s i=40
 ·rw[qAb c]at j0 hn ⊢;rw[qAb c];exact hg i i' n h0 j1 c h j0 hn
 rw[qAa c]at j0 hn ⊢;rw[qAa c];by_cases c2:(Q2r s i).2.2=false
 ·rw[qAb c2]at j0;cases j0
 rw[qAa c2]at j0 hn ⊢;have r:=x7s h h0 j1 (by simpa using c2) hn;rw[r];rw[qAa (by simp)];exact⟨rfl,rfl,rfl⟩
theorem y1o{i i':Int}{n:Nat}(h:Q3g s i s' i' n)(hst:Q8i (atB s' (i'+n))=true):∀(f:Nat) (x:Int) (L:Q03),i<=x->x<=s.size->(s.size:Int)+2<=f+x->(Q2g s f ⟨x,true,L⟩).next<=i+n->∀f':Nat,(s'.size:Int)+2<=f'+(x-i+i') ->
  Same (Q2g s f ⟨x,true,L⟩) (Q2g s' f' ⟨x-i+i',true,L⟩) i i'/\x<=(Q2g s f ⟨x,true,L⟩).next/\(Q2g s f ⟨x,true,L⟩).ok=true
 |0,x,L,_,hx,hf,_,_,_=>by omega
 |f+1,x,L,hi,hx,hf,hn,f',hf'=>by
  rw[z4a s f ⟨x,true,L⟩]at hn ⊢;dsimp only at hn ⊢;rw[qBm]at hn ⊢;by_cases c:Q1t (atB s x)=true
  ·rw[qAb c]at hn ⊢;have hx2:=z0r (s:=s) (i:=x) (z9u c);have j1:=fun f' hf'=>y1o h hst f (x+1) (Q03.rep (atB s x) L) (by omega) (by omega) (by omega) hn f' hf';have r1:=(j1 (s'.size+2+(x+1-i+i').natAbs) (by omega)).2;have a1:=h.atK hi (x:=x) (by omega);have a2:=z0r (s:=s') (i:=x-i+i') (by rw[a1];exact z9u c);cases f' with
   |zero=>omega
   |succ f' =>
    have j0:(true&&Q1t (atB s' (x-i+i')))=true:=by rw[a1];simpa using c
    rw[z4a s' f'];dsimp only;rw[qAb j0,a1,show x-i+i'+1=x+1-i+i' by omega];exact⟨(j1 f' (by omega)).1,by omega,r1.2⟩
  rw[qAa c]at hn ⊢;dsimp only at hn ⊢;have a1:Q1t (atB s' (x-i+i'))=false:=by
   by_cases q:x<i+n
   ·rw[h.atK hi q];simpa using c
   rw[show x-i+i'=i'+n by omega];exact x1c hst
  cases f' with
  |zero=>exact⟨⟨rfl,rfl,rfl⟩,by omega,rfl⟩
  |succ f' =>
   have j0:¬(true&&Q1t (atB s' (x-i+i')))=true:=by rw[a1];simp
   rw[z4a s' f'];dsimp only;rw[qAa j0];exact⟨⟨rfl,rfl,rfl⟩,by omega,rfl⟩
theorem z9k(s:ByteArray):∀(f:Nat) (r:LR),r.ok=false->Q2g s f r=r
 |0,r,_=>rfl
 |f+1,r,h=>by unfold Q2g;rw[h];rfl
theorem z2r{r:LR}(h:r.ok=true):r=⟨r.next,true,r.lang⟩:=by obtain⟨a,b,c⟩:=r;dsimp only at h ⊢;rw[h]
theorem z9s{a a':Int->LR}(ha:LocA s s' a a')(hg:Q3z s a):Loc s s' (Q1u a s) (Q1u a' s'):=by
 intro i i' n h0 h1 j3 h j4 j1 hn;unfold Q1u at j1 hn ⊢;have j0:(a i).ok=true:=by
  cases e:(a i).ok
  ·rw[z9k s _ _ e,e]at j1;cases j1
  rfl
 have g:=hg i h0 h1 j0;rw[z2r j0]at hn ⊢;have j2:=fun f' hf'=>y1o h j4 (s.size+5) (a i).next (a i).lang (by omega) (by omega) (by omega) hn f' hf';have k1:=(j2 (s'.size+2+((a i).next-i+i').natAbs) (by omega)).2.1;have sm:=ha i i' n h0 h1 j3 h j0 (by omega);rw[z2r sm.ok,sm.next,sm.lang];exact(j2 (s'.size+5) (by omega)).1
theorem z1z(p:Int->LR)(s:ByteArray):∀(f:Nat) (r:LR),r.ok=false->Q1o p s f r=r
 |0,r,_=>rfl
 |f+1,r,h=>by unfold Q1o;rw[h];rfl
theorem z10(p:Int->LR)(s:ByteArray):∀(f:Nat) (r:LR),r.ok=false->Q04 p s f r=r
 |0,r,_=>rfl
 |f+1,r,h=>by unfold Q04;rw[h];rfl
theorem z9q{p p':Int->LR}(hp:Loc s s' p p')(hg:Q3z s p){i i':Int}{n:Nat}(h0:0<=i)(h0':0<=i')(h:Q3g s i s' i' n)(hst:Q8i (atB s' (i'+n))=true):∀(f:Nat) (x:Int) (L:Q03),i<=x->x<=s.size->(s.size:Int)+2<=f+x->(Q1o p s f ⟨x,true,L⟩).ok=true->(Q1o p s f ⟨x,true,L⟩).next<=i+n->∀f':Nat,(s'.size:Int)+2<=f'+(x-i+i') ->
  Same (Q1o p s f ⟨x,true,L⟩) (Q1o p' s' f' ⟨x-i+i',true,L⟩) i i'/\x<=(Q1o p s f ⟨x,true,L⟩).next
 |0,x,L,_,hx,hf,_,_,_,_=>by omega
 |f+1,x,L,hi,hx,hf,hok,hn,f',hf'=>by
  rw[z2m p s f ⟨x,true,L⟩]at hok hn ⊢;dsimp only at hok hn ⊢;rw[qBm]at hok hn ⊢;by_cases c:Q2v s x=true
  ·rw[qAb c]at hok hn ⊢;have hx2:=z0r (s:=s) (i:=x) (y3y c);have j1:(p x).ok=true:=by
    cases e:(p x).ok
    ·have:(Q5z ⟨x,true,L⟩ (p x)).ok=false:=by unfold Q5z;rw[e];rfl
     rw[z1z p s f _ this,this]at hok;cases hok
    rfl
   have ej:Q5z ⟨x,true,L⟩ (p x)=⟨(p x).next,true,Q03.cat L (p x).lang⟩:=by unfold Q5z;rw[qAb j1]
   rw[ej]at hok hn ⊢;have g:=hg x (by omega) (by omega) j1;have j2:=fun f' hf'=>z9q hp hg h0 h0' h hst f (p x).next (Q03.cat L (p x).lang) (by omega) (by omega) (by omega) hok hn f' hf';have r1:=(j2 (s'.size+2+((p x).next-i+i').natAbs) (by omega)).2;have a1:=h.atK hi (x:=x) (by omega);have a2:=z0r (s:=s') (i:=x-i+i') (by rw[a1];exact y3y c);have hh:=h.on (x-i).toNat
   rw[show i+((x-i).toNat:Int)=x by omega,show i'+((x-i).toNat:Int)=x-i+i' by omega]at hh;have sm:=hp x (x-i+i') (n-(x-i).toNat) (by omega) hx (by omega) hh (by rw[show x-i+i'+((n-(x-i).toNat:Nat):Int)=i'+n by omega];exact hst) j1 (by omega);cases f' with
   |zero=>omega
   |succ f' =>
    have j0:(true&&Q2v s' (x-i+i'))=true:=by rw[z2j,a1,← z2j,c];rfl
    have j3:Q5z ⟨x-i+i',true,L⟩ (p' (x-i+i'))=⟨(p x).next-i+i',true,Q03.cat L (p x).lang⟩:=by
     unfold Q5z;rw[qAb sm.ok,sm.next,sm.lang,show(p x).next-x+(x-i+i')=(p x).next-i+i' by omega]
    rw[z2m p' s' f'];dsimp only;rw[qAb j0,j3];exact⟨(j2 f' (by omega)).1,by omega⟩
  rw[qAa c]at hok hn ⊢;dsimp only at hn ⊢;have a1:Q2v s' (x-i+i')=false:=by
   rw[z2j];by_cases q:x<i+n
   ·rw[h.atK hi q];simpa [z2j]using c
   rw[show x-i+i'=i'+n by omega];exact x5h hst
  cases f' with
  |zero=>exact⟨⟨rfl,rfl,rfl⟩,by omega⟩
  |succ f' =>
   have j0:¬(true&&Q2v s' (x-i+i'))=true:=by rw[a1];simp
   rw[z2m p' s' f'];dsimp only;rw[qAa j0];exact⟨⟨rfl,rfl,rfl⟩,by omega⟩
theorem y1m{p p':Int->LR}(hp:Loc s s' p p')(hg:Q3z s p):Loc s s' (Q00 p s) (Q00 p' s'):=by
 intro i i' n h0 h1 j2 h j3 j1 hn;unfold Q00 at j1 hn ⊢;have j0:(p i).ok=true:=by
  cases e:(p i).ok
  ·rw[z1z p s _ _ e,e]at j1;cases j1
  rfl
 have g:=hg i h0 h1 j0;rw[z2r j0]at j1 hn ⊢;have j4:=fun f' hf'=>z9q hp hg h0 j2 h j3 (s.size+5) (p i).next (p i).lang (by omega) (by omega) (by omega) j1 hn f' hf';have k1:=(j4 (s'.size+2+((p i).next-i+i').natAbs) (by omega)).2;have sm:=hp i i' n h0 h1 j2 h j3 j0 (by omega);rw[z2r sm.ok,sm.next,sm.lang];exact(j4 (s'.size+5) (by omega)).1
theorem z9r{p p':Int->LR}(hp:Loc s s' p p')(hg:Q3z s p){i i':Int}{n:Nat}(h0:0<=i)(h0':0<=i')(h:Q3g s i s' i' n)(hst:Q8i (atB s' (i'+n))=true):∀(f:Nat) (x:Int) (L:Q03),i<=x->x<=s.size->(s.size:Int)+2<=f+x->(Q04 p s f ⟨x,true,L⟩).ok=true->(Q04 p s f ⟨x,true,L⟩).next<=i+n->∀f':Nat,(s'.size:Int)+2<=f'+(x-i+i') ->
  Same (Q04 p s f ⟨x,true,L⟩) (Q04 p' s' f' ⟨x-i+i',true,L⟩) i i'/\x<=(Q04 p s f ⟨x,true,L⟩).next
 |0,x,L,_,hx,hf,_,_,_,_=>by omega
 |f+1,x,L,hi,hx,hf,hok,hn,f',hf'=>by
  rw[z2x p s f ⟨x,true,L⟩]at hok hn ⊢;dsimp only at hok hn ⊢;rw[qBm]at hok hn ⊢;by_cases c:(atB s x==124)=true
  ·rw[qAb c]at hok hn ⊢;have c':atB s x=124:=by simpa using c
   have j4:=z0r (s:=s) (i:=x) (by omega);have j1:(p (x+1)).ok=true:=by
    cases e:(p (x+1)).ok
    ·have:(Q10 ⟨x,true,L⟩ (p (x+1))).ok=false:=by unfold Q10;rw[e];rfl
     rw[z10 p s f _ this,this]at hok;cases hok
    rfl
   have ej:Q10 ⟨x,true,L⟩ (p (x+1))=⟨(p (x+1)).next,true,Q03.alt L (p (x+1)).lang⟩:=by unfold Q10;rw[qAb j1]
   rw[ej]at hok hn ⊢;have g:=hg (x+1) (by omega) (by omega) j1;have j2:=fun f' hf'=>z9r hp hg h0 h0' h hst f (p (x+1)).next (Q03.alt L (p (x+1)).lang) (by omega) (by omega) (by omega) hok hn f' hf';have r1:=(j2 (s'.size+2+((p (x+1)).next-i+i').natAbs) (by omega)).2;have a1:=h.atK hi (x:=x) (by omega);have a2:=z0r (s:=s') (i:=x-i+i') (by rw[a1];omega);have hh:=h.on (x+1-i).toNat
   rw[show i+((x+1-i).toNat:Int)=x+1 by omega,show i'+((x+1-i).toNat:Int)=x-i+i'+1 by omega]at hh;have sm:=hp (x+1) (x-i+i'+1) (n-(x+1-i).toNat) (by omega) (by omega) (by omega) hh (by rw[show x-i+i'+1+((n-(x+1-i).toNat:Nat):Int)=i'+n by omega];exact hst) j1 (by omega);cases f' with
   |zero=>omega
   |succ f' =>
    have j0:(true&&(atB s' (x-i+i')==124))=true:=by rw[a1];simpa using c
    have j3:Q10 ⟨x-i+i',true,L⟩ (p' (x-i+i'+1))=⟨(p (x+1)).next-i+i',true,Q03.alt L (p (x+1)).lang⟩:=by
     unfold Q10;rw[qAb sm.ok,sm.next,sm.lang,show(p (x+1)).next-(x+1)+(x-i+i'+1)=(p (x+1)).next-i+i' by omega]
    rw[z2x p' s' f'];dsimp only;rw[qAb j0,j3];exact⟨(j2 f' (by omega)).1,by omega⟩
  rw[qAa c]at hok hn ⊢;dsimp only at hn ⊢;have a1:(atB s' (x-i+i')==124)=false:=by
   by_cases q:x<i+n
   ·rw[h.atK hi q];simpa using c
   rw[show x-i+i'=i'+n by omega];simpa using x5g hst
  cases f' with
  |zero=>exact⟨⟨rfl,rfl,rfl⟩,by omega⟩
  |succ f' =>
   have j0:¬(true&&(atB s' (x-i+i')==124))=true:=by rw[a1];simp
   rw[z2x p' s' f'];dsimp only;rw[qAa j0];exact⟨⟨rfl,rfl,rfl⟩,by omega⟩
theorem y1n{p p':Int->LR}(hp:Loc s s' p p')(hg:Q3z s p):Loc s s' (Q25 p s) (Q25 p' s'):=by
 intro i i' n h0 h1 j2 h j3 j1 hn;unfold Q25 at j1 hn ⊢;have j0:(p i).ok=true:=by
  cases e:(p i).ok
  ·rw[z10 p s _ _ e,e]at j1;cases j1
  rfl
 have g:=hg i h0 h1 j0;rw[z2r j0]at j1 hn ⊢;have j4:=fun f' hf'=>z9r hp hg h0 j2 h j3 (s.size+5) (p i).next (p i).lang (by omega) (by omega) (by omega) j1 hn f' hf';have k1:=(j4 (s'.size+2+((p i).next-i+i').natAbs) (by omega)).2;have sm:=hp i i' n h0 h1 j2 h j3 j0 (by omega);rw[z2r sm.ok,sm.next,sm.lang];exact(j4 (s'.size+5) (by omega)).1
theorem x3v{c c':Int->LR}(hc:Loc s s' c c')(hg:Q3z s c):LocG s s' (Q6h c s) (Q6h c' s'):=by
 intro i i' n h0 j3 j4 h j0 hn;have hi:=z0r (s:=s) (i:=i) (by omega);unfold Q6h at j0 hn ⊢;by_cases c1:(c (i+1)).ok=false
 ·rw[qAb c1]at j0;cases j0
 have j1:(c (i+1)).ok=true:=by simpa using c1
 rw[qAa c1]at j0 hn ⊢;by_cases c2:atB s (c (i+1)).next≠41
 ·rw[qAb c2]at j0;cases j0
 rw[qAa c2]at j0 hn ⊢;dsimp only at hn ⊢;have j2:atB s (c (i+1)).next=41:=by
  by_cases q:atB s (c (i+1)).next=41
  ·exact q
  exact absurd q c2
 have g:=hg (i+1) (by omega) (by omega) j1;have a1:=h.atK (x:=(c (i+1)).next) (by omega) (by omega);have hh:=h.tail.less (m:=((c (i+1)).next-(i+1)).toNat) (by omega);have sm:=hc (i+1) (i'+1) _ (by omega) (by omega) (by omega) hh (by
  rw[show i'+1+(((c (i+1)).next-(i+1)).toNat:Int)=(c (i+1)).next-i+i' by omega,a1,j2];decide) j1 (by omega)
 have e3:(c' (i'+1)).next=(c (i+1)).next-i+i':=by rw[sm.next];omega
 rw[qAa (by rw[sm.ok];simp),e3,a1,qAa c2];exact⟨rfl,by dsimp only;omega,sm.lang⟩
end
theorem y81(s s':ByteArray):∀k k':Nat,k<=k'->LocG s s' (lgK s k) (lgK s' k')
 |0,_,_=>fun i i' n _ _ _ _ hok _=>by cases hok
 |k+1,0,h=>by omega
 |k+1,k'+1,h=>x3v (y1n (y1m (z9s (z8h (y81 s s' k k' (by omega)) (z2y s k)) (z2y s k)) (z6l s k)) (y4s s k)) (y4t s k)
theorem y2p(s s':ByteArray){k k':Nat}(h:k<=k'):Loc s s' (Q61 s k) (Q61 s' k'):=y1n (y1m (z9s (z8h (y81 s s' k k' h) (z2y s k)) (z2y s k)) (z6l s k)) (y4s s k)
section
variable {s:ByteArray}{a p:Int->LR}{i:Int}
theorem y6k{g:Int->LR}(h:(Q3m g s i).ok=true):W0m (atB s i)=true:=by
 unfold Q3m at h;by_cases c:atB s i=40
 ·rw[c];decide
 rw[qAa c]at h;by_cases c2:(Q2r s i).2.2=false
 ·rw[qAb c2]at h;cases h
 unfold Q2r at c2;by_cases d1:atB s i=46
 ·rw[d1];decide
 rw[qAa d1]at c2;by_cases d2:atB s i=91
 ·rw[d2];decide
 rw[qAa d2]at c2;by_cases d3:atB s i=92
 ·rw[d3];decide
 rw[qAa d3]at c2;by_cases d4:Q02 (atB s i)=false
 ·rw[qAb d4]at c2;exact absurd rfl c2
 unfold W0m;have:Q02 (atB s i)=true:=by simpa using d4
 rw[this];simp
theorem y2v(h:(Q1u a s i).ok=true):(a i).ok=true:=by
 cases e:(a i).ok
 ·unfold Q1u at h;rw[z9k s _ _ e,e]at h;cases h
 rfl
theorem x18(h:(Q00 p s i).ok=true):(p i).ok=true:=by
 cases e:(p i).ok
 ·unfold Q00 at h;rw[z1z p s _ _ e,e]at h;cases h
 rfl
theorem x2d(h:(Q25 p s i).ok=true):(p i).ok=true:=by
 cases e:(p i).ok
 ·unfold Q25 at h;rw[z10 p s _ _ e,e]at h;cases h
 rfl
theorem z8y:∀(f:Nat) (x:Int) (b:Bool) (L L':Q03),(Q04 p s f ⟨x,b,L⟩).next=(Q04 p s f ⟨x,b,L'⟩).next/\(Q04 p s f ⟨x,b,L⟩).ok=(Q04 p s f ⟨x,b,L'⟩).ok
 |0,x,b,L,L'=>⟨rfl,rfl⟩
 |f+1,x,b,L,L'=>by
  unfold Q04;dsimp only;by_cases c:(b&&(atB s x==124))=true
  ·rw[qAb c,qAb c];cases e:(p (x+1)).ok
   ·have q1:∀L,(Q10 ⟨x,b,L⟩ (p (x+1)))=⟨(p (x+1)).next,false,noL⟩:=fun L=>by unfold Q10;rw[e];rfl
    rw[q1,q1];exact⟨rfl,rfl⟩
   have q1:∀L,(Q10 ⟨x,b,L⟩ (p (x+1)))=⟨(p (x+1)).next,true,Q03.alt L (p (x+1)).lang⟩:=fun L=>by unfold Q10;rw[qAb e]
   rw[q1,q1];exact z8y f _ _ _ _
  rw[qAa c,qAa c];exact⟨rfl,rfl⟩
end
def pre4:ByteArray:=⟨#[97,61,120,40]⟩
def post5:ByteArray:=⟨#[41,10,83,58,10]⟩
def specX(b:ByteArray):ByteArray:=pre4++b++post5
section
variable (b:ByteArray)
end
theorem v1d{s:ByteArray}{i:Int}(h:(Q1r s i).ok=true):(Q61 s 6 i).ok=true/\(Q1r s i).next=(Q61 s 6 i).next:=by
 have hk:=y80 s 6 i [];exact⟨by rw[← h];exact hk.ok.symm,hk.next⟩
section
variable {b p q:ByteArray}{L M:Q03}
end
end Go.Proofs.YtbdpfmalabgmbaaGreat
