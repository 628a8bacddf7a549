import Derived.Test.YtbdpfmalabgmbaaGreatKc1
namespace Go.Proofs.YtbdpfmalabgmbaaGreat
open Go.RowKit
set_option linter.all false
theorem WordAt.clean{s:ByteArray}{i:Int}{m:Nat}{d:Wd}(h:WordAt s i m d):Q1j s i (i+m):=by
 intro k h1 h2;have:=h.byte (k-i).toNat (by omega);have e:i+((k-i).toNat:Int)=k:=by omega
 rw[e]at this;omega
theorem WordAt.head{s:ByteArray}{i:Int}{m:Nat}{d:Wd}(h:WordAt s i m d):Q16 d=Q1a (atB s i):=by
 unfold Q16;rw[h.ls];have:=h.pos;simp[List.range,List.range.loop,show 0<m by omega]
structure RuleAt(s:ByteArray)(i:Nat)(x:Ln)(e m:Nat):Prop where
 hw:WordAt s i m x.front
 hs:Q0m (atB s i)=true
 hr:Q0x x=true
 hle:i+m<e
 hc:Q1j s i e
 hm:atB s ((i:Int)+m)=61∨atB s ((i:Int)+m)=126
 hk:x.skip=(atB s ((i:Int)+m)==126)
 hsy:x.syms=[]
structure ProdAt(s:ByteArray)(i:Nat)(x:Ln)(e m:Nat)(ns:List ByteArray):Prop where
 hw:WordAt s i m x.front
 hs:Q1a (atB s i)=true
 hr:Q0x x=false
 hc:Q1j s i e
 hm:atB s ((i:Int)+m)=58
 hp:PN s (i+m+1) x.syms ns e
def Q87(s:ByteArray)(i:Nat)(x:Ln)(e:Nat):Prop:=(∃m,RuleAt s i x e m)∨(∃m ns,ProdAt s i x e m ns)
theorem Q87.clean{s:ByteArray}{i e:Nat}{x:Ln}(h:Q87 s i x e):Q1j s i e:=by
 rcases h with⟨m,h⟩|⟨m,ns,h⟩
 ·exact h.hc
 exact h.hc
theorem y20(s:ByteArray)(i:Nat)(h:(Q2w s i).2.2=true):∃e:Nat,e<s.size/\i<e/\atB s (e:Nat)=10/\(Q2w s i).2.1=((e+1:Nat):Int)/\Q87 s i (Q2w s i).1 e:=by
 unfold Q2w at h ⊢;cases hw:(Q07 s i).2.2
 ·rw[qAb hw]at h;cases h
 rw[qAa (by simp[hw])]at h ⊢;obtain⟨m,j0,j3⟩:=z8k s i hw;have j6:=j0.in';have j4:=j0.pos;have j2:=j0.head;generalize(Q07 s i).1=d at *;rw[j3]at h ⊢;cases hh:Q16 d
 ·rw[hh]at h;simp only[qF,qAz]at h ⊢;unfold Q6q at h ⊢;by_cases c1:atB s ((i:Int)+m)≠61/\atB s ((i:Int)+m)≠126
  ·rw[qAb c1]at h;cases h
  rw[qAa c1]at h ⊢;cases c2:(Q1r s ((i:Int)+m+1)).ok
  ·rw[qAb c2]at h;cases h
  rw[qAa (by simp[c2])]at h ⊢;by_cases c3:atB s (Q1r s ((i:Int)+m+1)).next=10
  ·rw[qAa (by simpa using c3)]at h ⊢;have cl:=y7h c2;have j8:=z8q (s:=s) (i:=(Q1r s ((i:Int)+m+1)).next) (by omega);have j5:(i:Int)+m+1<=(Q1r s ((i:Int)+m+1)).next:=by
    by_cases hq:(Q1r s ((i:Int)+m+1)).next<(i:Int)+m+1
    ·exfalso;have hg:=(z5k s 6) ((i:Int)+m+1) [] (by omega) (by
      have:0<=atB s ((i:Int)+m):=by
       by_cases q:atB s ((i:Int)+m)=61
       ·omega
       by_cases q2:atB s ((i:Int)+m)=126
       ·omega
       exact absurd ⟨q,q2⟩ c1
      have:=z8q this;omega)
     have:=hg.lo;unfold Q1r at hq;omega
    omega
   refine⟨(Q1r s ((i:Int)+m+1)).next.toNat,by omega,by omega,?_,by dsimp only;omega,?_⟩
   ·rw[Int.toNat_of_nonneg (by omega)];exact c3
   have j1:atB s ((i:Int)+m)=61∨atB s ((i:Int)+m)=126:=by
    by_cases q:atB s ((i:Int)+m)=61
    ·exact .inl q
    by_cases q2:atB s ((i:Int)+m)=126
    ·exact .inr q2
    exact absurd ⟨q,q2⟩ c1
   refine .inl ⟨m,j0,?_,?_,by omega,?_,j1,rfl,rfl⟩
   ·rcases j0.first with h1|h1
    ·exact h1
    rw[← j2,hh]at h1;cases h1
   ·show(!Q16 d)=true;rw[hh];rfl
   rw[Int.toNat_of_nonneg (by omega)];exact(j0.clean.trans (Q1j.one (by rcases j1 with q|q<;>omega))).trans cl
  rw[qAb c3]at h;cases h
 rw[hh]at h;simp only[qBn]at h ⊢;unfold Q6p at h ⊢;by_cases c1:atB s ((i:Int)+m)=58
 ·rw[qAa (by simpa using c1)]at h ⊢;have e1:(i:Int)+m+1=((i+m+1:Nat):Int):=by omega
  rw[e1]at h ⊢;obtain⟨ds,ns,q,h1,h2,h3⟩:=z92 s d _ _ _ h;rw[h3];have:=z8q (s:=s) (i:=(q:Nat)) (by omega);have j7:=h1.le;refine⟨q,by omega,by omega,h2,rfl,?_⟩;refine .inr ⟨m,ns,j0,by rw[← j2];exact hh,?_,?_,c1,by simpa using h1⟩
  ·show(!Q16 d)=false;rw[hh];rfl
  exact(j0.clean.trans (Q1j.one (by omega))).trans (by rw[e1];exact h1.clean)
 rw[qAb c1]at h;cases h
theorem y77(s:ByteArray)(a e:Nat)(he:e<=s.size)(h:a<e):atB (s.extract a e) 0=atB s a:=by
 have:=z3x s a e 0 he (by omega);simpa using this
theorem y6y(s:ByteArray)(a e c:Nat)(he:e<=s.size)(hc:a+c<=e):(s.extract a e).extract 0 c=s.extract a (a+c):=by
 apply qFi;simp only[qEg,qEz];have:s.size=s.data.size:=rfl;congr 1;omega
theorem x96(s:ByteArray)(a e c:Nat)(he:e<=s.size)(hc:a+c<=e):(s.extract a e).extract c (s.extract a e).size=s.extract (a+c) e:=by
 apply qFi;rw[qBl];simp only[qEg,qEz];have:s.size=s.data.size:=rfl;congr 1;omega
theorem z73(s:ByteArray)(i e m:Nat)(d:Wd)(x:LO)(he:e<=s.size)(hw:WordAt s i m d)(hs:Q0m (atB s i)=true)(hle:i+m<e)(hm:atB s ((i:Int)+m)=61∨atB s ((i:Int)+m)=126) :
  Q9w (s.extract i e) x={x with rules:=x.rules++[s.extract i (i+m)],skip:=x.skip++[atB s ((i:Int)+m)==126]}:=by
 have j0:(s.extract i e).size=e-i:=by rw[qBl];omega
 have j1:Q4d (s.extract i e) 61 126=m:=by
  refine z7j s i e m 61 126 he (by omega) ?_ (.inr hm);intro k hk;have:=hw.byte k hk;exact⟨by omega,by omega⟩
 unfold Q9w;rw[qAa (by omega),y77 s i e he (by omega),qAb (by simpa [Q0m]using hs),j1,y6y s i e m he (by omega),z3x s i e m he (by omega)];simp[j0,show m<e-i by omega]
theorem z72(s:ByteArray)(i e m:Nat)(d:Wd)(ds:List Wd)(ns:List ByteArray)(x:LO)(he:e<=s.size)(hw:WordAt s i m d)(hs:Q1a (atB s i)=true)(hm:atB s ((i:Int)+m)=58)(hp:PN s (i+m+1) ds ns e) :
  Q9w (s.extract i e) x={x with
   heads:=if Q1y x.heads (s.extract i (i+m))<0 then x.heads++[s.extract i (i+m)] else x.heads
   head:=x.head++[if Q1y x.heads (s.extract i (i+m))<0 then(x.heads.length:Int) else Q1y x.heads (s.extract i (i+m))]
   names:=x.names++[ns]}:=by
 have j2:=hp.le;have j6:(s.extract i e).size=e-i:=by rw[qBl];omega
 have j4:Q4d (s.extract i e) 58 58=m:=by
  refine z7j s i e m 58 58 he (by omega) ?_ (.inr (.inl hm));intro k hk;have:=hw.byte k hk;exact⟨by omega,by omega⟩
 have j1:=x2a hs;have j5:wordsF (s.extract (i+m) e)=s.extract (i+m) (i+m+1)::ns:=by
  have j3:(s.extract (i+m) e).size=e-(i+m):=by rw[qBl];omega
  unfold wordsF;have j0:Q4d (s.extract (i+m) e) 32 32=1:=by
   refine z7j s (i+m) e 1 32 32 he (by omega) ?_ ?_
   ·intro k hk;have:k=0:=by omega
    subst this;have e1:(((i+m:Nat):Int)+((0:Nat):Int))=(i:Int)+m:=by omega
    rw[e1,hm];exact⟨by omega,by omega⟩
   rcases hp.next with h9|h9
   ·left;omega
   right;left;rw[← h9];congr 1
  conv=>lhs;unfold Q7l
  have e0:(s.extract (i+m) e).extract 0 (s.extract (i+m) e).size=s.extract (i+m) e:=x95 _;rw[e0,j0,qAb (show 0<(s.extract (i+m) e).size by omega),qAb (show 0<1 by omega)];have:=x8j s (i+m) e he hp rfl (by omega) (s.extract (i+m) e).size [s.extract (i+m) (i+m+1)] (by omega);have e2:(if 0+1<(s.extract (i+m) e).size then 0+1+1 else 0+1)=(if i+m+1<e then i+m+1+1-(i+m) else i+m+1-(i+m)):=by
   rw[j3];by_cases hh:i+m+1<e
   ·rw[qAb (by omega),qAb hh];omega
   rw[qAa (by omega),qAa hh];omega
  rw[e2];have e3:([]:List ByteArray)++[(s.extract (i+m) e).extract 0 (0+1)]=[s.extract (i+m) (i+m+1)]:=by
   rw[qBy,y6y s (i+m) e 1 he (by omega)];rfl
  rw[e3,this];rfl
 unfold Q9w;rw[qAa (by omega),y77 s i e he (by omega),qAa (by omega),j4,y6y s i e m he (by omega),x96 s i e m he (by omega),j5];rfl
theorem y8k{l:List ByteArray}{t:ByteArray}(h:∃y∈l,y.toList=t.toList):0<=Q1y l t:=by
 obtain⟨y,hy,he⟩:=h;unfold Q1y;have:l.findIdx (fun x=>x.toList==t.toList)<l.length:=qFw ⟨y,hy,by simp[he]⟩;rw[qAb this];omega
theorem z6f{l:List ByteArray}{t:ByteArray}(h:¬Q1y l t<0):∃y∈l,y.toList=t.toList:=by
 unfold Q1y at h;by_cases hq:l.findIdx (fun x=>x.toList==t.toList)<l.length
 ·have:=qDz (w:=hq);exact⟨_,qG hq,by simpa using this⟩
 rw[qAa hq]at h;omega
def Named(s:ByteArray)(x:Ln)(l:List ByteArray):Prop:=∃i m:Nat,WordAt s i m x.front/\∃y∈l,y.toList=(s.extract i (i+m)).toList
theorem Named.mono{s:ByteArray}{x:Ln}{l l':List ByteArray}(h:Named s x l)(hl:∀y∈l,y∈l'):Named s x l':=by
 obtain⟨i,m,h1,y,h2,h3⟩:=h;exact⟨i,m,h1,y,hl y h2,h3⟩
def WordOf(s:ByteArray)(ds:List Wd)(t:ByteArray):Prop:=∃d∈ds,∃j m:Nat,WordAt s j m d/\t=s.extract j (j+m)
theorem PN.words{s:ByteArray}{p q:Nat}{ds:List Wd}{ns:List ByteArray}(h:PN s p ds ns q):∀t∈ns,WordOf s ds t:=by
 refine PN.ind (M:=fun _ ds ns=>∀t∈ns,WordOf s ds t) ?_ ?_ ds p ns h
 ·intro t ht;simp at ht
 intro p m d ds ns j0 hw j1 h ih t ht;simp at ht;rcases ht with rfl|ht
 ·exact⟨d,by simp,p+1,m,hw,rfl⟩
 obtain⟨d',h1,h2⟩:=ih t ht;exact⟨d',by simp[h1],h2⟩
theorem PN.places{s:ByteArray}{p q:Nat}{ds:List Wd}{ns:List ByteArray}(h:PN s p ds ns q):∀d∈ds,0<=d.place:=by
 refine PN.ind (M:=fun _ ds _=>∀d∈ds,0<=d.place) ?_ ?_ ds p ns h
 ·intro t ht;simp at ht
 intro p m d ds ns j0 hw j1 h ih t ht;simp at ht;rcases ht with rfl|ht
 ·rw[hw.place];omega
 exact ih t ht
structure Inv(s:ByteArray)(lns:List Ln)(x:LO):Prop where
 rules:x.rules.length=(lns.filter Q0x).length
 skip:x.skip=(lns.filter Q0x).map Ln.skip
 count:x.names.length=(lns.filter (fun y=>!Q0x y)).length
 named:∀y∈lns,if Q0x y then Named s y x.rules else Named s y x.heads
 words:∀l∈x.names,∀t∈l,∃y∈lns,WordOf s y.syms t
 places:∀y∈lns,0<=y.front.place/\∀d∈y.syms,0<=d.place
theorem x6p{s:ByteArray}{lns:List Ln}{x:LO}{y:Ln}{i e:Nat}(h:Inv s lns x)(he:e<=s.size)(hl:Q87 s i y e):Inv s (lns++[y]) (Q9w (s.extract i e) x):=by
 rcases hl with⟨m,hw,hs,hr,j0,hc,hm,hk,j1⟩|⟨m,ns,hw,hs,hr,hc,hm,hp⟩
 ·rw[z73 s i e m _ x he hw hs j0 hm];refine⟨?_,?_,?_,?_,?_,?_⟩
  ·simp[h.rules,qAq,hr]
  ·simp[h.skip,qAq,hr,hk]
  ·simp[h.count,qAq,hr]
  ·intro z hz;simp only[qU,qM]at hz;rcases hz with hz|rfl
   ·have:=h.named z hz;split
    ·rename_i hq;rw[qAb hq]at this;exact this.mono (fun y hy=>by simp[hy])
    rename_i hq;rw[qAa hq]at this;exact this
   rw[qAb hr];exact⟨i,m,hw,s.extract i (i+m),by simp,rfl⟩
  ·intro l hl t ht;obtain⟨z,hz,hw⟩:=h.words l hl t ht;exact⟨z,by simp[hz],hw⟩
  intro z hz;simp only[qU,qM]at hz;rcases hz with hz|rfl
  ·exact h.places z hz
  exact⟨by rw[hw.place];omega,by rw[j1];intro d hd;cases hd⟩
 rw[z72 s i e m _ _ ns x he hw hs hm hp];refine⟨?_,?_,?_,?_,?_,?_⟩
 ·simp[h.rules,qAq,hr]
 ·simp[h.skip,qAq,hr]
 ·simp[h.count,qAq,hr]
 ·intro z hz;simp only[qU,qM]at hz;rcases hz with hz|rfl
  ·have:=h.named z hz;split
   ·rename_i hq;rw[qAb hq]at this;exact this
   rename_i hq;rw[qAa hq]at this;refine this.mono (fun y hy=>?_);dsimp only;split
   ·simp[hy]
   exact hy
  rw[qAa (by simp[hr])];dsimp only;split
  ·exact⟨i,m,hw,s.extract i (i+m),by simp,rfl⟩
  rename_i hq;obtain⟨y,h1,h2⟩:=z6f hq;exact⟨i,m,hw,y,h1,h2⟩
 ·intro l hl t ht;simp only[qU,qM]at hl;rcases hl with hl|rfl
  ·obtain⟨z,hz,hw⟩:=h.words l hl t ht;exact⟨z,by simp[hz],hw⟩
  exact⟨y,by simp,hp.words t ht⟩
 intro z hz;simp only[qU,qM]at hz;rcases hz with hz|rfl
 ·exact h.places z hz
 exact⟨by rw[hw.place];omega,hp.places⟩
theorem y4o(s:ByteArray):∀(f i:Nat) (acc:List Ln) (g:Nat) (x:LO),(Q1l s f i acc).2.2=true->i<=s.size->s.size+1<=g+i->Inv s acc x->Inv s (Q1l s f i acc).1 (W0e s g i x)
 |0,i,acc,g,x,h,hi,hg,hI=>by simp[Q1l]at h
 |f+1,i,acc,g,x,h,hi,hg,hI=>by
  obtain⟨g,rfl⟩:∃k,g=k+1:=⟨g-1,by omega⟩;unfold Q1l at h ⊢;unfold W0e;by_cases j1:i<s.size
  ·rw[qAb (by omega)]at h ⊢;rw[qAb j1];cases hok:(Q2w s i).2.2
   ·rw[qAb hok]at h;cases h
   rw[qAa (by simp[hok])]at h ⊢;obtain⟨e,j3,j7,j4,j5,j0⟩:=y20 s i hok;rw[j5]at h ⊢;have j2:Q1j s i e:=j0.clean;have j6:Q4d (s.extract i s.size) 10 10=e-i:=by
    refine z7j s i s.size (e-i) 10 10 (by omega) (by omega) ?_ ?_
    ·intro k hk;have:=j2 ((i:Int)+k) (by omega) (by omega);exact⟨by omega,by omega⟩
    right;left;have e1:(i:Int)+((e-i:Nat):Int)=(e:Nat):=by omega
    rw[e1];exact j4
   rw[j6,show i+(e-i)=e by omega,qAb j3];exact y4o s f (e+1) _ g _ h (by omega) (by omega) (x6p hI (by omega) j0)
  rw[qAa (by omega)]at h ⊢;rw[qAa j1];exact hI
theorem y0h{lns:List Ln}{syms:List Wd}(hp:∀d∈syms,0<=d.place):∀(f j:Nat),Q7c lns syms f j=none->syms.length+1<=f+j->∀k (hk:k<syms.length),j<=k->W0h lns syms[k]=true
 |0,j,h,hf,k,hk,hjk=>by omega
 |f+1,j,h,hf,k,hk,hjk=>by
  unfold Q7c at h;have hj:j<syms.length:=by omega
  rw[qE hj]at h;simp only[]at h;cases hs:W0h lns syms[j]
  ·rw[hs]at h;simp at h
  rw[hs]at h;simp only[qBn]at h;by_cases e:j=k
  ·subst e;exact hs
  exact y0h hp f (j+1) h (by omega) k hk (by omega)
theorem z7k{lns:List Ln}(hp:∀y∈lns,0<=y.front.place/\∀d∈y.syms,0<=d.place):∀(f i:Nat),Q65 lns f i=-1->lns.length+1<=f+i->∀k (hk:k<lns.length),i<=k->Q74 lns lns[k].syms=none
 |0,i,h,hf,k,hk,hik=>by omega
 |f+1,i,h,hf,k,hk,hik=>by
  unfold Q65 at h;have hi:i<lns.length:=by omega
  rw[qE hi]at h;simp only[]at h;have j0:=hp lns[i] (qG hi);by_cases c:(Q0x lns[i]&&Q3b lns i)=true
  ·rw[qAb c]at h;omega
  rw[qAa c]at h;cases hs:Q74 lns lns[i].syms with
  |some p =>
   rw[hs]at h;simp only[]at h;exfalso;have:∀(f j:Nat),Q7c lns lns[i].syms f j=some p->0<=p:=by
    intro f;induction f with
    |zero=>intro j h;simp[Q7c]at h
    |succ f ih =>
     intro j h;unfold Q7c at h;split at h
     ·rename_i d hd;split at h
      ·exact ih _ h
      simp at h;rw[← h];exact j0.2 d (qAi hd)
     cases h
   have:=this _ _ hs;omega
  |none =>
   rw[hs]at h;simp only[]at h;by_cases e:i=k
   ·subst e;exact hs
   exact z7k hp f (i+1) h (by omega) k hk (by omega)
theorem z2d{s:ByteArray}(h:Q0u s=(0,0)):s.size<=800/\(Q0c s).2.2=true/\Q2b (Q0c s).1=-1/\Q4a (Q0c s).1=true/\Q3v (Q0c s).1=-1:=by
 unfold Q0u at h;split at h
 ·simp at h
 rename_i h1;split at h
 ·simp at h
 rename_i h2;split at h
 ·simp at h
 rename_i h3;split at h
 ·simp at h
 rename_i h4;split at h
 ·simp at h
 split at h
 ·simp at h
 rename_i h5;exact⟨by omega,by simpa using h2,by simpa using h4,by simpa using h5,by simpa using h3⟩
theorem x6q{s:ByteArray}:Inv s [] Q9n:=by
 refine⟨rfl,rfl,rfl,?_,?_,?_⟩
 ·intro y hy;simp at hy
 ·intro l hl;simp[Q9n]at hl
 intro y hy;simp at hy
theorem Q62{s:ByteArray}(h:Q0u s=(0,0)):Inv s (Q0c s).1 (linesX s):=by
 obtain⟨h1,h2,h3,h4,h5⟩:=z2d h;have j0:(Q1l s (s.size+5) ((0:Nat):Int) []).2.2=true:=h2;exact y4o s (s.size+5) 0 [] (s.size+1) Q9n j0 (by omega) (by omega) x6q
theorem z1d(hs:List Hd)(n m:Int)(x:Hd):Q1k (Q70 hs n x) m=if m=n/\0<=n/\n<hs.length then x else Q1k hs m:=by
 unfold Q1k Q70;by_cases hn:0<=n
 ·rw[qAb hn];by_cases hm:0<=m
  ·rw[qAb hm,qAb hm,qCs];by_cases e:n.toNat=m.toNat
   ·have e2:m=n:=by omega
    subst e2;rw[qAb e];by_cases hl:m.toNat<hs.length
    ·rw[qAb hl,qAb ⟨rfl,hn,by omega⟩];rfl
    rw[qAa hl,qAa (by omega),qN (by omega)]
   rw[qAa e,qAa (by omega)]
  rw[qAa hm,qAa hm,qAa (by omega)]
 rw[qAa hn,qAa (show ¬(m=n/\0<=n/\n<hs.length) from fun h=>hn h.2.1)]
theorem z5o{hs:List Hd}{n:Int}{x:Hd}(h:Q67 hs n x=false)(h0:0<=n)(hl:n<hs.length):Q1k hs n=x:=by
 unfold Q67 at h;unfold Q1k;rw[qAb h0]at h ⊢;rw[qE (by omega)]at h ⊢;exact z8c.1 (by simpa using h)
theorem z9c:∀(l:List Pr) (hs:List Hd) (g:Bool),(∀x∈hs,x.ok)->(Q5k l hs g).2=false->∀p∈l,(Q3i hs p).2=false
 | [],_,_,_,_,p,hp=>by cases hp
 |q::l,hs,g,hok,h,p,hp=>by
  have h1:=z3u hok q g;have h2:=z4z l h1.ok (g||(Q3i hs q).2);have h3:=(h2.same h).1;simp only[qCb]at h3;have h4:=(h1.same (by simpa using h3)).2;simp only[qBu]at hp;rcases hp with rfl|hp
  ·exact h3.2
  have h5:(Q5k l (Q3i hs q).1 (g||(Q3i hs q).2)).2=false:=h;dsimp only at h4;rw[h4]at h5;exact z9c l hs _ hok h5 p hp
theorem z9d:∀(l:List Pr) (hs:List Hd) (g:Bool),(∀x∈hs,x.ok)->(Q48 l hs g).2=false->∀p∈l,(Q4t hs p).2=false
 | [],_,_,_,_,p,hp=>by cases hp
 |q::l,hs,g,hok,h,p,hp=>by
  have h1:=z40 hok q g;have h2:=z41 l h1.ok (g||(Q4t hs q).2);have h3:=(h2.same h).1;simp only[qCb]at h3;have h4:=(h1.same (by simpa using h3)).2;simp only[qBu]at hp;rcases hp with rfl|hp
  ·exact h3.2
  have h5:(Q48 l (Q4t hs q).1 (g||(Q4t hs q).2)).2=false:=h;dsimp only at h4;rw[h4]at h5;exact z9d l hs _ hok h5 p hp
theorem z5z(ph:Int):∀(l:List Sy) (hs:List Hd) (g:Bool),(∀x∈hs,x.ok)->(Q2z ph l hs g).2=false->∀(a:List Sy) (s:Sy) (b:List Sy),l=a++s::b->s.isH=true->Q67 hs s.num (Q5t hs ph s.num b)=false
 | [],_,_,_,_,a,s,b,e,_=>by cases a<;>cases e
 |q::l,hs,g,hok,h,a,s,b,e,hs1=>by
  unfold Q2z at h;cases hq:q.isH
  ·rw[qAb hq]at h;cases a with
   |nil=>simp only[qCh,qBe]at e;obtain⟨rfl,_⟩:=e;rw[hq]at hs1;cases hs1
   |cons c a=>simp only[qBh,qBe]at e;exact z5z ph l hs g hok h a s b e.2 hs1
  rw[qAa (by simp[hq])]at h;have h1:Q2u hs (Q70 hs q.num (Q5t hs ph q.num l),g||Q67 hs q.num (Q5t hs ph q.num l)) g:=by
   refine Q2u.put hok ?_ ?_ g
   ·exact⟨(z0k hok q.num).fi,z04 (z0k hok q.num).fo (z3j hok _ _)⟩
   exact v0l (z0k hok _) (z3j hok _ _)
  have h2:=z3c ph l h1.ok (g||Q67 hs q.num (Q5t hs ph q.num l));have h3:=(h2.same h).1;have h4:=(h1.same h3).2;simp only[qCb]at h3;cases a with
  |nil=>simp only[qCh,qBe]at e;obtain⟨rfl,rfl⟩:=e;exact h3.2
  |cons c a =>
   simp only[qBh,qBe]at e;dsimp only at h4;rw[h4]at h;exact z5z ph l hs _ hok h a s b e.2 hs1
theorem z9g:∀(l:List Pr) (hs:List Hd) (g:Bool),(∀x∈hs,x.ok)->(Q5l l hs g).2=false->∀p∈l,(Q2z p.head p.syms hs false).2=false
 | [],_,_,_,_,p,hp=>by cases hp
 |q::l,hs,g,hok,h,p,hp=>by
  have h1:=z3c q.head q.syms hok g;have h2:=z43 l h1.ok (Q2z q.head q.syms hs g).2;have h3:=(h2.same h).1;have h4:=h1.same h3;simp only[qBu]at hp;rcases hp with rfl|hp
  ·have h6:=h3;rw[h4.1]at h6;exact h6
  have h5:(Q5l l (Q2z q.head q.syms hs g).1 (Q2z q.head q.syms hs g).2).2=false:=h;rw[h4.2]at h5;exact z9g l hs _ hok h5 p hp
theorem z5y:∀(l:List Sy) (hs:List Hd) (g:Bool),(∀x∈hs,x.ok)->(Q3j l hs g).2=false->∀s∈l,s.isH=true->Q67 hs s.num {Q1k hs s.num with rch:=true}=false
 | [],_,_,_,_,s,hs,_=>by cases hs
 |q::l,hs,g,hok,h,s,hm,hs1=>by
  unfold Q3j at h;simp only[qBu]at hm;cases hq:q.isH
  ·rw[qAb hq]at h;rcases hm with rfl|hm
   ·rw[hq]at hs1;cases hs1
   exact z5y l hs g hok h s hm hs1
  rw[qAa (by simp[hq])]at h;have h1:Q2u hs (Q70 hs q.num {Q1k hs q.num with rch:=true},g||Q67 hs q.num {Q1k hs q.num with rch:=true}) g:=by
   refine Q2u.put hok ?_ ?_ g
   ·exact⟨(z0k hok q.num).fi,(z0k hok q.num).fo⟩
   exact x3o _
  have h2:=z3b l h1.ok (g||Q67 hs q.num {Q1k hs q.num with rch:=true});have h3:=(h2.same h).1;have h4:=(h1.same h3).2;simp only[qCb]at h3;rcases hm with rfl|hm
  ·exact h3.2
  dsimp only at h4;rw[h4]at h;exact z5y l hs _ hok h s hm hs1
theorem z5x:∀(l:List Pr) (hs:List Hd) (g:Bool),(∀x∈hs,x.ok)->(Q3o l hs g).2=false->∀p∈l,(Q1k hs p.head).rch=true->(Q3j p.syms hs false).2=false
 | [],_,_,_,_,p,hp,_=>by cases hp
 |q::l,hs,g,hok,h,p,hp,hr=>by
  unfold Q3o at h;simp only[qBu]at hp;cases hq:(Q1k hs q.head).rch
  ·rw[qAb hq]at h;rcases hp with rfl|hp
   ·rw[hq]at hr;cases hr
   exact z5x l hs g hok h p hp hr
  rw[qAa (by simp[hq])]at h;have h1:=z3b q.syms hok g;have h2:=z3v l h1.ok (Q3j q.syms hs g).2;have h3:=(h2.same h).1;have h4:=h1.same h3;rcases hp with rfl|hp
  ·have h6:=h3;rw[h4.1]at h6;exact h6
  rw[h4.2]at h;exact z5x l hs _ hok h p hp hr
def Q0o{α:Type}(f:Hd->α)(hs hs':List Hd):Prop:=∀n,f (Q1k hs' n)=f (Q1k hs n)
theorem Q0o.refl{α:Type}(f:Hd->α)(hs:List Hd):Q0o f hs hs:=fun _=>rfl
theorem Q0o.trans{α:Type}{f:Hd->α}{a b c:List Hd}(h:Q0o f a b)(k:Q0o f b c):Q0o f a c:=fun n=>(k n).trans (h n)
theorem Q0o.put{α:Type}{f:Hd->α}{hs:List Hd}{n:Int}{x:Hd}(h:f x=f (Q1k hs n)):Q0o f hs (Q70 hs n x):=fun m=>by
 rw[z1d];split
 ·rename_i e;rw[e.1];exact h
 rfl
theorem z1v{α:Type}{f:Hd->α}(hf:∀(h:Hd) (b:Bool) (l:List Bool),f {h with nul:=b,fi:=l}=f h):∀(l:List Pr) (hs:List Hd) (g:Bool),Q0o f hs (Q5k l hs g).1
 | [],hs,_=>Q0o.refl f hs
 |p::l,hs,g=>Q0o.trans (Q0o.put (hf _ _ _)) (z1v hf l _ _)
theorem z02{α:Type}{f:Hd->α}(hf:∀(h:Hd) (b:Bool),f {h with fru:=b}=f h):∀(l:List Pr) (hs:List Hd) (g:Bool),Q0o f hs (Q48 l hs g).1
 | [],hs,_=>Q0o.refl f hs
 |p::l,hs,g=>Q0o.trans (Q0o.put (hf _ _)) (z02 hf l _ _)
theorem z44{α:Type}{f:Hd->α}(hf:∀(h:Hd) (l:List Bool),f {h with fo:=l}=f h) (ph:Int):∀(l:List Sy) (hs:List Hd) (g:Bool),Q0o f hs (Q2z ph l hs g).1
 | [],hs,_=>Q0o.refl f hs
 |s::l,hs,g=>by
  unfold Q2z;split
  ·exact z44 hf ph l hs g
  exact Q0o.trans (Q0o.put (hf _ _)) (z44 hf ph l _ _)
theorem z1e{α:Type}{f:Hd->α}(hf:∀(h:Hd) (l:List Bool),f {h with fo:=l}=f h):∀(l:List Pr) (hs:List Hd) (g:Bool),Q0o f hs (Q5l l hs g).1
 | [],hs,_=>Q0o.refl f hs
 |p::l,hs,g=>Q0o.trans (z44 hf p.head p.syms hs g) (z1e hf l _ _)
theorem z42{α:Type}{f:Hd->α}(hf:∀(h:Hd) (b:Bool),f {h with rch:=b}=f h):∀(l:List Sy) (hs:List Hd) (g:Bool),Q0o f hs (Q3j l hs g).1
 | [],hs,_=>Q0o.refl f hs
 |s::l,hs,g=>by
  unfold Q3j;split
  ·exact z42 hf l hs g
  exact Q0o.trans (Q0o.put (hf _ _)) (z42 hf l _ _)
theorem z0y{α:Type}{f:Hd->α}(hf:∀(h:Hd) (b:Bool),f {h with rch:=b}=f h):∀(l:List Pr) (hs:List Hd) (g:Bool),Q0o f hs (Q3o l hs g).1
 | [],hs,_=>Q0o.refl f hs
 |p::l,hs,g=>by
  unfold Q3o;split
  ·exact z0y hf l hs g
  exact Q0o.trans (z42 hf p.syms hs g) (z0y hf l _ _)
theorem y01{hs hs':List Hd}(h1:Q0o Hd.nul hs hs')(h2:Q0o Hd.fi hs hs'):∀(l:List Sy) (acc:List Bool),Q2q hs' l acc=Q2q hs l acc
 | [],_=>rfl
 |s::l,acc=>by
  unfold Q2q;rw[h1 s.num,h2 s.num,y01 h1 h2 l]
theorem y4r:∀{a c b d:List Bool},a.length=c.length->leB (a++b) (c++d)->leB a c/\leB b d
 | [],[],_,_,_,h=>⟨trivial,h⟩
 |x::xs,y::ys,_,_,e,h=>by
  have:=y4r (a:=xs) (c:=ys) (by simpa using e) h.2;exact⟨⟨h.1,this.1⟩,this.2⟩
theorem Hd.le.parts{a b:Hd}(ha:a.ok)(hb:b.ok)(h:a.le b):(a.nul=true->b.nul=true)/\(a.rch=true->b.rch=true)/\(a.fru=true->b.fru=true)/\leB a.fi b.fi/\leB a.fo b.fo:=by
 obtain⟨h1,h2,h3,h4⟩:=h;have:=y4r (by rw[ha.fi,hb.fi]) h4;exact⟨h1,h2,h3,this.1,this.2⟩
def Up(hs hs':List Hd):Prop:=∀n,(Q1k hs n).le (Q1k hs' n)
theorem Up.refl(hs:List Hd):Up hs hs:=fun _=>Hd.le_refl _
theorem Up.trans{a b c:List Hd}(h:Up a b)(k:Up b c):Up a c:=fun n=>Hd.le_trans (h n) (k n)
theorem Up.put{hs:List Hd}{n:Int}{x:Hd}(h:(Q1k hs n).le x):Up hs (Q70 hs n x):=fun m=>by
 rw[z1d];split
 ·rename_i e;rw[e.1];exact h
 exact Hd.le_refl _
theorem x2y{hs:List Hd}(hok:∀x∈hs,x.ok)(p:Pr):Up hs (Q3i hs p).1:=Up.put (v2e (z0k hok _) _ (z1a hok _ _ rfl))
theorem x20(hs:List Hd)(p:Pr):Up hs (Q4t hs p).1:=Up.put (x84 _ _)
theorem z9f:∀(l:List Sy) (hs:List Hd) (g:Bool),Up hs (Q3j l hs g).1
 | [],hs,_=>Up.refl hs
 |s::l,hs,g=>by
  unfold Q3j;split
  ·exact z9f l hs g
  exact Up.trans (Up.put (x3o _)) (z9f l _ _)
theorem z9e:∀(l:List Pr) (hs:List Hd) (g:Bool),Up hs (Q3o l hs g).1
 | [],hs,_=>Up.refl hs
 |p::l,hs,g=>by
  unfold Q3o;split
  ·exact z9e l hs g
  exact Up.trans (z9f p.syms hs g) (z9e l _ _)
theorem y3m{a:List Bool}{n:Int}{t:Nat}(h:(Q2h a n).getD t false=true):a.getD t false=true∨(0<=n/\n.toNat=t):=by
 unfold Q2h at h;split at h
 ·rename_i hn;simp only[qD,qCs]at h ⊢;by_cases e:n.toNat=t
  ·exact .inr ⟨hn.1,e⟩
  rw[qAa e]at h;exact .inl h
 exact .inl h
theorem y9v{a:List Bool}(ha:a.length=9)(n:Int):leB a (Q2h a n):=by
 refine y8z (by rw[z2t ha,ha]) (fun i hi=>?_);unfold Q2h;split
 ·simp only[qD,qCs]at hi ⊢;split
  ·split
   ·rfl
   rename_i h1 h2;rw[qN (by omega)]at hi;simp at hi
  exact hi
 exact hi
theorem x1g{a b:List Bool}(ha:a.length=9)(hb:b.length=9)(h:leB a b)(n:Int):leB (Q2h a n) (Q2h b n):=by
 refine y8z (by rw[z2t ha,z2t hb]) (fun i hi=>?_);rcases y3m hi with h1|⟨h1,h2⟩
 ·exact z4v (y9v hb n) i (z4v h i h1)
 unfold Q2h at hi ⊢;split
 ·rename_i hn;rw[qAb hn]at hi;simp only[qD,qCs,h2,qBn]at hi ⊢;rw[qAb (by omega)];rfl
 rename_i hn;rw[qAa hn]at hi;exact z4v h i hi
theorem x7d{a b c d:List Bool}(h1:leB a c)(h2:leB b d)(e:a.length=b.length):leB (orL a b) (orL c d):=by
 have e1:=y2o h1;have e2:=y2o h2;refine y8z (by simp[orL,← e1,← e2]) (fun i hi=>?_);rw[z3q e]at hi;rw[z3q (by omega)];simp only[qAt]at hi ⊢;rcases hi with hi|hi
 ·exact .inl (z4v h1 i hi)
 exact .inr (z4v h2 i hi)
theorem y3w{hs hs':List Hd}(hok:∀x∈hs,x.ok)(hok':∀x∈hs',x.ok)(hu:Up hs hs'):∀(l:List Sy) (acc acc':List Bool),acc.length=9->leB acc acc' ->
  leB (Q2q hs l acc).1 (Q2q hs' l acc').1/\((Q2q hs l acc).2=true->(Q2q hs' l acc').2=true)
 | [],_,_,_,h=>⟨h,fun e=>e⟩
 |s::l,acc,acc',ha,h=>by
  have ha':acc'.length=9:=by rw[← y2o h];exact ha
  obtain⟨p1,_,_,p4,_⟩:=(hu s.num).parts (z0k hok _) (z0k hok' _);have o1:=(z0k hok s.num).fi;have o2:=(z0k hok' s.num).fi;have j0:=x7d h p4 (by rw[ha,o1]);have j1:(orL acc (Q1k hs s.num).fi).length=9:=z04 ha o1;unfold Q2q;cases hs1:s.isH
  ·rw[qAb rfl,qAb rfl];exact⟨x1g ha ha' h _,fun e=>e⟩
  simp only[qDf,qAz];cases hn:(Q1k hs s.num).nul
  ·simp only[qBn];refine⟨?_,fun e=>by cases e⟩;split
   ·exact j0
   have h3:∀(l:List Sy) (acc:List Bool),acc.length=9->leB acc (Q2q hs' l acc).1:=by
    intro l;induction l with
    |nil=>intro acc _;exact z2b _
    |cons s l ih =>
     intro acc ha;unfold Q2q;split
     ·exact y9v ha _
     split
     ·exact z9m (by rw[ha,(z0k hok' _).fi])
     exact z45 (z9m (by rw[ha,(z0k hok' _).fi])) (ih _ (z04 ha (z0k hok' _).fi))
   exact z45 j0 (h3 l _ (z04 ha' o2))
  simp only[qDf,qAz];rw[p1 hn];simp only[qDf,qAz];exact y3w hok hok' hu l _ _ j1 j0
theorem z5v{hs hs':List Hd}(hok:∀x∈hs,x.ok)(hok':∀x∈hs',x.ok)(hu:Up hs hs')(l:List Sy)(h:Q45 hs l=true):Q45 hs' l=true:=by
 unfold Q45 at h ⊢;rw[qAy]at h ⊢;intro s j0;have:=h s j0;unfold fruB at this ⊢;simp only[qAt]at this ⊢;rcases this with h1|h1
 ·exact .inl h1
 exact .inr (((hu s.num).parts (z0k hok _) (z0k hok' _)).2.2.1 h1)
structure Q1d(ps:List Pr)(R H:Nat):Prop where
 hd:∀p∈ps,0<=p.head/\p.head<H
 sy:∀p∈ps,∀s∈p.syms,0<=s.num/\s.num<(if s.isH then(H:Int) else R)
def BFi(R:Nat)(hs:List Hd):Prop:=∀n t,(Q1k hs n).fi.getD t false=true->t<R
def BFo(R:Nat)(hs:List Hd):Prop:=∀n t,(Q1k hs n).fo.getD t false=true->t<=R
theorem y6l{R H:Nat}{hs:List Hd}(hok:∀x∈hs,x.ok)(hb:BFi R hs):∀(l:List Sy) (acc:List Bool),acc.length=9->(∀s∈l,0<=s.num/\s.num<(if s.isH then(H:Int) else R))->(∀t,acc.getD t false=true->t<R)->∀t,(Q2q hs l acc).1.getD t false=true->t<R
 | [],_,_,_,h,t,ht=>h t ht
 |s::l,acc,ha,hv,h,t,ht=>by
  have hor:∀t,(orL acc (Q1k hs s.num).fi).getD t false=true->t<R:=fun t ht=>by
   rw[z3q (by rw[ha,(z0k hok _).fi])]at ht;simp only[qAt]at ht;rcases ht with ht|ht
   ·exact h t ht
   exact hb _ t ht
  unfold Q2q at ht;cases hs1:s.isH
  ·rw[qAb hs1]at ht;have h1:=hv s (by simp);rw[hs1]at h1;simp only[qF,qAz]at h1;rcases y3m ht with h2|⟨h2,h3⟩
   ·exact h t h2
   omega
  rw[qAa (by simp[hs1])]at ht;split at ht
  ·exact hor t ht
  exact y6l hok hb l _ (z04 ha (z0k hok _).fi) (fun s hs=>hv s (by simp[hs])) hor t ht
theorem z3w(t:Nat):zero9.getD t false=false:=by
 rcases t with _|_|_|_|_|_|_|_|_|t<;>simp[zero9]
def SupN(ps:List Pr)(hs:List Hd):Prop:=∀n,(Q1k hs n).nul=true->∃p∈ps,p.head=n/\(Q2q hs p.syms zero9).2=true
def SupF(ps:List Pr)(hs:List Hd):Prop:=∀n t,(Q1k hs n).fi.getD t false=true->∃p∈ps,p.head=n/\(Q2q hs p.syms zero9).1.getD t false=true
def SupU(ps:List Pr)(hs:List Hd):Prop:=∀n,(Q1k hs n).fru=true->∃p∈ps,p.head=n/\Q45 hs p.syms=true
structure IB(ps:List Pr)(R:Nat)(hs0 hs:List Hd):Prop where
 ok:∀x∈hs,x.ok
 bfi:BFi R hs
 sn:SupN ps hs
 sf:SupF ps hs
 up:Up hs0 hs
theorem IB.step{ps:List Pr}{R H:Nat}(hT:Q1d ps R H){hs0 hs:List Hd}(h:IB ps R hs0 hs){p:Pr}(hp:p∈ps):IB ps R hs0 (Q3i hs p).1:=by
 have j1:=h.ok;have j5:∀x∈(Q3i hs p).1,x.ok:=(z3u j1 p false).ok;have hu:=x2y j1 p;have j6:=z1a j1 p.syms zero9 rfl;have mono:=fun(q:Pr)=>y3w j1 j5 hu q.syms zero9 zero9 rfl (z2b _);refine⟨j5,?_,?_,?_,h.up.trans hu⟩
 ·intro n t ht;unfold Q3i at ht;rw[z1d]at ht;split at ht
  ·dsimp only at ht;rw[z3q (by rw[(z0k j1 _).fi,j6])]at ht;simp only[qAt]at ht;rcases ht with ht|ht
   ·exact h.bfi _ t ht
   exact y6l j1 h.bfi p.syms zero9 rfl (hT.sy p hp) (fun t h=>by rw[z3w]at h;cases h) t ht
  exact h.bfi n t ht
 ·intro n hn;have j0:=hn;unfold Q3i at j0;rw[z1d]at j0;split at j0
  ·rename_i e;dsimp only at j0;simp only[qAt]at j0;rcases j0 with h1|h1
   ·obtain⟨q,j2,j3,j4⟩:=h.sn _ h1;exact⟨q,j2,j3.trans e.1.symm,(mono q).2 j4⟩
   exact⟨p,hp,e.1.symm,(mono p).2 h1⟩
  obtain⟨q,j2,j3,j4⟩:=h.sn n j0;exact⟨q,j2,j3,(mono q).2 j4⟩
 intro n t hn;have j0:=hn;unfold Q3i at j0;rw[z1d]at j0;split at j0
 ·rename_i e;dsimp only at j0;rw[z3q (by rw[(z0k j1 _).fi,j6])]at j0;simp only[qAt]at j0;rcases j0 with h1|h1
  ·obtain⟨q,j2,j3,j4⟩:=h.sf _ t h1;exact⟨q,j2,j3.trans e.1.symm,z4v (mono q).1 t j4⟩
  exact⟨p,hp,e.1.symm,z4v (mono p).1 t h1⟩
 obtain⟨q,j2,j3,j4⟩:=h.sf n t j0;exact⟨q,j2,j3,z4v (mono q).1 t j4⟩
theorem IB.list{ps:List Pr}{R H:Nat}(hT:Q1d ps R H){hs0:List Hd}:∀(l:List Pr) (hs:List Hd) (g:Bool),(∀p∈l,p∈ps)->IB ps R hs0 hs->IB ps R hs0 (Q5k l hs g).1
 | [],_,_,_,h=>h
 |p::l,hs,g,hl,h=>IB.list hT l _ _ (fun q hq=>hl q (by simp[hq])) (h.step hT (hl p (by simp)))
structure IU(ps:List Pr)(hs0 hs:List Hd):Prop where
 ok:∀x∈hs,x.ok
 su:SupU ps hs
 up:Up hs0 hs
theorem IU.step{ps:List Pr}{hs0 hs:List Hd}(h:IU ps hs0 hs){p:Pr}(hp:p∈ps):IU ps hs0 (Q4t hs p).1:=by
 have j2:=h.ok;have j0:∀x∈(Q4t hs p).1,x.ok:=(z40 j2 p false).ok;have hu:=x20 hs p;refine⟨j0,?_,h.up.trans hu⟩;intro n hn;have j1:=hn;unfold Q4t at j1;rw[z1d]at j1;split at j1
 ·rename_i e;dsimp only at j1;simp only[qAt]at j1;rcases j1 with h1|h1
  ·obtain⟨q,j3,j4,j5⟩:=h.su _ h1;exact⟨q,j3,j4.trans e.1.symm,z5v j2 j0 hu _ j5⟩
  exact⟨p,hp,e.1.symm,z5v j2 j0 hu _ h1⟩
 obtain⟨q,j3,j4,j5⟩:=h.su n j1;exact⟨q,j3,j4,z5v j2 j0 hu _ j5⟩
theorem IU.list{ps:List Pr}{hs0:List Hd}:∀(l:List Pr) (hs:List Hd) (g:Bool),(∀p∈l,p∈ps)->IU ps hs0 hs->IU ps hs0 (Q48 l hs g).1
 | [],_,_,_,h=>h
 |p::l,hs,g,hl,h=>IU.list l _ _ (fun q hq=>hl q (by simp[hq])) (h.step (hl p (by simp)))
structure IS(R:Nat)(hs0 hs:List Hd):Prop where
 ok:∀x∈hs,x.ok
 bfi:BFi R hs
 bfo:BFo R hs
 up:Up hs0 hs
theorem IS.syms{R H:Nat}{hs0:List Hd}(ph:Int):∀(l:List Sy) (hs:List Hd) (g:Bool),(∀s∈l,0<=s.num/\s.num<(if s.isH then(H:Int) else R))->IS R hs0 hs->IS R hs0 (Q2z ph l hs g).1
 | [],_,_,_,h=>h
 |s::l,hs,g,hv,h=>by
  have hv':∀s∈l,0<=s.num/\s.num<(if s.isH then(H:Int) else R):=fun s hs=>hv s (by simp[hs]);unfold Q2z;split
  ·exact IS.syms ph l hs g hv' h
  refine IS.syms ph l _ _ hv' ?_;have j0:=h.ok;have j1:=z3j j0 ph l;refine⟨y7f j0 _ ⟨(z0k j0 s.num).fi,z04 (z0k j0 s.num).fo j1⟩,?_,?_,h.up.trans (Up.put (v0l (z0k j0 _) j1))⟩
  ·intro n t ht;rw[z1d]at ht;split at ht
   ·exact h.bfi _ t ht
   exact h.bfi n t ht
  intro n t ht;rw[z1d]at ht;split at ht
  ·unfold Q5t at ht;dsimp only at ht;rw[z3q (by rw[(z0k j0 _).fo,j1])]at ht;simp only[qAt]at ht;rcases ht with ht|ht
   ·exact h.bfo _ t ht
   have j2:=y6l j0 h.bfi l zero9 rfl hv' (fun t h=>by rw[z3w]at h;cases h);unfold Q8n at ht;split at ht
   ·rw[z3q (by rw[z1a j0 _ _ rfl,(z0k j0 _).fo])]at ht;simp only[qAt]at ht;rcases ht with ht|ht
    ·have:=j2 t ht;omega
    exact h.bfo _ t ht
   have:=j2 t ht;omega
  exact h.bfo n t ht
theorem IS.list{ps:List Pr}{R H:Nat}(hT:Q1d ps R H){hs0:List Hd}:∀(l:List Pr) (hs:List Hd) (g:Bool),(∀p∈l,p∈ps)->IS R hs0 hs->IS R hs0 (Q5l l hs g).1
 | [],_,_,_,h=>h
 |p::l,hs,g,hl,h=>IS.list hT l _ _ (fun q hq=>hl q (by simp[hq])) (IS.syms p.head p.syms hs g (hT.sy p (hl p (by simp))) h)
structure Q90(ps:List Pr)(R H:Nat)(hs:List Hd):Prop where
 ok:∀x∈hs,x.ok
 len:hs.length=H
 bfi:BFi R hs
 bfo:BFo R hs
 clN:∀p∈ps,(Q2q hs p.syms zero9).2=true->(Q1k hs p.head).nul=true
 clF:∀p∈ps,∀t,(Q2q hs p.syms zero9).1.getD t false=true->(Q1k hs p.head).fi.getD t false=true
 sn:SupN ps hs
 sf:SupF ps hs
 clU:∀p∈ps,Q45 hs p.syms=true->(Q1k hs p.head).fru=true
 su:SupU ps hs
 clS:∀p∈ps,∀a s b,p.syms=a++s::b->s.isH=true->∀t,(Q8n hs p.head b).getD t false=true->(Q1k hs s.num).fo.getD t false=true
 clR:∀p∈ps,(Q1k hs p.head).rch=true->∀s∈p.syms,s.isH=true->(Q1k hs s.num).rch=true
 st1:0<H->(Q1k hs 0).rch=true
 st2:0<H->(Q1k hs 0).fo.getD R false=true
theorem z8d(R:Int):∀n,∀x∈Q0z R n,x.ok
 |0,x,hx=>by simp[Q0z]at hx
 |n+1,x,hx=>by
  simp only[Q0z,qU,qM]at hx;rcases hx with hx|rfl
  ·exact z8d R n x hx
  exact y2j _ _
theorem y8t(R:Int):∀(n i:Nat),i<n->(Q0z R n)[i]? = some (Q5e R i)
 |n+1,i,hi=>by
  unfold Q0z;by_cases h:i<n
  ·rw[qAl (by rw[z1y];exact h)];exact y8t R n i h
  have:i=n:=by omega
  subst this;rw[qAr (by rw[z1y];omega),z1y];simp
theorem z37(R:Int)(H:Nat)(n:Int):Q1k (Q0z R H) n=if 0<=n/\n<H then Q5e R n.toNat else zeroHd:=by
 unfold Q1k;by_cases h0:0<=n
 ·rw[qAb h0];by_cases hl:n<H
  ·rw[y8t R H n.toNat (by omega),qAb ⟨h0,hl⟩];rfl
  rw[qN (by rw[z1y];omega),qAa (by omega)];rfl
 rw[qAa h0,qAa (by omega)]
theorem Q0o.beg{hs hs':List Hd}(h1:Q0o Hd.nul hs hs')(h2:Q0o Hd.fi hs hs')(l:List Sy)(acc:List Bool):Q2q hs' l acc=Q2q hs l acc:=y01 h1 h2 l acc
theorem z8o{ps:List Pr}{R H:Nat}(hT:Q1d ps R H)(hR:R<=8):Q90 ps R H (Q33 ps (Q0z R H)):=by
 have jm:=z8d (R:Int) H;have hz:∀n,(Q1k (Q0z (R:Int) H) n).fi=zero9/\(Q1k (Q0z (R:Int) H) n).nul=false/\(Q1k (Q0z (R:Int) H) n).fru=false:=fun n=>by
  rw[z37];split
  ·unfold Q5e;split<;>exact⟨rfl,rfl,rfl⟩
  exact⟨rfl,rfl,rfl⟩
 have i0:IB ps R (Q0z (R:Int) H) (Q0z (R:Int) H):=by
  refine⟨jm,?_,?_,?_,Up.refl _⟩
  ·intro n t h;rw[(hz n).1,z3w]at h;cases h
  ·intro n h;rw[(hz n).2.1]at h;cases h
  intro n t h;rw[(hz n).1,z3w]at h;cases h
 obtain⟨⟨i1,jh,jj,j8⟩,j2,l1,f1⟩:=z1o (z22 ps) (I:=fun hs=>IB ps R (Q0z (R:Int) H) hs/\Q0o Hd.rch (Q0z (R:Int) H) hs/\Q0o Hd.fru (Q0z (R:Int) H) hs/\Q0o Hd.fo (Q0z (R:Int) H) hs)
  (fun hs _ h=>⟨IB.list hT ps hs false (fun _ hp=>hp) h.1,h.2.1.trans (z1v (fun _ _ _=>rfl) ps hs false),h.2.2.1.trans (z1v (fun _ _ _=>rfl) ps hs false),h.2.2.2.trans (z1v (fun _ _ _=>rfl) ps hs false)⟩) jm ⟨i0,Q0o.refl _ _,Q0o.refl _ _,Q0o.refl _ _⟩
 generalize hq1:Q47 (Q8h ps) (Q0z (R:Int) H)=hs1 at i1 jh jj j8 j2 l1 f1;rw[z1y]at l1;have c1:∀p∈ps,Q1k hs1 p.head={Q1k hs1 p.head with nul:=(Q1k hs1 p.head).nul||(Q2q hs1 p.syms zero9).2,fi:=orL (Q1k hs1 p.head).fi (Q2q hs1 p.syms zero9).1}:=fun p hp=>by
  have:=z9c ps hs1 false j2 (by show(Q8h ps hs1).2=false;rw[f1]) p hp;exact z5o this (hT.hd p hp).1 (by rw[l1];exact(hT.hd p hp).2)
 have jq:∀p∈ps,(Q2q hs1 p.syms zero9).2=true->(Q1k hs1 p.head).nul=true:=fun p hp e=>by
  rw[c1 p hp];simp[e]
 have jp:∀p∈ps,∀t,(Q2q hs1 p.syms zero9).1.getD t false=true->(Q1k hs1 p.head).fi.getD t false=true:=fun p hp t e=>by
  rw[c1 p hp];dsimp only;rw[z3q (by rw[(z0k j2 _).fi,z1a j2 _ _ rfl]),e];simp
 have jo:BFo R hs1:=fun n t h=>by
  rw[j8 n,z37]at h;split at h
  ·unfold Q5e at h;split at h
   ·rcases y3m h with h2|⟨h2,h3⟩
    ·rw[z3w]at h2;cases h2
    omega
   have:zeroHd.fo=zero9:=rfl;rw[this,z3w]at h;cases h
  have:zeroHd.fo=zero9:=rfl;rw[this,z3w]at h;cases h
 obtain⟨⟨i2,j7,j6,ji,jk⟩,j1,l2,f2⟩:=z1o (z2h ps) (I:=fun hs=>IS R hs1 hs/\Q0o Hd.nul hs1 hs/\Q0o Hd.fi hs1 hs/\Q0o Hd.rch hs1 hs/\Q0o Hd.fru hs1 hs)
  (fun hs _ h=>⟨IS.list hT ps hs false (fun _ hp=>hp) h.1,h.2.1.trans (z1e (fun _ _=>rfl) ps hs false),h.2.2.1.trans (z1e (fun _ _=>rfl) ps hs false),h.2.2.2.1.trans (z1e (fun _ _=>rfl) ps hs false),h.2.2.2.2.trans (z1e (fun _ _=>rfl) ps hs false)⟩) j2 ⟨⟨j2,i1.bfi,jo,Up.refl _⟩,Q0o.refl _ _,Q0o.refl _ _,Q0o.refl _ _,Q0o.refl _ _⟩
 generalize hq2:Q47 (Q5q ps) hs1=hs2 at i2 j7 j6 ji jk j1 l2 f2;have js:∀p∈ps,∀a s b,p.syms=a++s::b->s.isH=true->∀t,(Q8n hs2 p.head b).getD t false=true->(Q1k hs2 s.num).fo.getD t false=true:=fun p hp a s b e j0 t ht=>by
  have h1:=z9g ps hs2 false j1 (by show(Q5q ps hs2).2=false;rw[f2]) p hp;have h2:=z5z p.head p.syms hs2 false j1 h1 a s b e j0;have hv:=hT.sy p hp s (by rw[e];simp);rw[j0]at hv;simp only[qBn]at hv;have h3:=z5o h2 hv.1 (by rw[l2,l1];exact hv.2);rw[h3];unfold Q5t;dsimp only;rw[z3q (by rw[(z0k j1 _).fo,z3j j1]),ht];simp
 obtain⟨⟨jn,jd,jb,jf,jl⟩,j3,l3,f3⟩:=z1o (z2g ps) (I:=fun hs=>Up hs2 hs/\Q0o Hd.nul hs2 hs/\Q0o Hd.fi hs2 hs/\Q0o Hd.fo hs2 hs/\Q0o Hd.fru hs2 hs)
  (fun hs _ h=>⟨h.1.trans (z9e ps hs false),h.2.1.trans (z0y (fun _ _=>rfl) ps hs false),h.2.2.1.trans (z0y (fun _ _=>rfl) ps hs false),h.2.2.2.1.trans (z0y (fun _ _=>rfl) ps hs false),h.2.2.2.2.trans (z0y (fun _ _=>rfl) ps hs false)⟩) j1 ⟨Up.refl _,Q0o.refl _ _,Q0o.refl _ _,Q0o.refl _ _,Q0o.refl _ _⟩
 generalize hq3:Q47 (Q64 ps) hs2=hs3 at jn jd jb jf jl j3 l3 f3;have jr:∀p∈ps,(Q1k hs3 p.head).rch=true->∀s∈p.syms,s.isH=true->(Q1k hs3 s.num).rch=true:=fun p hp hr s hs j0=>by
  have h1:=z5x ps hs3 false j3 (by show(Q64 ps hs3).2=false;rw[f3]) p hp hr;have h2:=z5y p.syms hs3 false j3 h1 s hs j0;have hv:=hT.sy p hp s hs;rw[j0]at hv;simp only[qBn]at hv;have h3:=z5o h2 hv.1 (by rw[l3,l2,l1];exact hv.2);rw[h3]
 have u3:IU ps hs3 hs3:=⟨j3,fun n h=>(by rw[jl n,jk n,jj n,(hz n).2.2]at h;cases h),Up.refl _⟩;obtain⟨⟨i4,je,jc,jg,j9⟩,ja,l4,f4⟩:=z1o (z2i ps) (I:=fun hs=>IU ps hs3 hs/\Q0o Hd.nul hs3 hs/\Q0o Hd.fi hs3 hs/\Q0o Hd.fo hs3 hs/\Q0o Hd.rch hs3 hs)
  (fun hs _ h=>⟨IU.list ps hs false (fun _ hp=>hp) h.1,h.2.1.trans (z02 (fun _ _=>rfl) ps hs false),h.2.2.1.trans (z02 (fun _ _=>rfl) ps hs false),h.2.2.2.1.trans (z02 (fun _ _=>rfl) ps hs false),h.2.2.2.2.trans (z02 (fun _ _=>rfl) ps hs false)⟩) j3 ⟨u3,Q0o.refl _ _,Q0o.refl _ _,Q0o.refl _ _,Q0o.refl _ _⟩
 have j4:Q33 ps (Q0z (R:Int) H)=Q47 (Q73 ps) hs3:=by unfold Q33;rw[hq1,hq2,hq3]
 rw[j4];generalize Q47 (Q73 ps) hs3=hs4 at i4 je jc jg j9 ja l4 f4;have jt:∀p∈ps,Q45 hs4 p.syms=true->(Q1k hs4 p.head).fru=true:=fun p hp e=>by
  have h1:=z9d ps hs4 false ja (by show(Q73 ps hs4).2=false;rw[f4]) p hp;have h3:=z5o h1 (hT.hd p hp).1 (by rw[l4,l3,l2,l1];exact(hT.hd p hp).2);rw[h3];simp[e]
 have kn:Q0o Hd.nul hs1 hs4:=(j7.trans jd).trans je;have kf:Q0o Hd.fi hs1 hs4:=(j6.trans jb).trans jc;have ko:Q0o Hd.fo hs2 hs4:=jf.trans jg;have hb:=fun l acc=>Q0o.beg kn kf l acc;have ju:=fun l acc=>Q0o.beg j7 j6 l acc;have j5:∀ph l,Q8n hs4 ph l=Q8n hs2 ph l:=fun ph l=>by
  unfold Q8n;rw[hb,ju,ko ph]
 refine⟨ja,by rw[l4,l3,l2,l1],?_,?_,?_,?_,?_,?_,jt,i4.su,?_,?_,?_,?_⟩
 ·intro n t h;rw[kf n]at h;exact i1.bfi n t h
 ·intro n t h;rw[ko n]at h;exact i2.bfo n t h
 ·intro p hp e;rw[hb]at e;rw[kn];exact jq p hp e
 ·intro p hp t e;rw[hb]at e;rw[kf];exact jp p hp t e
 ·intro n h;rw[kn n]at h;obtain⟨p,h1,h2,h3⟩:=i1.sn n h;exact⟨p,h1,h2,by rw[hb];exact h3⟩
 ·intro n t h;rw[kf n]at h;obtain⟨p,h1,h2,h3⟩:=i1.sf n t h;exact⟨p,h1,h2,by rw[hb];exact h3⟩
 ·intro p hp a s b e j0 t ht;rw[j5]at ht;rw[ko];exact js p hp a s b e j0 t ht
 ·intro p hp hr s hs j0;rw[j9]at hr ⊢;exact jr p hp hr s hs j0
 ·intro hH;have h1:(Q1k (Q0z (R:Int) H) 0).rch=true:=by rw[z37,qAb ⟨by omega,by omega⟩];rfl
  have h2:(Q1k hs2 0).rch=true:=by rw[ji,jh];exact h1
  rw[j9];exact((jn 0).parts (z0k j1 _) (z0k j3 _)).2.1 h2
 intro hH;have h1:(Q1k (Q0z (R:Int) H) 0).fo.getD R false=true:=by
  rw[z37,qAb ⟨by omega,by omega⟩];show(Q2h zero9 (R:Int)).getD R false=true;unfold Q2h;rw[qAb ⟨by omega,by omega⟩];simp only[qD,qAo,qCs];simp only[qBn];rw[qAb (by show R<9;omega)];rfl
 rw[ko];have h2:(Q1k hs1 0).fo.getD R false=true:=by rw[j8];exact h1
 exact z4v ((i2.up 0).parts (z0k j2 _) (z0k j1 _)).2.2.2.2 R h2
def sInt(s:Sy):Int:=if s.isH then -1-s.num else s.num
theorem y4u(a:List Bool)(t:Nat):∀k,(Q3s a k).any (·==(t:Int))=(decide (t<k)&&a.getD t false)
 |0=>by simp[Q3s]
 |k+1=>by
  have ih:=y4u a t k;unfold Q3s;by_cases e:t=k
  ·subst e;cases hq:a.getD t false
   ·simp only[qF,qAz,ih,hq,Bool.and_false]
   simp only[qBn,List.any_append,List.any_cons,List.any_nil,ih,hq];simp
  have h1:(((k:Nat):Int)==(t:Int))=false:=by simp;omega
  have h2:decide (t<k+1)=decide (t<k):=by simp only[decide_eq_decide];omega
  rw[h2];split
  ·rw[List.any_append,ih];simp[h1]
  exact ih
theorem x3s{a:List Bool}(ha:a.length=9)(t:Nat):(Q3e a).any (·==(t:Int))=a.getD t false:=by
 unfold Q3e;rw[y4u];by_cases h:t<9
 ·simp[h]
 have:a.getD t false=false:=by simp[qN (show a.length<=t by omega)]
 rw[this];simp
section
variable {ps:List Pr}{R H:Nat}{hs:List Hd}
end
end Go.Proofs.YtbdpfmalabgmbaaGreat
