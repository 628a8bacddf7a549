import Derived.Test.YtcpceafmlgaodaaGreatLb2
import Derived.Laws.Bits64
import Derived.Laws.Bits64b
import Derived.WalkSmall
namespace Go.Proofs.YtcpceafmlgaodaaGreat
open Go.RowKit
set_option maxRecDepth 100000
set_option maxHeartbeats 16000000
set_option linter.unusedVariables false
set_option linter.unusedSimpArgs false
def Q6l(s:ByteArray):Nat->Int->Nat
 |0,_=>0
 |f+1,x=>if Q0n(atB s x)=true then Q6l s f(x+1)+1 else 0
def Q4c(s:ByteArray)(i:Int):Nat:=Q6l s(s.size+2)i
theorem y6l(s:ByteArray)(f:Nat)(x:Int):Q6l s(f+1)x=if Q0n(atB s x)=true then Q6l s f(x+1)+1 else 0:=rfl
theorem y17{c:Int}(h:Q0n c=true):c≠-1:=by intro e;rw[e]at h;revert h;decide
theorem z78(s:ByteArray):∀(f:Nat)(x:Int),0<=x->x<=s.size->x+Q6l s f x<=s.size
 |0,x,_,h=>by simp[Q6l];exact h
 |f+1,x,h0,h=>by
  rw[y6l];split
  ·rename_i c;have:=z0q(s:=s)(i:=x)(y17 c);have:=z78 s f(x+1)(by omega)(by omega);omega
  simp;exact h
theorem z2g(s:ByteArray)(i:Nat)(w:World)(hs:s.size<=80000)(hi:i<=s.size+1) :
  Calls Tryz.prog 87#[.string s,.int .i64 i]w fun e w'=>e=.returned(.int .i64(Q4c s i:Nat))/\w'=w:=by
 have ZS:=hid(fun(c:Int)(w:World)=>y05 c w);unfold Q4c;generalize hV:Q6l s(s.size+2)i=V;have HV:=hid hV;clear hV;go_enter Tryz.func87,Tryz.ntmps87
 go_wp2;go_loopw [5](fun x5 wr=>∃(n F:Nat),x5=.int .i64 n/\i+n<=s.size+1/\s.size+2<=F+i+n/\n+Q6l s F((i:Int)+n)=V/\wr=w)
   (fun x _=>200000-(intOf x).toNat)
 case atStart=>exact⟨0,s.size+2,rfl,by omega,by omega,by rw[← HV.out];simp,rfl⟩
 obtain⟨n,F,rfl,hn,hF,hrec,rfl⟩:=hrel;obtain⟨F,rfl⟩:∃k,F=k+1:=⟨F-1,by omega⟩;rw[y6l]at hrec;clear HV;by_cases hj:i+n<s.size
 ·have hb:atB s((i:Int)+n)=s[i+n].toNat:=by rw[← z1z hj];congr 1
  have j1:s[i+n].toNat<256:=s[i+n].toNat_lt;have j0:(i:Int)+(n:Int)<(s.size:Int):=by omega
  have j2:((i:Int)+(n:Int)).toNat=i+n:=by omega
  rw[hb]at hrec;have ZX:=hid(fun w=>ZS.out(s[i+n].toNat:Int)w);generalize Q0n(s[i+n].toNat:Int)=mk at ZX hrec;clear hb;cases mk
  ·rw[if_neg(by simp)]at hrec;have HR:Hid(n=V):=by unfold Hid;omega
   clear hrec;go_wp2_with(first
    |(go_at_call 114;refine(ZX.out _).mono ?_;rintro e w'⟨rfl,hw⟩;rw[hw];clear hw))
   go_ret;exact⟨by rw[← HR.out];rfl,rfl⟩
  rw[if_pos rfl]at hrec;have HR:Hid(n+1+Q6l s F((i:Int)+((n+1:Nat):Int))=V):=by
   unfold Hid;rw[show(i:Int)+((n+1:Nat):Int)=(i:Int)+n+1 by omega];omega
  clear hrec;go_wp2_with(first
   |(go_at_call 114;refine(ZX.out _).mono ?_;rintro e w'⟨rfl,hw⟩;rw[hw];clear hw))
  go_roundw
  case rel=>exact⟨n+1,F,by go_num,by omega,by omega,HR.out,by first|rfl|trivial⟩
  simp[intOf];omega
 have j0:¬(i:Int)+(n:Int)<(s.size:Int):=by omega
 rw[z19(by omega),if_neg(by decide)]at hrec;have HR:Hid(n=V):=by unfold Hid;omega
 clear hrec;go_wp2;go_ret;exact⟨by rw[← HR.out];rfl,rfl⟩
def Q5t(s:ByteArray)(i:Int):Int :=
 if(s.size:Int)<=i then -1
 else if Q1n(atB s i)=true then(if 8<1+(Q4c s(i+1):Int)then -1 else i+1+Q4c s(i+1))
 else(if(Q4c s i:Int)=0∨8<(Q4c s i:Int)then -1 else i+Q4c s i)
theorem z5q(s:ByteArray)(i:Nat)(w:World)(hs:s.size<=80000)(hi:i<=100000) :
  Calls Tryz.prog 89#[.string s,.int .i64 i]w fun e w'=>e=.returned(.int .i64(Q5t s i))/\w'=w:=by
 unfold Q5t;by_cases h1:i<s.size
 ·have hb:=z1z h1;have j4:s[i].toNat<256:=s[i].toNat_lt;have j2:¬(s.size:Int)<=(i:Int):=by omega
  have j3:(i:Int)<(s.size:Int):=by omega
  have ZG:=hid(fun w=>z6y(s[i].toNat:Int)w);rw[if_neg j2,hb];generalize Q1n(s[i].toNat:Int)=cp at ZG ⊢;clear hb;cases cp
  ·rw[if_neg(by simp)];have ZL:=hid(fun w=>z2g s i w hs(by omega));have j1:=z78 s(s.size+2)i(by omega)(by omega);have j0:(i:Int)+(Q4c s i:Nat)<=s.size:=j1;clear j1;generalize Q4c s(i:Nat)=n at ZL j0 ⊢;by_cases q:n=0
   ·subst q;rw[if_pos(.inl rfl)];go_enter Tryz.func89,Tryz.ntmps89
    go_wp2_with(first
     |(go_at_call 64;refine(ZG.out _).mono ?_;rintro e w'⟨rfl,hw⟩;rw[hw];clear hw)
     |(go_at_call 87;refine(ZL.out _).mono ?_;rintro e w'⟨rfl,hw⟩;rw[hw];clear hw))
    go_ret;exact⟨rfl,rfl⟩
   have k1:(((i:Int)+(n:Int))==(i:Int))=false:=by simp;omega
   have k2:¬(i:Int)+(n:Int)=(i:Int):=by omega
   have k3:(i:Int)+(n:Int)-(i:Int)=(n:Int):=by omega
   by_cases q8:8<n
   ·have k8:(8:Int)<(n:Int):=by omega
    rw[if_pos(.inr k8)];go_enter Tryz.func89,Tryz.ntmps89
    go_wp2_with(first
     |(go_at_call 64;refine(ZG.out _).mono ?_;rintro e w'⟨rfl,hw⟩;rw[hw];clear hw)
     |(go_at_call 87;refine(ZL.out _).mono ?_;rintro e w'⟨rfl,hw⟩;rw[hw];clear hw))
    go_ret;exact⟨rfl,rfl⟩
   have k8:¬(8:Int)<(n:Int):=by omega
   rw[if_neg(by omega)];go_enter Tryz.func89,Tryz.ntmps89
   go_wp2_with(first
    |(go_at_call 64;refine(ZG.out _).mono ?_;rintro e w'⟨rfl,hw⟩;rw[hw];clear hw)
    |(go_at_call 87;refine(ZL.out _).mono ?_;rintro e w'⟨rfl,hw⟩;rw[hw];clear hw))
   go_ret;exact⟨rfl,rfl⟩
  rw[if_pos rfl];have ZL:=hid(fun w=>z2g s(i+1)w hs(by omega));have ei:((i+1:Nat):Int)=(i:Int)+1:=by omega
  rw[ei]at ZL;have j1:=z78 s(s.size+2)((i:Int)+1)(by omega)(by omega);have j0:(i:Int)+1+(Q4c s((i:Int)+1):Nat)<=s.size:=j1;clear j1;generalize Q4c s((i:Int)+1)=n at ZL j0 ⊢;have k1:(((i:Int)+1+(n:Int))==(i:Int))=false:=by simp;omega
  have k2:¬(i:Int)+1+(n:Int)=(i:Int):=by omega
  have k3:(i:Int)+1+(n:Int)-(i:Int)=1+(n:Int):=by omega
  by_cases q8:8<1+n
  ·have k8:(8:Int)<1+(n:Int):=by omega
   rw[if_pos k8];go_enter Tryz.func89,Tryz.ntmps89
   go_wp2_with(first
    |(go_at_call 64;refine(ZG.out _).mono ?_;rintro e w'⟨rfl,hw⟩;rw[hw];clear hw)
    |(go_at_call 87;refine(ZL.out _).mono ?_;rintro e w'⟨rfl,hw⟩;rw[hw];clear hw))
   go_ret;exact⟨rfl,rfl⟩
  have k8:¬(8:Int)<1+(n:Int):=by omega
  rw[if_neg k8];go_enter Tryz.func89,Tryz.ntmps89
  go_wp2_with(first
   |(go_at_call 64;refine(ZG.out _).mono ?_;rintro e w'⟨rfl,hw⟩;rw[hw];clear hw)
   |(go_at_call 87;refine(ZL.out _).mono ?_;rintro e w'⟨rfl,hw⟩;rw[hw];clear hw))
  go_ret;exact⟨rfl,rfl⟩
 have j2:(s.size:Int)<=(i:Int):=by omega
 rw[if_pos j2];go_enter Tryz.func89,Tryz.ntmps89
 go_wp2;go_ret;exact⟨rfl,rfl⟩
def pre4:ByteArray:=⟨#[97,61,120,40]⟩
def post5:ByteArray:=⟨#[41,10,83,58,10]⟩
def specX(b:ByteArray):ByteArray:=pre4++b++post5
section
variable(b:ByteArray)
end
theorem x89{s:ByteArray}{i:Int}(h:(Q1s s i).ok=true):(Q61 s 6 i).ok=true/\(Q1s s i).next=(Q61 s 6 i).next:=by
 have hk:=y72 s 6 i [];exact⟨by rw[← h];exact hk.ok.symm,hk.next⟩
section
variable{b p q:ByteArray}{L M:Q04}
end
def openT:ByteArray:=⟨#[40]⟩
def closeT:ByteArray:=⟨#[41]⟩
def eitherT(p q:ByteArray):ByteArray:=openT++p++⟨#[41,124,40]⟩++q++closeT
def bothT(p q:ByteArray):ByteArray:=openT++p++⟨#[41,40]⟩++q++closeT
def markT(m:UInt8)(p:ByteArray):ByteArray:=openT++p++⟨#[41,m]⟩
section
variable{p q r:ByteArray}{L M:Q04}
end
def xT:ByteArray:=⟨#[120]⟩
def mF(b t:ByteArray):Bool:=(matchF(specX b)0(xT++t)).1
def eF(b t:ByteArray):Int:=(matchF(specX b)0(xT++t)).2
def splitF(p q t:ByteArray)(n:Nat):Bool:=(List.range(t.size+1)).any fun i=>decide(n<=i)&&(mF p(t.extract 0 i)&&mF q(t.extract i t.size))
section
variable{p q t:ByteArray}{L M:Q04}
structure Q1d(p q t:ByteArray):Prop where
 either:mF(eitherT p q)t=(mF p t||mF q t)
 both:mF(bothT p q)t=splitF p q t 0
 many:mF(markT 42 p)t=(decide(t.size=0)||splitF p(markT 42 p)t 1)
 once:mF(markT 43 p)t=splitF p(markT 42 p)t 0
 maybe:mF(markT 63 p)t=(mF p t||decide(t.size=0))
end
def Q5o(L:Q04)(t:ByteArray)(F:Nat->Prop)(j:Nat):Prop:=∃i,i<=j/\F i/\L(Q16 t i(j-i))
def On(fs:List Bool)(i:Nat):Prop:=fs[i]? = some true
structure Q6p(L:Q04)(t:ByteArray)(fs gs:List Bool):Prop where
 len:gs.length=t.size+1
 on:∀j,j<=t.size->(On gs j↔Q5o L t(On fs)j)
theorem On.lt{fs:List Bool}{i:Nat}(h:On fs i):i<fs.length:=(qS h).1
theorem z5g(t:ByteArray)(i a:Nat):∀b,Q16 t i(a+b)=Q16 t i a++Q16 t(i+a)b
 |0=>by simp[Q16]
 |b+1=>by
  rw[← Nat.add_assoc,Q16,z5g t i a b,Q16,List.append_assoc];simp only[Nat.add_assoc]
theorem z3g(t:ByteArray)(i:Nat):∀k,i+k<=t.size->(Q16 t i k).length=k
 |0,_=>rfl
 |k+1,h=>by
  rw[Q16,dif_pos(by omega),List.length_append,z3g t i k(by omega)];rfl
theorem z7w{t:ByteArray}{i n:Nat}{u v:List Nat}(hn:i+n<=t.size)(h:Q16 t i n=u++v):∃a,a<=n/\u=Q16 t i a/\v=Q16 t(i+a)(n-a):=by
 have hl:=z3g t i n hn;rw[h,List.length_append]at hl;refine⟨u.length,by omega,?_⟩;have e:=z5g t i u.length(n-u.length);rw[show u.length+(n-u.length)=n by omega,h]at e;have l1:=z3g t i u.length(by omega);exact List.append_inj e(by omega)
theorem x28{A B:Q04}{t:ByteArray}{F:Nat->Prop}{j:Nat}(hj:j<=t.size):Q5o(Q04.cat A B)t F j↔Q5o B t(fun k=>k<=t.size/\Q5o A t F k)j:=by
 constructor
 ·rintro⟨i,hi,hf,u,v,he,ha,hb⟩;obtain⟨a,h1,h2,h3⟩:=z7w(by omega)he;refine⟨i+a,by omega,⟨by omega,i,by omega,hf,?_⟩,?_⟩
  ·rw[show i+a-i=a by omega,← h2];exact ha
  rw[show j-(i+a)=j-i-a by omega,← h3];exact hb
 rintro⟨k,hk,⟨_,i,hi,hf,ha⟩,hb⟩;refine⟨i,by omega,hf,_,_,?_,ha,hb⟩;have:=z5g t i(k-i)(j-k);rw[show k-i+(j-k)=j-i by omega,show i+(k-i)=k by omega]at this;exact this
theorem x1y{A B:Q04}(h:∀w,A w↔B w){t:ByteArray}{F:Nat->Prop}{j:Nat}:Q5o A t F j↔Q5o B t F j:=by
 constructor
 ·rintro⟨i,h1,h2,h3⟩;exact⟨i,h1,h2,(h _).1 h3⟩
 rintro⟨i,h1,h2,h3⟩;exact⟨i,h1,h2,(h _).2 h3⟩
theorem y9s{A:Q04}{t:ByteArray}{F G:Nat->Prop}(h:∀k,k<=t.size->(F k↔G k)){j:Nat}(hj:j<=t.size):Q5o A t F j↔Q5o A t G j:=by
 constructor
 ·rintro⟨i,h1,h2,h3⟩;exact⟨i,h1,(h i(by omega)).1 h2,h3⟩
 rintro⟨i,h1,h2,h3⟩;exact⟨i,h1,(h i(by omega)).2 h2,h3⟩
theorem Q6p.cat{A B:Q04}{t:ByteArray}{fs gs hs:List Bool}(h:Q6p A t fs gs)(k:Q6p B t gs hs):Q6p(Q04.cat A B)t fs hs:=by
 refine⟨k.len,fun j hj=>?_⟩;rw[k.on j hj,x28 hj];refine y9s(fun q hq=>?_)hj;rw[h.on q hq];exact⟨fun z=>⟨hq,z⟩,fun z=>z.2⟩
theorem Q6p.iff{A B:Q04}{t:ByteArray}{fs gs:List Bool}(h:Q6p A t fs gs)(e:∀w,A w↔B w):Q6p B t fs gs :=
 ⟨h.len,fun j hj=>by rw[h.on j hj];exact x1y e⟩
structure Un(xs bs cs:List Bool):Prop where
 len:cs.length=xs.length
 on:∀j,On cs j↔On xs j∨(j<xs.length/\On bs j)
theorem Q6p.alt{A B:Q04}{t:ByteArray}{fs gs hs cs:List Bool}(h:Q6p A t fs gs)(k:Q6p B t fs hs)(u:Un gs hs cs):Q6p(Q04.alt A B)t fs cs:=by
 refine⟨u.len.trans h.len,fun j hj=>?_⟩;rw[u.on,h.on j hj,k.on j hj];have hl:=h.len;constructor
 ·rintro(⟨i,h1,h2,h3⟩|⟨_,i,h1,h2,h3⟩)
  ·exact⟨i,h1,h2,.inl h3⟩
  exact⟨i,h1,h2,.inr h3⟩
 rintro⟨i,h1,h2,h3|h3⟩
 ·exact .inl⟨i,h1,h2,h3⟩
 exact .inr⟨by omega,i,h1,h2,h3⟩
theorem x4r{t:ByteArray}{fs gs:List Bool}(hl:gs.length=t.size+1)(h:∀j,¬On gs j):Q6p noL t fs gs :=
 ⟨hl,fun j hj=>⟨fun q=>(h j q).elim,fun⟨i,_,_,q⟩=>q.elim⟩⟩
def epsL:Q04:=fun w=>w=[]
def Q9p:List Q04->Q04
 | []=>epsL
 |A::As=>Q04.cat A(Q9p As)
theorem y8u{t:ByteArray}{fs:List Bool}(hl:fs.length=t.size+1):Q6p epsL t fs fs:=by
 refine⟨hl,fun j hj=>⟨fun h=>⟨j,qR _,h,by rw[Nat.sub_self];rfl⟩,?_⟩⟩;rintro⟨i,h1,h2,h3⟩;have:(Q16 t i(j-i)).length=0:=by rw[show Q16 t i(j-i)=[]from h3];rfl
 rw[z3g t i(j-i)(by omega)]at this;rw[show j=i by omega];exact h2
theorem y7l(A:Q04)(w:List Nat):Q04.cat A epsL w↔A w:=by
 constructor
 ·rintro⟨u,v,rfl,h1,h2⟩;rw[show v=[]from h2,List.append_nil];exact h1
 intro h;exact⟨w,[],by simp,h,rfl⟩
theorem y4o(A B C:Q04)(w:List Nat):Q04.cat(Q04.cat A B)C w↔Q04.cat A(Q04.cat B C)w:=by
 constructor
 ·rintro⟨_,z,rfl,⟨u,v,rfl,h1,h2⟩,h3⟩;exact⟨u,v++z,by simp,h1,v,z,rfl,h2,h3⟩
 rintro⟨u,_,rfl,h1,v,z,rfl,h2,h3⟩;exact⟨u++v,z,by simp,⟨u,v,rfl,h1,h2⟩,h3⟩
theorem x9d{A A' B B':Q04}(h:∀w,A w↔A' w)(k:∀w,B w↔B' w)(w:List Nat):Q04.cat A B w↔Q04.cat A' B' w:=by
 constructor
 ·rintro⟨u,v,e,h1,h2⟩;exact⟨u,v,e,(h u).1 h1,(k v).1 h2⟩
 rintro⟨u,v,e,h1,h2⟩;exact⟨u,v,e,(h u).2 h1,(k v).2 h2⟩
theorem y5b:∀(As:List Q04)(A:Q04)(w:List Nat),Q9p(As++[A])w↔Q04.cat(Q9p As)A w
 | [],A,w=>by
  show Q04.cat A epsL w↔Q04.cat epsL A w;rw[y7l];constructor
  ·intro h;exact⟨[],w,rfl,rfl,h⟩
  rintro⟨u,v,rfl,h1,h2⟩;rw[show u=[]from h1];exact h2
 |B::As,A,w=>by
  show Q04.cat B(Q9p(As++[A]))w↔Q04.cat(Q04.cat B(Q9p As))A w;rw[y4o];exact x9d(fun _=>Iff.rfl)(y5b As A)w
def Q5x(n m:Bool)(A:Q04):Q04:=fun w=>(n=true/\w=[])∨∃ws:List(List Nat),ws≠[]/\(∀u∈ws,A u)/\w=ws.flatten/\(m=false->ws.length=1)
theorem y7y(A:Q04)(w:List Nat):Q5x false false A w↔A w:=by
 constructor
 ·rintro(⟨h,_⟩|⟨ws,_,h1,h2,h3⟩)
  ·cases h
  obtain⟨u,rfl⟩:=List.length_eq_one_iff.1(h3 rfl);rw[h2];simpa using h1 u(by simp)
 intro h;exact .inr⟨[w],by simp,by simpa using h,by simp,fun _=>rfl⟩
theorem y4d{n m:Bool}{A:Q04}:∀(ws:List(List Nat)),(∀u∈ws,Q5x n m A u)->∃vs:List(List Nat),(∀u∈vs,A u)/\ws.flatten=vs.flatten/\(vs=[]->ws=[]∨n=true)/\(m=false->vs.length<=ws.length)
 | [],_=>⟨[],by simp,rfl,fun _=>.inl rfl,fun _=>by simp⟩
 |w::ws,h=>by
  obtain⟨vs,h1,h2,h3,h4⟩:=y4d ws(fun u hu=>h u(by simp[hu]));rcases h w(by simp)with⟨q1,q2⟩|⟨us,q1,q2,q3,q4⟩
  ·exact⟨vs,h1,by rw[List.flatten_cons,q2,h2,List.nil_append],fun _=>.inr q1,fun e=>by have:=h4 e;simp only[List.length_cons];omega⟩
  refine⟨us++vs,?_,by rw[List.flatten_cons,q3,h2,List.flatten_append],fun e=>?_,fun e=>?_⟩
  ·intro u hu;rcases List.mem_append.1 hu with hu|hu
   ·exact q2 u hu
   exact h1 u hu
  ·exact absurd(List.append_eq_nil_iff.1 e).1 q1
  have:=h4 e;have:=q4 e;simp only[List.length_append,List.length_cons];omega
theorem x96{A B:Q04}(h:∀w,A w↔B w)(c:Int)(w:List Nat):Q04.rep c A w↔Q04.rep c B w:=by
 constructor
 ·rintro⟨ws,h1,h2⟩;exact⟨ws,fun u hu=>(h u).1(h1 u hu),h2⟩
 rintro⟨ws,h1,h2⟩;exact⟨ws,fun u hu=>(h u).2(h1 u hu),h2⟩
theorem x7v{n m:Bool}{A:Q04}{c:Int}(hc:Q1y c=true)(w:List Nat):Q04.rep c(Q5x n m A)w↔Q5x(n||(c != 43))(m||(c != 63))A w:=by
 constructor
 ·rintro⟨ws,h1,h2,h3,h4⟩;obtain⟨vs,k1,k2,k3,k4⟩:=y4d ws h1;by_cases hv:vs=[]
  ·left;refine⟨?_,by rw[h2,k2,hv];rfl⟩;rcases k3 hv with e|e
   ·by_cases c43:c=43
    ·exact absurd e(h3 c43)
    have:(c != 43)=true:=by simpa using c43
    rw[this];simp
   rw[e];rfl
  right;refine⟨vs,hv,k1,by rw[h2,k2],fun e=>?_⟩;rw[Bool.or_eq_false_iff]at e;have j0:c=63:=by simpa using e.2
  have:=h4 j0;have:=k4 e.1;have:0<vs.length:=List.length_pos_iff.2 hv;omega
 rintro(⟨h1,h2⟩|⟨vs,h1,h2,h3,h4⟩)
 ·by_cases c43:c=43
  ·have hn:n=true:=by
    rw[c43]at h1;simpa using h1
   exact⟨[[]],by intro u hu;simp at hu;exact .inl⟨hn,hu⟩,by simp[h2],fun _=>by simp,fun _=>by simp⟩
  exact⟨[],by simp,by simp[h2],fun e=>absurd e c43,fun _=>by simp⟩
 by_cases hm:m=true
 ·exact⟨[w],by intro u hu;simp at hu;subst hu;exact .inr⟨vs,h1,h2,h3,fun e=>by rw[hm]at e;cases e⟩,by simp,fun _=>by simp,fun _=>by simp⟩
 by_cases j0:c=63
 ·have hl:=h4(by rw[j0];simp;simpa using hm);exact⟨[w],by intro u hu;simp at hu;subst hu;exact .inr⟨vs,h1,h2,h3,fun _=>hl⟩,by simp,fun _=>by simp,fun _=>by simp⟩
 exact⟨vs,by intro u hu;exact .inr⟨[u],by simp,by simpa using h2 u hu,by simp,fun _=>rfl⟩,h3,fun _=>h1,fun e=>absurd e j0⟩
def Q8u(s:ByteArray):Nat->Nat->Bool × Bool->Bool × Bool
 |0,_,b=>b
 |f+1,i,b=>if i<s.size then Q8u s f(i+1)(b.1||(atB s i != 43),b.2||(atB s i != 63))else b
theorem x3h(s:ByteArray)(f i:Nat)(b:Bool × Bool):Q8u s(f+1)i b=if i<s.size then Q8u s f(i+1)(b.1||(atB s i != 43),b.2||(atB s i != 63))else b:=rfl
theorem y0a{s:ByteArray}{A:Q04}:∀(f g:Nat)(x:Nat)(L:Q04)(b:Bool × Bool),(∀w,L w↔Q5x b.1 b.2 A w)->s.size+1<=f+x->s.size+1<=g+x->x<=s.size->(Q2h s f⟨x,true,L⟩).next=s.size ->
  ∀w,(Q2h s f⟨x,true,L⟩).lang w↔Q5x(Q8u s g x b).1(Q8u s g x b).2 A w
 |0,g,x,L,b,hL,hf,hg,hx,hn=>by omega
 |f+1,0,x,L,b,hL,hf,hg,hx,hn=>by omega
 |f+1,g+1,x,L,b,hL,hf,hg,hx,hn=>by
  rw[z4a]at hn ⊢;rw[x3h];dsimp only at hn ⊢;rw[Bool.true_and]at hn ⊢;by_cases c:Q1y(atB s x)=true
  ·have hlt:=z0q(s:=s)(i:=(x:Int))(z9j c);rw[if_pos c]at hn ⊢;rw[if_pos(by omega)];have e:((x:Nat):Int)+1=((x+1:Nat):Int):=by omega
   rw[e]at hn ⊢;refine y0a f g(x+1)_ _(fun w=>?_)(by omega)(by omega)(by omega)hn;rw[x96 hL];exact x7v c w
  rw[if_neg c]at hn ⊢;dsimp only at hn ⊢;have j0:x=s.size:=by omega
  rw[if_neg(by omega)];exact hL
def Row(P:Int->LR):Int->List Q04->Int->Prop
 |x,[],y=>x=y
 |x,A::As,y=>(P x).ok=true/\(P x).lang=A/\Row P(P x).next As y
theorem Row.snoc{P:Int->LR}:∀{As:List Q04}{x y:Int},Row P x As y->(P y).ok=true->Row P x(As++[(P y).lang])(P y).next
 | [],x,y,h,hk=>by
  have h':x=y:=h;subst h';exact⟨hk,rfl,rfl⟩
 |A::As,x,y,⟨h1,h2,h3⟩,hk=>⟨h1,h2,Row.snoc h3 hk⟩
section
variable{P:Int->LR}{s:ByteArray}
theorem z8r:∀(f:Nat)(x:Int)(L:Q04),(Q1r P s f⟨x,true,L⟩).ok=true->∃As,Row P x As(Q1r P s f⟨x,true,L⟩).next/\∀w,(Q1r P s f⟨x,true,L⟩).lang w↔Q04.cat L(Q9p As)w
 |0,x,L,h=>⟨[],rfl,fun w=>(y7l L w).symm⟩
 |f+1,x,L,h=>by
  rw[z2f]at h ⊢;dsimp only at h ⊢;rw[Bool.true_and]at h ⊢;by_cases c:Q2w s x=true
  ·rw[if_pos c]at h ⊢;cases hk:(P x).ok
   ·have q1:Q5v⟨x,true,L⟩(P x)=⟨(P x).next,false,noL⟩:=by unfold Q5v;rw[hk];rfl
    rw[q1,z1t P s _ _ rfl]at h;cases h
   have q1:Q5v⟨x,true,L⟩(P x)=⟨(P x).next,true,Q04.cat L(P x).lang⟩:=by unfold Q5v;rw[if_pos hk]
   rw[q1]at h ⊢;obtain⟨As,h1,h2⟩:=z8r f(P x).next _ h;refine⟨(P x).lang::As,⟨hk,rfl,h1⟩,fun w=>?_⟩;rw[h2,y4o];rfl
  rw[if_neg c]at h ⊢;exact⟨[],rfl,fun w=>(y7l L w).symm⟩
theorem y0o{x:Int}(h:(Q0z P s x).ok=true):∃As,As≠[]/\Row P x As(Q0z P s x).next/\∀w,(Q0z P s x).lang w↔Q9p As w:=by
 have hk:(P x).ok=true:=x3o h;unfold Q0z at h ⊢;rw[z2n hk]at h ⊢;obtain⟨As,h1,h2⟩:=z8r _ _ _ h;exact⟨(P x).lang::As,by simp,⟨hk,rfl,h1⟩,h2⟩
def Alts(P:Int->LR)(s:ByteArray):Int->List(List Q04)->Int->Prop
 |_,[],_=>False
 |x,B::Bs,y=>∃z,B≠[]/\Row P x B z/\((Bs=[]/\z=y)∨(atB s z=124/\Alts P s(z+1)Bs y))
theorem z7q:∀(f:Nat)(x:Int)(L:Q04),(Q05(Q0z P s)s f⟨x,true,L⟩).ok=true->∃Bs,((Bs=[]/\x=(Q05(Q0z P s)s f⟨x,true,L⟩).next)∨(atB s x=124/\Alts P s(x+1)Bs(Q05(Q0z P s)s f⟨x,true,L⟩).next)) /\
  ∀w,(Q05(Q0z P s)s f⟨x,true,L⟩).lang w↔L w∨∃B∈Bs,Q9p B w
 |0,x,L,h=>⟨[],.inl⟨rfl,rfl⟩,fun w=>by simp[Q05]⟩
 |f+1,x,L,h=>by
  rw[z2o]at h ⊢;dsimp only at h ⊢;rw[Bool.true_and]at h ⊢;by_cases c:(atB s x==124)=true
  ·rw[if_pos c]at h ⊢;have c124:atB s x=124:=by simpa using c
   cases hk:(Q0z P s(x+1)).ok
   ·have q1:Q12⟨x,true,L⟩(Q0z P s(x+1))=⟨(Q0z P s(x+1)).next,false,noL⟩:=by unfold Q12;rw[hk];rfl
    rw[q1,z10 _ s _ _ rfl]at h;cases h
   have q1:Q12⟨x,true,L⟩(Q0z P s(x+1))=⟨(Q0z P s(x+1)).next,true,Q04.alt L(Q0z P s(x+1)).lang⟩:=by unfold Q12;rw[if_pos hk]
   rw[q1]at h ⊢;obtain⟨Bs,h1,h2⟩:=z7q f(Q0z P s(x+1)).next _ h;obtain⟨As,k1,k2,k3⟩:=y0o hk;refine⟨As::Bs,.inr⟨c124,_,k1,k2,h1⟩,fun w=>?_⟩;rw[h2];unfold Q04.alt;rw[k3];simp only[List.mem_cons];constructor
   ·rintro((q|q)|⟨B,hB,q⟩)
    ·exact .inl q
    ·exact .inr⟨As,.inl rfl,q⟩
    exact .inr⟨B,.inr hB,q⟩
   rintro(q|⟨B,rfl|hB,q⟩)
   ·exact .inl(.inl q)
   ·exact .inl(.inr q)
   exact .inr⟨B,hB,q⟩
  rw[if_neg c];exact⟨[],.inl⟨rfl,rfl⟩,fun w=>by simp⟩
theorem y55{x:Int}(h:(Q28(Q0z P s)s x).ok=true):∃Bs,Alts P s x Bs(Q28(Q0z P s)s x).next/\∀w,(Q28(Q0z P s)s x).lang w↔∃B∈Bs,Q9p B w:=by
 have hk:(Q0z P s x).ok=true:=x2l h;obtain⟨As,k1,k2,k3⟩:=y0o hk;unfold Q28 at h ⊢;rw[z2n hk]at h ⊢;obtain⟨Bs,h1,h2⟩:=z7q _ _ _ h;refine⟨As::Bs,⟨_,k1,k2,h1⟩,fun w=>?_⟩;rw[h2,k3];simp only[List.mem_cons];constructor
 ·rintro(q|⟨B,hB,q⟩)
  ·exact⟨As,.inl rfl,q⟩
  exact⟨B,.inr hB,q⟩
 rintro⟨B,rfl|hB,q⟩
 ·exact .inl q
 exact .inr⟨B,hB,q⟩
end
theorem y61{A:Q04}{t:ByteArray}{fs os ns:List Bool}(hl:os.length=t.size+1)(h1:∀j,j<=t.size->Q5o A t(On fs)j->On os j)(h2:∀j,On os j->j<=t.size->Q5o(Q5x false true A)t(On fs)j)
  (hn:Q6p A t os ns)(hno:∀j,On ns j->On os j):Q6p(Q5x false true A)t fs os:=by
 refine⟨hl,fun j hj=>⟨fun h=>h2 j h hj,?_⟩⟩;rintro⟨i,hi,hf,⟨h,_⟩|⟨ws,hne,hall,he,_⟩⟩
 ·cases h
 -- by the number of words
 have j1:∀(ws:List(List Nat))(k:Nat),ws≠[]->(∀u∈ws,A u)->k<=j->(On fs k∨On os k)->Q16 t k(j-k)=ws.flatten->On os j:=by
  intro ws;induction ws with
  |nil=>intro k hne;exact absurd rfl hne
  |cons u ws ih =>
   intro k _ hall hk hon he;rw[List.flatten_cons]at he;obtain⟨a,q1,q2,q3⟩:=z7w(by omega)he;have hA:=hall u(by simp);have j0:On os(k+a):=by
    have r:∀F:Nat->Prop,F k->Q5o A t F(k+a):=fun F hF=>⟨k,by omega,hF,by rw[show k+a-k=a by omega,← q2];exact hA⟩;rcases hon with hon|hon
    ·exact h1 _(by omega)(r _ hon)
    exact hno _((hn.on _(by omega)).2(r _ hon))
   by_cases hw:ws=[]
   ·rw[hw]at q3;have:=z3g t(k+a)(j-k-a)(by omega);rw[← q3]at this;simp at this;rw[show j=k+a by omega];exact j0
   exact ih(k+a)hw(fun u hu=>hall u(by simp[hu]))(by omega)(.inr j0)(by rw[show j-(k+a)=j-k-a by omega];exact q3.symm)
 exact j1 ws i hne hall hi(.inl hf)he
theorem x7l{A:Q04}{t:ByteArray}{F:Nat->Prop}{j:Nat}(h:Q5o A t F j):Q5o(Q5x false true A)t F j:=by
 obtain⟨i,h1,h2,h3⟩:=h;exact⟨i,h1,h2,.inr⟨[_],by simp,by simpa using h3,by simp,fun _=>rfl⟩⟩
theorem x3v{A:Q04}{t:ByteArray}{F:Nat->Prop}{j:Nat}(hj:j<=t.size)(h:Q5o A t(fun k=>Q5o(Q5x false true A)t F k)j):Q5o(Q5x false true A)t F j:=by
 obtain⟨k,h1,⟨i,k1,k2,⟨q,_⟩|⟨ws,q1,q2,q3,_⟩⟩,h3⟩:=h
 ·cases q
 refine⟨i,by omega,k2,.inr⟨ws++[Q16 t k(j-k)],by simp,?_,?_,fun e=>by cases e⟩⟩
 ·intro u hu;rcases List.mem_append.1 hu with hu|hu
  ·exact q2 u hu
  simp at hu;subst hu;exact h3
 have:=z5g t i(k-i)(j-k);rw[show k-i+(j-k)=j-i by omega,show i+(k-i)=k by omega]at this;rw[this,q3];simp
structure WOk(ws:List Int):Prop where
 len:ws.length=4
 rng:∀k:Nat,0<=ws.getD k 0/\ws.getD k 0<18446744073709551616
def tb(ws:List Int)(c:Nat):Bool:=(ws.getD(c / 64)0).toNat.testBit(c % 64)
theorem z66{ws:List Int}(h:WOk ws)(c:Nat):Q5z ws c=tb ws c:=by
 have hr:=h.rng(c / 64);unfold Q5z tb;have e:ws[c / 64]?.getD 0=ws.getD(c / 64)0:=rfl;rw[e];generalize ws.getD(c / 64)0=x at hr;obtain⟨n,rfl⟩:∃n:Nat,x=n:=⟨x.toNat,by omega⟩;have e2:((n:Int) / 2 ^ (c % 64))=((n / 2 ^ (c % 64):Nat):Int):=by push_cast;rfl
 have j0:n / 2 ^ (c % 64)<=n:=Nat.div_le_self _ _;rw[e2,Int.toNat_natCast,Nat.testBit_eq_decide_div_mod_eq];generalize n / 2 ^ (c % 64)=m at j0 ⊢;rw[and_one_u64 _(by omega)(by omega),Bool.eq_iff_iff,beq_iff_eq,decide_eq_true_eq];omega
theorem z5d:WOk Q07:=⟨rfl,fun k=>by
 match k with
 |0=>decide
 |1=>decide
 |2=>decide
 |3=>decide
 |k+4=>simp[Q07]⟩
theorem y8n(c:Nat):tb Q07 c=false:=by
 unfold tb;have:Q07.getD(c / 64)0=0:=by
  match c / 64 with
  |0=>rfl
  |1=>rfl
  |2=>rfl
  |3=>rfl
  |k+4=>simp[Q07]
 rw[this];simp
theorem v1j{k:Nat}(h:k<64):2 ^ k<18446744073709551616:=by
 have:=Nat.pow_lt_pow_right(a:=2)(by omega)h;simpa using this
theorem x3b{ws:List Int}(h:WOk ws){n:Nat}(hn:n<256):WOk(Q8n ws n)/\∀c,tb(Q8n ws n)c=(tb ws c||decide(c=n)):=by
 have hr:=h.rng(n / 64);have hl:=h.len;have hk:n % 64<64:=Nat.mod_lt _(by omega);have hp:=v1j hk;have e0:Q8n ws n=ws.set(n / 64)(((ws.getD(n / 64)0).toNat ||| 2 ^ (n % 64):Nat):Int):=by
  unfold Q8n;have e1:((n:Int) / 64).toNat=n / 64:=by omega
  have e2:((n:Int) % 64).toNat=n % 64:=by omega
  rw[e1,e2];congr 1;have e3:IntKind.u64.wrap(2 ^ (n % 64))=((2 ^ (n % 64):Nat):Int):=by
   rw[IntKind.wrap_u64];have:((2:Int) ^ (n % 64))=((2 ^ (n % 64):Nat):Int):=by push_cast;rfl
   rw[this];generalize 2 ^ (n % 64)=P at hp ⊢;omega
  have e4:ws[n / 64]?.getD 0=((ws.getD(n / 64)0).toNat:Int):=by
   have:ws[n / 64]?.getD 0=ws.getD(n / 64)0:=rfl;rw[this];omega
  rw[e3,e4,bits_or_u64_nat _ _(by omega)hp]
 rw[e0];have j0:((ws.getD(n / 64)0).toNat ||| 2 ^ (n % 64))<18446744073709551616:=by
  have:=Nat.or_lt_two_pow(n:=64)(x:=(ws.getD(n / 64)0).toNat)(y:=2 ^ (n % 64))(by omega)(by omega);omega
 refine⟨⟨by rw[List.length_set];exact hl,fun k=>?_⟩,fun c=>?_⟩
 ·by_cases q:n / 64=k
  ·rw[← q];have:(ws.set(n / 64)(((ws.getD(n / 64)0).toNat ||| 2 ^ (n % 64):Nat):Int)).getD(n / 64)0=(((ws.getD(n / 64)0).toNat ||| 2 ^ (n % 64):Nat):Int):=by
    rw[List.getD,List.getElem?_set_self(by omega)];rfl
   rw[this];omega
  have:(ws.set(n / 64)(((ws.getD(n / 64)0).toNat ||| 2 ^ (n % 64):Nat):Int)).getD k 0=ws.getD k 0:=by
   rw[List.getD,List.getElem?_set_ne q];rfl
  rw[this];exact h.rng k
 unfold tb;by_cases q:n / 64=c / 64
 ·have:(ws.set(n / 64)(((ws.getD(n / 64)0).toNat ||| 2 ^ (n % 64):Nat):Int)).getD(c / 64)0=(((ws.getD(c / 64)0).toNat ||| 2 ^ (n % 64):Nat):Int):=by
   rw[← q,List.getD,List.getElem?_set_self(by omega)];rfl
  rw[this,Int.toNat_natCast,Nat.testBit_or,Nat.testBit_two_pow];congr 1;rw[Bool.eq_iff_iff,decide_eq_true_eq,decide_eq_true_eq];omega
 have:(ws.set(n / 64)(((ws.getD(n / 64)0).toNat ||| 2 ^ (n % 64):Nat):Int)).getD(c / 64)0=ws.getD(c / 64)0:=by
  rw[List.getD,List.getElem?_set_ne q];rfl
 rw[this];have:decide(c=n)=false:=by simp;intro e;exact q(by rw[e])
 rw[this,Bool.or_false]
theorem y26{ws:List Int}(h:WOk ws){lo:Nat}:∀n,lo+n<=256->WOk(Q69 ws lo n)/\∀c,tb(Q69 ws lo n)c=(tb ws c||decide(lo<=c/\c<lo+n))
 |0,_=>⟨h,fun c=>by
   have:decide(lo<=c/\c<lo+0)=false:=decide_eq_false(by omega);rw[this,Bool.or_false];rfl⟩
 |n+1,hn=>by
  obtain⟨h1,h2⟩:=y26 h(lo:=lo)n(by omega);have e:((lo:Int)+(n:Int))=((lo+n:Nat):Int):=by omega
  obtain⟨h3,h4⟩:=x3b h1(n:=lo+n)(by omega);unfold Q69;rw[e];refine⟨h3,fun c=>?_⟩;rw[h4,h2,Bool.or_assoc];congr 1;rw[Bool.eq_iff_iff,Bool.or_eq_true,decide_eq_true_eq,decide_eq_true_eq,decide_eq_true_eq];omega
theorem x1i{lo hi:Nat}(h1:lo<=hi)(h2:hi<256):WOk(Q2e Q07 lo hi)/\∀c,Q5z(Q2e Q07 lo hi)c=decide(lo<=c/\c<=hi):=by
 obtain⟨q1,q2⟩:=y26 z5d(lo:=lo)(hi+1-lo)(by omega);have e:Q2e Q07 lo hi=Q69 Q07 lo(hi+1-lo):=by
  unfold Q2e;congr 1;omega
 rw[e];refine⟨q1,fun c=>?_⟩;rw[z66 q1,q2,y8n,Bool.false_or,Bool.eq_iff_iff,decide_eq_true_eq,decide_eq_true_eq];omega
theorem y2f{n:Nat}(h:n<18446744073709551616):Q7y n=((18446744073709551615 ^^^ n:Nat):Int):=by
 unfold Q7y;have e:(if IntKind.u64.signed=true then(-1:Int)else IntKind.u64.max)=((18446744073709551615:Nat):Int):=by decide
 rw[e,bits_xor_u64_nat _ _(by omega)h]
theorem x1b{ws:List Int}(h:WOk ws){c:Nat}(hc:c<256):Q5z(Q8z ws 4)c=!hasB ws c:=by
 obtain⟨a,b,d,e,rfl⟩:=four h.len;have ra:=h.rng 0;have rb:=h.rng 1;have rd:=h.rng 2;have re:=h.rng 3;simp only[List.getD_cons_zero,List.getD_cons_succ]at ra rb rd re;obtain⟨a,rfl⟩:∃n:Nat,a=n:=⟨a.toNat,by omega⟩;obtain⟨b,rfl⟩:∃n:Nat,b=n:=⟨b.toNat,by omega⟩;obtain⟨d,rfl⟩:∃n:Nat,d=n:=⟨d.toNat,by omega⟩;obtain⟨e,rfl⟩:∃n:Nat,e=n:=⟨e.toNat,by omega⟩;have e1:Q8z [(a:Int),(b:Int),(d:Int),(e:Int)]4=[Q7y a,Q7y b,Q7y d,Q7y e]:=rfl;rw[e1,y2f(by omega),y2f(by omega),y2f(by omega),y2f(by omega)];have xl:∀n:Nat,n<18446744073709551616->18446744073709551615 ^^^ n<18446744073709551616:=fun n hn=>by
  have:=Nat.xor_lt_two_pow(n:=64)(x:=18446744073709551615)(y:=n)(by omega)(by omega);omega
 have la:=xl a(by omega);have lb:=xl b(by omega);have ld:=xl d(by omega);have le:=xl e(by omega);have h2:WOk [((18446744073709551615 ^^^ a:Nat):Int),((18446744073709551615 ^^^ b:Nat):Int),((18446744073709551615 ^^^ d:Nat):Int),((18446744073709551615 ^^^ e:Nat):Int)]:=⟨rfl,fun k=>by
  match k with
  |0=>simp only[List.getD_cons_zero];omega
  |1=>simp only[List.getD_cons_succ,List.getD_cons_zero];omega
  |2=>simp only[List.getD_cons_succ,List.getD_cons_zero];omega
  |3=>simp only[List.getD_cons_succ,List.getD_cons_zero];omega
  |k+4=>simp⟩
 rw[z66 h,z66 h2];unfold tb;have j0:∀n:Nat,(18446744073709551615 ^^^ n).testBit(c % 64)=!n.testBit(c % 64):=fun n=>by
  have hm:(18446744073709551615:Nat).testBit(c % 64)=true:=by
   have:=Nat.testBit_two_pow_sub_one 64(c % 64);rw[show(2:Nat) ^ 64-1=18446744073709551615 from rfl]at this;rw[this];simp;omega
  rw[Nat.testBit_xor,hm];simp
 have hq:c / 64<4:=by omega
 match hcc:c / 64,hq with
 |0,_=>simp only[List.getD_cons_zero,Int.toNat_natCast];exact j0 a
 |1,_=>simp only[List.getD_cons_succ,List.getD_cons_zero,Int.toNat_natCast];exact j0 b
 |2,_=>simp only[List.getD_cons_succ,List.getD_cons_zero,Int.toNat_natCast];exact j0 d
 |3,_=>simp only[List.getD_cons_succ,List.getD_cons_zero,Int.toNat_natCast];exact j0 e
end Go.Proofs.YtcpceafmlgaodaaGreat
