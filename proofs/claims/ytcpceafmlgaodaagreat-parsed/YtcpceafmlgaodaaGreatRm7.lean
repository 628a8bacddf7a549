import Derived.Test.YtcpceafmlgaodaaGreatRh5
namespace Go.Proofs.YtcpceafmlgaodaaGreat
open Go.RowKit
set_option maxRecDepth 100000
set_option maxHeartbeats 16000000
set_option linter.unusedVariables false
set_option linter.unusedSimpArgs false
theorem y64(u:ByteArray)(As:List Q04)(hs:u.size<=1000)(h:Row(Pc u)0 As u.size)(hsome:∀q L,q.size<=u.size->PceIs q L->SetC 125 q L):SetC 116 u(Q9p As):=by
 intro t g fs w ht hg hl;have j5:=hid hsome;have PC:=hid(fun(i:Nat)(w:World)(hi:i<=u.size)=>y88 u(by omega)i w(by omega));have HG:=hid hg;have HL:=hid hl;have HR:=hid h;clear hsome hg hl h;go_enter Tryz.func116,Tryz.ntmps116
 go_wp2;go_loopw [2,7,8](fun x2 x7 _ wr=>∃(i g1:Nat)(gs:List Bool)(Ds Rs:List Q04),x7=.int .i64 i/\x2=bsl g1(t.size+1)/\i<=u.size/\As=Ds++Rs/\Row(Pc u)i Rs u.size/\Q13 wr g1 gs/\Q0a w wr/\Q6p(Q9p Ds)t fs gs)
   (fun _ x _ _=>2001-(intOf x).toNat)
 case atStart=>exact⟨0,g,fs,[],As,rfl,rfl,by omega,rfl,HR.out,HG.out,mRf _ _,y8u HL.out⟩
 obtain⟨i,g1,gs,Ds,Rs,rfl,rfl,hi,hAs,hrow,hB,hfr,hgo⟩:=hrel;have j2:=hid hAs;have HB:=hid hB;have HF:=hid hfr;have j0:=hid hgo;clear hAs hB hfr hgo HR;cases Rs with
 |nil =>
  have j4:(i:Int)=u.size:=hrow;have k1:¬(i:Int)<(u.size:Int):=by omega
  clear j4 hrow;go_wp2;go_ret;refine⟨g1,gs,rfl,HF.out,HB.out,?_⟩;rw[j2.out,List.append_nil];exact j0.out
 |cons A Rs =>
  obtain⟨r1,r2,r3⟩:=hrow;have j7:=z0q(s:=u)(i:=(i:Int))(y5s(z22 r1));have g0:=x1l u i(by omega)(by omega)r1;obtain⟨j,hj⟩:∃j:Nat,(Pc u i).next=j:=⟨(Pc u i).next.toNat,by omega⟩;have e:Pc u i=⟨(j:Int),true,A⟩:=by rw[← hj,← r2];exact z2n r1
  obtain⟨p1,p2,p3⟩:=x9a e hi;have j6:=z3q(s:=u)(a:=i)(e:=j)p3;have SX:=hid(j5.out _ A(by omega)p1 t g1 gs wr ht HB.out j0.out.len);have PX:=hid(fun w=>PC.out i w hi);have j1:Q4i(Q3v(zgK u 6)u)u i=j:=by
   have:=z5z(p:=u)6(x:=(i:Int))(by omega)(by omega);unfold Q7g at this;have e1:Q1u(Q3q(lgK u 6)u)u i=⟨(j:Int),true,A⟩:=e;rw[e1]at this;exact this
  rw[j1]at PX;rw[hj]at r3;have j3:=hid r3;have k1:(i:Int)<(u.size:Int):=by omega
  have k2:(i:Int)<=(j:Int):=by omega
  have k3:(j:Int)<=(u.size:Int):=by omega
  clear r1 r2 r3 e p1 j1 hj g0 j6;go_wp2_with(first
   |(go_at_call 115;refine(PX.out _).mono ?_;rintro e w'⟨rfl,hw⟩;rw[hw];clear hw)
   |(go_at_call 125;refine(SX.out).mono ?_;rintro e w1⟨g3,ns,rfl,q1,q2,q3⟩;have HN:=hid(And.intro q1(And.intro q2 q3));clear q1 q2 q3))
  go_roundw
  case rel =>
   refine⟨j,g3,ns,Ds++[A],Rs,rfl,rfl,by omega,by rw[j2.out];simp,j3.out,HN.out.2.1,HF.out.trans HN.out.1,?_⟩;exact(j0.out.cat HN.out.2.2).iff(fun w=>(y5b Ds A w).symm)
  simp[intOf];omega
def W0d(Bs:List(List Q04)):Q04:=fun w=>∃B∈Bs,Q9p B w
theorem y92(Bs:List(List Q04))(B:List Q04)(w:List Nat):W0d(Bs++[B])w↔Q04.alt(W0d Bs)(Q9p B)w:=by
 unfold W0d Q04.alt;constructor
 ·rintro⟨D,hD,q⟩;rcases List.mem_append.1 hD with hD|hD
  ·exact .inl⟨D,hD,q⟩
  simp at hD;subst hD;exact .inr q
 rintro(⟨D,hD,q⟩|q)
 ·exact⟨D,by simp[hD],q⟩
 exact⟨B,by simp,q⟩
def Rest(p:ByteArray)(z:Int)(Bs:List(List Q04)):Prop:=(Bs=[]/\z=p.size)∨(atB p z=124/\Alts(Pc p)p(z+1)Bs p.size)
theorem y2j(p:ByteArray)(Bs:List(List Q04))(hs:p.size<=1000)(h:Alts(Pc p)p 0 Bs p.size)(hbr:∀u As,u.size<=p.size->Row(Pc u)0 As u.size->SetC 116 u(Q9p As)):SetC 91 p(W0d Bs):=by
 intro t g fs w ht hg hl;have jb:=hid hbr;have PC:=hid(fun(i:Nat)(w:World)(hi:i<=p.size)=>y88 p(by omega)i w(by omega));have UN:=hid(fun(w:World)(ga gb:Nat)(xs ys:List Bool)(ha:Q13 w ga xs)(hb:Q13 w gb ys)(la:xs.length=t.size+1)(lb:ys.length=t.size+1)=>z2q w ga gb(t.size+1)xs ys ha hb la lb(by omega));have HG:=hid hg;have HL:=hid hl;have HA:=hid h;have mk:=fun w=>run_make_row'(P:=Tryz.prog)90 4(.bool false)1 Tryz.underlying90(by kernel_rfl)rfl .i64 .i64(t.size+1)(by omega)(by omega)w;simp only[Int.natCast_add,Int.cast_ofNat_Int]at mk;clear hbr hg hl h;go_enter Tryz.func91,Tryz.ntmps91
 go_wp2;go_loopw [7,8,9,10](fun x7 x8 x9 _ wr=>∃(b i g1:Nat)(os:List Bool)(Ds:List(List Q04)),x8=.int .i64 b/\x9=.int .i64 i/\x7=bsl g1(t.size+1)/\Q13 wr g1 os/\Q0a w wr/\Q6p(W0d Ds)t fs os/\i<=p.size+1 /\
    ((i=p.size+1/\Ds=Bs)∨(∃(z:Nat)(Ls Rs:List Q04)(Ts:List(List Q04)),Bs=Ds++(Ls++Rs)::Ts/\b<=i/\i<=p.size/\Row(Pc p)b Ls i/\Row(Pc p)i Rs z/\Rest p z Ts)))
   (fun _ _ x _ _=>2001-(intOf x).toNat)
 case atStart =>
  have hA:=HA.out;cases Bs with
  |nil=>exact hA.elim
  |cons B Ts =>
   obtain⟨z,_,q1,q2⟩:=hA;have hz:=y8i q1(by omega)(by omega);obtain⟨zn,rfl⟩:∃n:Nat,z=n:=⟨z.toNat,by omega⟩;refine⟨0,0,w.heap.size,List.replicate(t.size+1)false,[],rfl,rfl,rfl,?_,(mRf _ w).alloc _,?_,by omega,.inr⟨zn,[],B,Ts,rfl,by omega,by omega,rfl,q1,q2⟩⟩
   ·rw[z02];exact z0a _ _
   refine(x4r(by simp)(fun j q=>?_)).iff(fun w=>⟨fun q=>q.elim,fun⟨B,hB,_⟩=>by cases hB⟩);unfold On at q;rw[List.getElem?_replicate]at q;split at q<;>simp at q
 obtain⟨b,i,g1,os,Ds,rfl,rfl,rfl,hB,hfr,hgo,hi1,hst⟩:=hrel;have HB:=hid hB;have HF:=hid hfr;have j2:=hid hgo;clear hB hfr hgo HA mk;rcases hst with⟨hip,hDs⟩|⟨z,Ls,Rs,Ts,hBs,hbi,hip,r1,r2,r3⟩
 ·have k1:¬(i:Int)<=(p.size:Int):=by omega
  have HD:=hid hDs;clear hip hDs;go_wp2;go_ret;exact⟨g1,os,rfl,HF.out,HB.out,by rw[← HD.out];exact j2.out⟩
 have k1:(i:Int)<=(p.size:Int):=by omega
 have ja:=hid hBs;have j6:=hid r1;have j5:=hid r3;clear hBs r1 r3;cases Rs with
 |nil =>
  have jj:(i:Int)=z:=r2;have j8:i=z:=by omega
  subst j8;clear r2 jj;have j0:=x3f hip j6.out(b:=b)(Int.le_refl _);have jm:=z3q(s:=p)(a:=b)(e:=i)hip;rw[Int.sub_self,show(i:Int)-b=((p.extract b i).size:Int)by omega]at j0;have BX:=hid(fun(w:World)(hg:Q13 w g fs)=>jb.out _ Ls(by omega)j0 t g fs w ht hg HL.out);have k2:(b:Int)<=(i:Int):=by omega
  clear j0 jm;have je:Hid(∀(wb:World)(g3:Nat)(ns:List Bool),True->Q6p(Q9p Ls)t fs ns->Q6p(W0d(Ds++[Ls]))t fs(orI os ns(t.size+1)(t.size+1))):=fun wb g3 ns _ hn=>(j2.out.alt hn(v0t j2.out.len)).iff(fun w=>(y92 Ds Ls w).symm);have j7:i=p.size∨(∃j1:i<p.size,((p[i].toNat:Int)==124)=true):=by
   rcases j5.out with⟨_,q⟩|⟨q,_⟩
   ·left;omega
   right;have jk:=z0q(s:=p)(i:=(i:Int))(by omega);have j1:i<p.size:=by omega
   refine⟨j1,?_⟩;rw[z1z j1]at q;simp[q]
  have jc:Hid((i+1=p.size+1/\Ds++[Ls]=Bs)∨(∃(z:Nat)(Ls' Rs:List Q04)(Ts:List(List Q04)),Bs=(Ds++[Ls])++(Ls'++Rs)::Ts/\i+1<=i+1/\i+1<=p.size/\Row(Pc p)((i+1:Nat):Int)Ls'((i+1:Nat):Int)/\Row(Pc p)((i+1:Nat):Int)Rs z/\Rest p z Ts)):=by
   have hB:=ja.out;rw[List.append_nil]at hB;rcases j5.out with⟨q1,q2⟩|⟨q1,q2⟩
   ·left;refine⟨by omega,?_⟩;rw[hB,q1]
   right;have jk:=z0q(s:=p)(i:=(i:Int))(by omega);cases Ts with
   |nil=>exact q2.elim
   |cons B Ts =>
    obtain⟨z2,_,y1,y2⟩:=q2;have hz:=y8i y1(by omega)(by omega);obtain⟨zn,rfl⟩:∃n:Nat,z2=n:=⟨z2.toNat,by omega⟩;exact⟨zn,[],B,Ts,by rw[hB];simp,by omega,by omega,rfl,y1,y2⟩
  clear ja j6 j5 jb;rcases j7 with j7|⟨j1,h124⟩
  ·have k3:((i:Int)==(p.size:Int))=true:=by simp;omega
   clear j7;go_wp2_with(first
    |(go_at_call 70;have j3:=HN.out.1;refine(UN.out w1 g1 g3 os ns(HB.out.fresh HN.out.1)HN.out.2.1 j2.out.len HN.out.2.2.len).mono ?_;rintro e w3⟨rfl,hf3,hb3⟩;have HU:=hid(And.intro hf3 hb3);clear hf3 hb3)
    |(go_at_call 116;refine(BX.out _(HG.out.fresh HF.out)).mono ?_;rintro e w1⟨g3,ns,rfl,q1,q2,q3⟩;have HN:=hid(And.intro q1(And.intro q2 q3));clear q1 q2 q3))
   go_roundw
   case rel=>exact⟨i+1,i+1,_,_,Ds++[Ls],by go_num,by go_num,rfl,HU.out.2,(HF.out.trans HN.out.1).trans HU.out.1,je.out w1 g3 ns trivial HN.out.2.2,by omega,jc.out⟩
   simp[intOf];omega
  have k3:((i:Int)==(p.size:Int))=false:=by simp;omega
  have k4:(i:Int)<(p.size:Int):=by omega
  have jl:p[i].toNat<256:=p[i].toNat_lt;go_wp2_with(first
   |(go_at_call 70;have j3:=HN.out.1;refine(UN.out w1 g1 g3 os ns(HB.out.fresh HN.out.1)HN.out.2.1 j2.out.len HN.out.2.2.len).mono ?_;rintro e w3⟨rfl,hf3,hb3⟩;have HU:=hid(And.intro hf3 hb3);clear hf3 hb3)
   |(go_at_call 116;refine(BX.out _(HG.out.fresh HF.out)).mono ?_;rintro e w1⟨g3,ns,rfl,q1,q2,q3⟩;have HN:=hid(And.intro q1(And.intro q2 q3));clear q1 q2 q3))
  go_roundw
  case rel=>exact⟨i+1,i+1,_,_,Ds++[Ls],by go_num,by go_num,rfl,HU.out.2,(HF.out.trans HN.out.1).trans HU.out.1,je.out w1 g3 ns trivial HN.out.2.2,by omega,jc.out⟩
  simp[intOf];omega
 |cons A Rs =>
  obtain⟨y1,y2,y3⟩:=r2;have j4:=z22 y1;have j9:=z0q(s:=p)(i:=(i:Int))(y5s j4);have j1:i<p.size:=by omega
  have g0:=x1l p i(by omega)(by omega)y1;obtain⟨j,hj⟩:∃j:Nat,(Pc p i).next=j:=⟨(Pc p i).next.toNat,by omega⟩;have PX:=hid(fun w=>PC.out i w hip);have jd:Q4i(Q3v(zgK p 6)p)p i=j:=by
   have:=z5z(p:=p)6(x:=(i:Int))(by omega)(by omega);unfold Q7g at this;have e1:Q1u(Q3q(lgK p 6)p)p i=⟨(j:Int),true,A⟩:=by
    show Pc p i=_;rw[← hj,← y2];exact z2n y1
   rw[e1]at this;exact this
  rw[jd]at PX;have jf:Row(Pc p)b(Ls++[A])((j:Nat):Int):=by
   have:=Row.snoc j6.out y1;rw[y2,hj]at this;exact this
  rw[hj]at y3;have jh:=hid y3;have jg:=hid jf;have ji:((p[i].toNat:Int)==124)=false:=by
   rw[z1z j1]at j4;cases q:((p[i].toNat:Int)==124)
   ·rfl
   have:(p[i].toNat:Int)=124:=by simpa using q
   rw[this]at j4;revert j4;decide
  have k3:((i:Int)==(p.size:Int))=false:=by simp;omega
  have k4:(i:Int)<(p.size:Int):=by omega
  have jl:p[i].toNat<256:=p[i].toNat_lt;have k5:¬(j:Int)<0:=by omega
  have b1:i<j:=by omega
  have b2:j<=p.size:=by omega
  clear y1 y2 y3 j4 jd hj jf j6 g0 j9;go_wp2_with(first
   |(go_at_call 115;refine(PX.out _).mono ?_;rintro e w'⟨rfl,hw⟩;rw[hw];clear hw))
  go_roundw
  case rel=>exact⟨b,j,g1,os,Ds,rfl,rfl,rfl,HB.out,HF.out,j2.out,by omega,.inr⟨z,Ls++[A],Rs,Ts,by rw[ja.out];simp,by omega,by omega,jg.out,jh.out,j5.out⟩⟩
  simp[intOf];omega
theorem z7s:∀(N:Nat)(p:ByteArray)(L:Q04),p.size<=N->p.size<=1000->Q9k p L->SetC 91 p L
 |0,p,L,hN,hs,h=>by
  exfalso;have g:=y38 p 6 0(by omega)(by omega)(by rw[h]);rw[h]at g;dsimp only at g;omega
 |N+1,p,L,hN,hs,h=>by
  have j0:(Q61 p 6 0).ok=true:=by rw[h]
  obtain⟨Bs,h1,h2⟩:=y55(P:=Pc p)(s:=p)(x:=0)j0;have e:Q28(Q0z(Pc p)p)p 0=⟨p.size,true,L⟩:=h;rw[e]at h1 h2;dsimp only at h1 h2;have j1:=y2j p Bs hs h1(fun u As hu hr=>y64 u As(by omega)hr(fun q M hq hM=>x2n q M(by omega)hM(fun a A ha hA=>x6t a A(by omega)hA(fun c C hc hC=>z7s N c C(by omega)(by omega)hC))));intro t g fs w ht hg hl;refine(j1 t g fs w ht hg hl).mono ?_;rintro e w'⟨g',gs,q1,q2,q3,q4⟩;exact⟨g',gs,q1,q2,q3,q4.iff(fun w=>(h2 w).symm)⟩
theorem x0e{L:Q04}{t:ByteArray}{n j:Nat}:Q5o L t(On((List.replicate(n+1)false).set 0 true))j↔L(Q16 t 0 j):=by
 constructor
 ·rintro⟨i,h1,h2,h3⟩;have:i=0:=by
   unfold On at h2;rw[List.getElem?_set]at h2;by_cases e:0=i
   ·exact e.symm
   rw[if_neg e,List.getElem?_replicate]at h2;split at h2<;>simp at h2
  subst this;exact h3
 intro h;exact⟨0,by omega,by unfold On;simp,h⟩
def LenRet(L:Q04)(t:ByteArray)(w:World)(e:Ending)(w':World):Prop :=
 ∃g gs,e=.returned(bsl g(t.size+1))/\Q0a w w'/\Q13 w' g gs/\gs.length=t.size+1/\∀j,j<=t.size->(On gs j↔L(Q16 t 0 j))
theorem y43(p t:ByteArray)(L:Q04)(w:World)(hs:p.size<=1000)(ht:t.size<=210)(h:Q9k p L) :
  Calls Tryz.prog 63#[.string p,.string t]w fun e w'=>LenRet L t w e w':=by
 have TH:=hid(z7s p.size p L(qR _)hs h t);have mk:=fun w=>run_make_row'(P:=Tryz.prog)90 4(.bool false)1 Tryz.underlying90(by kernel_rfl)rfl .i64 .i64(t.size+1)(by omega)(by omega)w;simp only[Int.natCast_add,Int.cast_ofNat_Int]at mk;have hB:Q13(w.alloc(.cells(madeCells#[.bool false](t.size+1))4))w.heap.size(List.replicate(t.size+1)false):=by
  rw[z02];exact z0a _ _
 have c0:=hB.cell(j:=0)(by simp);have f0:=hB.frozen 0;have e0:(List.replicate(t.size+1)false).getD 0 false=false:=by simp
 rw[e0]at c0;have HB:Hid(Q13(w.alloc(.cells((madeCells#[.bool false](t.size+1)).setIfInBounds 0(.bool true))4))w.heap.size((List.replicate(t.size+1)false).set 0 true)):=by
  unfold Hid Q13;rw[z0a,z02];congr 2
 have k1:(0:Int)<(t.size:Int)+1:=by omega
 clear hB e0;go_enter Tryz.func63,Tryz.ntmps63
 go_wp2_with(first
  |(go_at_call 91;refine(TH.out w.heap.size _ _ ht HB.out(by simp)).mono ?_;rintro e w1⟨g3,ns,rfl,q1,q2,q3⟩;have HN:=hid(And.intro q1(And.intro q2 q3));clear q1 q2 q3))
 go_ret;obtain⟨q1,q2,q3⟩:=HN.out;refine⟨g3,ns,rfl,((mRf _ w).alloc _).trans q1,q2,q3.len,fun j hj=>?_⟩;rw[q3.on j hj];exact x0e
def MatRet(L:Q04)(t:ByteArray)(w:World)(e:Ending)(w':World):Prop :=
 ∃b:Bool,e=.returned(.bool b)/\(b=true↔L(bytesOf t))/\Q0a w w'
theorem y4h(p t:ByteArray)(L:Q04)(w:World)(hs:p.size<=1000)(ht:t.size<=210)(h:Q9k p L) :
  Calls Tryz.prog 30#[.string p,.string t]w fun e w'=>MatRet L t w e w':=by
 have LE:=hid(y43 p t L w hs ht h);have k1:(t.size:Int)<(t.size:Int)+1:=by omega
 clear h;go_enter Tryz.func30,Tryz.ntmps30
 go_wp2_with(first
  |(go_at_call 63;refine(LE.out).mono ?_;rintro e w1⟨g3,ns,rfl,q1,q2,q3,q4⟩;have hc:=q2.cell(j:=t.size)(by omega);have HN:=hid(And.intro q1(q4 t.size(qR _)));clear q1 q2 q3 q4))
 go_ret;obtain⟨q1,q2⟩:=HN.out;refine⟨_,rfl,?_,q1⟩;show _↔L(Q16 t 0 t.size);rw[← q2,z3j,qD]
structure YOk(em:ByteArray->Bool)(y:ZLn × Int):Prop where
 ne:∀n∈y.1.syms,0<n.size
 len:y.1.places.length=y.1.syms.length
 small:y.1.syms.length<=1000
 pl:0<=y.2/\y.2<=1000
 pls:∀p∈y.1.places,0<=p/\p<=1000
 pat:y.1.rule=true->∃L,Q9k y.1.pat L/\y.1.pat.size<=1000/\(em y.1.pat=true↔L [])
theorem YOk.zok{em:ByteArray->Bool}{x:ZLV}(h:YOk em x.both):ZOk x:=⟨h.ne,h.len,h.small,h.pl,h.pls⟩
def Q5s(em:ByteArray->Bool):List ZLV->Option Int
 | []=>none
 |x::l=>if em x.ln.pat=true then some x.pl else Q5s em l
theorem y7p:∀(xs:List ZLV)(X:SP)(P:ZLV->Prop),(∀x∈X.rules,P x/\x.ln.rule=true)->(∀x∈X.prods,P x)->(∀x∈xs,P x)->(∀x∈(Q1k X xs).1.rules,P x/\x.ln.rule=true)/\(∀x∈(Q1k X xs).1.prods,P x)
 | [],X,P,h1,h2,_=>⟨h1,h2⟩
 |x::xs,X,P,h1,h2,h3=>by
  have s1:(∀y∈(Q00 X x).rules,P y/\y.ln.rule=true)/\(∀y∈(Q00 X x).prods,P y):=by
   unfold Q00;split
   ·rename_i c;refine⟨fun y hy=>?_,h2⟩;rcases List.mem_append.1 hy with hy|hy
    ·exact h1 y hy
    simp at hy;subst hy;exact⟨h3 _(by simp),c⟩
   refine⟨h1,fun y hy=>?_⟩;rcases List.mem_append.1 hy with hy|hy
   ·exact h2 y hy
   simp at hy;subst hy;exact h3 _(by simp)
  unfold Q1k;split
  ·exact s1
  exact y7p xs _ P s1.1 s1.2(fun y hy=>h3 y(by simp[hy]))
theorem y29:∀(xs:List ZLV)(X:SP),SPbd X->(Q1k X xs).2<0->(∀x∈xs,0<=x.pl)->SPbd(Q1k X xs).1
 | [],X,h,_,_=>h
 |x::xs,X,h,hp,hx=>by
  unfold Q1k at hp ⊢;cases ho:Q8c(Q00 X x)x
  ·rw[ho]at hp;rw[if_neg(by simp)]at hp ⊢;exact y29 xs _(x4m h ho)hp(fun y hy=>hx y(by simp[hy]))
  rw[ho,if_pos rfl]at hp;have:=hx x(by simp);dsimp only at hp;omega
theorem x39:SPbd Q20:=⟨by simp[Q20],by simp[Q20],by simp[Q20],by simp[Q20]⟩
def Q8o(X:SP)(x:ZLV):List Int:=x.ln.syms.map(Q8x X)
structure Q6x(w:World)(b:Nat)(X:SP)(v0 v1 v2 v3 v4:Value)(sv:List Value):Prop where
 sp:Q2z w b X v0 v1 v2 v3 v4 sv
 len:sv.length<=X.prods.length
 syms:∀(i:Nat)(v:Value)(x:ZLV),sv[i]? = some v->X.prods[i]? = some x->w.ownsRow(b+1)3 1 v x.ln.syms.length(W0b(Q8o X x))/\∀k,v.ownBlock=some k->v4.ownBlock≠some k
theorem Q6x.fresh{w w':World}{b:Nat}{X:SP}{v0 v1 v2 v3 v4:Value}{sv:List Value}(h:Q6x w b X v0 v1 v2 v3 v4 sv)(m:Q0a w w'):Q6x w' b X v0 v1 v2 v3 v4 sv :=
 ⟨h.sp.fresh m,h.len,fun i v x h1 h2=>⟨z0c(h.syms i v x h1 h2).1(fun g hg=>m.block g((h.syms i v x h1 h2).1.lt g hg).2(fun x=>x)),(h.syms i v x h1 h2).2⟩⟩
theorem Q6x.add{w wr W w1:World}{b:Nat}{X:SP}{v0 v1 v2 v3 v4 v' u:Value}{sv:List Value}{x:ZLV}(h:Q6x w b X v0 v1 v2 v3 v4 sv)(hr:Q0a w wr)(hW:Q0a wr W)(hx:X.prods[sv.length]? = some x)
  (hu:wr.ownsRow w.heap.size 3 1 u x.ln.syms.length(W0b(Q8o X x)))
  (hown:w1.ownsRow(b+1)22 1 v'(sv.length+1)(sv++[u]))(hg:W.grownBy w1 v4.ownBlock)
  (hb:∀k,v'.ownBlock=some k->v4.ownBlock=some k∨W.heap.size<=k) :
  Q6x(w1.setCell⟨b,4,none⟩v')b X v0 v1 v2 v3 v'(sv++[u])/\UpZ b w(w1.setCell⟨b,4,none⟩v'):=by
 obtain⟨q1,q2⟩:=Q2z.add4(h.sp.fresh hr)hW hown hg hb;have j4:=h.sp.lt;have j5:=hr.size;have j3:=hW.size;have j1:Mod(fun k=>k=b∨v4.ownBlock=some k)wr(w1.setCell⟨b,4,none⟩v') :=
  ((hW.mono(T:=fun k=>k=b∨v4.ownBlock=some k)(fun _ _ x=>x.elim)).grown hg(fun k hk _=>.inr hk)).setCell(fun _=>.inl rfl)_
 have j0:=(h.sp.own_lt(i:=4)rfl);refine⟨⟨q1,?_,?_⟩,(hr.mono(fun _ _ x=>x.elim)).trans q2⟩
 ·have:=(qS hx).1;simp;omega
 intro i v y h1 h2;by_cases hi:i<sv.length
 ·rw[List.getElem?_append_left hi]at h1;obtain⟨y1,y2⟩:=h.syms i v y h1 h2;have y3:=z0c(w':=wr)y1(fun g hg=>hr.block g(y1.lt g hg).2(fun x=>x));refine⟨z0c y3(fun g hg=>j1.block g(y3.lt g hg).2 ?_),fun k hk e=>?_⟩
  ·rintro(e|e)
   ·have:=(y1.lt g hg).1;omega
   exact y2 g hg e
  rcases hb k e with z|z
  ·exact y2 k hk z
  have:=y1.lt k hk;omega
 have j2:=(qS h1).1;simp at j2;have e:i=sv.length:=by omega
 subst e;rw[List.getElem?_append_right(qR _)]at h1;simp at h1;subst h1;rw[hx]at h2;injection h2 with h2;subst h2;have ul:=hu.lt;refine⟨z0f(z0c hu(fun g hg=>j1.block g(ul g hg).2 ?_))(by omega),fun k hk e=>?_⟩
 ·rintro(e|e)
  ·have:=ul g hg;omega
  have:=j0 g e;have:=ul g hg;omega
 have:=ul k hk;rcases hb k e with z|z
 ·have:=j0 k z;omega
 omega
def SpecX(w:World)(b:Nat)(X:SP):Prop:=∃v0 v1 v2 v3 v4 sv,Q6x w b X v0 v1 v2 v3 v4 sv/\sv.length=X.prods.length
def tailZ(s:ByteArray)(n:Nat):Option Int->Int × Int
 |some p=>(5,p)
 |none=>if n=0 then(6,(s.size:Int))else(0,0)
def Q6a(em:ByteArray->Bool)(s:ByteArray)(xs:List ZLV)(fp:Int):Int × Int :=
 if 800<s.size then(1,0)else if 0<=fp then(2,fp)else if 0<=(Q1k Q20 xs).2 then(3,(Q1k Q20 xs).2)
 else if 0<=Q3l(Q1k Q20 xs).1 xs []then(4,Q3l(Q1k Q20 xs).1 xs [])
 else tailZ s(Q1k Q20 xs).1.prods.length(Q5s em(Q1k Q20 xs).1.rules)
def ReadRet(em:ByteArray->Bool)(s:ByteArray)(w:World)(e:Ending)(w':World):Prop :=
 ∃(p:Value)(xs:List ZLV),(s.size<=800->xs.map ZLV.both=(Q4u s).1)/\(∀x∈xs,x.At w.heap.size w')/\e=.returned(.tuple#[p,.int .i64(Q6a em s xs(Q4u s).2).1,.int .i64(Q6a em s xs(Q4u s).2).2])/\Q0a w w' /\
  ((Q6a em s xs(Q4u s).2).1=0->∃b,w.heap.size<=b/\p=.pointer(some⟨b,0,none⟩)/\SpecX w' b(Q1k Q20 xs).1)
end Go.Proofs.YtcpceafmlgaodaaGreat
