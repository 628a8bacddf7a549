import Derived.Test.YtcpceafmlgaodaaGreatRb9
namespace Go.Proofs.YtcpceafmlgaodaaGreat
open Go.RowKit
set_option maxRecDepth 100000
set_option maxHeartbeats 16000000
set_option linter.unusedVariables false
set_option linter.unusedSimpArgs false
theorem x2k{s:ByteArray}(hc:Q0u s=(0,0)):Q1c(Q0r(Q0c s).1)(Q0g(Q0c s).1).length(Q0i(Q0c s).1).length/\(Q0g(Q0c s).1).length<=8:=by
 obtain⟨c1,c2,c3,c4,c5⟩:=z18 hc;have hI:=Q6y hc;have j0:=Q73 hc;exact⟨tabOk c3 hI.places j0.mem,y1r(fun y hy=>(hI.places y hy).1)c5⟩
def ReadN(s:ByteArray)(w:World)(e:Ending)(w':World):Prop :=
 ∃(b:Nat)(pl:Int),e=.returned(.tuple#[.pointer(some⟨b,0,none⟩),.int .i64 0,.int .i64 pl])/\Q35 w' b(Q0g(Q0c s).1).length(Q0i(Q0c s).1).length(Q0e(Q0g(Q0c s).1).length(Q0r(Q0c s).1))/\Q0a w w'
theorem v0y(s:ByteArray)(w:World)(hs:s.size<=maxLen)(hc:Q0u s=(0,0)):Calls Tryz.prog 15#[.string s]w fun e w'=>ReadN s w e w':=by
 refine(y4t s w hs).mono ?_;rintro e w'⟨p,pl,rfl,hf,_,_,h⟩;obtain⟨b,xs,_,rfl,hX,hO⟩:=h(by rw[hc]);refine⟨b,pl,by rw[hc],v06 hX(x6j hc hO),hf⟩
structure NumOk(R H:Nat)(q:List Q1):Prop where
 qk:QOk R H q
 n:(Q4q(bs R)false q H).length=H
 u:(Q4q(bs R)true q H).length=H
 r:(rchF R H q).length=H
 sl:Sq(R+1+H)(ldF R H(Q4q(bs R)false q H)q)
 sa:Sq H(laF R H(Q4q(bs R)false q H)q)
 se:Sq H(reF R H q)
 pos:0<H
theorem x8f{s:ByteArray}(hc:Q0u s=(0,0)):NumOk(Q0g(Q0c s).1).length(Q0i(Q0c s).1).length(Q0e(Q0g(Q0c s).1).length(Q0r(Q0c s).1)):=by
 obtain⟨hT,hR⟩:=x2k hc;have hQ:=q_ok hc hT hR;have hp:0<(Q0i(Q0c s).1).length:=by
  have:=hQ.hd _(List.getElem_mem hQ.pos);omega
 exact⟨hQ,(z9u hT).1,(x6r hT).1,x64 hT hp,(v1g hT(y6u hT)).1,(v16 hT(y6u hT)).1,(v13 hT).1,hp⟩
attribute [local go_sem ↓] z16
def ahF(R H:Nat)(null:List Bool)(q:List Q1)(z:Q1):List Bool :=
 if Q4e(bs R)null z.2=true then orI(fiF R H null q z.2)(foF R H null q z.1.toNat)(R+1)(R+1)else fiF R H null q z.2
theorem v0k(R H:Nat)(null:List Bool)(q:List Q1)(z:Q1):(ahF R H null q z).length=R+1:=by
 unfold ahF;split
 ·exact z2j _ _ _ _
 exact y66 _ _ _ _ _
section
variable{ps:List Pr}{R H:Nat}
theorem v19(hT:Q1c ps R H)(hR:R<=8){p:Pr}(hp:p∈ps){t:Nat}(ht:t<R+1) :
  (ahF R H(Q4q(bs R)false(Q0e R ps)H)(Q0e R ps)(p.head,p.syms.map(Q0v R))).getD t false=(Q8k(Q34 ps(Q0x R H))p.head p.syms).getD t false:=by
 have hh:=hT.hd p hp;have hH:0<H:=by omega
 have hS:=x6n hT hR hH;have hn:=y6u hT;have j0:=fun s hs=>hT.sy p hp s hs;rw[z9i(z8z hT hR).ok hR t p.head p.syms j0];have e1:hN(Q34 ps(Q0x R H))=NS ps H:=funext hS.n;have e2:(fun X=>hF(Q34 ps(Q0x R H))X t)=fun X=>FS ps(NS ps H)t H X:=funext fun X=>hS.f X t;rw[e1,e2];have fi:=(v1v hT hn j0).2 t;have no:Q4e(bs R)(Q4q(bs R)false(Q0e R ps)H)(p.syms.map(Q0v R))=p.syms.all(Q4a(NS ps H)):=y2r hn j0;have hd:((p.head.toNat:Nat):Int)=p.head:=by omega
 have fo:=(v2c hT hn p.head.toNat).2 t ht;rw[hd,← hS.o p.head t]at fo;unfold ahF;dsimp only;rw[no];by_cases h:p.syms.all(Q4a(NS ps H))=true
 ·rw[if_pos h,z9y ht,fi,h,Bool.true_and];congr 1;rw[Bool.eq_iff_iff];exact fo
 rw[if_neg h,fi];have:p.syms.all(Q4a(NS ps H))=false:=by simpa using h
 rw[this];simp
end
def hitB(q:List Q1)(A:Mat)(h t i j:Nat):Bool:=(((q.getD i(0,[])).1==(h:Int)&&(q.getD j(0,[])).1==(h:Int))&&atM A i t)&&atM A j t
def zcJ(q:List Q1)(A:Mat)(h t i:Nat):Nat->Nat->List Cl->List Cl
 |0,_,acc=>acc
 |f+1,j,acc=>zcJ q A h t i f(j+1)(if hitB q A h t i j=true then acc++[⟨h,t,i,j⟩]else acc)
def zcI(q:List Q1)(A:Mat)(h t:Nat):Nat->Nat->List Cl->List Cl
 |0,_,acc=>acc
 |f+1,i,acc=>zcI q A h t f(i+1)(zcJ q A h t i(q.length-(i+1))(i+1)acc)
def zcT(q:List Q1)(A:Mat)(h:Nat):Nat->Nat->List Cl->List Cl
 |0,_,acc=>acc
 |f+1,t,acc=>zcT q A h f(t+1)(zcI q A h t q.length 0 acc)
def zcH(q:List Q1)(A:Mat)(R:Nat):Nat->Nat->List Cl->List Cl
 |0,_,acc=>acc
 |f+1,h,acc=>zcH q A R f(h+1)(zcT q A h(R+1)0 acc)
def Q5r(R H:Nat)(q:List Q1):Mat:=q.map(ahF R H(Q4q(bs R)false q H)q)
def zclF(R H:Nat)(q:List Q1):List Cl:=zcH q(Q5r R H q)R H 0 []
theorem y1x(q:List Q1)(A:Mat)(h t i:Nat):∀(f j:Nat)(acc:List Cl),acc.length<=(zcJ q A h t i f j acc).length
 |0,_,_=>qR _
 |f+1,j,acc=>by
  unfold zcJ;refine Nat.le_trans ?_(y1x q A h t i f(j+1)_);split
  ·simp
  exact qR _
theorem y2d(q:List Q1)(A:Mat)(h t:Nat):∀(f i:Nat)(acc:List Cl),acc.length<=(zcI q A h t f i acc).length
 |0,_,_=>qR _
 |f+1,i,acc=>by
  unfold zcI;exact Nat.le_trans(y1x _ _ _ _ _ _ _ _)(y2d q A h t f(i+1)_)
theorem y2u(q:List Q1)(A:Mat)(h:Nat):∀(f t:Nat)(acc:List Cl),acc.length<=(zcT q A h f t acc).length
 |0,_,_=>qR _
 |f+1,t,acc=>by
  unfold zcT;exact Nat.le_trans(y2d _ _ _ _ _ _ _)(y2u q A h f(t+1)_)
theorem y82(q:List Q1)(A:Mat)(R:Nat):∀(f h:Nat)(acc:List Cl),acc.length<=(zcH q A R f h acc).length
 |0,_,_=>qR _
 |f+1,h,acc=>by
  unfold zcH;exact Nat.le_trans(y2u _ _ _ _ _ _)(y82 q A R f(h+1)_)
theorem v2e(q:List Q1)(A:Mat)(h t i n j:Nat)(acc:List Cl)(hj:j<n):zcJ q A h t i(n-j)j acc=zcJ q A h t i(n-(j+1))(j+1)(if hitB q A h t i j=true then acc++[⟨h,t,i,j⟩]else acc):=by
 rw[show n-j=(n-(j+1))+1 by omega];rfl
theorem v2j(q:List Q1)(A:Mat)(h t n i:Nat)(acc:List Cl)(hi:i<n):zcI q A h t(n-i)i acc=zcI q A h t(n-(i+1))(i+1)(zcJ q A h t i(q.length-(i+1))(i+1)acc):=by
 rw[show n-i=(n-(i+1))+1 by omega];rfl
theorem v2l(q:List Q1)(A:Mat)(h n t:Nat)(acc:List Cl)(ht:t<n):zcT q A h(n-t)t acc=zcT q A h(n-(t+1))(t+1)(zcI q A h t q.length 0 acc):=by
 rw[show n-t=(n-(t+1))+1 by omega];rfl
theorem v2h(q:List Q1)(A:Mat)(R n h:Nat)(acc:List Cl)(hh:h<n):zcH q A R(n-h)h acc=zcH q A R(n-(h+1))(h+1)(zcT q A h(R+1)0 acc):=by
 rw[show n-h=(n-(h+1))+1 by omega];rfl
structure Alk(q:List Q1)(A:Mat)(R:Nat)(z:List(Pr × List Bool)):Prop where
 len:z.length=q.length
 hd:∀(k:Nat)(h:k<z.length),(q.getD k(0,[])).1=z[k].1.head
 at':∀(k t:Nat)(h:k<z.length),t<R+1->atM A k t=Q9d z[k].2 t
theorem v1a(n t:Int)(z:List(Pr × List Bool))(i:Nat)(hi:i<z.length):ovL n t(z.drop i)i=if z[i].1.head=n/\Q9d z[i].2 t=true then(i:Int)::ovL n t(z.drop(i+1))(i+1)else ovL n t(z.drop(i+1))(i+1):=by
 rw[qC hi,ovL]
theorem x84{q:List Q1}{A:Mat}{R:Nat}{z:List(Pr × List Bool)}(hA:Alk q A R z){h t i:Nat}(ht:t<R+1)(hi:i<z.length):∀(f j:Nat)(acc:List Cl),f+j=z.length ->
  zcJ q A h t i f j acc=acc++(if z[i].1.head=(h:Int)/\Q9d z[i].2 t=true then(ovL h t(z.drop j)j).map(fun s=>⟨h,t,i,s⟩)else [])
 |0,j,acc,e=>by
  rw[List.drop_eq_nil_of_le(by omega)];simp[zcJ,ovL]
 |f+1,j,acc,e=>by
  have hj:j<z.length:=by omega
  unfold zcJ;rw[x84 hA ht hi f(j+1)_(by omega),v1a _ _ _ _ hj];have hb:hitB q A h t i j=true↔(z[i].1.head=(h:Int)/\Q9d z[i].2 t=true)/\z[j].1.head=(h:Int)/\Q9d z[j].2 t=true:=by
   unfold hitB;rw[hA.hd i hi,hA.hd j hj,hA.at' i t hi ht,hA.at' j t hj ht];simp only[Bool.and_eq_true,beq_iff_eq];constructor
   ·rintro⟨⟨⟨a,b⟩,c⟩,d⟩;exact⟨⟨a,c⟩,b,d⟩
   rintro⟨⟨a,c⟩,b,d⟩;exact⟨⟨⟨a,b⟩,c⟩,d⟩
  by_cases h1:z[i].1.head=(h:Int)/\Q9d z[i].2 t=true
  ·rw[if_pos h1,if_pos h1];by_cases h2:z[j].1.head=(h:Int)/\Q9d z[j].2 t=true
   ·rw[if_pos h2,if_pos(hb.2⟨h1,h2⟩)];simp
   rw[if_neg h2,if_neg(fun e=>h2(hb.1 e).2)]
  rw[if_neg h1,if_neg h1,if_neg(fun e=>h1(hb.1 e).1)]
theorem x8n{q:List Q1}{A:Mat}{R:Nat}{z:List(Pr × List Bool)}(hA:Alk q A R z){h t:Nat}(ht:t<R+1):∀(f i:Nat)(acc:List Cl),f+i=z.length ->
  zcI q A h t f i acc=acc++Q6k h t(ovL h t(z.drop i)i)
 |0,i,acc,e=>by
  rw[List.drop_eq_nil_of_le(by omega)];simp[zcI,ovL,Q6k]
 |f+1,i,acc,e=>by
  have hi:i<z.length:=by omega
  unfold zcI;rw[x8n hA ht f(i+1)_(by omega),x84 hA ht hi(q.length-(i+1))(i+1)acc(by have:=hA.len;omega),v1a _ _ _ _ hi];by_cases h1:z[i].1.head=(h:Int)/\Q9d z[i].2 t=true
  ·rw[if_pos h1,if_pos h1,Q6k,List.append_assoc]
  rw[if_neg h1,if_neg h1];simp
theorem x8h{q:List Q1}{A:Mat}{R:Nat}{z:List(Pr × List Bool)}(hA:Alk q A R z){h:Nat}:∀(f t:Nat)(acc:List Cl),f+t=R+1 ->
  zcT q A h f t acc=acc++clT z h R(f+1)t
 |0,t,acc,e=>by
  unfold zcT clT;rw[if_neg(by omega)];simp
 |f+1,t,acc,e=>by
  unfold zcT;rw[clT,x8h hA f(t+1)_(by omega),if_pos(by omega),x8n hA(by omega)q.length 0 acc(by rw[← hA.len];omega),List.drop_zero,List.append_assoc]
theorem x8i{q:List Q1}{A:Mat}{R H:Nat}{z:List(Pr × List Bool)}(hA:Alk q A R z):∀(f h:Nat)(acc:List Cl),f+h=H ->
  zcH q A R f h acc=acc++clN z R H(f+1)h
 |0,h,acc,e=>by
  unfold zcH clN;rw[if_neg(by omega)];simp
 |f+1,h,acc,e=>by
  unfold zcH;rw[clN,x8i(H:=H)hA f(h+1)_(by omega),if_pos(by omega),x8h hA(R+1)0 acc(by omega),List.append_assoc]
theorem x6o{s:ByteArray}(hc:Q0u s=(0,0)):zclF(Q0g(Q0c s).1).length(Q0i(Q0c s).1).length(Q0e(Q0g(Q0c s).1).length(Q0r(Q0c s).1))=Q3c s:=by
 obtain⟨hT,hR⟩:=x2k hc;unfold zclF Q3c Q6e;have hz:((Q0r(Q0c s).1).zip(Q0q(Q7u s)(Q0r(Q0c s).1)))=(Q0r(Q0c s).1).map(fun p=>(p,Q8k(Q7u s)p.head p.syms)):=by
  unfold Q0q;rw[List.zip_map_right];simp[List.zip_eq_zipWith,List.zipWith_self]
 rw[hz];refine x8i(z:=(Q0r(Q0c s).1).map(fun p=>(p,Q8k(Q7u s)p.head p.syms)))⟨?_,?_,?_⟩_ _ _(by omega)
 ·unfold Q0e;simp
 ·intro k hk;rw[List.length_map]at hk;unfold Q0e;rw[qD,List.getElem?_map,qE hk,List.getElem_map];rfl
 intro k t hk ht;rw[List.length_map]at hk;rw[List.getElem_map];have:=v19 hT hR(List.getElem_mem hk)ht;have e:(Q5r(Q0g(Q0c s).1).length(Q0i(Q0c s).1).length(Q0e(Q0g(Q0c s).1).length(Q0r(Q0c s).1))).getD k []=ahF(Q0g(Q0c s).1).length(Q0i(Q0c s).1).length(Q4q(bs(Q0g(Q0c s).1).length)false(Q0e(Q0g(Q0c s).1).length(Q0r(Q0c s).1))(Q0i(Q0c s).1).length)(Q0e(Q0g(Q0c s).1).length(Q0r(Q0c s).1))(((Q0r(Q0c s).1)[k]).head,((Q0r(Q0c s).1)[k]).syms.map(Q0v(Q0g(Q0c s).1).length)):=by
  unfold Q5r;rw[qD,List.getElem?_map,show(Q0e(Q0g(Q0c s).1).length(Q0r(Q0c s).1))[k]? = some(((Q0r(Q0c s).1)[k]).head,((Q0r(Q0c s).1)[k]).syms.map(Q0v(Q0g(Q0c s).1).length))from by
   unfold Q0e;rw[List.getElem?_map,qE hk];rfl]
  rfl
 unfold atM;rw[e,this];unfold Q9d;rw[if_pos(by omega),Int.toNat_natCast];rfl
theorem y98(w:World)(B ab b R H:Nat)(q:List Q1)(gn:Nat)(vL:Value)(gL:List Nat)(i:Nat)(hi:i<q.length)(hA:Q8e w B ab b R H q gn vL gL)(hS:Q35 w b R H q)(hK:NumOk R H q) :
  Calls Tryz.prog 33#[.pointer(some⟨ab,0,none⟩),.int .i64 i]w fun e w'=>Q9w w(R+1)(ahF R H(Q4q(bs R)false q H)q q[i])e w':=by
 have hQ:=hK.qk;have r8:=hQ.r8;have h8:=hQ.h8;have jd:=hQ.hd q[i](List.getElem_mem hi);have j3:=hQ.sy q[i](List.getElem_mem hi);have FO:=hid(fun(W:World)(h:Nat)(hW:Q0a w W)(hh:h<H)=>y96 W B ab b R H q gn vL gL h(hA.fresh hW)(hS.fresh hW)hQ hK.n hK.sl hK.sa hh);have FI:=hid(fun(v:Value)(hv:Q02 w v q[i].2)=>y4g w B ab b R H q gn vL gL v q[i].2 hA hS hQ hK.n hK.sl hv j3.1 j3.2);have j6:=hid hA.n;have p0:=Q0b hA.o 0;have p1:=Q0b hA.o 1;simp at p0 p1;obtain⟨a0,c0,a1,c1,a2,c2,v3,v4,sv,hN⟩:=hS;obtain⟨g3,o3,c3,g4,o4,n4,c4,al,cl,hP⟩:=hN.pr hi;have k0:=hN.k0;have jb:=hid hK.n;have j2:=hid(y66 R H(Q4q(bs R)false q H)q q[i].2);have j5:=hid(fun h=>x9e R H(Q4q(bs R)false q H)q h);unfold ahF;generalize Q4q(bs R)false q H=null at FO FI j6 jb j2 j5 ⊢;have UN:=hid(fun(W:World)(ga gb:Nat)(xs ys:List Bool)(ha:Q13 W ga xs)(hb:Q13 W gb ys)(la:xs.length=R+1)(lb:ys.length=R+1)=>z2q W ga gb(R+1)xs ys ha hb la lb(by omega));generalize q[i]=z at jd j3 FI hP j2 ⊢;obtain⟨hdn,hhn⟩:∃a:Nat,z.1=a:=⟨z.1.toNat,by omega⟩;have jg:hdn<H:=by omega
 have NO:=hid(fun(W:World)(n:Nat)(hW:Q0a w W)=>z4r(W.drewN n)b R H gn a0 c0(.slice al z.2.length cl)z.2 null(Q0j(hW.trans(Q0s W n))k0)(by omega)(by omega)(hP.l.fresh(hW.trans(Q0s W n)))(by omega)(j6.out.fresh(hW.trans(Q0s W n)))jb.out j3.2);have q4:=hP.q4;have y4:=hP.y4;have s4:(i:Int)<(n4:Int):=by have:=hP.n4;omega
 have s3:(i:Int)<(q.length:Int):=by omega
 have HP:=hid hP;have j9:=hid(FI.out _ hP.l);rw[show z.1.toNat=hdn by omega];generalize hFV:fiF R H null q z.2=fv at j9 j2;generalize Q4e(bs R)null z.2=nb at NO;have j8:=hid(j5.out hdn);have ja:=hid(fun(W:World)(hW:Q0a w W)=>FO.out W hdn hW jg);generalize foF R H null q hdn=ov at ja j8;generalize hq1:R+1=R1 at ja j9 UN j2 j8 ⊢;have jk:=hid hhn;clear hA hK hQ hN hP FO FI jd j3 hFV hq1 j6 hhn j5 k0;go_enter Tryz.func33,Tryz.ntmps33
 go_wp2_with(first
  |(go_at_call 67;refine(j9.out).mono ?_;rintro e w1⟨g1,rfl,hg1,hB1,hf1⟩;have jl:=hid hg1;have je:=hid hB1;have jc:=hid hf1;have u0:=Q0j hf1 p0;have u1:=Q0j hf1 p1;have jj:=Q0j hf1 q4;have jf:=Q0j hf1 y4;clear hg1 hB1 hf1))
 go_quiet(first|(go_at_call 68;refine Calls.quiet_of(NO.out _ _ jc.out)));have j1:=Q0s w1 nq;have j0:=hid(jc.out.trans j1);have j4:=hid(je.out.fresh j1);have v0:=Q0j j1 u0;have p3:=(HP.out.fresh j0.out).q3;have e3:=(HP.out.fresh j0.out).y3;rw[jk.out]at e3;generalize w1.drewN nq=W2 at j1 j0 j4 v0 p3 e3 ⊢;clear j1 u0 u1 q4 y4 jj jf NO;cases nb
 ·go_wp2;go_ret;exact⟨g1,rfl,jl.out,j4.out,j0.out⟩
 go_wp2_with(first
  |(go_at_call 69;refine(ja.out _ j0.out).mono ?_;rintro e w3⟨g3',rfl,hg3,hB3,hf3⟩;have jh:=hid hB3;have j7:=hid hf3;clear hg3 hB3 hf3)
  |(go_at_call 70;refine(UN.out _ _ _ _ _(j4.out.fresh j7.out)jh.out j2.out j8.out).mono ?_;rintro e w5⟨rfl,hf5,hB5⟩;have ji:=hid hf5;have jm:=hid hB5;clear hf5 hB5))
 go_ret;refine⟨w3.heap.size,rfl,?_,jm.out,(j0.out.trans j7.out).trans ji.out⟩;have h1:=j0.out.size;have h2:=j7.out.size;omega
theorem y4m(w:World)(b R H:Nat)(q:List Q1)(hK:NumOk R H q)(hS:Q35 w b R H q)(hlen:(zclF R H q).length<=10000000000) :
  Calls Tryz.prog 16#[.pointer(some⟨b,0,none⟩)]w fun e w'=>∃v,e=.returned v/\Q67 w' w.heap.size v(zclF R H q)/\Q0a w w':=by
 obtain⟨i0,hi0,iz0,iz1,iz2⟩:=infoBS';obtain⟨j0,hj0,jz0,jz1,jz2⟩:=infoCl';have hQ:=hK.qk;have r8:=hQ.r8;have h8:=hQ.h8;have p20:=hQ.p20;have jm:=hQ.pos;have AL:=hid(x9h w b R H q hS hQ hK.n);have AH:=hid(fun(W1:World)(ab gn:Nat)(vL:Value)(gL:List Nat)(hA:Q8e W1 w.heap.size ab b R H q gn vL gL)(hf:Q0a w W1)(W:World)(hW:Q0a W1 W)(i:Nat)(hi:i<q.length)=>y98 W w.heap.size ab b R H q gn vL gL i hi(hA.fresh hW)(hS.fresh(hf.trans hW))hK);obtain⟨a0,c0,a1,c1,a2,c2,v3,v4,sv,hN⟩:=hS;have k0:=hN.k0;have k1:=hN.k1;have k2:=hN.k2;have k3:=hN.k3;obtain⟨ao3,cp3,e3,hc3,cell3⟩:=hN.r3;rw[List.length_map]at e3;obtain⟨g3,o3,rfl,_⟩:=cell3 0(by rw[List.length_map];exact jm);rw[e3]at k3;have k5:Hid(∀(i:Nat)(h:i<q.length),w.cell?⟨g3,o3+i,none⟩=some(.int .i64 q[i].1)):=hid(fun i h=>by
  obtain⟨g,o,e,hc⟩:=cell3 i(by rw[List.length_map];exact h);rw[Option.some.injEq,Addr.mk.injEq]at e;obtain⟨rfl,rfl,_⟩:=e;rw[List.getElem_map]at hc;exact hc)
 have js:bs R=((R+1:Nat):Int):=by unfold bs;omega
 have BA:=hid(fun(W:World)(hW:Q0a w W)=>z1i W b R a0 c0(Q0j hW k0)(by omega));rw[js]at BA;have ji:Hid(∀(i:Nat)(h:i<q.length),(Q5r R H q).take(i+1)=(Q5r R H q).take i++[ahF R H(Q4q(bs R)false q H)q q[i]]):=hid(fun i h=>by
  unfold Q5r;rw[← List.map_take,← List.map_take,List.take_add_one,List.map_append,qE h];rfl)
 have jl:Hid((Q5r R H q).length=q.length):=hid(by unfold Q5r;simp);have jj:Hid(∀i,i<q.length->((Q5r R H q).getD i []).length=R+1):=hid(fun i h=>by
  unfold Q5r;rw[qD,List.getElem?_map,qE h];exact v0k _ _ _ _ _)
 have hV:zcH q(Q5r R H q)R H 0 []=zclF R H q:=rfl;generalize zclF R H q=V at hV hlen ⊢;have HV:=hid hV;generalize Q5r R H q=A at ji jl jj HV;have ka:Hid(∀h acc,zcT q A h(R+1)0 acc=zcT q A h(R+1)0 acc):=hid(fun _ _=>rfl);clear hV hN hc3 e3 cell3 hK hQ k0 js ka;have kd:R+1<=9:=by omega
 go_enter Tryz.func16,Tryz.ntmps16
 go_wp2_with(first
  |(go_at_call 32;refine(AL.out).mono ?_;rintro e w1⟨ab,gn,vL,gL,rfl,hA1,hf1⟩;have jx:=hid hA1;have jh:=hid hf1;clear hA1 hf1))
 have je:=hid(fun(W:World)(hW:Q0a w1 W)(i:Nat)(hi:i<q.length)=>AH.out w1 ab gn vL gL jx.out jh.out W hW i hi);generalize ahF R H(Q4q(bs R)false q H)q=AF at ji je;clear AH jx AL;generalize hq1:R+1=R1 at BA jj je kd;have kf:=hid hq1;clear hq1;have ko:w.heap.size<=w1.heap.size:=jh.out.size;go_loopw [4,5,6](fun x4 x5 _ wr=>∃(i:Nat)(gs:List Nat),x5=.int .i64 i/\i<=q.length/\gs.length=i/\Q1v wr w1.heap.size R1 x4 gs(A.take i)/\Q0a w1 wr)
   (fun _ x _ _=>1001-(intOf x).toNat)
 case atStart=>exact⟨0,[],rfl,by omega,rfl,Q1v.nil _ _ _,mRf _ _⟩
 obtain⟨i,gs,rfl,hi,hgl,hM,hfr⟩:=hrel;have k6:=hid(Q2a(B:=1001)i(by omega));have HM:=hid hM;have HF:=hid hfr;have jt:=hid hgl;have jf:=Q0j(jh.out.trans hfr)k1;obtain⟨ao,cp,hv⟩:=z0d hM.own;subst hv;have kp:gs.length<=100:=by omega
 by_cases hlt:i<q.length
 ·have s1:(i:Int)<(q.length:Int):=by omega
  have jr:=hid(je.out wr hfr i hlt);have jq:=hid(ji.out i hlt);generalize AF q[i]=ah at jr jq;clear hM hfr hgl;go_wp2_with(first
   |(at_builtin;refine z0g _ rfl _ _ 89 rfl w1.heap.size 90 i0 _ 1 24 Tryz.underlying89 hi0 iz0 iz1 iz2 rfl(by decide)(.slice ao gs.length cp)gs.length _ rfl(kk.out.alloc _)⟨w2.heap.size,0,none⟩1 1 [bsl g2 R1]rfl rfl(z0l rfl)(by intro u hu;simp at hu;subst hu;rfl)(by unfold maxLen;omega)(by omega)(by have z1:=HF.out.size;have z2:=j1.out.size;simp;omega)?_)
   |(go_at_call 33;refine(jr.out).mono ?_;rintro e w2⟨g2,rfl,hg2,hB2,j7⟩;have jk:=hid hg2;have k8:=hid hB2;have j1:=hid j7;have kk:=hid(HM.out.fresh j7).own;clear hg2 hB2 j7))
  intro v' w6 hown2 hgrow hblk;have j7:Q0a w2(w2.alloc(.cells#[bsl g2 R1]90)):=(mRf _ w2).alloc _;have jb:Hid(Q1v w6 w1.heap.size R1 v'(gs++[g2])(A.take(i+1))/\Q0a w1 w6):=hid(by
   refine⟨?_,Mod.grown(S:=fun _=>False)((HF.out.trans j1.out).trans j7)hgrow(fun k hk hlt=>by have:=(HM.out.own.lt k hk).1;omega)⟩;rw[jq.out];refine((HM.out.fresh j1.out).fresh j7).next(k8.out.fresh j7)(Nat.le_trans HF.out.size jk.out)?_ ?_ hown2 hgrow(by simpa using hblk)
   ·intro e;have:=(HM.out.own.lt _ e).2;have:=jk.out;omega
   intro x hx e;obtain⟨k,hk,rfl⟩:=List.getElem_of_mem hx;have:=(HM.out.blk k _(qE hk)).2.lt;have:=jk.out;omega)
  have jo:Hid((gs++[g2]).length=i+1):=hid(by rw[List.length_append,jt.out];rfl);clear hown2 hgrow hblk j7;go_wp2;go_roundw
  case rel=>exact⟨i+1,_,by go_num,by omega,jo.out,jb.out.1,jb.out.2⟩
  exact k6.out
 have s1:¬(i:Int)<(q.length:Int):=by omega
 have kb:i=q.length:=by omega
 rw[kb,← jl.out,List.take_length]at hM;have kh:gs.length=q.length:=by omega
 obtain⟨ga,cv,hv⟩:=Q1d.ownsRow_form hM.own(by omega);rw[qI]at hv;obtain⟨rfl,hx,rfl⟩:=hv;clear hx;rename World=>wA
 have j3:Q0a w wA:=jh.out.trans hfr;have CE:Hid(∀W,Q0a wA W->W.cell?⟨b,1,none⟩=some(.slice a1 q.length c1)/\W.cell?⟨b,2,none⟩=some(.slice a2 H c2)/\W.cell?⟨b,3,none⟩=some(.slice(some⟨g3,o3,none⟩)q.length cp3)):=hid(fun W hW=>⟨Q0j(j3.trans hW)k1,Q0j(j3.trans hW)k2,Q0j(j3.trans hW)k3⟩);have ki:=hid(fun(W:World)(hW:Q0a wA W)=>BA.out W(j3.trans hW));have k7:Hid(∀W,Q0a wA W->∀(i:Nat)(h:i<q.length),W.cell?⟨g3,o3+i,none⟩=some(.int .i64 q[i].1)):=hid(fun W hW i h=>Q0j(j3.trans hW)(k5.out i h));have jy:Hid(∀W,Q0a wA W->∀i,i<q.length->∃gi,W.cell?⟨ga,i,none⟩=some(bsl gi R1)/\∀t,t<R1->W.cell?⟨gi,t,none⟩=some(.bool(atM A i t))):=hid(fun W hW i h=>by
  have k4:=hM.fresh hW;have jw:gs[i]? = some gs[i]:=qE(by omega);exact⟨_,k4.row jw,fun t ht=>(k4.blk i _ jw).2.cell(by rw[jj.out i h];exact ht)⟩)
 have kj:q.length<=gs.length:=by omega
 have jp:=hid j3;clear hM hfr kh HM HF jt hgl je ji jl jj k5 k1 k2 k3 BA j3 k6;go_wp2;go_loopw [7,8,9,10,11](fun x7 x8 _ _ _ wr=>∃(h:Nat)(acc:List Cl),x8=.int .i64 h/\h<=H/\Q67 wr wA.heap.size x7 acc/\Q0a wA wr/\zcH q A R(H-h)h acc=V)
   (fun _ x _ _ _ _=>1001-(intOf x).toNat)
 case atStart=>exact⟨0,[],rfl,by omega,World.ownsRow_nil _ _ _ _,mRf _ _,HV.out⟩
 clear jf HV;obtain⟨h,acc,rfl,hh,hC,hfr,hrec⟩:=hrel;have km:=hid(Q2a(B:=1001)h(by omega));have j2:=hid hC;have j1:=hid hfr;obtain⟨-,kk2,-⟩:=CE.out wr hfr;obtain⟨co,cc,hv⟩:=z0d hC;subst hv;by_cases hlt:h<H
 ·have s2:(h:Int)<(H:Int):=by omega
  rw[v2h _ _ _ _ _ _ hlt,kf.out]at hrec;generalize hF3:zcT q A h R1 0 acc=F3 at hrec;have kg:Hid(F3.length<=10000000000):=hid(by have:=y82 q A R(H-(h+1))(h+1)F3;rw[hrec]at this;omega);have j8:=hid hrec;have jv:=hid hF3;clear hrec hF3 hC hfr;go_wp2;go_loopw [7,9,10,11](fun x7 x9 _ _ wr=>∃(t:Nat)(acc:List Cl),x9=.int .i64 t/\t<=R1/\Q67 wr wA.heap.size x7 acc/\Q0a wA wr/\zcT q A h(R1-t)t acc=F3)
    (fun _ x _ _ _=>1001-(intOf x).toNat)
  case atStart=>exact⟨0,acc,rfl,by omega,j2.out,j1.out,jv.out⟩
  clear kk2 j2 j1 jv;obtain⟨t,acc,rfl,ht,hC,hfr,hrec⟩:=hrel;have kl:=hid(Q2a(B:=1001)t(by omega));have j2:=hid hC;have j1:=hid hfr;have jn:=hid(ki.out wr hfr);obtain⟨co,cc,hv⟩:=z0d hC;subst hv;by_cases hltt:t<R1
  ·have s3:(t:Int)<(R1:Int):=by omega
   rw[v2l _ _ _ _ _ _ hltt]at hrec;generalize hF4:zcI q A h t q.length 0 acc=F4 at hrec;have k9:Hid(F4.length<=10000000000):=hid(by have:=y2u q A h(R1-(t+1))(t+1)F4;rw[hrec]at this;have:=kg.out;omega);have jc:=hid hrec;have jz:=hid hF4;clear hrec hF4 hC hfr;go_wp2_with(first
    |(go_at_call 34;refine(jn.out).mono ?_;rintro e w'⟨rfl,hw⟩;rw[hw];clear hw))
   go_loopw [7,10,11](fun x7 x10 _ wr=>∃(i:Nat)(acc:List Cl),x10=.int .i64 i/\i<=q.length/\Q67 wr wA.heap.size x7 acc/\Q0a wA wr/\zcI q A h t(q.length-i)i acc=F4)
     (fun _ x _ _=>1001-(intOf x).toNat)
   case atStart=>exact⟨0,acc,rfl,by omega,j2.out,j1.out,jz.out⟩
   clear j2 j1 jz jn;obtain⟨i,acc,rfl,hi,hC,hfr,hrec⟩:=hrel;have ke:=hid(Q2a(B:=1001)i(by omega));have j2:=hid hC;have j1:=hid hfr;obtain⟨jf,-,-⟩:=CE.out wr hfr;obtain⟨co,cc,hv⟩:=z0d hC;subst hv;by_cases hlti:i<q.length
   ·have s4:(i:Int)<(q.length:Int):=by omega
    rw[v2j _ _ _ _ _ _ _ hlti]at hrec;generalize hF5:zcJ q A h t i(q.length-(i+1))(i+1)acc=F5 at hrec;have kc:Hid(F5.length<=10000000000):=hid(by have:=y2d q A h t(q.length-(i+1))(i+1)F5;rw[hrec]at this;have:=k9.out;omega);have j9:=hid hrec;have ju:=hid hF5;clear hrec hF5 hC hfr;go_wp2;go_loopw [7,11](fun x7 x11 wr=>∃(j:Nat)(acc:List Cl),x11=.int .i64 j/\j<=q.length/\i<j/\Q67 wr wA.heap.size x7 acc/\Q0a wA wr/\zcJ q A h t i(q.length-j)j acc=F5)
      (fun _ x _=>1001-(intOf x).toNat)
    case atStart=>exact⟨i+1,acc,by go_num,by omega,by omega,j2.out,j1.out,ju.out⟩
    clear jf j2 j1 ju;obtain⟨j,acc,rfl,hj,hij,hC,hfr,hrec⟩:=hrel;have ja:=hid(Q2a(B:=1001)j(by omega));have j2:=hid hC;have j1:=hid hfr;obtain⟨jf,-,kk3⟩:=CE.out wr hfr;obtain⟨co,cc,hv⟩:=z0d hC;subst hv;by_cases hltj:j<q.length
    ·have s5:(j:Int)<(q.length:Int):=by omega
     rw[v2e _ _ _ _ _ _ _ _ hltj]at hrec;have d1:=k7.out wr hfr i hlti;have d2:=k7.out wr hfr j hltj;obtain⟨gi,x1,x1'⟩:=jy.out wr hfr i hlti;obtain⟨gj,x2,x2'⟩:=jy.out wr hfr j hltj;have y1:=x1' t hltt;have y2:=x2' t hltt;have s6:(i:Int)<(gs.length:Int):=by omega
     have s7:(j:Int)<(gs.length:Int):=by omega
     have jd:hitB q A h t i j=(((q[i].1==(h:Int)&&q[j].1==(h:Int))&&atM A i t)&&atM A j t):=by
      unfold hitB;rw[qD,qE hlti,qD,qE hltj];rfl
     rw[jd]at hrec;generalize q[i].1=hdi at d1 hrec;generalize q[j].1=hdj at d2 hrec;generalize atM A i t=at1 at y1 hrec;generalize atM A j t=at2 at y2 hrec;generalize hb1:(hdi==(h:Int))=b1 at hrec;generalize hb2:(hdj==(h:Int))=b2 at hrec;have j5:=hid hrec;clear hrec hC hfr x1' x2' jd;have j4:Hid((((b1&&b2)&&at1)&&at2)=false->zcJ q A h t i(q.length-(j+1))(j+1)acc=F5):=hid(fun e=>by have:=j5.out;rw[e,if_neg(by simp)]at this;exact this);cases b1
     ·clear d2 x1 x2 y1 y2 hb2;go_wp2;go_roundw
      case rel=>exact⟨j+1,acc,by go_num,by omega,by omega,j2.out,j1.out,j4.out(by simp)⟩
      exact ja.out
     cases b2
     ·clear x1 x2 y1 y2;go_wp2;go_roundw
      case rel=>exact⟨j+1,acc,by go_num,by omega,by omega,j2.out,j1.out,j4.out(by simp)⟩
      exact ja.out
     cases at1
     ·clear x2 y2;go_wp2;go_roundw
      case rel=>exact⟨j+1,acc,by go_num,by omega,by omega,j2.out,j1.out,j4.out(by simp)⟩
      exact ja.out
     cases at2
     ·go_wp2;go_roundw
      case rel=>exact⟨j+1,acc,by go_num,by omega,by omega,j2.out,j1.out,j4.out(by simp)⟩
      exact ja.out
     have jg:=j5.out;rw[if_pos(by simp)]at jg;have kn:acc.length+1<=10000000000:=by
      have:=y1x q A h t i(q.length-(j+1))(j+1)(acc++[⟨h,t,i,j⟩]);rw[jg,List.length_append,List.length_singleton]at this;have:=kc.out;omega
     have j6:=hid jg;have kq:wA.heap.size<=wr.heap.size:=j1.out.size;clear jg j4 j5;go_wp2_with(first
      |(at_builtin;refine z0g _ rfl _ _ 55 rfl wA.heap.size 94 j0 _ 4 32 Tryz.underlying55 hj0 jz0 jz1 jz2 rfl(by decide)(.slice co acc.length cc)acc.length(Q01 Cl.cells acc)rfl(j2.out.alloc _)⟨wr.heap.size,0,none⟩1 1 [.int .i64 h,.int .i64 t,.int .i64 i,.int .i64 j]rfl rfl(z0l rfl)(by intro u hu;simp only[List.mem_cons,List.not_mem_nil,or_false]at hu;rcases hu with rfl|rfl|rfl|rfl<;>rfl)(by unfold maxLen;omega)(by omega)(by simp;omega)?_))
     intro v' w6 hown2 hgrow hblk;have jb:Hid(Q67 w6 wA.heap.size v'(acc++[⟨h,t,i,j⟩])/\Q0a wA w6):=hid⟨by unfold Q67;rw[z0y,List.length_append,List.length_singleton];exact hown2,Mod.grown(S:=fun _=>False)(j1.out.alloc _)hgrow(fun k hk hlt=>by have:=(j2.out.lt k hk).1;omega)⟩;clear hown2 hgrow hblk;go_wp2;go_roundw
     case rel=>exact⟨j+1,_,by go_num,by omega,by omega,jb.out.1,jb.out.2,j6.out⟩
     exact ja.out
    have s5:¬(j:Int)<(q.length:Int):=by omega
    rw[show q.length-j=0 by omega]at hrec;have j6:=hid hrec;clear hrec hC hfr;go_wp2;go_roundw
    case rel=>exact⟨i+1,acc,by go_num,by omega,j2.out,j1.out,by have:=j6.out;unfold zcJ at this;rw[this];exact j9.out⟩
    exact ke.out
   have s4:¬(i:Int)<(q.length:Int):=by omega
   rw[show q.length-i=0 by omega]at hrec;have j6:=hid hrec;clear hrec hC hfr;go_wp2;go_roundw
   case rel=>exact⟨t+1,acc,by go_num,by omega,j2.out,j1.out,by have:=j6.out;unfold zcI at this;rw[this];exact jc.out⟩
   exact kl.out
  have s3:¬(t:Int)<(R1:Int):=by omega
  rw[show R1-t=0 by omega]at hrec;have j6:=hid hrec;clear hrec hC hfr;go_wp2_with(first
   |(go_at_call 34;refine(jn.out).mono ?_;rintro e w'⟨rfl,hw⟩;rw[hw];clear hw))
  go_roundw
  case rel=>exact⟨h+1,acc,by go_num,by omega,j2.out,j1.out,by have:=j6.out;unfold zcT at this;rw[this];exact j8.out⟩
  exact km.out
 have s2:¬(h:Int)<(H:Int):=by omega
 rw[show H-h=0 by omega]at hrec;have j6:=hid hrec;clear hrec hC hfr;go_wp2;go_ret;have e:=j6.out;unfold zcH at e;refine⟨_,rfl,?_,jp.out.trans j1.out⟩;rw[← e];exact z0f j2.out jp.out.size
theorem y9r{s:ByteArray}(hc:(Q0u s).1=0):(Q3c s).length<=10000000000:=by
 obtain⟨hT,hR⟩:=x2k(z4b hc);have h8:=(x8f(z4b hc)).qk.h8;have hz:((Q0r(Q0c s).1).zip(Q0q(Q7u s)(Q0r(Q0c s).1))).length<=1000:=by
  rw[List.length_zip];have:=(y5u hc).2.2;omega
 have:=y6q _ hz(Q0g(Q0c s).1).length(Q0i(Q0c s).1).length(by omega)((Q0i(Q0c s).1).length+1)0;unfold Q3c Q6e;omega
def ldCz(v:Value):Sem Value:=Instr.loadAt 94 v
theorem x4h(v:Value):Instr.loadAt 94 v=ldCz v:=rfl
attribute [local go_sem ↓] x4h
end Go.Proofs.YtcpceafmlgaodaaGreat
