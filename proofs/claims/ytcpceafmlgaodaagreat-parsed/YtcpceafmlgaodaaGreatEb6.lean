import Derived.Test.YtcpceafmlgaodaaGreatRb5
namespace Go.Proofs.YtcpceafmlgaodaaGreat
open Go.RowKit
set_option maxRecDepth 100000
set_option maxHeartbeats 16000000
set_option linter.unusedVariables false
set_option linter.unusedSimpArgs false
def Q8p(q:List Q1)(Y:List Itm):Prop:=Y.length<=8540/\∀m∈Y,m.p<q.length/\m.d<=6
def ItQ(q:List Q1)(Q:Itm->Prop):Prop:=∀m,Q m->m.p<q.length/\m.d<=6/\m.f<=60
section
variable{q:List Q1}{Q:Itm->Prop}{P:List(List Itm)}{X X':List Itm}{s:Nat}
theorem Q4z.len(hb:ItQ q Q)(hq:q.length<=20)(hg:Q4z Q X X'):X'.length<=8540:=v0n hg.nd(fun m hm=>by
 have:=hb m(hg.q m hm);exact⟨by omega,this.2⟩)
theorem v07(hPb:∀Y∈P,Q8p q Y)(hb:ItQ q Q)(hq:q.length<=20)(hs:s<=P.length)(hg:Q4z Q X X'):Q8p q(atS P X' s):=by
 rcases Nat.lt_or_ge s P.length with h|h
 ·rw[y1t h,qD,qE h];exact hPb _(List.getElem_mem h)
 obtain rfl:s=P.length:=by omega
 rw[z2m];exact⟨hg.len hb hq,fun m hm=>⟨(hb m(hg.q m hm)).1,(hb m(hg.q m hm)).2.1⟩⟩
theorem x7j{c:Int}{k:Nat}(hs:s<=P.length)(hk:k<(atS P X' s).length)(hg:Q4z Q X X')(hm:Q(mvI(atS P X' s)[k]))(ha:∀m∈(atS P X' s).take k,Q4r q m=c->mvI m∈X') :
  k+1<=(atS P(Q8q X'(mvI(atS P X' s)[k]))s).length/\Q4z Q X(Q8q X'(mvI(atS P X' s)[k]))/\∀m∈(atS P(Q8q X'(mvI(atS P X' s)[k]))s).take(k+1),Q4r q m=c->mvI m∈Q8q X'(mvI(atS P X' s)[k]):=by
 have h2:=hg.refl.put hm;obtain⟨Z,e⟩:=x97(P:=P)hs h2.pre;refine⟨by rw[e,List.length_append];omega,hg.put hm,fun m hm2 hc=>?_⟩;rw[e,List.take_append_of_le_length(by omega),Q6g hk,List.mem_append,List.mem_singleton]at hm2;rcases hm2 with hm2|rfl
 ·exact h2.mem(ha m hm2 hc)
 exact y2l _ _
end
theorem y7w(a b c:Int):(itA a b c).all Value.oneCell'=true:=all_oneCell_toArray(cs:=[.int .i64 a,.int .i64 b,.int .i64 c])(by intro v hv;simp at hv;rcases hv with rfl|rfl|rfl<;>rfl)
attribute [local go_sem ↓] z5j
theorem x7a(w0 w:World)(cb gs cap b R H:Nat)(q:List Q1)(P:List(List Itm))(X:List Itm)(Q:Itm->Prop)(s:Nat)(hd:Int)(hS:Q35 w0 b R H q)(hQ:QOk R H q)(h:ChG w0 w cb gs cap b(P++[X]))(hg:Q4z Q X X)(hP:P.length<=60)(hs:s<=P.length)
  (hPb:∀Y∈P,Q8p q Y)(hb:ItQ q Q)(hd0:0<=hd/\hd<H)(hc:∀m,(m∈P.getD s []∨(s=P.length/\Q m))->Q4r q m=bs R+hd->Q(mvI m)) :
  Calls Tryz.prog 96#[.pointer(some⟨cb,0,none⟩),.int .i64 s,.int .i64 hd]w fun e w'=>∃X',e=.returned(.bool(decide(X.length<X'.length)))/\ChG w0 w' cb gs cap b(P++[X'])/\Q4z Q X X'/\∀m∈atS P X' s,Q4r q m=bs R+hd->mvI m∈X':=by
 have j2:=hQ.p20;have jv:=hQ.r8;have jx:=hQ.h8;obtain⟨d1,d2⟩:=hd0;have HS:=hid hS;have HQ:=hid hQ;have HC:=hid h;have HG:=hid hg;have jq:=hid hPb;have HB:=hid hb;have jj:=hid hc;obtain⟨a0,c0,a1,c1,a2,c2,v3,v4,sv,hN⟩:=hS;have HK:=hid hN.k0;have jl:IntKind.i64.wrap(bs R+hd)=bs R+hd:=by rw[IntKind.wrap_i64];unfold bs;omega
 generalize hcd:bs R+hd=cd at jl jj ⊢;have jc:=hid hcd;clear hQ h hg hPb hb hc hN hcd;go_enter Tryz.func96,Tryz.ntmps96
 go_wp2;go_loopw [7,8,9,10,11](fun x7 x8 _ _ _ wr=>∃(k:Nat)(X':List Itm),x7=.bool(decide(X.length<X'.length))/\x8=.int .i64 k/\k<=(atS P X' s).length/\ChG w0 wr cb gs cap b(P++[X'])/\Q4z Q X X'/\∀m∈(atS P X' s).take k,Q4r q m=cd->mvI m∈X')
   (fun _ x _ _ _ _=>10001-(intOf x).toNat)
 case atStart=>exact⟨0,X,by simp,rfl,by omega,HC.out,HG.out,fun m hm=>by simp at hm⟩
 obtain⟨k,X',rfl,rfl,hk,hC,hg,ha⟩:=hrel;have j7:=v07(s:=s)jq.out HB.out j2 hs hg;have jy:=hg.len HB.out j2;have jo:=hid(Q2a(B:=10001)k(by have:=j7.1;omega));obtain⟨vs,a,c,hA,hl,hv,hI⟩:=hC.set hs;have k1:=hA.s;have k2:=hA.at hv;have jt:(vs.length:Int)=(P.length:Int)+1:=by omega
 have jw:(atS P X' s).length<=8540:=j7.1;rw[hl]at k1;have s1:(s:Int)<((P.length+1:Nat):Int):=by omega
 have jd:=hid hC;have j1:=hid hg;have HA:=hid ha;have jr:=hA.fr;have HF:=hid jr;have kx:=hA.x;clear hC hg ha HC HG hl jt;by_cases hlt:k<(atS P X' s).length
 ·have s2:(k:Int)<((atS P X' s).length:Int):=by omega
  have jk:=j7.2 _(List.getElem_mem hlt);have je:=fun(hm:Q(mvI(atS P X' s)[k]))=>x7j(c:=cd)hs hlt j1.out hm HA.out;have jg:Q4r q(atS P X' s)[k]=cd->Q(mvI(atS P X' s)[k]):=fun e=>jj.out _((v01 hs(List.getElem_mem hlt)).imp id(fun z=>⟨z.1,j1.out.q _ z.2⟩))e;have ji:Q4r q(atS P X' s)[k]≠cd->∀m∈(atS P X' s).take(k+1),Q4r q m=cd->mvI m∈X':=fun hne m hm e=>by
   rw[Q6g hlt,List.mem_append,List.mem_singleton]at hm;rcases hm with hm|rfl
   ·exact HA.out m hm e
   exact absurd e hne
  obtain⟨g,c',hgf⟩:=Q1d.ownsRow_form hI.own(by omega);rw[qI]at hgf;obtain⟨rfl,_,rfl⟩:=hgf;have r1:=hI.range k hlt;have j6:=hid je;have j4:=hid jg;have j3:=hid ji;generalize(atS P X' s)[k]=m at r1 jk j6 j4 j3;have l1:(ldI(.pointer(some⟨g,k*3,none⟩))).run Tryz.prog wr=.ok(.agg(itA m.p m.d m.f))wr:=z3a r1;clear r1 je jg ji hI j7 hA hv HA;obtain⟨hm1,hm2⟩:=jk;go_upto_region 6 with(first
   |(refine z0e rfl 163 _ _ rfl wr _(itA m.p m.d m.f)_ rfl rfl rfl szIt rfl(y7w _ _ _)?_))
  have HN:=W0e wr m 163;have j5:Q0a wr(wr.alloc(.cells(itA m.p m.d m.f)163(0,0))):=(mRf _ wr).alloc _;have j9:=z0a wr(.cells(itA m.p m.d m.f)163(0,0));generalize(wr.alloc(.cells(itA m.p m.d m.f)163(0,0)))=W2 at HN j5 j9 ⊢;have l2:(ldI(.pointer(some⟨wr.heap.size,0,none⟩))).run Tryz.prog W2=.ok(.agg(itA m.p m.d m.f))W2:=z3a HN;have jh:=hid j5;have jm:=hid j9;have SY:=hid(z5f W2 cb b R H q m(Q0j j5 kx)(HS.out.fresh(HF.out.trans j5))HQ.out hm1(by omega));clear l1 k1 k2 kx HN j5 j9;go_upto_region 7 with(first
   |(go_at_call 73;refine(SY.out).mono ?_;rintro e W3⟨rfl,hf3⟩;have jf:=hid(jh.out.trans hf3);have j0:=hid(hf3.at jm.out(fun x=>x));clear hf3))
  have ja:=jd.out.fresh jf.out;have BA:=hid(z1i W3 b R a0 c0(Q0j(HF.out.trans jf.out)HK.out)(by omega));have kx:W3.cell?⟨cb,0,none⟩=some(.pointer(some⟨b,0,none⟩)):=by
   obtain⟨vs,z⟩:=ja;exact z.x
  have b0:W3.cell?⟨wr.heap.size,0,none⟩=some(.int .i64 m.p):=Q0b j0.out 0;have b1:W3.cell?⟨wr.heap.size,1,none⟩=some(.int .i64 m.d):=Q0b j0.out 1;have b2:W3.cell?⟨wr.heap.size,2,none⟩=some(.int .i64 m.f):=Q0b j0.out 2;have jn:=hid ja;rw[← jc.out]at j3 j4 j6 jl;clear ja l2 SY jh jm j0;generalize hsc:Q4r q m=sc at j3 j4;by_cases heq:sc=bs R+hd
  ·have PU:Hid(Calls Tryz.prog 71#[.pointer(some⟨cb,0,none⟩),.agg(itA m.p((m.d:Int)+1)m.f)]W3 fun e w'=>e=.returned(.bool(!inI X'(mvI m)))/\ChG w0 w' cb gs cap b(P++[Q8q X'(mvI m)])):=hid(y15 w0 W3 cb gs cap b P X'(mvI m)jn.out(by omega)(by omega));have HW:=hid(j6.out(j4.out heq));have j8:=y8g j1.out.le(mvI m);generalize decide(X.length<X'.length)=mo at j8 ⊢;generalize inI X'(mvI m)=pr at PU j8;have ju:=hid j8;clear j8 j6 j4 j3 hsc;subst heq;cases mo<;>cases pr;all_goals
    go_wp2_with(first
     |(go_at_call 34;refine(BA.out).mono ?_;rintro e w'⟨rfl,hw⟩;rw[hw];clear hw)
     |(go_at_call 71;refine(PU.out).mono ?_;rintro e W4⟨rfl,hC4⟩;have jp:=hid hC4;clear hC4))
    go_roundw
    case rel=>exact⟨k+1,_,by rw[ju.out];rfl,by go_num,HW.out.1,jp.out,HW.out.2.1,by have:=HW.out.2.2;rw[jc.out]at this;exact this⟩
    exact jo.out
  have jb:=hid(j3.out heq);go_wp2_with(first
   |(go_at_call 34;refine(BA.out).mono ?_;rintro e w'⟨rfl,hw⟩;rw[hw];clear hw))
  go_roundw
  case rel=>exact⟨k+1,X',rfl,by go_num,by omega,jn.out,j1.out,by have:=jb.out;rw[jc.out]at this;exact this⟩
  exact jo.out
 have s2:¬(k:Int)<((atS P X' s).length:Int):=by omega
 have js:Hid(∀m∈atS P X' s,Q4r q m=cd->mvI m∈X'):=hid(by
  have:=HA.out;rw[List.take_of_length_le(by omega)]at this;exact this)
 go_wp2;go_ret;exact⟨X',rfl,jd.out,j1.out,js.out⟩
def slN:Option Value->Nat
 |some(.slice _ n _)=>n
 |_=>0
theorem ChG.lenN{w0 w:World}{cb gs cap b:Nat}{P:List(List Itm)}{X:List Itm}(h:ChG w0 w cb gs cap b(P++[X])):slN(w.cell?⟨gs,P.length,none⟩)=X.length:=by
 obtain⟨vs,a,c,hA,_,hv,_⟩:=h.set(qR _);rw[hA.at hv,z2m];rfl
structure Q6n(R:Nat)(q:List Q1)(P:List(List Itm))(X:List Itm)(m:Itm):Prop where
 pred:∀(p:Nat)(x:Q1),q[p]? = some x->Q4r q m=bs R+x.1->(⟨p,0,P.length⟩:Itm)∈X
 comp:Q4r q m<0->∀x:Q1,q[m.p]? = some x->∀m'∈atS P X m.f,Q4r q m'=bs R+x.1->mvI m'∈X
structure FillQ(R:Nat)(q:List Q1)(P:List(List Itm))(Q:Itm->Prop):Prop where
 b:ItQ q Q
 f:∀m,Q m->m.f<=P.length
 pred:∀(m:Itm)(p:Nat)(x:Q1),Q m->q[p]? = some x->Q4r q m=bs R+x.1->Q⟨p,0,P.length⟩
 comp:∀(m:Itm)(x:Q1)(m':Itm),Q m->Q4r q m<0->q[m.p]? = some x->(m'∈P.getD m.f []∨(m.f=P.length/\Q m'))->Q4r q m'=bs R+x.1->Q(mvI m')
section
variable{R:Nat}{q:List Q1}{P:List(List Itm)}{Q:Itm->Prop}
theorem y9t{X0 X2 X4:List Itm}{k:Nat}(h2:Q4z Q X0 X2)(h4:Q4z Q X2 X4)(hk:k<X2.length)(hd:X2.length=X0.length->∀m∈X0.take k,Q6n R q P X0 m)
  (hA:X4.length=X0.length->Q4r q X2[k]<0->∀x:Q1,q[X2[k].p]? = some x->∀m'∈atS P X0 X2[k].f,Q4r q m'=bs R+x.1->mvI m'∈X0)
  (hB:∀(p:Nat)(x:Q1),q[p]? = some x->Q4r q X2[k]=bs R+x.1->(⟨p,0,P.length⟩:Itm)∈X4) :
  X4.length=X0.length->∀m∈X0.take(k+1),Q6n R q P X0 m:=by
 intro hl m hm;have l2:=h2.le;have l4:=h4.le;have e2:=h2.same(by omega);have e4:=h4.same(by omega);subst e4;subst e2;rw[Q6g hk,List.mem_append,List.mem_singleton]at hm;rcases hm with hm|rfl
 ·exact hd rfl m hm
 exact⟨hB,hA rfl⟩
end
attribute [local go_sem ↓] z5j
theorem y8w(w0 w:World)(cb gs cap b R H:Nat)(q:List Q1)(P:List(List Itm))(X:List Itm)(Q:Itm->Prop)(hS:Q35 w0 b R H q)(hQ:QOk R H q)(h:ChG w0 w cb gs cap b(P++[X]))(hg:Q4z Q X X)(hP:P.length<=60)
  (hPb:∀Y∈P,Q8p q Y)(hF:FillQ R q P Q) :
  Calls Tryz.prog 72#[.pointer(some⟨cb,0,none⟩)]w fun e w'=>e=.returned(.tuple#[])/\∃X',ChG w0 w' cb gs cap b(P++[X'])/\Q4z Q X X'/\∀m∈X',Q6n R q P X' m:=by
 have jd:=hQ.p20;have kq:=hQ.r8;have ku:=hQ.h8;have HS:=hid hS;have HQ:=hid hQ;have HG:=hid hg;have ke:=hid hPb;have j4:=hid hF;have HC:=hid h;obtain⟨a0,c0,a1,c1,a2,c2,v3,v4,sv,hN⟩:=hS;have HN:=hid hN;obtain⟨vs,hA⟩:=h;have k1:=hA.s;have hl:vs.length=P.length+1:=by rw[hA.len];simp
 rw[hl]at k1;generalize hp:P.length=n at hP hl k1;have j1:=hid hp;have kw:IntKind.i64.wrap(((n+1:Nat):Int)-1)=(n:Int):=by rw[IntKind.wrap_i64];omega
 clear hQ hg hPb hF hN hA hp hl;go_enter Tryz.func72,Tryz.ntmps72
 go_wp2;go_loopw [3,4,5,6,7,8,9](fun x3 _ _ _ _ _ _ wr=>∃(mo:Bool)(X0:List Itm),x3=.bool mo/\ChG w0 wr cb gs cap b(P++[X0])/\Q4z Q X X0/\(mo=false->∀m∈X0,Q6n R q P X0 m))
   (fun x3 _ _ _ _ _ _ wr=>2*(10000-slN(wr.cell?⟨gs,n,none⟩))+Q8g x3)
 case atStart=>exact⟨true,X,rfl,HC.out,HG.out,fun e=>by cases e⟩
 obtain⟨mo,X0,rfl,hC0,hg0,hd0⟩:=hrel;have jt:=hid hC0;have jo:=hid hg0;have k9:=hid hd0;have ko:Hid(slN(wr.cell?⟨gs,n,none⟩)=X0.length):=hid(by rw[← j1.out];exact hC0.lenN);clear hC0 hg0 hd0 HC HG k1;cases mo
 ·go_wp2;exact bodyPost_end(results_none rfl _ _ _)rfl⟨rfl,X0,jt.out,jo.out,k9.out(by first|rfl|trivial)⟩
 clear k9;go_wp2;go_loopw [3,4,5,6,7,8,9](fun x3 x4 _ _ _ _ _ wr=>∃(k:Nat)(X2:List Itm),x3=.bool(decide(X0.length<X2.length))/\x4=.int .i64 k/\k<=X2.length/\ChG w0 wr cb gs cap b(P++[X2])/\Q4z Q X0 X2/\(X2.length=X0.length->∀m∈X0.take k,Q6n R q P X0 m))
   (fun _ x _ _ _ _ _ _=>10001-(intOf x).toNat)
 case atStart=>exact⟨0,X0,by simp,rfl,by omega,jt.out,jo.out.refl,fun _ m hm=>by simp at hm⟩
 obtain⟨k,X2,rfl,rfl,hk,hC2,hg2,hd2⟩:=hrel;have kv:=hg2.len j4.out.b jd;have k6:=hid(Q2a(B:=10001)k(by omega));have ji:=hid hC2;have j0:=hid hg2;have js:=hid hd2;obtain⟨vs,a,c,hA,hl,hv,hI⟩:=hC2.set(qR _);rw[z2m]at hv hI;have k1:=hA.s;have k2:=hA.at hv;have kx:=hA.x;have HF:=hid hA.fr;rw[hl,j1.out]at k1;rw[j1.out]at k2;have s1:(n:Int)<((n+1:Nat):Int):=by omega
 clear hC2 hg2 hd2 jt;by_cases hlt:k<X2.length
 ·have s2:(k:Int)<(X2.length:Int):=by omega
  obtain⟨g,c',hgf⟩:=Q1d.ownsRow_form hI.own(by omega);rw[qI]at hgf;obtain⟨rfl,_,rfl⟩:=hgf;have r1:=hI.range k hlt;have jc:=j0.out.q _(List.getElem_mem hlt);have k4:=fun(X4:List Itm)(h4:Q4z Q X2 X4)=>y9t(R:=R)(q:=q)(P:=P)j0.out h4 hlt js.out;have jx:=hid k4;generalize X2[k]=m at r1 jc jx;have l1:(ldI(.pointer(some⟨g,k*3,none⟩))).run Tryz.prog wr=.ok(.agg(itA m.p m.d m.f))wr:=z3a r1;have kl:=j4.out.b m jc;have k5:=j4.out.f m jc;rw[j1.out]at k5;have k3:=hid jc;clear r1 k4 hI hA hv js hl jc;obtain⟨hm1,hm2,hm3⟩:=kl;go_upto_region 8 with(first
   |(refine z0e rfl 163 _ _ rfl wr _(itA m.p m.d m.f)_ rfl rfl rfl szIt rfl(y7w _ _ _)?_))
  have ju:=W0e wr m 163;have jg:Q0a wr(wr.alloc(.cells(itA m.p m.d m.f)163(0,0))):=(mRf _ wr).alloc _;have jl:=z0a wr(.cells(itA m.p m.d m.f)163(0,0));generalize(wr.alloc(.cells(itA m.p m.d m.f)163(0,0)))=W2 at ju jg jl ⊢;have l2:(ldI(.pointer(some⟨wr.heap.size,0,none⟩))).run Tryz.prog W2=.ok(.agg(itA m.p m.d m.f))W2:=z3a ju;have jz:=hid jg;have k7:=hid jl;have SY:=hid(z5f W2 cb b R H q m(Q0j jg kx)(HS.out.fresh(HF.out.trans jg))HQ.out hm1(by omega));clear l1 k1 k2 kx ju jg jl;go_upto_if 43 with(first
   |(go_at_call 73;refine(SY.out).mono ?_;rintro e W3⟨rfl,hf3⟩;have jp:=hid(jz.out.trans hf3);have j2:=hid(hf3.at k7.out(fun x=>x));clear hf3))
  have jj:=hid(ji.out.fresh jp.out);have jy:=hid(HF.out.trans jp.out);have kb:∃x,q[m.p]? = some x:=⟨_,qE hm1⟩;obtain⟨x,hx⟩:=kb;have HX:=hid hx;have km:=HQ.out.hd x(List.mem_of_getElem? hx);clear hx l2 SY jz k7 ji;generalize ja:decide(X0.length<X2.length)=mo;have jb:=hid ja;generalize jh:Q4r q m=sc;have jf:=hid jh;clear ja jh;go_cut [3,7](fun s3 _ wx=>∃X3,s3=.bool(decide(X0.length<X3.length))/\ChG w0 wx cb gs cap b(P++[X3])/\Q4z Q X2 X3/\(sc<0->∀m'∈atS P X3 m.f,Q4r q m'=bs R+x.1->mvI m'∈X3))
  case first =>
   by_cases hneg:sc<0
   ·obtain⟨vs,hA⟩:=jj.out;have kx:=hA.x;have kh:=(HN.out.fresh jy.out).pr hm1;obtain⟨g3,o3,c3,g4,o4,n4,c4,al,cl,hPr⟩:=kh;have q3:=hPr.q3;have y3:=hPr.y3;have ex:q[m.p]=x:=by have:=HX.out;rw[qE hm1]at this;injection this
    rw[ex]at y3;have b0:W3.cell?⟨wr.heap.size,0,none⟩=some(.int .i64 m.p):=Q0b j2.out 0;have b2:W3.cell?⟨wr.heap.size,2,none⟩=some(.int .i64 m.f):=Q0b j2.out 2;have s4:(m.p:Int)<(q.length:Int):=by omega
    have WT:=hid(fun W(hW:Q0a W3 W)=>x7a w0 W cb gs cap b R H q P X2 Q m.f x.1 HS.out HQ.out(jj.out.fresh hW)j0.out.refl(by rw[j1.out];exact hP)(by rw[j1.out];exact k5)ke.out j4.out.b km(fun m' h1 h2=>j4.out.comp m x m' k3.out(by rw[jf.out];exact hneg)HX.out h1 h2));clear hA hPr j2 ex;cases mo;all_goals
     go_wp2_with fail
     go_region_with(first
      |(go_at_call 96;refine(WT.out _(mRf _ W3).drew).mono ?_;rintro e W4⟨X3,rfl,hC4,hg4,ha4⟩;have j8:=hid hC4;have j3:=hid hg4;have kk:=hid ha4;clear hC4 hg4 ha4))
     all_goals
      go_wp2_with fail
      go_meet;exact⟨X3,by rw[x0i j0.out j3.out,jb.out];rfl,j8.out,j3.out,fun _=>kk.out⟩
   have ki:=hid hneg;go_wp2_with fail
   go_meet;exact⟨X2,by rw[jb.out],jj.out,j0.out.refl,fun e=>absurd e(by have:=ki.out;omega)⟩
  obtain⟨X3,rfl,hC3,hg3,ha3⟩:=hcut;have je:=hid hC3;have j5:=hid hg3;have kj:=hid ha3;clear jj hC3 hg3 ha3 j2 jb mo jy jp HF;go_wp2;go_loopw [3,8,9](fun x3 x8 _ wr=>∃(p:Nat)(X4:List Itm),x3=.bool(decide(X0.length<X4.length))/\x8=.int .i64 p/\p<=q.length/\ChG w0 wr cb gs cap b(P++[X4])/\Q4z Q X3 X4/\∀(p':Nat)(z:Q1),p'<p->q[p']? = some z->sc=bs R+z.1->(⟨p',0,P.length⟩:Itm)∈X4)
    (fun _ x _ _=>1001-(intOf x).toNat)
  case atStart=>exact⟨0,X3,rfl,rfl,by omega,je.out,j5.out.refl,fun p' z h=>absurd h(by omega)⟩
  obtain⟨p,X4,rfl,rfl,hp,hC4,hg4,hB4⟩:=hrel;have kr:=hg4.len j4.out.b jd;have k8:=hid(Q2a(B:=1001)p(by omega));have j8:=hid hC4;have j3:=hid hg4;have jw:=hid hB4;obtain⟨vs,hA⟩:=hC4;have kx:=hA.x;have j9:=HN.out.fresh hA.fr;have z0:=j9.k0;have z1:=j9.k1;have BA:=hid(z1i wr b R a0 c0 z0(by omega));have BQ:=hid(fun n=>z1i(wr.drewN n)b R a0 c0(Q0j(Q0s wr n)z0)(by omega));have jq:=(j0.out.trans j5.out).trans hg4;have j7:=hid jq;have jr:Hid((∀(p':Nat)(z:Q1),q[p']? = some z->sc=bs R+z.1->(⟨p',0,P.length⟩:Itm)∈X4)->X4.length=X0.length->∀m∈X0.take(k+1),Q6n R q P X0 m):=hid(fun hB=>jx.out X4(j5.out.trans hg4)(fun hl hn y hy=>by
   have l3:=(j0.out.trans j5.out).le;have l4:=hg4.le;have e3:=(j0.out.trans j5.out).same(by omega);rw[HX.out]at hy;injection hy with hy;subst hy;have:=kj.out(by rw[← jf.out];exact hn);rw[e3]at this;exact this)(fun p' z hz e=>hB p' z hz(by rw[← jf.out];exact e)))
  clear je hA hg4 hB4;by_cases hlp:p<q.length
  ·have s5:(p:Int)<(q.length:Int):=by omega
   by_cases hge:bs R<=sc
   ·have kn:=j9.pr hlp;obtain⟨g3,o3,c3,g4,o4,n4,c4,al,cl,hPr⟩:=kn;have q3:=hPr.q3;have y3:=hPr.y3;have hz:q[p]? = some q[p]:=qE hlp;have jk:Hid(∀X5,Q4z Q X4 X5->(sc=bs R+q[p].1->(⟨p,0,P.length⟩:Itm)∈X5)->∀(p':Nat)(z:Q1),p'<p+1->q[p']? = some z->sc=bs R+z.1->(⟨p',0,P.length⟩:Itm)∈X5):=hid(fun X5 h5 hin p' z hp' hz' e=>by
     rcases Nat.lt_or_ge p' p with r|r
     ·exact h5.mem(jw.out p' z r hz' e)
     obtain rfl:p'=p:=by omega
     rw[hz]at hz';injection hz' with hz';subst hz';exact hin e)
    have kg:=HQ.out.hd q[p](List.getElem_mem hlp);have jv:sc=bs R+q[p].1->Q⟨p,0,P.length⟩:=fun e=>j4.out.pred m p q[p]k3.out hz(by rw[jf.out];exact e);have jn:=hid jv;have kd:sc<=1000:=by
     rw[← jf.out];unfold Q4r;rw[HX.out];show(x.2[m.d]?).getD(-1)<=1000;cases hxd:x.2[m.d]? with
     |none=>simp
     |some y=>have:=(HQ.out.sy x(List.mem_of_getElem? HX.out)).2 y(List.mem_of_getElem? hxd);simp;omega
    generalize q[p]=y at y3 jk kg jn;have ks:IntKind.i64.wrap(sc-bs R)=sc-bs R:=by rw[IntKind.wrap_i64];unfold bs at hge ⊢;omega
    clear hPr j9 hz jv;by_cases heq:y.1=sc-bs R
    ·have jh:sc=bs R+y.1:=by omega
     have PU:Hid(∀W,Q0a wr W->Calls Tryz.prog 71#[.pointer(some⟨cb,0,none⟩),.agg(itA p 0 n)]W fun e w'=>e=.returned(.bool(!inI X4⟨p,0,n⟩))/\ChG w0 w' cb gs cap b(P++[Q8q X4⟨p,0,n⟩])):=hid(fun W hW=>y15 w0 W cb gs cap b P X4⟨p,0,n⟩(j8.out.fresh hW)(by rw[j1.out];omega)(by omega));have j6:=hid(jn.out jh);have ja:=y8g j7.out.le⟨p,0,n⟩;generalize decide(X0.length<X4.length)=mo at ja ⊢;have jb:=hid ja;rw[j1.out]at j6 jk;clear ja jn jr jh;cases mo;all_goals
      go_wp2_with(first
       |(go_at_call 34;refine(BA.out).mono ?_;rintro e w'⟨rfl,hw⟩;rw[hw];clear hw))
      go_quiet(first|(go_at_call 34;refine Calls.quiet_of_same(BQ.out _)));go_wp2_with(first
       |(go_at_call 71;refine(PU.out _(Q0s _ _)).mono ?_;rintro e W5⟨rfl,hC5⟩;have kf:=hid hC5;clear hC5))
      go_roundw
      case rel=>exact⟨p+1,_,by rw[jb.out];rfl,by go_num,by omega,kf.out,j3.out.put j6.out,by rw[j1.out];exact jk.out _(j3.out.refl.put j6.out)(fun _=>y2l _ _)⟩
      exact k8.out
    have ka:=hid(jk.out X4 j3.out.refl(fun e=>absurd(by omega:y.1=sc-bs R)heq));go_wp2_with(first
     |(go_at_call 34;refine(BA.out).mono ?_;rintro e w'⟨rfl,hw⟩;rw[hw];clear hw))
    go_quiet(first|(go_at_call 34;refine Calls.quiet_of_same(BQ.out _)));go_wp2;go_roundw
    case rel=>exact⟨p+1,X4,rfl,by go_num,by omega,j8.out.fresh(Q0s _ _),j3.out,ka.out⟩
    exact k8.out
   have jm:=hid(jr.out(fun p' z hz e=>by
    have:=(HQ.out.hd z(List.mem_of_getElem? hz)).1;omega))
   have kc:¬bs R<=sc:=hge;clear j9;go_wp2_with(first
    |(go_at_call 34;refine(BA.out).mono ?_;rintro e w'⟨rfl,hw⟩;rw[hw];clear hw))
   go_roundw
   case rel=>exact⟨k+1,X4,rfl,by go_num,by have:=(j5.out.trans j3.out).le;omega,j8.out,j7.out,jm.out⟩
   exact k6.out
  have s5:¬(p:Int)<(q.length:Int):=by omega
  have jm:=hid(jr.out(fun p' z hz e=>jw.out p' z(by have:=(qS hz).1;omega)hz e));clear j9;go_wp2;go_roundw
  case rel=>exact⟨k+1,X4,rfl,by go_num,by have:=(j5.out.trans j3.out).le;omega,j8.out,j7.out,jm.out⟩
  exact k6.out
 have s2:¬(k:Int)<(X2.length:Int):=by omega
 have kp:Hid(decide(X0.length<X2.length)=false->∀m∈X2,Q6n R q P X2 m):=hid(fun e m hm=>by
  have e1:¬X0.length<X2.length:=of_decide_eq_false e;have l:=j0.out.le;have e2:=j0.out.same(by omega);have:=js.out(by omega);rw[List.take_of_length_le(by omega)]at this;rw[e2]at hm ⊢;exact this m hm)
 have kt:=j0.out.le;clear hI hA hv;go_wp2;go_roundw
 case rel=>exact⟨_,X2,rfl,ji.out,jo.out.trans j0.out,kp.out⟩
 have z1:=ko.out;have z2:=ji.out.lenN;rw[j1.out]at z2;rw[z1,z2];by_cases hgr:X0.length<X2.length
 ·rw[decide_eq_true hgr];show 2*(10000-X2.length)+1<2*(10000-X0.length)+1;omega
 rw[decide_eq_false hgr];show 2*(10000-X2.length)+0<2*(10000-X0.length)+1;omega
end Go.Proofs.YtcpceafmlgaodaaGreat
