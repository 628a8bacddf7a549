import Derived.Test.YtcpceafmlgaodaaGreatBld3
namespace Go.Proofs.YtcpceafmlgaodaaGreat
open Go.RowKit
set_option maxRecDepth 100000
set_option maxHeartbeats 16000000
set_option linter.unusedVariables false
set_option linter.unusedSimpArgs false
theorem hid{p:Prop}(h:p):Hid p:=h
def okOf:Value->Nat | .bool true=>1|_=>0
theorem y2b(s:ByteArray)(d:Int)(p:Int->List Q0p->PR)(hs:s.size<=1000)(hd0:0<=d)(hd1:d<=100)(hg:Q5u s p)(hp:Con 135 s d p) :
  Con 131 s d(Q6i p s):=by
 intro i ns w bb v h0 h1 hn h;have H:Hid _:=h;have hN:=fun k(hk:w.heap.size<=k)=>h.not_foot hk;have HN:Hid _:=hN;have G0:Hid _:=hg i ns h0 h1;have HG:Hid _:=hg;have HP:Hid _:=hp;clear h hN hg hp;generalize hR:Q6i p s i ns=R;have HR:Hid(Q2q p s(s.size+5)(p i ns)=R):=hR;clear hR;go_enter Tryz.func131,Tryz.ntmps131
 go_wp2_with(first
  |(go_at_call 135;refine(HP.out i ns _ bb v(by omega)(by omega)hn(H.out.fresh((mRf _ w).alloc _))).mono ?_;rintro e w1⟨rfl,v1,h1⟩;have hz:w.heap.size<w1.heap.size:=(by have:=h1.mod.size;simp at this;omega)))
 have H1:Hid _:=h1;clear h1;go_loopw [12,13](fun x y wr=>∃(f:Nat)(r:PR)(vr:Value),x=.int .i64 r.next/\y=.bool r.ok/\Q2q p s f r=R/\Q8s s i ns.length r/\(s.size:Int)+5<=f+r.next+(if r.ok then 0 else s.size+20) /\
   wr.heap[w.heap.size]? = some(Q54 0 0)/\wr.heap[w1.heap.size]? = some(Q54 r.st r.en)/\Q1i w wr bb v vr r.ns/\¬Q86 bb vr w.heap.size/\¬Q86 bb vr w1.heap.size)
   (fun x y _=>okOf y*(4000-(intOf x).toNat))
 case atStart =>
  refine⟨s.size+5,p i ns,v1,rfl,rfl,HR.out,G0.out,by have:=G0.out.lo;split<;>omega,z0b(H1.out.mod.at(z0a _ _)(HN.out _(by simp))),z0a _ _,(Q1i.ahead((mRf _ w).alloc _)H1.out).alloc _,H1.out.nf(by simp)(HN.out _(by simp)),?_⟩;exact H1.out.at'.not_foot(qR _)
 obtain⟨f,r,vr,rfl,rfl,hR,hG,hfu,hb0,hb1,hB,hn0,hn1⟩:=hrel;have g1:=hG.lo;have g2:=hG.hi;have g3:=hG.good;have g4:=hG.cnt;have ja:Hid _:=hG;have HB:Hid _:=hB;have j1:Hid _:=hb0;have j2:Hid _:=hb1;have k1:=Q0b hb1;clear hB hb0 hb1 hG;cases hro:r.ok
 ·have j6:r=R:=by
   rw[← hR];cases f with
   |zero=>rfl
   |succ f=>unfold Q2q;rw[if_neg(by simp[hro])]
  have k2:=Q0b j1.out;have k3:=Q0h j1.out;have j0:Hid _:=j6;clear hR hfu g3 j6;go_wp2;refine bodyPost_ret(z0h rfl _ _ w.heap.size 213#[.int .i64 r.st,.int .i64 r.en](0,0)_ rfl ?_ Tryz.underlying213 rfl Q3n)rfl⟨?_,vr,?_⟩
  ·rw[zhs(zhs j1.out 0 _)1 _];rfl
  ·rw[← j0.out];simp[Q7a,Q77,hro]
  rw[← j0.out];exact(HB.out.put(p:=⟨w.heap.size,0,none⟩)(by simp)hn0 _).put(p:=⟨w.heap.size,1,none⟩)(by simp)hn0 _
 have jb:=g3 hro;obtain⟨f,rfl⟩:∃g,f=g+1:=⟨f-1,by rw[hro]at hfu;simp at hfu;omega⟩;unfold Q2q at hR;cases hmk:Q2w s r.next
 ·rw[if_neg(by simp[hmk])]at hR;have k2:=Q0b j1.out;have k3:=Q0h j1.out;have j0:Hid _:=hR;clear hR hfu g3;go_wp2_with(first
   |(go_at_call 136;refine(z7d _ _ _(by omega)).mono ?_;rintro e w'⟨rfl,hw⟩;rw[hw,hmk];clear hw))
  refine bodyPost_ret(z0h rfl _ _ w.heap.size 213#[.int .i64 r.st,.int .i64 r.en](0,0)_ rfl ?_ Tryz.underlying213 rfl Q3n)rfl⟨?_,vr,?_⟩
  ·rw[zhs(zhs j1.out 0 _)1 _];rfl
  ·rw[← j0.out];simp[Q7a,Q77,hro]
  rw[← j0.out];exact(HB.out.put(p:=⟨w.heap.size,0,none⟩)(by simp)hn0 _).put(p:=⟨w.heap.size,1,none⟩)(by simp)hn0 _
 rw[if_pos(by simp[hmk,hro])]at hR;have j3:Hid _:=HG.out r.next r.ns(by omega)(by omega);have HJ:Hid _:=y0t h0 ja.out hro j3.out;have p1:=j3.out.lo;have p2:=j3.out.hi;have p3:=j3.out.good;have p4:=j3.out.cnt;have j0:Hid _:=hR;have j9:Hid _:=hfu;clear hR hfu g3;have q1:=z0j j2.out;have q0:=z0j j1.out;generalize hpp:p r.next r.ns=pp at j3 HJ p1 p2 p3 p4 j0;have j8:Hid _:=hpp;clear hpp;have HC:=HP.out r.next r.ns wr bb vr(by omega)(by omega)(by omega)HB.out.at';rw[j8.out]at HC;simp only[Q7a]at HC;cases hpo:pp.ok
 ·rw[hpo]at HC;have j4:=hid HC;clear p3 HC;go_wp2_with(first
   |(go_at_call 136;refine(z7d _ _ _(by omega)).mono ?_;rintro e w'⟨rfl,hw⟩;rw[hw,hmk];clear hw)
   |(go_at_call 135;refine j4.out.mono ?_;rintro e w2⟨rfl,v2,h2⟩))
  go_roundw
  case rel =>
   have n1:=h2.nf(k:=w1.heap.size)q1 hn1;have n0:=h2.nf(k:=w.heap.size)q0 hn0;have ej:Q7j r pp=⟨r.st,r.en,pp.next,false,pp.ns⟩:=by unfold Q7j;rw[if_neg(by simp[hpo])]
   refine⟨f,Q7j r pp,v2,by rw[ej],by rw[ej],j0.out,HJ.out,by rw[ej];simp;omega,?_,?_,?_,n0,n1⟩
   ·exact z0b(h2.mod.at j1.out hn0)
   ·rw[ej];exact z0b(h2.mod.at j2.out hn1)
   rw[ej];exact(HB.out.trans h2).alloc _
  simp[intOf,okOf];omega
 rw[hpo]at HC;have j4:=hid HC;have p5:=p3 hpo;clear p3 HC;go_wp2_with(first
  |(go_at_call 136;refine(z7d _ _ _(by omega)).mono ?_;rintro e w'⟨rfl,hw⟩;rw[hw,hmk];clear hw)
  |(go_at_call 135;refine j4.out.mono ?_;rintro e w2⟨rfl,v2,h2⟩;have k2:=Q0b(h2.mod.at j2.out hn1);have jc:w1.heap.size<w2.heap.size:=(by have:=h2.mod.size;omega))
  |(go_at_call 137;refine(x71 _ bb v2 pp.ns _ _ _ _(h2.at'.fresh((mRf _ _).alloc _))(by omega)).mono ?_;rintro e w3⟨rfl,v3,h3⟩;have n1:=h2.nf(k:=w1.heap.size)q1 hn1;have k5:=Q0b(h3.mod.at(z0b(h2.mod.at j2.out hn1))n1);have k6:=Q0h(h3.mod.at(z0b(h2.mod.at j2.out hn1))n1)))
 go_roundw
 case rel =>
  have n0:=h2.nf(k:=w.heap.size)q0 hn0;have jd:w.heap.size<w2.heap.size:=(by have:=h2.mod.size;omega);have j5:=h3.nf(k:=w1.heap.size)(by simp;omega)n1;have j7:=h3.nf(k:=w.heap.size)(by simp;omega)n0;have ej:Q7j r pp=⟨r.st,pp.en,pp.next,true,Q1h pp.ns r.en pp.st⟩:=by unfold Q7j;rw[if_pos(by simp[hpo])]
  refine⟨f,Q7j r pp,v3,by rw[ej],by rw[ej],j0.out,HJ.out,by have:=j9.out;rw[ej];simp[hro]at this;simp;omega,?_,?_,?_,j7,j5⟩
  ·exact z0i(z0i(h3.mod.at(z0b(h2.mod.at j1.out hn0))n0)(by simp;omega))(by simp;omega)
  ·rw[ej,zhs(zhs(h3.mod.at(z0b(h2.mod.at j2.out hn1))n1)0 _)1 _];rfl
  rw[ej];exact(((HB.out.trans h2).alloc _).trans h3 |>.put(p:=⟨w1.heap.size,0,none⟩)(by simp;omega)j5 _).put(p:=⟨w1.heap.size,1,none⟩)(by simp;omega)j5 _
 simp[intOf,okOf];omega
theorem y3b(s:ByteArray)(d:Int)(p:Int->List Q0p->PR)(hs:s.size<=1000)(hd0:0<=d)(hd1:d<=100)(hg:Q5u s p)(hp:Con 131 s d p) :
  Con 126 s d(Q6o p s):=by
 intro i ns w bb v h0 h1 hn h;have H:Hid _:=h;have hN:=fun k(hk:w.heap.size<=k)=>h.not_foot hk;have HN:Hid _:=hN;have G0:Hid _:=hg i ns h0 h1;have HG:Hid _:=hg;have HP:Hid _:=hp;clear h hN hg hp;generalize hR:Q6o p s i ns=R;have HR:Hid(Q2r p s(s.size+5)(p i ns)=R):=hR;clear hR;go_enter Tryz.func126,Tryz.ntmps126
 go_wp2_with(first
  |(go_at_call 131;refine(HP.out i ns _ bb v(by omega)(by omega)hn(H.out.fresh((mRf _ w).alloc _))).mono ?_;rintro e w1⟨rfl,v1,h1⟩;have hz:w.heap.size<w1.heap.size:=(by have:=h1.mod.size;simp at this;omega)))
 have H1:Hid _:=h1;clear h1;go_loopw [12,13](fun x y wr=>∃(f:Nat)(r:PR)(vr:Value),x=.int .i64 r.next/\y=.bool r.ok/\Q2r p s f r=R/\Q8s s i ns.length r/\(s.size:Int)+5<=f+r.next+(if r.ok then 0 else s.size+20) /\
   wr.heap[w.heap.size]? = some(Q54 0 0)/\wr.heap[w1.heap.size]? = some(Q54 r.st r.en)/\Q1i w wr bb v vr r.ns/\¬Q86 bb vr w.heap.size/\¬Q86 bb vr w1.heap.size)
   (fun x y _=>okOf y*(4000-(intOf x).toNat))
 case atStart =>
  refine⟨s.size+5,p i ns,v1,rfl,rfl,HR.out,G0.out,by have:=G0.out.lo;split<;>omega,z0b(H1.out.mod.at(z0a _ _)(HN.out _(by simp))),z0a _ _,(Q1i.ahead((mRf _ w).alloc _)H1.out).alloc _,H1.out.nf(by simp)(HN.out _(by simp)),?_⟩;exact H1.out.at'.not_foot(qR _)
 obtain⟨f,r,vr,rfl,rfl,hR,hG,hfu,hb0,hb1,hB,hn0,hn1⟩:=hrel;have g1:=hG.lo;have g2:=hG.hi;have g3:=hG.good;have g4:=hG.cnt;have jc:Hid _:=hG;have HB:Hid _:=hB;have j1:Hid _:=hb0;have j2:Hid _:=hb1;have k1:=Q0b hb1;clear hB hb0 hb1 hG;cases hro:r.ok
 ·have j7:r=R:=by
   rw[← hR];cases f with
   |zero=>rfl
   |succ f=>unfold Q2r;rw[if_neg(by simp[hro])]
  have k2:=Q0b j1.out;have k3:=Q0h j1.out;have j0:Hid _:=j7;clear hR hfu g3 j7;go_wp2;refine bodyPost_ret(z0h rfl _ _ w.heap.size 213#[.int .i64 r.st,.int .i64 r.en](0,0)_ rfl ?_ Tryz.underlying213 rfl Q3n)rfl⟨?_,vr,?_⟩
  ·rw[zhs(zhs j1.out 0 _)1 _];rfl
  ·rw[← j0.out];simp[Q7a,Q77,hro]
  rw[← j0.out];exact(HB.out.put(p:=⟨w.heap.size,0,none⟩)(by simp)hn0 _).put(p:=⟨w.heap.size,1,none⟩)(by simp)hn0 _
 have jd:=g3 hro;obtain⟨f,rfl⟩:∃g,f=g+1:=⟨f-1,by rw[hro]at hfu;simp at hfu;omega⟩;unfold Q2r at hR;cases hmk:(atB s r.next==124)
 ·rw[if_neg(by simp[hmk])]at hR;have k2:=Q0b j1.out;have k3:=Q0h j1.out;have j0:Hid _:=hR;clear hR hfu g3;go_wp2_with(first
   |(go_at_call 107;refine(z0v _ _ _(by unfold maxLen;omega)).mono ?_;rintro e w'⟨rfl,hw⟩;rw[hw];clear hw))
  refine bodyPost_ret(z0h rfl _ _ w.heap.size 213#[.int .i64 r.st,.int .i64 r.en](0,0)_ rfl ?_ Tryz.underlying213 rfl Q3n)rfl⟨?_,vr,?_⟩
  ·rw[zhs(zhs j1.out 0 _)1 _];rfl
  ·rw[← j0.out];simp[Q7a,Q77,hro]
  rw[← j0.out];exact(HB.out.put(p:=⟨w.heap.size,0,none⟩)(by simp)hn0 _).put(p:=⟨w.heap.size,1,none⟩)(by simp)hn0 _
 rw[if_pos(by simp[hmk,hro])]at hR;have j4:atB s r.next=124:=by simpa using hmk
 have jg:=z0q(s:=s)(i:=r.next)(by omega);have j8:=hid j4;clear j4;have j3:Hid _:=HG.out(r.next+1)r.ns(by omega)(by omega);have HJ:Hid _:=z7n h0 jc.out hro j3.out;have p1:=j3.out.lo;have p2:=j3.out.hi;have p3:=j3.out.good;have p4:=j3.out.cnt;have j0:Hid _:=hR;have jb:Hid _:=hfu;clear hR hfu g3;have q1:=z0j j2.out;have q0:=z0j j1.out;generalize hpp:p(r.next+1)r.ns=pp at j3 HJ p1 p2 p3 p4 j0;have ja:Hid _:=hpp;clear hpp;have HC:=HP.out(r.next+1)r.ns wr bb vr(by omega)(by omega)(by omega)HB.out.at';rw[ja.out]at HC;simp only[Q7a]at HC;cases hpo:pp.ok
 ·rw[hpo]at HC;have j5:=hid HC;clear p3 HC;go_wp2_with(first
   |(go_at_call 107;refine(z0v _ _ _(by unfold maxLen;omega)).mono ?_;rintro e w'⟨rfl,hw⟩;rw[hw];clear hw)
   |(go_at_call 131;refine j5.out.mono ?_;rintro e w2⟨rfl,v2,h2⟩))
  go_roundw
  case rel =>
   have n1:=h2.nf(k:=w1.heap.size)q1 hn1;have n0:=h2.nf(k:=w.heap.size)q0 hn0;have ej:Q39 r pp=⟨r.st,r.en,pp.next,false,pp.ns⟩:=by unfold Q39;rw[if_neg(by simp[hpo])]
   refine⟨f,Q39 r pp,v2,by rw[ej],by rw[ej],j0.out,HJ.out,by rw[ej];simp;omega,?_,?_,?_,n0,n1⟩
   ·exact z0b(h2.mod.at j1.out hn0)
   ·rw[ej];exact z0b(h2.mod.at j2.out hn1)
   rw[ej];exact(HB.out.trans h2).alloc _
  simp[intOf,okOf];omega
 rw[hpo]at HC;have j5:=hid HC;have p5:=p3 hpo;clear p3 HC;go_wp2_with(first
  |(go_at_call 107;refine(z0v _ _ _(by unfold maxLen;omega)).mono ?_;rintro e w'⟨rfl,hw⟩;rw[hw];clear hw)
  |(go_at_call 131;refine j5.out.mono ?_;rintro e w2⟨rfl,v2,h2⟩;have k2:=Q0b(h2.mod.at j2.out hn1);have je:w1.heap.size<w2.heap.size:=(by have:=h2.mod.size;omega))
  |(go_at_call 132;refine(x0u _ bb v2 pp.ns _ _ _ _(h2.at'.fresh((mRf _ _).alloc _))(by omega)).mono ?_;rintro e w3⟨rfl,v3,h3⟩;have n1:=h2.nf(k:=w1.heap.size)q1 hn1;have k5:=Q0b(h3.mod.at(z0b(h2.mod.at j2.out hn1))n1);have k6:=Q0h(h3.mod.at(z0b(h2.mod.at j2.out hn1))n1)))
 go_roundw
 case rel =>
  have n0:=h2.nf(k:=w.heap.size)q0 hn0;have jf:w.heap.size<w2.heap.size:=(by have:=h2.mod.size;omega);have j6:=h3.nf(k:=w1.heap.size)(by simp;omega)n1;have j9:=h3.nf(k:=w.heap.size)(by simp;omega)n0;have ej:Q39 r pp=⟨pp.ns.length,pp.ns.length+1,pp.next,true,Q37 pp.ns r.st r.en pp.st pp.en⟩:=by unfold Q39;rw[if_pos(by simp[hpo])]
  refine⟨f,Q39 r pp,v3,by rw[ej],by rw[ej],j0.out,HJ.out,by have:=jb.out;rw[ej];simp[hro]at this;simp;omega,?_,?_,?_,j9,j6⟩
  ·exact z0i(z0i(h3.mod.at(z0b(h2.mod.at j1.out hn0))n0)(by simp;omega))(by simp;omega)
  ·rw[ej,zhs(zhs(h3.mod.at(z0b(h2.mod.at j2.out hn1))n1)0 _)1 _];rfl
  rw[ej];exact(((HB.out.trans h2).alloc _).trans h3 |>.put(p:=⟨w1.heap.size,0,none⟩)(by simp;omega)j6 _).put(p:=⟨w1.heap.size,1,none⟩)(by simp;omega)j6 _
 simp[intOf,okOf];omega
theorem y0h(s:ByteArray)(d:Int)(hd:6<=d)(hd1:d<=100):ConG 144 s d(gK s 0):=by
 intro i ns w bb v h0 h1 hn h;have H:=hid h;have HN:=hid(fun k(hk:w.heap.size<=k)=>h.not_foot hk);have e1:gK s 0 i ns=⟨0,0,i,false,ns⟩:=rfl;rw[e1];clear h e1;go_enter Tryz.func144,Tryz.ntmps144
 go_wp2;refine bodyPost_ret(z0h rfl _ _ w.heap.size 213#[.int .i64 0,.int .i64 0](0,0)_ rfl(z0a _ _)Tryz.underlying213 rfl Q3n)rfl⟨rfl,v,?_⟩;have m1:Q0a w(w.alloc(Q54 0 0)):=(mRf _ w).alloc _;exact Q1i.ahead m1(Q1i.refl(H.out.fresh m1))
theorem y33(s:ByteArray)(d:Int)(c:Int->List Q0p->PR)(hs:s.size<=1000)(hd0:0<=d)(hd:d<6)(hg:Q5u s c)(hc:Con 126 s(d+1)c) :
  ConG 144 s d(Q52 c s):=by
 intro i ns w bb v h0 h1 hn h;have H:=hid h;have HN:=hid(fun k(hk:w.heap.size<=k)=>h.not_foot hk);have j1:=hg(i+1)ns(by omega)(by omega);have HC:=hc(i+1)ns(w.alloc(Q54 0 0))bb v(by omega)(by omega)(by omega)(h.fresh((mRf _ w).alloc _));generalize hR:Q52 c s i ns=R;unfold Q52 at hR;generalize hpp:c(i+1)ns=pp at HC j1 hR;simp only[Q7a]at HC;obtain⟨g1,g2,g3,g4⟩:=j1;clear h hg hc hpp;cases hpo:pp.ok
 ·rw[hpo]at HC;have j0:=hid HC;rw[if_pos hpo]at hR;have HR:=hid hR;clear HC g3 hR;go_enter Tryz.func144,Tryz.ntmps144
  go_wp2_with(first
   |(go_at_call 126;refine j0.out.mono ?_;rintro e w1⟨rfl,v1,h1⟩;have hz:w.heap.size<w1.heap.size:=(by have:=h1.mod.size;simp at this;omega);have k3:=h1.loc(z0a _ _)(HN.out _(by omega));have k4:=Q0h(h1.mod.at(z0a _ _)(HN.out _(by omega)))))
  have hf:=h1.nf(k:=w.heap.size)(by simp)(HN.out _(by omega));refine bodyPost_ret(z0h rfl _ _ w.heap.size 213#[.int .i64 0,.int .i64 0](0,0)_ rfl ?_ Tryz.underlying213 rfl Q3n)rfl⟨by have:=HR.out;subst this;rfl,v1,?_⟩
  ·refine z0b ?_;rw[zhs(zhs(h1.mod.at(z0a _ _)(HN.out _(by omega)))0 _)1 _];rfl
  rw[← HR.out];exact(((Q1i.ahead((mRf _ w).alloc _)h1).put(p:=⟨w.heap.size,0,none⟩)(by simp)hf _).put(p:=⟨w.heap.size,1,none⟩)(by simp)hf _).alloc _
 rw[hpo]at HC;have j0:=hid HC;have g5:=g3 hpo;rw[if_neg(by simp[hpo])]at hR;by_cases hcl:atB s pp.next=41
 ·rw[if_neg(by simp[hcl])]at hR;have HR:=hid hR;have c1:(atB s pp.next != 41)=false:=by simp[hcl]
  clear HC g3 hR hcl;go_enter Tryz.func144,Tryz.ntmps144
  go_wp2_with(first
   |(go_at_call 107;refine(z0v _ _ _(by unfold maxLen;omega)).mono ?_;rintro e w'⟨rfl,hw⟩;rw[hw];clear hw)
   |(go_at_call 126;refine j0.out.mono ?_;rintro e w1⟨rfl,v1,h1⟩;have hz:w.heap.size<w1.heap.size:=(by have:=h1.mod.size;simp at this;omega);have k3:=h1.loc(z0a _ _)(HN.out _(by omega));have k4:=Q0h(h1.mod.at(z0a _ _)(HN.out _(by omega)))))
  have hf:=h1.nf(k:=w.heap.size)(by simp)(HN.out _(by omega));refine bodyPost_ret(z0h rfl _ _ w.heap.size 213#[.int .i64 pp.st,.int .i64 pp.en](0,0)_ rfl ?_ Tryz.underlying213 rfl Q3n)rfl⟨by have:=HR.out;subst this;rfl,v1,?_⟩
  ·refine z0b ?_;rw[zhs(zhs(h1.mod.at(z0a _ _)(HN.out _(by omega)))0 _)1 _];rfl
  rw[← HR.out];exact(((Q1i.ahead((mRf _ w).alloc _)h1).put(p:=⟨w.heap.size,0,none⟩)(by simp)hf _).put(p:=⟨w.heap.size,1,none⟩)(by simp)hf _).alloc _
 rw[if_pos hcl]at hR;have HR:=hid hR;have c1:(atB s pp.next != 41)=true:=by simpa using hcl
 clear HC g3 hR hcl;go_enter Tryz.func144,Tryz.ntmps144
 go_wp2_with(first
  |(go_at_call 107;refine(z0v _ _ _(by unfold maxLen;omega)).mono ?_;rintro e w'⟨rfl,hw⟩;rw[hw];clear hw)
  |(go_at_call 126;refine j0.out.mono ?_;rintro e w1⟨rfl,v1,h1⟩;have hz:w.heap.size<w1.heap.size:=(by have:=h1.mod.size;simp at this;omega);have k3:=h1.loc(z0a _ _)(HN.out _(by omega));have k4:=Q0h(h1.mod.at(z0a _ _)(HN.out _(by omega)))))
 have hf:=h1.nf(k:=w.heap.size)(by simp)(HN.out _(by omega));refine bodyPost_ret(z0h rfl _ _ w.heap.size 213#[.int .i64 0,.int .i64 0](0,0)_ rfl ?_ Tryz.underlying213 rfl Q3n)rfl⟨by have:=HR.out;subst this;rfl,v1,?_⟩
 ·refine z0b ?_;rw[zhs(zhs(h1.mod.at(z0a _ _)(HN.out _(by omega)))0 _)1 _];rfl
 rw[← HR.out];exact(((Q1i.ahead((mRf _ w).alloc _)h1).put(p:=⟨w.heap.size,0,none⟩)(by simp)hf _).put(p:=⟨w.heap.size,1,none⟩)(by simp)hf _).alloc _
theorem x72(s:ByteArray)(hs:s.size<=1000):∀(k:Nat),k<=6 ->
  ConG 144 s(6-(k:Int))(gK s k)/\Con 126 s(6-(k:Int))(chK s k):=by
 have step:∀k:Nat,k<=6->ConG 144 s(6-(k:Int))(gK s k)->Con 126 s(6-(k:Int))(chK s k):=by
  intro k hk h;have ga:=z3h(z6x s k);have gp:=z3z ga;have gb:=z4o gp;have a:=y53 s(6-(k:Int))(gK s k)hs(by omega)(by omega)h;have p:=y5j s(6-(k:Int))_ hs(by omega)(by omega)ga a;have b:=y2b s(6-(k:Int))_ hs(by omega)(by omega)gp p;exact y3b s(6-(k:Int))_ hs(by omega)(by omega)gb b
 intro k;induction k with
 |zero =>
  intro _;have g:=y0h s(6-((0:Nat):Int))(by simp)(by simp);exact⟨g,step 0(by omega)g⟩
 |succ k ih =>
  intro hk;have h:=(ih(by omega)).2;have e:(6:Int)-((k+1:Nat):Int)+1=6-(k:Int):=by omega
  have g:ConG 144 s(6-((k+1:Nat):Int))(gK s(k+1)) :=
   y33 s(6-((k+1:Nat):Int))(chK s k)hs(by omega)(by omega)(z5e s k)(by rw[e];exact h)
  exact⟨g,step(k+1)hk g⟩
theorem z5o(s:ByteArray)(hs:s.size<=1000):Con 126 s 0(chK s 6):=by
 have:=(x72 s hs 6(qR _)).2;simpa using this
structure Q18(w:World)(v:Value)(ns:List Q0p):Prop where
 own:w.ownsRow 0 206 7 v ns.length(Q4w ns)
 wf:Nwf ns
theorem Q18.kept{S:Nat->Prop}{w w':World}{v:Value}{ns:List Q0p}(h:Q18 w v ns)(hm:Mod S w w')(hs:∀k,v.ownBlock=some k->¬S k):Q18 w' v ns :=
 ⟨z0c h.own(fun g hg=>hm.block g(h.own.lt g hg).2(hs g hg)),h.wf⟩
theorem szPat:(Tryz.prog.info? 114).map(·.size)=some 3:=by kernel_rfl
abbrev patV(v:Value)(a b:Int):Value:=.agg#[v,.int .i64 a,.int .i64 b]
def Q1s(s:ByteArray)(i:Int):PR:=chK s 6 i []
theorem x2y(W:World):BAt(W.alloc(.cells#[.slice none 0 0]211(0,0)))W.heap.size(.slice none 0 0) [] :=
 ⟨z0a _ _,World.ownsRow_nil _ _ _ _,fun _ h=>by cases h⟩
theorem x62{bb k:Nat}(h:Q86 bb(.slice none 0 0)k):k=bb:=by
 rcases h with h|h
 ·exact h
 simp[Value.ownBlock]at h
theorem y0x{w w1:World}{A B:Obj}{v1:Value}{ns:List Q0p}(h1:Q1i((w.alloc A).alloc B)w1(w.heap.size+1)(.slice none 0 0)v1 ns):Q0a w w1 :=
 Mod.trans'(T:=Q86(w.heap.size+1)(.slice none 0 0))(((mRf _ w).alloc _).alloc _)h1.mod(fun i hi hf=>by have:=x62 hf;omega)
theorem x7r(s:ByteArray)(i:Int)(w:World)(hs:s.size<=1000)(h0:0<=i)(h1:i<=s.size)(hok:(Q1s s i).ok=false) :
  Calls Tryz.prog 118#[.string s,.int .i64 i]w fun e w'=>e=.returned(.tuple#[patV(.slice none 0 0)0 0,.int .i64(Q1s s i).next,.bool false])/\Q0a w w':=by
 have HC:=z5o s hs i []((w.alloc(.cells#[.slice none 0 0,.int .i64 0,.int .i64 0]114(0,0))).alloc(.cells#[.slice none 0 0]211(0,0)))(w.heap.size+1)(.slice none 0 0)h0 h1(by simp;omega)(by simpa using x2y(w.alloc(.cells#[.slice none 0 0,.int .i64 0,.int .i64 0]114(0,0))));have hG:=z5e s 6 i []h0 h1;unfold Q1s at hok ⊢;generalize hpp:chK s 6 i []=pp at HC hG hok ⊢;simp only[Q7a]at HC;obtain⟨g1,g2,g3,g4⟩:=hG;rw[hok]at HC;have j0:=hid HC;clear HC hpp g3 hok;go_enter Tryz.func118,Tryz.ntmps118
 go_wp2_with(first
  |(go_at_call 126;refine j0.out.mono ?_;rintro e w1⟨rfl,v1,h1⟩;have hz:w.heap.size<w1.heap.size:=(by have:=h1.mod.size;simp at this;omega);have hb:=h1.mod.at(heap_alloc2_old _ _ _)(by rintro(h|h)<;>simp[Value.ownBlock]at h);have k3:=Q0b hb;have k4:=Q0h hb))
 refine bodyPost_ret(z0h rfl _ _ w.heap.size 114#[.slice none 0 0,.int .i64 0,.int .i64 0](0,0)_ rfl ?_ Tryz.underlying114 rfl szPat)rfl⟨rfl,?_⟩
 ·refine z0b ?_;rw[zhs(zhs(zhs hb 0 _)1 _)2 _];rfl
 exact((((y0x h1).setCell(by simp)_).setCell(by simp)_).setCell(by simp)_).alloc _
theorem x1c(s:ByteArray)(i:Int)(w:World)(hs:s.size<=1000)(h0:0<=i)(h1:i<=s.size)(hok:(Q1s s i).ok=true) :
  Calls Tryz.prog 118#[.string s,.int .i64 i]w fun e w'=>∃v,e=.returned(.tuple#[patV v(Q1s s i).st(Q1s s i).en,.int .i64(Q1s s i).next,.bool true])/\Q0a w w'/\Q18 w' v(Q1s s i).ns/\∀k,v.ownBlock=some k->w.heap.size<=k:=by
 have HC:=z5o s hs i []((w.alloc(.cells#[.slice none 0 0,.int .i64 0,.int .i64 0]114(0,0))).alloc(.cells#[.slice none 0 0]211(0,0)))(w.heap.size+1)(.slice none 0 0)h0 h1(by simp;omega)(by simpa using x2y(w.alloc(.cells#[.slice none 0 0,.int .i64 0,.int .i64 0]114(0,0))));have hG:=z5e s 6 i []h0 h1;unfold Q1s at hok ⊢;generalize hpp:chK s 6 i []=pp at HC hG hok ⊢;simp only[Q7a]at HC;obtain⟨g1,g2,g3,g4⟩:=hG;rw[hok]at HC;have j0:=hid HC;clear HC hpp g3 hok;go_enter Tryz.func118,Tryz.ntmps118
 go_wp2_with(first
  |(go_at_call 126;refine j0.out.mono ?_;rintro e w1⟨rfl,v1,h1⟩;have hz:w.heap.size<w1.heap.size:=(by have:=h1.mod.size;simp at this;omega);have hb:=h1.mod.at(heap_alloc2_old _ _ _)(by rintro(h|h)<;>simp[Value.ownBlock]at h)))
 obtain⟨ao,cap,hv⟩:=z0d h1.at'.own;have HB:=hid hb;have H1:=hid h1;have k1:=Q0b h1.at'.blk;have j1:w.heap.size+1<w1.heap.size:=by have:=h1.mod.size;simp at this;omega
 have k3:=Q0b hb;have k4:=Q0h hb;subst hv;clear hb h1;go_region;all_goals
  go_wp2;refine bodyPost_ret(z0h rfl _ _ w.heap.size 114#[.slice ao pp.ns.length cap,.int .i64 pp.st,.int .i64 pp.en](0,0)_ rfl ?_ Tryz.underlying114 rfl szPat)rfl⟨.slice ao pp.ns.length cap,rfl,?_,?_,?_⟩
  ·have q:=zhs(zhs(zhs HB.out 0(.slice ao pp.ns.length cap))1(.int .i64 pp.st))2(.int .i64 pp.en);exact z0b q
  ·exact(((((y0x H1.out).setCell(by simp)_).setCell(by simp)_).setCell(by simp)_).alloc _).drew
  ·have n1:Q18 w1(.slice ao pp.ns.length cap)pp.ns:=⟨z0f H1.out.at'.own(Nat.zero_le _),H1.out.at'.wf⟩;refine n1.kept(S:=fun k=>k=w.heap.size)?_(fun k hk e=>by have:=H1.out.at'.own_lt k hk;omega);exact((((Mod.setCell(S:=fun k=>k=w.heap.size)(Mod.setCell(S:=fun k=>k=w.heap.size)(Mod.setCell(S:=fun k=>k=w.heap.size)(mRf _ w1)(p:=⟨w.heap.size,0,none⟩)(fun _=>rfl)_)(p:=⟨w.heap.size,1,none⟩)(fun _=>rfl)_)(p:=⟨w.heap.size,2,none⟩)(fun _=>rfl)_)).alloc _)).drew
  intro k hk;have:=H1.out.at'.own_lt k hk;omega
def i64s(ls:List Int):Array Value:=(ls.map(Value.int .i64)).toArray
def Q4d(n:Nat)(l:List Nat):Array Value:=((List.range n).map fun j=>Value.bool(decide(j∈l))).toArray
theorem x21(ls:List Int)(i:Nat)(h:i<ls.length):(i64s ls)[i]? = some(.int .i64(ls.getD i 0)):=by simp[i64s,h]
theorem y1a(n:Nat)(l:List Nat)(i:Nat)(h:i<n):(Q4d n l)[i]? = some(.bool(decide(i∈l))):=by simp[Q4d,h]
structure Q48(w:World)(cb lb ib n:Nat)(l:List Nat):Prop where
 nodup:l.Nodup
 lt:∀x∈l,x<n
 blk:w.heap[cb]? = some(.cells#[.slice(some⟨lb,0,none⟩)n n,.int .i64 l.length,.slice(some⟨ib,0,none⟩)n n]195(0,0))
 lst:∃ls:List Int,ls.length=n/\ls.take l.length=l.map Int.ofNat/\w.heap[lb]? = some(.cells(i64s ls)3(0,0))
 ins:w.heap[ib]? = some(.cells(Q4d n l)4(0,0))
 d1:cb≠lb
 d2:cb≠ib
 d3:lb≠ib
def Q14(cb lb ib k:Nat):Prop:=k=cb∨k=lb∨k=ib
theorem Q48.kept{S:Nat->Prop}{w w':World}{cb lb ib n:Nat}{l:List Nat}(h:Q48 w cb lb ib n l)(hm:Mod S w w')(hs:∀k,Q14 cb lb ib k->¬S k):Q48 w' cb lb ib n l:=by
 obtain⟨ls,h1,h2,h3⟩:=h.lst;exact⟨h.nodup,h.lt,hm.at h.blk(hs cb(.inl rfl)),⟨ls,h1,h2,hm.at h3(hs lb(.inr(.inl rfl)))⟩,hm.at h.ins(hs ib(.inr(.inr rfl))),h.d1,h.d2,h.d3⟩
theorem Q48.foot_lt{w:World}{cb lb ib n:Nat}{l:List Nat}(h:Q48 w cb lb ib n l){k:Nat}(hk:Q14 cb lb ib k):k<w.heap.size:=by
 obtain⟨ls,h1,h2,h3⟩:=h.lst;rcases hk with rfl|rfl|rfl
 ·exact z0j h.blk
 ·exact z0j h3
 exact z0j h.ins
theorem z4c{n:Nat}:∀{l:List Nat},l.Nodup->(∀x∈l,x<n)->l.length<=n:=by
 induction n with
 |zero =>
  intro l hd hl;cases l with
  |nil=>simp
  |cons a l=>have:=hl a(by simp);omega
 |succ n ih =>
  intro l hd hl;by_cases hm:n∈l
  ·have h1:=ih(hd.erase n)(fun x hx=>by
    have:=(hd.mem_erase_iff).1 hx;have:=hl x this.2;omega)
   rw[List.length_erase_of_mem hm]at h1;omega
  have:=ih hd(fun x hx=>by
   have h2:=hl x hx;have:x≠n:=fun e=>hm(e▸hx);omega)
  omega
theorem z7g{n m:Nat}{l:List Nat}(hd:l.Nodup)(hl:∀x∈l,x<n)(hm:m<n)(hn:m ∉ l):l.length<n:=by
 have:=z4c(n:=n)(l:=m::l)(List.nodup_cons.2⟨hn,hd⟩)(by
  intro x hx;rcases List.mem_cons.1 hx with rfl|hx
  ·exact hm
  exact hl x hx)
 simp at this;omega
def Q1e(n:Nat)(l:List Nat)(m:Int):List Nat:=if 0<=m/\m<n/\m.toNat ∉ l then l++[m.toNat]else l
theorem z27{n:Nat}{l:List Nat}(m:Int)(h:l.Nodup):(Q1e n l m).Nodup:=by
 unfold Q1e;split
 ·rename_i h1;rw[List.nodup_append];exact⟨h,by simp,by intro a ha b hb;simp at hb;subst hb;intro e;subst e;exact h1.2.2 ha⟩
 exact h
theorem z3y{n:Nat}{l:List Nat}(m:Int)(h:∀x∈l,x<n):∀x∈Q1e n l m,x<n:=by
 unfold Q1e;split
 ·rename_i h1;intro x hx;rcases List.mem_append.1 hx with hx|hx
  ·exact h x hx
  simp at hx;omega
 exact h
theorem y68(n:Nat)(l:List Nat)(m:Nat):(Q4d n l).setIfInBounds m(.bool true)=Q4d n(l++[m]):=by
 unfold Q4d;apply Array.ext_getElem?;intro i;rw[Array.getElem?_setIfInBounds];by_cases h:m=i
 ·subst h;by_cases h2:m<n<;>simp[h2]
 rw[if_neg h];by_cases h2:i<n
 ·have:¬i=m:=fun e=>h e.symm;simp[h2,this]
 simp[h2]
theorem y14{ls:List Int}{l:List Nat}{m:Nat}(h:ls.take l.length=l.map Int.ofNat)(hlt:l.length<ls.length):(ls.set l.length(m:Int)).take(l++[m]).length=(l++[m]).map Int.ofNat:=by
 simp only[List.length_append,List.length_singleton,List.map_append,List.map_singleton];rw[List.take_add_one,List.take_set_of_le(qR _),h];simp[hlt]
theorem x50(ls:List Int)(i:Nat)(v:Int):(i64s ls).setIfInBounds i(.int .i64 v)=i64s(ls.set i v):=by simp[i64s,List.map_set]
theorem Q48.entered{w:World}{cb lb ib n:Nat}{l:List Nat}{m:Nat}(h:Q48 w cb lb ib n l)(hm:m<n)(hn:m ∉ l) :
  Q48(((w.setCell⟨ib,m,none⟩(.bool true)).setCell⟨lb,l.length,none⟩(.int .i64 m)).setCell⟨cb,1,none⟩(.int .i64(l.length+1)))cb lb ib n(l++[m]):=by
 obtain⟨ls,h1,h2,h3⟩:=h.lst;have hl:=z7g h.nodup h.lt hm hn;refine⟨?_,?_,?_,⟨ls.set l.length m,by simpa using h1,y14 h2(by omega),?_⟩,?_,h.d1,h.d2,h.d3⟩
 ·have:=z27(n:=n)m h.nodup;unfold Q1e at this;rw[if_pos⟨by omega,by omega,by simpa using hn⟩]at this;simpa using this
 ·have:=z3y(n:=n)m h.lt;unfold Q1e at this;rw[if_pos⟨by omega,by omega,by simpa using hn⟩]at this;simpa using this
 ·rw[zhs(z0i(z0i h.blk(by simpa using h.d2))(by simpa using h.d1))1 _];simp
 ·refine z0i ?_(by simpa using h.d1.symm);rw[zhs(z0i h3(by simpa using h.d3))_ _,x50]
 refine z0i(z0i ?_(by simpa using h.d3.symm))(by simpa using h.d2.symm);rw[zhs h.ins _ _,y68]
theorem z9e{n:Nat}{l:List Nat}{m:Int}(h:¬(0<=m/\m<n/\m.toNat ∉ l)):Q1e n l m=l:=by unfold Q1e;rw[if_neg h]
theorem y9l{n:Nat}{l:List Nat}{m:Nat}(h1:m<n)(h2:m ∉ l):Q1e n l m=l++[m]:=by
 unfold Q1e;rw[if_pos⟨by omega,by omega,by simpa using h2⟩];simp
end Go.Proofs.YtcpceafmlgaodaaGreat
