import Derived.Test.YtbdpfmalabgmbaaGreatBld1
import Derived.Deep.QuietTactic
import Derived.BigQuiet
namespace Go.Proofs.YtbdpfmalabgmbaaGreat
open Go.RowKit
set_option maxRecDepth 99999
set_option maxHeartbeats 0
set_option linter.all false
theorem y7i(s:ByteArray)(d:Int)(g:Int->List Q0q->PR)(hs:s.size<=1000)(hd0:0<=d)(hd1:d<=100)(hg:ConG 148 s d g) :
  Con 145 s d (Q50 g s):=by
 intro i ns w bb v h0 h1 hn h;have H:Hid _:=h;have hN:=fun k (hk:w.heap.size<=k)=>h.not_foot hk;have HN:Hid _:=hN;clear h hN;by_cases hc:atB s i=40
 ·have j3:=z0r (s:=s) (i:=i) (by omega);have e1:Q50 g s i ns=g i ns:=by unfold Q50;rw[qAb hc]
  rw[e1];have c1:(atB s i==40)=true:=by simpa using hc
  clear e1 hc;go_enter Tryz.func145,Tryz.ntmps145
  go_wp2_with (first
   |(go_at_call 97;refine csm (z0x _ _ _ (by unfold maxLen;omega)) ?_)
   |(go_at_call 148;refine(hg i ns _ bb v (by omega) (by omega) hn (H.fresh ((mRf _ w).alloc _))).mono ?_;rintro e w1⟨rfl,v1,h1⟩;have k3:=h1.loc (z0a _ _) (HN.out _ (by omega));have k4:=Q0f (h1.mod.at (z0a _ _) (HN.out _ (by omega)))))
  have hf:=h1.nf (k:=w.heap.size) (by simp) (HN.out _ (by omega));refine qAc (z0i rfl _ _ w.heap.size 221 #[.int .i64 (g i ns).st,.int .i64 (g i ns).en] (0,0) _ rfl ?_ qBz rfl Q3l) rfl ⟨rfl,v1,?_⟩
  ·rw[zhs (zhs (h1.mod.at (z0a _ _) (HN.out _ (by omega))) 0 _) 1 _];rfl
  exact((Q1g.ahead ((mRf _ w).alloc _) h1).put (by simp) hf _).put (by simp) hf _
 have c1:(atB s i==40)=false:=by simpa using hc
 have hl:=x7r s i;obtain⟨b1,b2,b3⟩:=y21 s i h0;by_cases j1:(Q2r s i).2.2=false
 ·have e1:Q50 g s i ns=⟨0,0,(Q2r s i).2.1,false,ns⟩:=by unfold Q50;rw[qAa hc,qAb j1]
  rw[e1];have c2:(!(Q2r s i).2.2)=true:=by simp[j1]
  have HL:Hid _:=hl;clear e1 hc j1 hg b3 hl;go_enter Tryz.func145,Tryz.ntmps145
  go_wp2_with (first
   |(go_at_call 97;refine csm (z0x _ _ _ (by unfold maxLen;omega)) ?_)
   |(go_at_call 149;refine(z96 _ _ _ (by omega) (by omega) (by omega)).mono ?_;rintro e w1⟨rfl,j0⟩;have hz:w.heap.size<w1.heap.size:=(by have:=j0.size;simp at this;omega);have k3:=Q0b (j0.at (z0a _ _) id);have k4:=Q0f (j0.at (z0a _ _) id))
   |(refine z0e rfl 214 _ _ rfl w1 _ _ _ rfl rfl rfl (Q68 _ HL.out) (eq4 rfl (u4 HL.out)) (z1b _) ?_))
  have hb:=j0.at (z0a _ _) id;refine qAc (z0i rfl _ _ w.heap.size 221 #[.int .i64 0,.int .i64 0] (0,0) _ rfl ?_ qBz rfl Q3l) rfl ⟨rfl,v,?_⟩
  ·refine z0b ?_;rw[zhs (zhs hb 0 _) 1 _];rfl
  have m1:Q0a w w1:=((mRf _ w).alloc _).trans j0;exact((((Q1g.ahead m1 (Q1g.refl (H.fresh m1))).put (p:=⟨w.heap.size,0,none⟩) (by simp) (HN.out _ (by simp)) _).put (p:=⟨w.heap.size,1,none⟩) (by simp) (HN.out _ (by simp)) _).alloc _)
 have e1:Q50 g s i ns=⟨ns.length+1,ns.length,(Q2r s i).2.1,true,Q84 ns (Q2r s i).1⟩:=by unfold Q50;rw[qAa hc,qAa j1]
 rw[e1];have c2:(!(Q2r s i).2.2)=false:=by simpa using j1
 have HL:Hid _:=hl;clear e1 hc j1 hg b3 hl;go_enter Tryz.func145,Tryz.ntmps145
 go_wp2_with (first
  |(go_at_call 97;refine csm (z0x _ _ _ (by unfold maxLen;omega)) ?_)
  |(go_at_call 149;refine(z96 _ _ _ (by omega) (by omega) (by omega)).mono ?_;rintro e w1⟨rfl,j0⟩;have hz:w.heap.size<w1.heap.size:=(by have:=j0.size;simp at this;omega))
  |(go_at_call 150;refine(y7k _ bb v ns _ (H.fresh (((((mRf _ w).alloc _).trans j0).alloc _))) (by omega) HL.out).mono ?_;rintro e w2⟨rfl,v2,h2⟩;have hb:=h2.mod.at (z0b (j0.at (z0a _ _) id)) (HN.out _ (by omega));have k3:=Q0b hb;have k4:=Q0f hb)
  |(refine z0e rfl 214 _ _ rfl w1 _ _ _ rfl rfl rfl (Q68 _ HL.out) (eq4 rfl (u4 HL.out)) (z1b _) ?_)
  |(refine qAf rfl 214 _ rfl w1.heap.size rfl _ _ _ _ (z0a _ _) qBo rfl (Q68 _ HL.out) ?_))
 have j2:=h2.nf (k:=w.heap.size) (by simp;omega) (HN.out _ (by simp));refine qAc (z0i rfl _ _ w.heap.size 221 #[.int .i64 (ns.length+1),.int .i64 ns.length] (0,0) _ rfl ?_ qBz rfl Q3l) rfl ⟨rfl,v2,?_⟩
 ·rw[zhs (zhs hb 0 _) 1 _];rfl
 exact((h2.ahead ((((mRf _ w).alloc _).trans j0).alloc _)).put (by simp) j2 _).put (by simp) j2 _
abbrev Q52(a b:Int):Obj:=.cells #[.int .i64 a,.int .i64 b] 221 (0,0)
theorem x0m{c:Int}(h:Q1t c=true):((c != 42)=false)∨((c != 42)=true/\(c != 43)=false)∨((c != 42)=true/\(c != 43)=true/\(c != 63)=false):=by
 simp[Q1t]at h;rcases h with(rfl|rfl)|rfl<;>simp
theorem x60{c:Int}(h:Q1t c=false):(c != 42)=true/\(c != 43)=true/\(c != 63)=true:=by
 simp[Q1t]at h;simp;omega
theorem y5l(s:ByteArray)(d:Int)(a:Int->List Q0q->PR)(hs:s.size<=1000)(hd0:0<=d)(hd1:d<=100)(hg:Q5w s a)(ha:Con 145 s d a) :
  Con 139 s d (Q71 a s):=by
 intro i ns w bb v h0 h1 hn h;have H:Hid _:=h;have hN:=fun k (hk:w.heap.size<=k)=>h.not_foot hk;have HN:Hid _:=hN;have G0:Hid _:=hg i ns h0 h1;clear h hN hg;generalize hR:Q71 a s i ns=R;have HR:Hid (Q3t s (s.size+5) (a i ns)=R):=hR;clear hR;go_enter Tryz.func139,Tryz.ntmps139
 go_wp2_with (first
  |(go_at_call 145;refine(ha i ns _ bb v (by omega) (by omega) hn (H.fresh ((mRf _ w).alloc _))).mono ?_;rintro e w1⟨rfl,v1,h1⟩;have hz:w.heap.size<w1.heap.size:=(by have:=h1.mod.size;simp at this;omega)))
 have H1:Hid _:=h1;clear h1 ha;go_loopw [12] (fun x wr=>∃(f:Nat) (r:PR) (vr:Value),x=.int .i64 r.next/\(a i ns).ok=r.ok/\Q3t s f r=R/\Q8t s i ns.length r/\(s.size:Int)+5<=f+r.next+(if r.ok then 0 else s.size+20) /\
   wr.heap[w.heap.size]? = some (Q52 0 0)/\wr.heap[w1.heap.size]? = some (Q52 r.st r.en)/\Q1g w wr bb v vr r.ns/\¬Q9c bb vr w.heap.size/\¬Q9c bb vr w1.heap.size)
   (fun x _=>3000-(intOf x).toNat)
 case atStart =>
  refine⟨s.size+5,a i ns,v1,rfl,rfl,HR.out,G0.out,by have:=G0.lo;split<;>omega,z0b (H1.mod.at (z0a _ _) (HN.out _ (by simp))),z0a _ _,(Q1g.ahead ((mRf _ w).alloc _) H1.out).alloc _,H1.nf (by simp) (HN.out _ (by simp)),?_⟩;exact H1.at'.not_foot (qR _)
 obtain⟨f,r,vr,rfl,j7,hR,hG,j2,j9,j6,hB,j3,j5⟩:=hrel;obtain⟨g1,g2,g3,g4⟩:=hG;have HB:Hid _:=hB;have j0:Hid _:=j9;have j4:Hid _:=j6;have k1:=Q0b j6;clear hB j9 j6;simp only[j7];have jb:Hid _:=j7;clear j7;cases hro:r.ok
 · -- no more
  have j8:r=R:=by
   rw[← hR];cases f with
   |zero=>rfl
   |succ f=>unfold Q3t;rw[qAa (by simp[hro])]
  have k2:=Q0b j0.out;have k3:=Q0f j0.out;have j1:Hid _:=j8;clear hR j2 g3 j8;go_wp2;refine qAc (z0i rfl _ _ w.heap.size 221 #[.int .i64 r.st,.int .i64 r.en] (0,0) _ rfl ?_ qBz rfl Q3l) rfl ⟨?_,vr,?_⟩
  ·rw[zhs (zhs j0.out 0 _) 1 _];rfl
  ·rw[← j1.out];simp[Q7a,Q79,hro]
  rw[← j1.out];exact(HB.put (p:=⟨w.heap.size,0,none⟩) (by simp) j3 _).put (p:=⟨w.heap.size,1,none⟩) (by simp) j3 _
 have jc:=g3 hro;obtain⟨f,rfl⟩:∃g,f=g+1:=⟨f-1,by rw[hro]at j2;simp at j2;omega⟩;unfold Q3t at hR;cases hmk:Q1t (atB s r.next)
 ·rw[qAa (by simp[hmk])]at hR;obtain⟨m1,m2,m3⟩:=x60 hmk;have k2:=Q0b j0.out;have k3:=Q0f j0.out;have j1:Hid _:=hR;clear hR j2 g3 hmk;go_wp2_with (first
   |(go_at_call 97;refine csm (z0x _ _ _ (by unfold maxLen;omega)) ?_))
  refine qAc (z0i rfl _ _ w.heap.size 221 #[.int .i64 r.st,.int .i64 r.en] (0,0) _ rfl ?_ qBz rfl Q3l) rfl ⟨?_,vr,?_⟩
  ·rw[zhs (zhs j0.out 0 _) 1 _];rfl
  ·rw[← j1.out];simp[Q7a,Q79,hro]
  rw[← j1.out];exact(HB.put (p:=⟨w.heap.size,0,none⟩) (by simp) j3 _).put (p:=⟨w.heap.size,1,none⟩) (by simp) j3 _
 rw[qAb (by simp[hmk,hro])]at hR;have jd:=z0r (s:=s) (i:=r.next) (by intro e;rw[e]at hmk;simp[Q1t]at hmk);have mc:=x0m hmk;have j1:Hid _:=hR;have ja:Hid _:=j2;clear hR j2 g3 hmk;rcases mc with m1|⟨m1,m2⟩|⟨m1,m2,m3⟩;all_goals
  go_wp2_with (first
   |(go_at_call 97;refine csm (z0x _ _ _ (by unfold maxLen;omega)) ?_)
   |(go_at_call 146;refine(x04 _ bb vr r.ns _ _ _ HB.at' (by omega)).mono ?_;rintro e w2⟨rfl,v2,h2⟩;have k2:=Q0b (h2.mod.at j4.out j5);have k3:=Q0f (h2.mod.at j4.out j5)))
  go_roundw
  case rel =>
   have q1:=z0j j4.out;have q0:=z0j j0.out;have n1:=h2.nf (k:=w1.heap.size) q1 j5;have n0:=h2.nf (k:=w.heap.size) q0 j3;refine⟨f,⟨r.ns.length,r.ns.length+1,r.next+1,true,Q17 r.ns r.st r.en (atB s r.next)⟩,v2,rfl,rfl,j1.out,⟨by dsimp only;omega,by dsimp only;omega,fun _=>by dsimp only;omega,by dsimp only;rw[z97];omega⟩,by have:=ja.out;simp[hro]at this;simp;omega,?_,?_,?_,n0,n1⟩
   ·exact z0h (z0h (h2.mod.at j0.out j3) (by simp;omega)) (by simp;omega)
   ·rw[zhs (zhs (h2.mod.at j4.out j5) 0 _) 1 _];rfl
   exact((HB.trans h2).put (p:=⟨w1.heap.size,0,none⟩) (by simp;omega) n1 _).put (p:=⟨w1.heap.size,1,none⟩) (by simp;omega) n1 _
  simp[intOf];omega
theorem hid{p:Prop}(h:p):Hid p:=h
def okOf:Value->Nat | .bool true=>1|_=>0
theorem y23(s:ByteArray)(d:Int)(p:Int->List Q0q->PR)(hs:s.size<=1000)(hd0:0<=d)(hd1:d<=100)(hg:Q5w s p)(hp:Con 139 s d p) :
  Con 135 s d (Q6n p s):=by
 intro i ns w bb v h0 h1 hn h;have H:Hid _:=h;have hN:=fun k (hk:w.heap.size<=k)=>h.not_foot hk;have HN:Hid _:=hN;have G0:Hid _:=hg i ns h0 h1;have HG:Hid _:=hg;have HP:Hid _:=hp;clear h hN hg hp;generalize hR:Q6n p s i ns=R;have HR:Hid (Q2o p s (s.size+5) (p i ns)=R):=hR;clear hR;go_enter Tryz.func135,Tryz.ntmps135
 go_wp2_with (first
  |(go_at_call 139;refine(HP.out i ns _ bb v (by omega) (by omega) hn (H.fresh ((mRf _ w).alloc _))).mono ?_;rintro e w1⟨rfl,v1,h1⟩;have hz:w.heap.size<w1.heap.size:=(by have:=h1.mod.size;simp at this;omega)))
 have H1:Hid _:=h1;clear h1;go_loopw [12,13] (fun x y wr=>∃(f:Nat) (r:PR) (vr:Value),x=.int .i64 r.next/\y=.bool r.ok/\Q2o p s f r=R/\Q8t s i ns.length r/\(s.size:Int)+5<=f+r.next+(if r.ok then 0 else s.size+20) /\
   wr.heap[w.heap.size]? = some (Q52 0 0)/\wr.heap[w1.heap.size]? = some (Q52 r.st r.en)/\Q1g w wr bb v vr r.ns/\¬Q9c bb vr w.heap.size/\¬Q9c bb vr w1.heap.size)
   (fun x y _=>okOf y*(4000-(intOf x).toNat))
 case atStart =>
  refine⟨s.size+5,p i ns,v1,rfl,rfl,HR.out,G0.out,by have:=G0.lo;split<;>omega,z0b (H1.mod.at (z0a _ _) (HN.out _ (by simp))),z0a _ _,(Q1g.ahead ((mRf _ w).alloc _) H1.out).alloc _,H1.nf (by simp) (HN.out _ (by simp)),?_⟩;exact H1.at'.not_foot (qR _)
 obtain⟨f,r,vr,rfl,rfl,hR,hG,j6,jb,j8,hB,j2,j3⟩:=hrel;have g1:=hG.lo;have g2:=hG.hi;have g3:=hG.good;have g4:=hG.cnt;have jd:Hid _:=hG;have HB:Hid _:=hB;have j0:Hid _:=jb;have j4:Hid _:=j8;have k1:=Q0b j8;clear hB jb j8 hG;cases hro:r.ok
 ·have ja:r=R:=by
   rw[← hR];cases f with
   |zero=>rfl
   |succ f=>unfold Q2o;rw[qAa (by simp[hro])]
  have k2:=Q0b j0.out;have k3:=Q0f j0.out;have j1:Hid _:=ja;clear hR j6 g3 ja;go_wp2;refine qAc (z0i rfl _ _ w.heap.size 221 #[.int .i64 r.st,.int .i64 r.en] (0,0) _ rfl ?_ qBz rfl Q3l) rfl ⟨?_,vr,?_⟩
  ·rw[zhs (zhs j0.out 0 _) 1 _];rfl
  ·rw[← j1.out];simp[Q7a,Q79,hro]
  rw[← j1.out];exact(HB.put (p:=⟨w.heap.size,0,none⟩) (by simp) j2 _).put (p:=⟨w.heap.size,1,none⟩) (by simp) j2 _
 have jg:=g3 hro;obtain⟨f,rfl⟩:∃g,f=g+1:=⟨f-1,by rw[hro]at j6;simp at j6;omega⟩;unfold Q2o at hR;cases hmk:Q2v s r.next
 ·rw[qAa (by simp[hmk])]at hR;have k2:=Q0b j0.out;have k3:=Q0f j0.out;have j1:Hid _:=hR;clear hR j6 g3;go_wp2_with (first
   |(go_at_call 140;refine(z62 _ _ _ (by omega)).mono ?_;rintro e w'⟨rfl,hw⟩;rw[hw,hmk];clear hw))
  refine qAc (z0i rfl _ _ w.heap.size 221 #[.int .i64 r.st,.int .i64 r.en] (0,0) _ rfl ?_ qBz rfl Q3l) rfl ⟨?_,vr,?_⟩
  ·rw[zhs (zhs j0.out 0 _) 1 _];rfl
  ·rw[← j1.out];simp[Q7a,Q79,hro]
  rw[← j1.out];exact(HB.put (p:=⟨w.heap.size,0,none⟩) (by simp) j2 _).put (p:=⟨w.heap.size,1,none⟩) (by simp) j2 _
 rw[qAb (by simp[hmk,hro])]at hR;have j5:Hid _:=HG.out r.next r.ns (by omega) (by omega);have HJ:Hid _:=y1c h0 jd.out hro j5.out;have p1:=j5.lo;have p2:=j5.hi;have p3:=j5.good;have p4:=j5.cnt;have j1:Hid _:=hR;have jc:Hid _:=j6;clear hR j6 g3;have q1:=z0j j4.out;have q0:=z0j j0.out;generalize hpp:p r.next r.ns=pp at j5 HJ p1 p2 p3 p4 j1;have je:Hid _:=hpp;clear hpp;have HC:=HP.out r.next r.ns wr bb vr (by omega) (by omega) (by omega) HB.at';rw[je.out]at HC;simp only[Q7a]at HC;cases hpo:pp.ok
 ·rw[hpo]at HC;have j7:=hid HC;clear p3 HC;go_wp2_with (first
   |(go_at_call 140;refine(z62 _ _ _ (by omega)).mono ?_;rintro e w'⟨rfl,hw⟩;rw[hw,hmk];clear hw)
   |(go_at_call 139;refine j7.mono ?_;rintro e w2⟨rfl,v2,h2⟩))
  go_roundw
  case rel =>
   have n1:=h2.nf (k:=w1.heap.size) q1 j3;have n0:=h2.nf (k:=w.heap.size) q0 j2;have ej:Q7m r pp=⟨r.st,r.en,pp.next,false,pp.ns⟩:=by unfold Q7m;rw[qAa (by simp[hpo])]
   refine⟨f,Q7m r pp,v2,by rw[ej],by rw[ej],j1.out,HJ.out,by rw[ej];simp;omega,?_,?_,?_,n0,n1⟩
   ·exact z0b (h2.mod.at j0.out j2)
   ·rw[ej];exact z0b (h2.mod.at j4.out j3)
   rw[ej];exact(HB.trans h2).alloc _
  simp[intOf,okOf];omega
 rw[hpo]at HC;have j7:=hid HC;have p5:=p3 hpo;clear p3 HC;go_wp2_with (first
  |(go_at_call 140;refine(z62 _ _ _ (by omega)).mono ?_;rintro e w'⟨rfl,hw⟩;rw[hw,hmk];clear hw)
  |(go_at_call 139;refine j7.mono ?_;rintro e w2⟨rfl,v2,h2⟩;have k2:=Q0b (h2.mod.at j4.out j3);have ji:w1.heap.size<w2.heap.size:=(by have:=h2.mod.size;omega))
  |(go_at_call 141;refine(x6s _ bb v2 pp.ns _ _ _ _ (h2.at'.fresh ((mRf _ _).alloc _)) (by omega)).mono ?_;rintro e w3⟨rfl,v3,h3⟩;have n1:=h2.nf (k:=w1.heap.size) q1 j3;have k5:=Q0b (h3.mod.at (z0b (h2.mod.at j4.out j3)) n1);have k6:=Q0f (h3.mod.at (z0b (h2.mod.at j4.out j3)) n1)))
 go_roundw
 case rel =>
  have n0:=h2.nf (k:=w.heap.size) q0 j2;have jh:w.heap.size<w2.heap.size:=(by have:=h2.mod.size;omega);have j9:=h3.nf (k:=w1.heap.size) (by simp;omega) n1;have jf:=h3.nf (k:=w.heap.size) (by simp;omega) n0;have ej:Q7m r pp=⟨r.st,pp.en,pp.next,true,Q1h pp.ns r.en pp.st⟩:=by unfold Q7m;rw[qAb (by simp[hpo])]
  refine⟨f,Q7m r pp,v3,by rw[ej],by rw[ej],j1.out,HJ.out,by have:=jc.out;rw[ej];simp[hro]at this;simp;omega,?_,?_,?_,jf,j9⟩
  ·exact z0h (z0h (h3.mod.at (z0b (h2.mod.at j0.out j2)) n0) (by simp;omega)) (by simp;omega)
  ·rw[ej,zhs (zhs (h3.mod.at (z0b (h2.mod.at j4.out j3)) n1) 0 _) 1 _];rfl
  rw[ej];exact(((HB.trans h2).alloc _).trans h3 |>.put (p:=⟨w1.heap.size,0,none⟩) (by simp;omega) j9 _).put (p:=⟨w1.heap.size,1,none⟩) (by simp;omega) j9 _
 simp[intOf,okOf];omega
theorem y24(s:ByteArray)(d:Int)(p:Int->List Q0q->PR)(hs:s.size<=1000)(hd0:0<=d)(hd1:d<=100)(hg:Q5w s p)(hp:Con 135 s d p) :
  Con 128 s d (Q6o p s):=by
 intro i ns w bb v h0 h1 hn h;have H:Hid _:=h;have hN:=fun k (hk:w.heap.size<=k)=>h.not_foot hk;have HN:Hid _:=hN;have G0:Hid _:=hg i ns h0 h1;have HG:Hid _:=hg;have HP:Hid _:=hp;clear h hN hg hp;generalize hR:Q6o p s i ns=R;have HR:Hid (Q2p p s (s.size+5) (p i ns)=R):=hR;clear hR;go_enter Tryz.func128,Tryz.ntmps128
 go_wp2_with (first
  |(go_at_call 135;refine(HP.out i ns _ bb v (by omega) (by omega) hn (H.fresh ((mRf _ w).alloc _))).mono ?_;rintro e w1⟨rfl,v1,h1⟩;have hz:w.heap.size<w1.heap.size:=(by have:=h1.mod.size;simp at this;omega)))
 have H1:Hid _:=h1;clear h1;go_loopw [12,13] (fun x y wr=>∃(f:Nat) (r:PR) (vr:Value),x=.int .i64 r.next/\y=.bool r.ok/\Q2p p s f r=R/\Q8t s i ns.length r/\(s.size:Int)+5<=f+r.next+(if r.ok then 0 else s.size+20) /\
   wr.heap[w.heap.size]? = some (Q52 0 0)/\wr.heap[w1.heap.size]? = some (Q52 r.st r.en)/\Q1g w wr bb v vr r.ns/\¬Q9c bb vr w.heap.size/\¬Q9c bb vr w1.heap.size)
   (fun x y _=>okOf y*(4000-(intOf x).toNat))
 case atStart =>
  refine⟨s.size+5,p i ns,v1,rfl,rfl,HR.out,G0.out,by have:=G0.lo;split<;>omega,z0b (H1.mod.at (z0a _ _) (HN.out _ (by simp))),z0a _ _,(Q1g.ahead ((mRf _ w).alloc _) H1.out).alloc _,H1.nf (by simp) (HN.out _ (by simp)),?_⟩;exact H1.at'.not_foot (qR _)
 obtain⟨f,r,vr,rfl,rfl,hR,hG,j6,jc,j9,hB,j2,j3⟩:=hrel;have g1:=hG.lo;have g2:=hG.hi;have g3:=hG.good;have g4:=hG.cnt;have jf:Hid _:=hG;have HB:Hid _:=hB;have j0:Hid _:=jc;have j4:Hid _:=j9;have k1:=Q0b j9;clear hB jc j9 hG;cases hro:r.ok
 ·have jb:r=R:=by
   rw[← hR];cases f with
   |zero=>rfl
   |succ f=>unfold Q2p;rw[qAa (by simp[hro])]
  have k2:=Q0b j0.out;have k3:=Q0f j0.out;have j1:Hid _:=jb;clear hR j6 g3 jb;go_wp2;refine qAc (z0i rfl _ _ w.heap.size 221 #[.int .i64 r.st,.int .i64 r.en] (0,0) _ rfl ?_ qBz rfl Q3l) rfl ⟨?_,vr,?_⟩
  ·rw[zhs (zhs j0.out 0 _) 1 _];rfl
  ·rw[← j1.out];simp[Q7a,Q79,hro]
  rw[← j1.out];exact(HB.put (p:=⟨w.heap.size,0,none⟩) (by simp) j2 _).put (p:=⟨w.heap.size,1,none⟩) (by simp) j2 _
 have ji:=g3 hro;obtain⟨f,rfl⟩:∃g,f=g+1:=⟨f-1,by rw[hro]at j6;simp at j6;omega⟩;unfold Q2p at hR;cases hmk:(atB s r.next==124)
 ·rw[qAa (by simp[hmk])]at hR;have k2:=Q0b j0.out;have k3:=Q0f j0.out;have j1:Hid _:=hR;clear hR j6 g3;go_wp2_with (first
   |(go_at_call 97;refine csm (z0x _ _ _ (by unfold maxLen;omega)) ?_))
  refine qAc (z0i rfl _ _ w.heap.size 221 #[.int .i64 r.st,.int .i64 r.en] (0,0) _ rfl ?_ qBz rfl Q3l) rfl ⟨?_,vr,?_⟩
  ·rw[zhs (zhs j0.out 0 _) 1 _];rfl
  ·rw[← j1.out];simp[Q7a,Q79,hro]
  rw[← j1.out];exact(HB.put (p:=⟨w.heap.size,0,none⟩) (by simp) j2 _).put (p:=⟨w.heap.size,1,none⟩) (by simp) j2 _
 rw[qAb (by simp[hmk,hro])]at hR;have j7:atB s r.next=124:=by simpa using hmk
 have jj:=z0r (s:=s) (i:=r.next) (by omega);have jd:=hid j7;clear j7;have j5:Hid _:=HG.out (r.next+1) r.ns (by omega) (by omega);have HJ:Hid _:=z7v h0 jf.out hro j5.out;have p1:=j5.lo;have p2:=j5.hi;have p3:=j5.good;have p4:=j5.cnt;have j1:Hid _:=hR;have je:Hid _:=j6;clear hR j6 g3;have q1:=z0j j4.out;have q0:=z0j j0.out;generalize hpp:p (r.next+1) r.ns=pp at j5 HJ p1 p2 p3 p4 j1;have jg:Hid _:=hpp;clear hpp;have HC:=HP.out (r.next+1) r.ns wr bb vr (by omega) (by omega) (by omega) HB.at';rw[jg.out]at HC;simp only[Q7a]at HC;cases hpo:pp.ok
 ·rw[hpo]at HC;have j8:=hid HC;clear p3 HC;go_wp2_with (first
   |(go_at_call 97;refine csm (z0x _ _ _ (by unfold maxLen;omega)) ?_)
   |(go_at_call 135;refine j8.mono ?_;rintro e w2⟨rfl,v2,h2⟩))
  go_roundw
  case rel =>
   have n1:=h2.nf (k:=w1.heap.size) q1 j3;have n0:=h2.nf (k:=w.heap.size) q0 j2;have ej:Q38 r pp=⟨r.st,r.en,pp.next,false,pp.ns⟩:=by unfold Q38;rw[qAa (by simp[hpo])]
   refine⟨f,Q38 r pp,v2,by rw[ej],by rw[ej],j1.out,HJ.out,by rw[ej];simp;omega,?_,?_,?_,n0,n1⟩
   ·exact z0b (h2.mod.at j0.out j2)
   ·rw[ej];exact z0b (h2.mod.at j4.out j3)
   rw[ej];exact(HB.trans h2).alloc _
  simp[intOf,okOf];omega
 rw[hpo]at HC;have j8:=hid HC;have p5:=p3 hpo;clear p3 HC;go_wp2_with (first
  |(go_at_call 97;refine csm (z0x _ _ _ (by unfold maxLen;omega)) ?_)
  |(go_at_call 135;refine j8.mono ?_;rintro e w2⟨rfl,v2,h2⟩;have k2:=Q0b (h2.mod.at j4.out j3);have jl:w1.heap.size<w2.heap.size:=(by have:=h2.mod.size;omega))
  |(go_at_call 136;refine(x0e _ bb v2 pp.ns _ _ _ _ (h2.at'.fresh ((mRf _ _).alloc _)) (by omega)).mono ?_;rintro e w3⟨rfl,v3,h3⟩;have n1:=h2.nf (k:=w1.heap.size) q1 j3;have k5:=Q0b (h3.mod.at (z0b (h2.mod.at j4.out j3)) n1);have k6:=Q0f (h3.mod.at (z0b (h2.mod.at j4.out j3)) n1)))
 go_roundw
 case rel =>
  have n0:=h2.nf (k:=w.heap.size) q0 j2;have jk:w.heap.size<w2.heap.size:=(by have:=h2.mod.size;omega);have ja:=h3.nf (k:=w1.heap.size) (by simp;omega) n1;have jh:=h3.nf (k:=w.heap.size) (by simp;omega) n0;have ej:Q38 r pp=⟨pp.ns.length,pp.ns.length+1,pp.next,true,Q37 pp.ns r.st r.en pp.st pp.en⟩:=by unfold Q38;rw[qAb (by simp[hpo])]
  refine⟨f,Q38 r pp,v3,by rw[ej],by rw[ej],j1.out,HJ.out,by have:=je.out;rw[ej];simp[hro]at this;simp;omega,?_,?_,?_,jh,ja⟩
  ·exact z0h (z0h (h3.mod.at (z0b (h2.mod.at j0.out j2)) n0) (by simp;omega)) (by simp;omega)
  ·rw[ej,zhs (zhs (h3.mod.at (z0b (h2.mod.at j4.out j3)) n1) 0 _) 1 _];rfl
  rw[ej];exact(((HB.trans h2).alloc _).trans h3 |>.put (p:=⟨w1.heap.size,0,none⟩) (by simp;omega) ja _).put (p:=⟨w1.heap.size,1,none⟩) (by simp;omega) ja _
 simp[intOf,okOf];omega
theorem y0y(s:ByteArray)(d:Int)(hd:6<=d)(hd1:d<=100):ConG 148 s d (gK s 0):=by
 intro i ns w bb v h0 h1 hn h;have H:=hid h;have HN:=hid (fun k (hk:w.heap.size<=k)=>h.not_foot hk);have e1:gK s 0 i ns=⟨0,0,i,false,ns⟩:=rfl;rw[e1];clear h e1;go_enter Tryz.func148,Tryz.ntmps148
 go_wp2;refine qAc (z0i rfl _ _ w.heap.size 221 #[.int .i64 0,.int .i64 0] (0,0) _ rfl (z0a _ _) qBz rfl Q3l) rfl ⟨rfl,v,?_⟩;have m1:Q0a w (w.alloc (Q52 0 0)):=(mRf _ w).alloc _;exact Q1g.ahead m1 (Q1g.refl (H.fresh m1))
theorem y5j(s:ByteArray)(d:Int)(c:Int->List Q0q->PR)(hs:s.size<=1000)(hd0:0<=d)(hd:d<6)(hg:Q5w s c)(hc:Con 128 s (d+1) c) :
  ConG 148 s d (Q53 c s):=by
 intro i ns w bb v h0 h1 hn h;have H:=hid h;have HN:=hid (fun k (hk:w.heap.size<=k)=>h.not_foot hk);have j2:=hg (i+1) ns (by omega) (by omega);have HC:=hc (i+1) ns (w.alloc (Q52 0 0)) bb v (by omega) (by omega) (by omega) (h.fresh ((mRf _ w).alloc _));generalize hR:Q53 c s i ns=R;unfold Q53 at hR;generalize hpp:c (i+1) ns=pp at HC j2 hR;simp only[Q7a]at HC;obtain⟨g1,g2,g3,g4⟩:=j2;clear h hg hc hpp;cases hpo:pp.ok
 ·rw[hpo]at HC;have j1:=hid HC;rw[qAb hpo]at hR;have HR:=hid hR;clear HC g3 hR;go_enter Tryz.func148,Tryz.ntmps148
  go_wp2_with (first
   |(go_at_call 128;refine j1.mono ?_;rintro e w1⟨rfl,v1,h1⟩;have hz:w.heap.size<w1.heap.size:=(by have:=h1.mod.size;simp at this;omega);have k3:=h1.loc (z0a _ _) (HN.out _ (by omega));have k4:=Q0f (h1.mod.at (z0a _ _) (HN.out _ (by omega)))))
  have hf:=h1.nf (k:=w.heap.size) (by simp) (HN.out _ (by omega));refine qAc (z0i rfl _ _ w.heap.size 221 #[.int .i64 0,.int .i64 0] (0,0) _ rfl ?_ qBz rfl Q3l) rfl ⟨by have:=HR.out;subst this;rfl,v1,?_⟩
  ·refine z0b ?_;rw[zhs (zhs (h1.mod.at (z0a _ _) (HN.out _ (by omega))) 0 _) 1 _];rfl
  rw[← HR.out];exact(((Q1g.ahead ((mRf _ w).alloc _) h1).put (p:=⟨w.heap.size,0,none⟩) (by simp) hf _).put (p:=⟨w.heap.size,1,none⟩) (by simp) hf _).alloc _
 rw[hpo]at HC;have j1:=hid HC;have g5:=g3 hpo;rw[qAa (by simp[hpo])]at hR;by_cases j0:atB s pp.next=41
 ·rw[qAa (by simp[j0])]at hR;have HR:=hid hR;have c1:(atB s pp.next != 41)=false:=by simp[j0]
  clear HC g3 hR j0;go_enter Tryz.func148,Tryz.ntmps148
  go_wp2_with (first
   |(go_at_call 97;refine csm (z0x _ _ _ (by unfold maxLen;omega)) ?_)
   |(go_at_call 128;refine j1.mono ?_;rintro e w1⟨rfl,v1,h1⟩;have hz:w.heap.size<w1.heap.size:=(by have:=h1.mod.size;simp at this;omega);have k3:=h1.loc (z0a _ _) (HN.out _ (by omega));have k4:=Q0f (h1.mod.at (z0a _ _) (HN.out _ (by omega)))))
  have hf:=h1.nf (k:=w.heap.size) (by simp) (HN.out _ (by omega));refine qAc (z0i rfl _ _ w.heap.size 221 #[.int .i64 pp.st,.int .i64 pp.en] (0,0) _ rfl ?_ qBz rfl Q3l) rfl ⟨by have:=HR.out;subst this;rfl,v1,?_⟩
  ·refine z0b ?_;rw[zhs (zhs (h1.mod.at (z0a _ _) (HN.out _ (by omega))) 0 _) 1 _];rfl
  rw[← HR.out];exact(((Q1g.ahead ((mRf _ w).alloc _) h1).put (p:=⟨w.heap.size,0,none⟩) (by simp) hf _).put (p:=⟨w.heap.size,1,none⟩) (by simp) hf _).alloc _
 rw[qAb j0]at hR;have HR:=hid hR;have c1:(atB s pp.next != 41)=true:=by simpa using j0
 clear HC g3 hR j0;go_enter Tryz.func148,Tryz.ntmps148
 go_wp2_with (first
  |(go_at_call 97;refine csm (z0x _ _ _ (by unfold maxLen;omega)) ?_)
  |(go_at_call 128;refine j1.mono ?_;rintro e w1⟨rfl,v1,h1⟩;have hz:w.heap.size<w1.heap.size:=(by have:=h1.mod.size;simp at this;omega);have k3:=h1.loc (z0a _ _) (HN.out _ (by omega));have k4:=Q0f (h1.mod.at (z0a _ _) (HN.out _ (by omega)))))
 have hf:=h1.nf (k:=w.heap.size) (by simp) (HN.out _ (by omega));refine qAc (z0i rfl _ _ w.heap.size 221 #[.int .i64 0,.int .i64 0] (0,0) _ rfl ?_ qBz rfl Q3l) rfl ⟨by have:=HR.out;subst this;rfl,v1,?_⟩
 ·refine z0b ?_;rw[zhs (zhs (h1.mod.at (z0a _ _) (HN.out _ (by omega))) 0 _) 1 _];rfl
 rw[← HR.out];exact(((Q1g.ahead ((mRf _ w).alloc _) h1).put (p:=⟨w.heap.size,0,none⟩) (by simp) hf _).put (p:=⟨w.heap.size,1,none⟩) (by simp) hf _).alloc _
theorem x6e(s:ByteArray)(hs:s.size<=1000):∀(k:Nat),k<=6 ->
  ConG 148 s (6-(k:Int)) (gK s k)/\Con 128 s (6-(k:Int)) (chK s k):=by
 have step:∀k:Nat,k<=6->ConG 148 s (6-(k:Int)) (gK s k)->Con 128 s (6-(k:Int)) (chK s k):=by
  intro k hk h;have ga:=z3n (z66 s k);have gp:=z38 ga;have gb:=z4m gp;have a:=y7i s (6-(k:Int)) (gK s k) hs (by omega) (by omega) h;have p:=y5l s (6-(k:Int)) _ hs (by omega) (by omega) ga a;have b:=y23 s (6-(k:Int)) _ hs (by omega) (by omega) gp p;exact y24 s (6-(k:Int)) _ hs (by omega) (by omega) gb b
 intro k;induction k with
 |zero =>
  intro _;have g:=y0y s (6-((0:Nat):Int)) (by simp) (by simp);exact⟨g,step 0 (by omega) g⟩
 |succ k ih =>
  intro hk;have h:=(ih (by omega)).2;have e:(6:Int)-((k+1:Nat):Int)+1=6-(k:Int):=by omega
  have g:ConG 148 s (6-((k+1:Nat):Int)) (gK s (k+1)) :=
   y5j s (6-((k+1:Nat):Int)) (chK s k) hs (by omega) (by omega) (z5k s k) (by rw[e];exact h)
  exact⟨g,step (k+1) hk g⟩
theorem z5t(s:ByteArray)(hs:s.size<=1000):Con 128 s 0 (chK s 6):=by
 have:=(x6e s hs 6 (qR _)).2;simpa using this
structure Q15(w:World)(v:Value)(ns:List Q0q):Prop where
 own:w.ownsRow 0 216 7 v ns.length (Q4v ns)
 wf:Nwf ns
theorem Q15.kept{S:Nat->Prop}{w w':World}{v:Value}{ns:List Q0q}(h:Q15 w v ns)(hm:Mod S w w')(hs:∀k,v.ownBlock=some k->¬S k):Q15 w' v ns :=
 ⟨z0d h.own (fun g hg=>hm.block g (h.own.lt g hg).2 (hs g hg)),h.wf⟩
theorem szPat:(Tryz.prog.info? 79).map (·.size)=some 3:=by kernel_rfl
abbrev patV(v:Value)(a b:Int):Value:=.agg #[v,.int .i64 a,.int .i64 b]
def Q1r(s:ByteArray)(i:Int):PR:=chK s 6 i []
theorem x1s(W:World):BAt (W.alloc (.cells #[.slice none 0 0] 219 (0,0))) W.heap.size (.slice none 0 0) [] :=
 ⟨z0a _ _,qAh _ _ _ _,fun _ h=>by cases h⟩
theorem x6l{bb k:Nat}(h:Q9c bb (.slice none 0 0) k):k=bb:=by
 rcases h with h|h
 ·exact h
 simp[Value.ownBlock]at h
theorem y1b{w w1:World}{A B:Obj}{v1:Value}{ns:List Q0q}(h1:Q1g ((w.alloc A).alloc B) w1 (w.heap.size+1) (.slice none 0 0) v1 ns):Q0a w w1 :=
 Mod.trans' (T:=Q9c (w.heap.size+1) (.slice none 0 0)) (((mRf _ w).alloc _).alloc _) h1.mod (fun i hi hf=>by have:=x6l hf;omega)
theorem x7u(s:ByteArray)(i:Int)(w:World)(hs:s.size<=1000)(h0:0<=i)(h1:i<=s.size)(hok:(Q1r s i).ok=false) :
  Calls Tryz.prog 117 #[.string s,.int .i64 i] w fun e w'=>e=.returned (.tuple #[patV (.slice none 0 0) 0 0,.int .i64 (Q1r s i).next,.bool false])/\Q0a w w':=by
 have HC:=z5t s hs i [] ((w.alloc (.cells #[.slice none 0 0,.int .i64 0,.int .i64 0] 79 (0,0))).alloc (.cells #[.slice none 0 0] 219 (0,0))) (w.heap.size+1) (.slice none 0 0) h0 h1 (by simp;omega) (by simpa using x1s (w.alloc (.cells #[.slice none 0 0,.int .i64 0,.int .i64 0] 79 (0,0))));have hG:=z5k s 6 i [] h0 h1;unfold Q1r at hok ⊢;generalize hpp:chK s 6 i []=pp at HC hG hok ⊢;simp only[Q7a]at HC;obtain⟨g1,g2,g3,g4⟩:=hG;rw[hok]at HC;have j0:=hid HC;clear HC hpp g3 hok;go_enter Tryz.func117,Tryz.ntmps117
 go_wp2_with (first
  |(go_at_call 128;refine j0.mono ?_;rintro e w1⟨rfl,v1,h1⟩;have hz:w.heap.size<w1.heap.size:=(by have:=h1.mod.size;simp at this;omega);have hb:=h1.mod.at (qBg _ _ _) (by rintro(h|h)<;>simp[Value.ownBlock]at h);have k3:=Q0b hb;have k4:=Q0f hb))
 refine qAc (z0i rfl _ _ w.heap.size 79 #[.slice none 0 0,.int .i64 0,.int .i64 0] (0,0) _ rfl ?_ Tryz.underlying79 rfl szPat) rfl ⟨rfl,?_⟩
 ·refine z0b ?_;rw[zhs (zhs (zhs hb 0 _) 1 _) 2 _];rfl
 exact((((y1b h1).setCell (by simp) _).setCell (by simp) _).setCell (by simp) _).alloc _
theorem x4w(s:ByteArray)(i:Int)(w:World)(hs:s.size<=1000)(h0:0<=i)(h1:i<=s.size)(hok:(Q1r s i).ok=true) :
  Calls Tryz.prog 117 #[.string s,.int .i64 i] w fun e w'=>∃v,e=.returned (.tuple #[patV v (Q1r s i).st (Q1r s i).en,.int .i64 (Q1r s i).next,.bool true])/\Q0a w w'/\Q15 w' v (Q1r s i).ns/\∀k,v.ownBlock=some k->w.heap.size<=k:=by
 have HC:=z5t s hs i [] ((w.alloc (.cells #[.slice none 0 0,.int .i64 0,.int .i64 0] 79 (0,0))).alloc (.cells #[.slice none 0 0] 219 (0,0))) (w.heap.size+1) (.slice none 0 0) h0 h1 (by simp;omega) (by simpa using x1s (w.alloc (.cells #[.slice none 0 0,.int .i64 0,.int .i64 0] 79 (0,0))));have hG:=z5k s 6 i [] h0 h1;unfold Q1r at hok ⊢;generalize hpp:chK s 6 i []=pp at HC hG hok ⊢;simp only[Q7a]at HC;obtain⟨g1,g2,g3,g4⟩:=hG;rw[hok]at HC;have j0:=hid HC;clear HC hpp g3 hok;go_enter Tryz.func117,Tryz.ntmps117
 go_wp2_with (first
  |(go_at_call 128;refine j0.mono ?_;rintro e w1⟨rfl,v1,h1⟩;have hz:w.heap.size<w1.heap.size:=(by have:=h1.mod.size;simp at this;omega);have hb:=h1.mod.at (qBg _ _ _) (by rintro(h|h)<;>simp[Value.ownBlock]at h)))
 obtain⟨ao,cap,hv⟩:=z0c h1.at'.own;have HB:=hid hb;have H1:=hid h1;have k1:=Q0b h1.at'.blk;have j1:w.heap.size+1<w1.heap.size:=by have:=h1.mod.size;simp at this;omega
 have k3:=Q0b hb;have k4:=Q0f hb;subst hv;clear hb h1;go_region;all_goals
  go_wp2;refine qAc (z0i rfl _ _ w.heap.size 79 #[.slice ao pp.ns.length cap,.int .i64 pp.st,.int .i64 pp.en] (0,0) _ rfl ?_ Tryz.underlying79 rfl szPat) rfl ⟨.slice ao pp.ns.length cap,rfl,?_,?_,?_⟩
  ·have q:=zhs (zhs (zhs HB.out 0 (.slice ao pp.ns.length cap)) 1 (.int .i64 pp.st)) 2 (.int .i64 pp.en);exact z0b q
  ·exact(((((y1b H1.out).setCell (by simp) _).setCell (by simp) _).setCell (by simp) _).alloc _).drew
  ·have n1:Q15 w1 (.slice ao pp.ns.length cap) pp.ns:=⟨z0g H1.at'.own (qBq _),H1.at'.wf⟩;refine n1.kept (S:=fun k=>k=w.heap.size) ?_ (fun k hk e=>by have:=H1.at'.own_lt k hk;omega);exact((((Mod.setCell (S:=fun k=>k=w.heap.size) (Mod.setCell (S:=fun k=>k=w.heap.size) (Mod.setCell (S:=fun k=>k=w.heap.size) (mRf _ w1) (p:=⟨w.heap.size,0,none⟩) (fun _=>rfl) _) (p:=⟨w.heap.size,1,none⟩) (fun _=>rfl) _) (p:=⟨w.heap.size,2,none⟩) (fun _=>rfl) _)).alloc _)).drew
  intro k hk;have:=H1.at'.own_lt k hk;omega
def i64s(ls:List Int):Array Value:=(ls.map (Value.int .i64)).toArray
def Q35(n:Nat)(l:List Nat):Array Value:=((List.range n).map fun j=>Value.bool (decide (j∈l))).toArray
theorem x29(ls:List Int)(i:Nat)(h:i<ls.length):(i64s ls)[i]? = some (.int .i64 (ls.getD i 0)):=by simp[i64s,h]
theorem y04(n:Nat)(l:List Nat)(i:Nat)(h:i<n):(Q35 n l)[i]? = some (.bool (decide (i∈l))):=by simp[Q35,h]
structure Q41(w:World)(cb lb ib n:Nat)(l:List Nat):Prop where
 nodup:l.Nodup
 lt:∀x∈l,x<n
 blk:w.heap[cb]? = some (.cells #[.slice (some ⟨lb,0,none⟩) n n,.int .i64 l.length,.slice (some ⟨ib,0,none⟩) n n] 196 (0,0))
 lst:∃ls:List Int,ls.length=n/\ls.take l.length=l.map Int.ofNat/\w.heap[lb]? = some (.cells (i64s ls) 3 (0,0))
 ins:w.heap[ib]? = some (.cells (Q35 n l) 4 (0,0))
 d1:cb≠lb
 d2:cb≠ib
 d3:lb≠ib
def Q12(cb lb ib k:Nat):Prop:=k=cb∨k=lb∨k=ib
theorem Q41.kept{S:Nat->Prop}{w w':World}{cb lb ib n:Nat}{l:List Nat}(h:Q41 w cb lb ib n l)(hm:Mod S w w')(hs:∀k,Q12 cb lb ib k->¬S k):Q41 w' cb lb ib n l:=by
 obtain⟨ls,h1,h2,h3⟩:=h.lst;exact⟨h.nodup,h.lt,hm.at h.blk (hs cb (.inl rfl)),⟨ls,h1,h2,hm.at h3 (hs lb (.inr (.inl rfl)))⟩,hm.at h.ins (hs ib (.inr (.inr rfl))),h.d1,h.d2,h.d3⟩
theorem Q41.foot_lt{w:World}{cb lb ib n:Nat}{l:List Nat}(h:Q41 w cb lb ib n l){k:Nat}(hk:Q12 cb lb ib k):k<w.heap.size:=by
 obtain⟨ls,h1,h2,h3⟩:=h.lst;rcases hk with rfl|rfl|rfl
 ·exact z0j h.blk
 ·exact z0j h3
 exact z0j h.ins
theorem z4d{n:Nat}:∀{l:List Nat},l.Nodup->(∀x∈l,x<n)->l.length<=n:=by
 induction n with
 |zero =>
  intro l hd hl;cases l with
  |nil=>simp
  |cons a l=>have:=hl a (by simp);omega
 |succ n ih =>
  intro l hd hl;by_cases hm:n∈l
  ·have h1:=ih (hd.erase n) (fun x hx=>by
    have:=(hd.mem_erase_iff).1 hx;have:=hl x this.2;omega)
   rw[List.length_erase_of_mem hm]at h1;omega
  have:=ih hd (fun x hx=>by
   have h2:=hl x hx;have:x≠n:=fun e=>hm (e▸hx);omega)
  omega
theorem z7y{n m:Nat}{l:List Nat}(hd:l.Nodup)(hl:∀x∈l,x<n)(hm:m<n)(hn:m ∉ l):l.length<n:=by
 have:=z4d (n:=n) (l:=m::l) (List.nodup_cons.2 ⟨hn,hd⟩) (by
  intro x hx;rcases qBu.1 hx with rfl|hx
  ·exact hm
  exact hl x hx)
 simp at this;omega
def Q1f(n:Nat)(l:List Nat)(m:Int):List Nat:=if 0<=m/\m<n/\m.toNat ∉ l then l++[m.toNat] else l
theorem z29{n:Nat}{l:List Nat}(m:Int)(h:l.Nodup):(Q1f n l m).Nodup:=by
 unfold Q1f;split
 ·rename_i h1;rw[List.nodup_append];exact⟨h,by simp,by intro a ha b hb;simp at hb;subst hb;intro e;subst e;exact h1.2.2 ha⟩
 exact h
theorem z36{n:Nat}{l:List Nat}(m:Int)(h:∀x∈l,x<n):∀x∈Q1f n l m,x<n:=by
 unfold Q1f;split
 ·rename_i h1;intro x hx;rcases qBs.1 hx with hx|hx
  ·exact h x hx
  simp at hx;omega
 exact h
theorem y6n(n:Nat)(l:List Nat)(m:Nat):(Q35 n l).setIfInBounds m (.bool true)=Q35 n (l++[m]):=by
 unfold Q35;apply qEw;intro i;rw[qEx];by_cases h:m=i
 ·subst h;by_cases h2:m<n<;>simp[h2]
 rw[qAa h];by_cases h2:i<n
 ·have:¬i=m:=fun e=>h e.symm;simp[h2,this]
 simp[h2]
theorem y3h{ls:List Int}{l:List Nat}{m:Nat}(h:ls.take l.length=l.map Int.ofNat)(hlt:l.length<ls.length):(ls.set l.length (m:Int)).take (l++[m]).length=(l++[m]).map Int.ofNat:=by
 simp only[qP,qAj,qBp,qDb];rw[qCu,List.take_set_of_le (qR _),h];simp[hlt]
theorem x6o(ls:List Int)(i:Nat)(v:Int):(i64s ls).setIfInBounds i (.int .i64 v)=i64s (ls.set i v):=by simp[i64s,qFr]
theorem Q41.entered{w:World}{cb lb ib n:Nat}{l:List Nat}{m:Nat}(h:Q41 w cb lb ib n l)(hm:m<n)(hn:m ∉ l) :
  Q41 (((w.setCell ⟨ib,m,none⟩ (.bool true)).setCell ⟨lb,l.length,none⟩ (.int .i64 m)).setCell ⟨cb,1,none⟩ (.int .i64 (l.length+1))) cb lb ib n (l++[m]):=by
 obtain⟨ls,h1,h2,h3⟩:=h.lst;have hl:=z7y h.nodup h.lt hm hn;refine⟨?_,?_,?_,⟨ls.set l.length m,by simpa using h1,y3h h2 (by omega),?_⟩,?_,h.d1,h.d2,h.d3⟩
 ·have:=z29 (n:=n) m h.nodup;unfold Q1f at this;rw[qAb ⟨by omega,by omega,by simpa using hn⟩]at this;simpa using this
 ·have:=z36 (n:=n) m h.lt;unfold Q1f at this;rw[qAb ⟨by omega,by omega,by simpa using hn⟩]at this;simpa using this
 ·rw[zhs (z0h (z0h h.blk (by simpa using h.d2)) (by simpa using h.d1)) 1 _];simp
 ·refine z0h ?_ (by simpa using h.d1.symm);rw[zhs (z0h h3 (by simpa using h.d3)) _ _,x6o]
 refine z0h (z0h ?_ (by simpa using h.d3.symm)) (by simpa using h.d2.symm);rw[zhs h.ins _ _,y6n]
theorem z84{n:Nat}{l:List Nat}{m:Int}(h:¬(0<=m/\m<n/\m.toNat ∉ l)):Q1f n l m=l:=by unfold Q1f;rw[qAa h]
theorem x0f{n:Nat}{l:List Nat}{m:Nat}(h1:m<n)(h2:m ∉ l):Q1f n l m=l++[m]:=by
 unfold Q1f;rw[qAb ⟨by omega,by omega,by simpa using h2⟩];simp
abbrev Q8m(cb:Nat):Value:=.pointer (some ⟨cb,0,none⟩)
theorem Q41.facts{w:World}{cb lb ib n:Nat}{l:List Nat}(h:Q41 w cb lb ib n l) :
  (w.cell? ⟨cb,0,none⟩=some (.slice (some ⟨lb,0,none⟩) n n)/\w.cell? ⟨cb,1,none⟩=some (.int .i64 l.length)/\w.cell? ⟨cb,2,none⟩=some (.slice (some ⟨ib,0,none⟩) n n)) /\
  (∀j,j<n->w.cell? ⟨ib,j,none⟩=some (.bool (decide (j∈l)))) /\
  (∀j (hj:j<l.length),w.cell? ⟨lb,j,none⟩=some (.int .i64 l[j])) /\
  (∀j,j<n->∃x:Int,w.cell? ⟨lb,j,none⟩=some (.int .i64 x)) /\
  (∀o,w.frozen? ⟨cb,o,none⟩=false)/\(∀o,w.frozen? ⟨lb,o,none⟩=false)/\(∀o,w.frozen? ⟨ib,o,none⟩=false):=by
 obtain⟨ls,h1,h2,h3⟩:=h.lst;refine⟨⟨by rw[Q0b h.blk];rfl,by rw[Q0b h.blk];rfl,by rw[Q0b h.blk];rfl⟩,?_,?_,?_,Q0f h.blk,Q0f h3,Q0f h.ins⟩
 ·intro j hj;rw[Q0b h.ins,y04 _ _ _ hj]
 ·intro j hj;have hl:=z4d h.nodup h.lt;rw[Q0b h3,x29 _ _ (by omega)];have:(ls.take l.length)[j]? = (l.map Int.ofNat)[j]? := by rw[h2]
  rw[qDc hj]at this;simp[hj]at this;simp[this]
 intro j hj;exact⟨_,by rw[Q0b h3,x29 _ _ (by omega)]⟩
theorem Q41.of_heap{w w':World}{cb lb ib n:Nat}{l:List Nat}(h:Q41 w cb lb ib n l)(e:w'.heap=w.heap):Q41 w' cb lb ib n l:=by
 obtain⟨ls,h1,h2,h3⟩:=h.lst;exact⟨h.nodup,h.lt,by rw[e];exact h.blk,⟨ls,h1,h2,by rw[e];exact h3⟩,by rw[e];exact h.ins,h.d1,h.d2,h.d3⟩
theorem Mod.of_heap{S:Nat->Prop}{a w w':World}(h:Mod S a w)(e:w'.heap=w.heap)(e1:w'.os=w.os)(e2:w'.tape=w.tape)(e3:w'.output=w.output):Mod S a w' :=
 ⟨e1.trans h.os,e2.trans h.tape,e3.trans h.output,by rw[e];exact h.size,fun k hk hs=>by rw[e];exact h.block k hk hs⟩
theorem y41(w:World)(cb lb ib n:Nat)(l:List Nat)(i:Nat)(h:Q41 w cb lb ib n l)(hn:n<=100000)(hi:i<l.length) :
  Calls Tryz.prog 118 #[Q8m cb,.int .i64 i] w fun e w'=>e=.returned (.int .i64 l[i])/\w'=w:=by
 obtain⟨⟨f1,f2,f3⟩,_,f5,_⟩:=h.facts;have f6:=f5 i hi;have hl:=z4d h.nodup h.lt;clear f5 h;have j0:(i:Int)<n:=by omega
 go_enter Tryz.func118,Tryz.ntmps118
 go_wp2;go_ret;exact⟨rfl,rfl⟩
theorem y4n(w:World)(cb lb ib n:Nat)(l:List Nat)(m:Int)(h:Q41 w cb lb ib n l)(hn:n<=100000) :
  Calls Tryz.prog 95 #[Q8m cb,.int .i64 m] w fun e w'=>e=.returned (.bool (decide (0<=m/\m<n/\m.toNat∈l)))/\w'=w:=by
 obtain⟨⟨f1,f2,f3⟩,f4,_⟩:=h.facts;by_cases h0:0<=m
 ·by_cases h1:m<n
  ·obtain⟨k,rfl⟩:∃k:Nat,m=k:=⟨m.toNat,by omega⟩;have f6:=f4 k (by omega);clear f4 h;go_enter Tryz.func95,Tryz.ntmps95
   go_wp2;go_ret;exact⟨z0w (by simp;omega),rfl⟩
  clear f4 h;have h2:(n:Int)<=m:=by omega
  go_enter Tryz.func95,Tryz.ntmps95
  go_wp2;go_ret;exact⟨z0w (by simp;omega),rfl⟩
 clear f4 h;have h2:m<0:=by omega
 go_enter Tryz.func95,Tryz.ntmps95
 go_wp2;go_ret;exact⟨z0w (by simp;omega),rfl⟩
theorem x6g(w:World)(cb lb ib n:Nat)(l:List Nat)(m:Nat)(h:Q41 w cb lb ib n l)(hn:n<=100000)(hm:m<n)(hm2:m ∉ l) :
  Calls Tryz.prog 93 #[Q8m cb,.int .i64 m] w fun e w'=>e=.returned (.tuple #[])/\Q41 w' cb lb ib n (Q1f n l m)/\Mod (Q12 cb lb ib) w w':=by
 obtain⟨⟨f1,f2,f3⟩,f4,_,f5,z1,z2,z3⟩:=h.facts;have hl:=z7y h.nodup h.lt hm hm2;have f6:=f4 m hm;obtain⟨x,f7⟩:=f5 l.length hl;have hd:decide (m∈l)=false:=by simpa using hm2
 rw[hd]at f6;have H:=hid h;have d1:=h.d1;have d2:=h.d2;have d3:=h.d3;have b1:(m:Int)<(n:Int):=by omega
 have b2:((l.length:Nat):Int)<(n:Int):=by omega
 have b3:decide ((m:Int)<0)=false:=by simp
 have b4:decide ((n:Int)<=(m:Int))=false:=by simp;omega
 have b5:decide (n<=m)=false:=by simp;omega
 have HM:=hid hm2;clear f4 f5 h hd hm2;go_enter Tryz.func93,Tryz.ntmps93
 go_wp2_with fail
 go_quiet (fail);go_wp2;go_region;all_goals
  go_wp2;refine qFf (qDe rfl _ _ _) rfl ⟨rfl,?_,?_⟩
  ·rw[x0f hm HM.out];exact Q41.of_heap (H.entered hm HM.out) rfl
  exact Mod.of_heap ((((mRf _ w).setCell (p:=⟨ib,m,none⟩) (fun _=>.inr (.inr rfl)) (.bool true)).setCell (p:=⟨lb,l.length,none⟩) (fun _=>.inr (.inl rfl)) (.int .i64 m)).setCell (p:=⟨cb,1,none⟩) (fun _=>.inl rfl) (.int .i64 (l.length+1))) rfl rfl rfl rfl
theorem x2q(w:World)(cb lb ib n:Nat)(l:List Nat)(m:Int)(h:Q41 w cb lb ib n l)(hm:m<0) :
  Calls Tryz.prog 93 #[Q8m cb,.int .i64 m] w fun e w'=>e=.returned (.tuple #[])/\Q41 w' cb lb ib n (Q1f n l m)/\Mod (Q12 cb lb ib) w w':=by
 have e1:Q1f n l m=l:=z84 (by omega);rw[e1];have H:=hid h;have b3:decide (m<0)=true:=by simpa using hm
 clear h e1;go_enter Tryz.func93,Tryz.ntmps93
 go_wp2_with fail
 go_quiet (fail);go_wp2;refine qAc (qDe rfl _ _ _) rfl ⟨rfl,Q41.of_heap H.out rfl,Mod.of_heap (mRf _ w) rfl rfl rfl rfl⟩
theorem y6x(w:World)(cb lb ib n:Nat)(l:List Nat)(m:Int)(h:Q41 w cb lb ib n l)(hn:n<=100000)(h0:0<=m)(hm:(n:Int)<=m) :
  Calls Tryz.prog 93 #[Q8m cb,.int .i64 m] w fun e w'=>e=.returned (.tuple #[])/\Q41 w' cb lb ib n (Q1f n l m)/\Mod (Q12 cb lb ib) w w':=by
 have e1:Q1f n l m=l:=z84 (by omega);rw[e1];have H:=hid h;obtain⟨⟨f1,f2,f3⟩,_⟩:=h.facts;have b3:decide (m<0)=false:=by simpa using h0
 have b4:decide ((n:Int)<=m)=true:=by simpa using hm
 clear h e1;go_enter Tryz.func93,Tryz.ntmps93
 go_wp2_with fail
 go_quiet (fail);go_wp2;refine qAc (qDe rfl _ _ _) rfl ⟨rfl,Q41.of_heap H.out rfl,Mod.of_heap (mRf _ w) rfl rfl rfl rfl⟩
theorem x2p(w:World)(cb lb ib n:Nat)(l:List Nat)(m:Nat)(h:Q41 w cb lb ib n l)(hn:n<=100000)(hm:m<n)(hm2:m∈l) :
  Calls Tryz.prog 93 #[Q8m cb,.int .i64 m] w fun e w'=>e=.returned (.tuple #[])/\Q41 w' cb lb ib n (Q1f n l m)/\Mod (Q12 cb lb ib) w w':=by
 have e1:Q1f n l m=l:=z84 (by simp[hm2]);rw[e1];have H:=hid h;obtain⟨⟨f1,f2,f3⟩,f4,_⟩:=h.facts;have f6:=f4 m hm;have hd:decide (m∈l)=true:=by simpa using hm2
 rw[hd]at f6;have b1:(m:Int)<(n:Int):=by omega
 have b3:decide ((m:Int)<0)=false:=by simp
 have b4:decide ((n:Int)<=(m:Int))=false:=by simp;omega
 have b5:decide (n<=m)=false:=by simp;omega
 clear h e1 f4 hm2 hd;go_enter Tryz.func93,Tryz.ntmps93
 go_wp2_with fail
 go_quiet (fail);go_wp2;refine qAc (qDe rfl _ _ _) rfl ⟨rfl,Q41.of_heap H.out rfl,Mod.of_heap (mRf _ w) rfl rfl rfl rfl⟩
theorem z85(w:World)(cb lb ib n:Nat)(l:List Nat)(m:Int)(h:Q41 w cb lb ib n l)(hn:n<=100000) :
  Calls Tryz.prog 93 #[Q8m cb,.int .i64 m] w fun e w'=>e=.returned (.tuple #[])/\Q41 w' cb lb ib n (Q1f n l m)/\Mod (Q12 cb lb ib) w w':=by
 by_cases h0:m<0
 ·exact x2q w cb lb ib n l m h h0
 by_cases h1:(n:Int)<=m
 ·exact y6x w cb lb ib n l m h hn (by omega) h1
 obtain⟨k,rfl⟩:∃k:Nat,m=k:=⟨m.toNat,by omega⟩;by_cases h2:k∈l
 ·exact x2p w cb lb ib n l k h hn (by omega) h2
 exact x6g w cb lb ib n l k h hn (by omega) h2
end Go.Proofs.YtbdpfmalabgmbaaGreat
