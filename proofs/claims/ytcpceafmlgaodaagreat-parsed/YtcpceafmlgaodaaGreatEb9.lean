import Derived.Test.YtcpceafmlgaodaaGreatEb7
namespace Go.Proofs.YtcpceafmlgaodaaGreat
open Go.RowKit
set_option maxRecDepth 99999
set_option maxHeartbeats 0
set_option linter.all false
def hdI(q:List Q1)(m:Itm):Int:=((q[m.p]?).map Prod.fst).getD 0
def wanS(R:Nat)(q:List Q1)(o:List Bool)(m:Itm):List Bool :=
 if Q4q q m<0 then(if m.f=0/\hdI q m=0 then o.set R true else o) else if Q4q q m<R then o.set (Q4q q m).toNat true else o
def Q94(R:Nat)(q:List Q1):List Itm->List Bool->List Bool
 | [],o=>o
 |m::l,o=>Q94 R q l (wanS R q o m)
theorem x7v(R:Nat)(q:List Q1)(o:List Bool)(m:Itm):(wanS R q o m).length=o.length:=by
 unfold wanS;split
 ·split<;>simp
 split<;>simp
def WnRet(w:World)(R:Nat)(l:List Bool)(e:Ending)(w':World):Prop:=∃g,e=.returned (bsl g (R+1))/\Q1y w' g l/\Q0a w w'
attribute [local go_sem ↓] z5h
theorem y7n(w0 w:World)(cb gs cap b R H:Nat)(q:List Q1)(P:List (List Itm))(X:List Itm)(hS:Q3x w0 b R H q)(hQ:QOk R H q)(h:ChG w0 w cb gs cap b (P++[X]))(hP:P.length<=60)(hXb:Q8g q X) :
  Calls Tryz.prog 38 #[.pointer (some ⟨cb,0,none⟩)] w fun e w'=>WnRet w R (Q94 R q X (List.replicate (R+1) false)) e w':=by
 obtain⟨vs,a,cp,hA,hl,hv,hI⟩:=h.set (qR _);rw[z2h]at hv hI;have jo:=hQ.r8;have jn:=hQ.h8;have jk:=hQ.p20;have jr:=hXb.1;have HA:=hid hA;have HS:=hid hS;have HQ:=hid hQ;have HV:=hid hv;have HI:=hid hI;have k1:=hA.s;have kx:=hA.x;rw[hl]at k1;have jj:=hid hXb.2;obtain⟨a0,c0,a1,c1,a2,c2,v3,v4,sv,hN⟩:=hS.fresh hA.fr;have HN:=hid hN;have BA:Hid (Calls Tryz.prog 34 #[.pointer (some ⟨b,0,none⟩)] w fun e w'=>e=.returned (.int .i64 ((R+1:Nat):Int))/\w'=w):=hid (z1i w b R a0 c0 hN.k0 (by omega));have mk:=fun w=>run_make_row' (P:=Tryz.prog) 90 4 (.bool false) 1 Tryz.underlying90 (by kernel_rfl) rfl .i64 .i64 (R+1) (by omega) (by omega) w;have kA:=(HA.fresh ((mRf _ w).alloc (.cells (madeCells #[.bool false] (R+1)) 4))).s;rw[hl]at kA;generalize hV:Q94 R q X (List.replicate (R+1) false)=V;have jf:=hid hV;unfold WnRet;generalize j4:R+1=r1 at BA mk kA jf ⊢;have je:=hid j4;have jp:r1<=9:=by omega
 generalize hp:P.length=n at hP hl k1 kA HV hv;have ji:=hid hl;have jt:IntKind.i64.wrap (((n+1:Nat):Int)-1)=(n:Int):=by rw[IntKind.wrap_i64];omega
 have s1:(n:Int)<((n+1:Nat):Int):=by omega
 have jm:cb<w.heap.size:=z0j hA.c;clear hA hv hI h hS hQ hXb hp hl hN hV j4;go_enter Tryz.func38,Tryz.ntmps38
 go_wp2_with (first
  |(go_at_call 34;refine csm BA.out ?_))
 go_loopw [5,6,7] (fun x5 _ _ wr=>∃(k:Nat) (o:List Bool),x5=.int .i64 k/\k<=X.length/\Q1y wr w.heap.size o/\o.length=r1/\Q0a w wr/\Q94 R q (X.drop k) o=V)
   (fun x _ _ _=>10001-(intOf x).toNat)
 case atStart =>
  refine⟨0,List.replicate r1 false,rfl,by omega,?_,by simp,(mRf _ w).alloc _,jf.out⟩;rw[z03];exact z0a _ _
 obtain⟨k,o,rfl,hk,hB,hol,hfr,hrec⟩:=hrel;have j6:=hid (Q15 (B:=10001) k (by omega));have HB:=hid hB;have HF:=hid hfr;have j3:=hid hol;clear k1 kx kA;have k1:=(HA.fresh hfr).s;rw[ji.out]at k1;have k2:=(HA.fresh hfr).at HV.out;have kx:=(HA.fresh hfr).x;have hI:=HI.fresh hfr;clear hB hol mk;by_cases hlt:k<X.length
 ·have s2:(k:Int)<(X.length:Int):=by omega
  obtain⟨g,c',hgf⟩:=Joins.ownsRow_form hI.own (by omega);rw[qI]at hgf;obtain⟨rfl,_,rfl⟩:=hgf;have r1:=hI.range k hlt;have jh:=jj.out _ (qG hlt);rw[qC hlt,Q94]at hrec;generalize X[k]=m at r1 jh hrec;have l1:(ldI (.pointer (some ⟨g,k*3,none⟩))).run Tryz.prog wr=.ok (.agg (itA m.p m.d m.f)) wr:=z3a r1;obtain⟨hm1,hm2⟩:=jh;have j1:=hid hrec;clear r1 hI hrec;go_upto_region 7 with(first
   |(refine z0e rfl 163 _ _ rfl wr _ (itA m.p m.d m.f) _ rfl rfl rfl szIt rfl (y79 _ _ _) ?_))
  have j9:=Q9x wr m 163;have j7:Q0a wr (wr.alloc (.cells (itA m.p m.d m.f) 163 (0,0))):=(mRf _ wr).alloc _;have ja:=z0a wr (.cells (itA m.p m.d m.f) 163 (0,0));generalize(wr.alloc (.cells (itA m.p m.d m.f) 163 (0,0)))=W2 at j9 j7 ja ⊢;have l2:(ldI (.pointer (some ⟨wr.heap.size,0,none⟩))).run Tryz.prog W2=.ok (.agg (itA m.p m.d m.f)) W2:=z3a j9;have jc:=hid j7;have jb:=hid ja;have SY:=hid (z5k W2 cb b R H q m (Q0i j7 kx) (HS.fresh ((HA.fr.trans hfr).trans j7)) HQ.out hm1 (by omega));clear l1 k1 k2 kx j9 j7 ja hfr;go_upto_region 8 with(first
   |(go_at_call 73;refine(SY.out).mono ?_;rintro e W3⟨rfl,hf3⟩;have jd:=hid (jc.trans hf3);have j5:=hid (hf3.at jb.out (fun x=>x));clear hf3))
  have b0:W3.cell? ⟨wr.heap.size,0,none⟩=some (.int .i64 m.p):=Q0b j5.out 0;have b2:W3.cell? ⟨wr.heap.size,2,none⟩=some (.int .i64 m.f):=Q0b j5.out 2;have j0:=hid (HB.fresh jd.out);have j2:=hid (HF.trans jd.out);have kx:=(HA.fresh j2.out).x;have j8:=HN.fresh j2.out;have z0:=j8.k0;obtain⟨g3,o3,c3,g4,o4,n4,c4,al,cl,hPr⟩:=j8.pr hm1;have q3:=hPr.q3;have y3:=hPr.y3;have jg:hdI q m=q[m.p].1:=by unfold hdI;rw[qE hm1];rfl
  rw[← jg]at y3;have s4:(m.p:Int)<(q.length:Int):=by omega
  have hW:=j1.out;unfold wanS at hW;generalize Q4q q m=sc at hW;generalize hdI q m=hm at hW y3;have jq:=j0.lt;clear l2 SY jc jb j8 hPr jg j1;by_cases hneg:sc<0
  ·rw[qAb hneg]at hW;have d1:decide (sc<0)=true:=qBl hneg;have d2:¬0<=sc:=by omega
   by_cases hf0:m.f=0
   ·have d3:(m.f:Int)=0:=by omega
    by_cases hh0:hm=0
    ·rw[qAb ⟨hf0,hh0⟩]at hW;have HW:=hid hW;have j4:=je.out;have c1:=j0.cell (j:=R) (by rw[j3.out];omega);have c2:=j0.frozen R;have s5:(R:Int)<(r1:Int):=by omega
     clear j4;have HP:=hid (j0.put R true);subst hh0;rw[d3]at b2;clear hW;go_wp2_with fail
     go_quiet (fail);have jl:=Q0i (Q0r W3 nq) c1;have ju:=Q0i (Q0r W3 nq) z0;have js:=Q0i (Q0r W3 nq) kx;go_wp2;go_roundw
     case rel=>exact⟨k+1,_,by go_num,by omega,HP.out,by simp[j3.out],(j2.trans (Q0r W3 nq)).setCell (fun h=>absurd h (qBk _)) _,HW.out⟩
     exact j6.out
    rw[qAa (fun e=>hh0 e.2)]at hW;have HW:=hid hW;rw[d3]at b2;clear hW;go_wp2_with fail
    go_quiet (fail);go_wp2;go_roundw
    case rel=>exact⟨k+1,o,by go_num,by omega,j0.fresh (Q0r _ _),j3.out,j2.trans (Q0r _ _),HW.out⟩
    exact j6.out
   rw[qAa (fun e=>hf0 e.1)]at hW;have HW:=hid hW;have d3:decide ((m.f:Int)=0)=false:=qBh (by omega);have d4:¬(m.f:Int)=0:=by omega
   clear hW;go_wp2_with fail
   go_quiet (fail);go_wp2;go_roundw
   case rel=>exact⟨k+1,o,by go_num,by omega,j0.fresh (Q0r _ _),j3.out,j2.trans (Q0r _ _),HW.out⟩
   exact j6.out
  rw[qAa hneg]at hW;have d1:decide (sc<0)=false:=qBh hneg;obtain⟨j,rfl⟩:∃j:Nat,sc=j:=⟨sc.toNat,by omega⟩;by_cases hlr:(j:Int)<(R:Int)
  ·rw[qAb hlr,qAl]at hW;have HW:=hid hW;have j4:=je.out;have c1:=j0.cell (j:=j) (by rw[j3.out];omega);have c2:=j0.frozen j;have s5:(j:Int)<(r1:Int):=by omega
   clear j4;have HP:=hid (j0.put j true);clear hW;go_wp2_with fail
   go_quiet (fail);go_wp2;go_roundw
   case rel=>exact⟨k+1,_,by go_num,by omega,HP.fresh (Q0r _ _),by simp[j3.out],(j2.setCell (fun h=>absurd h (qBk _)) _).trans (Q0r _ _),HW.out⟩
   exact j6.out
  rw[qAa hlr]at hW;have HW:=hid hW;clear hW;go_wp2_with fail
  go_quiet (fail);go_wp2;go_roundw
  case rel=>exact⟨k+1,o,by go_num,by omega,j0.fresh (Q0r _ _),j3.out,j2.trans (Q0r _ _),HW.out⟩
  exact j6.out
 have s2:¬(k:Int)<(X.length:Int):=by omega
 rw[qAi (by omega),Q94]at hrec;have j1:=hid hrec;clear hrec hI;go_wp2;go_ret;exact⟨_,rfl,by rw[← j1.out];exact HB.out,HF.out⟩
end Go.Proofs.YtcpceafmlgaodaaGreat
