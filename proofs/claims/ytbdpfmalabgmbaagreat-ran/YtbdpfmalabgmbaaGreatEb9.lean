import Derived.Test.YtbdpfmalabgmbaaGreatEb7
namespace Go.Proofs.YtbdpfmalabgmbaaGreat
open Go.RowKit
set_option maxRecDepth 99999
set_option maxHeartbeats 0
set_option linter.all false
def hdI(q:List Q1)(m:Itm):Int:=((q[m.p]?).map Prod.fst).getD 0
def wanS(R:Nat)(q:List Q1)(o:List Bool)(m:Itm):List Bool :=
 if Q4w q m<0 then(if m.f=0/\hdI q m=0 then o.set R true else o) else if Q4w q m<R then o.set (Q4w q m).toNat true else o
def W0k(R:Nat)(q:List Q1):List Itm->List Bool->List Bool
 | [],o=>o
 |m::l,o=>W0k R q l (wanS R q o m)
theorem x8g(R:Nat)(q:List Q1)(o:List Bool)(m:Itm):(wanS R q o m).length=o.length:=by
 unfold wanS;split
 ·split<;>simp
 split<;>simp
def WnRet(w:World)(R:Nat)(l:List Bool)(e:Ending)(w':World):Prop:=∃g,e=.returned (bsl g (R+1))/\Q1x w' g l/\Q0a w w'
attribute [local go_sem ↓] z5n
theorem y75(w0 w:World)(cb gs cap b R H:Nat)(q:List Q1)(P:List (List Itm))(X:List Itm)(hS:Q3q w0 b R H q)(hQ:QOk R H q)(h:ChG w0 w cb gs cap b (P++[X]))(hP:P.length<=60)(hXb:Q8s q X) :
  Calls Tryz.prog 52 #[.pointer (some ⟨cb,0,none⟩)] w fun e w'=>WnRet w R (W0k R q X (List.replicate (R+1) false)) e w':=by
 obtain⟨vs,a,cp,hA,hl,hv,hI⟩:=h.set (qR _);rw[z2o]at hv hI;have k4:=hQ.r8;have jz:=hQ.h8;have jw:=hQ.p20;have k7:=hXb.1;have HA:=hid hA;have HS:=hid hS;have HQ:=hid hQ;have HV:=hid hv;have HI:=hid hI;have k1:=hA.s;have kx:=hA.x;rw[hl]at k1;have jv:=hid hXb.2;obtain⟨a0,c0,a1,c1,a2,c2,v3,v4,sv,hN⟩:=hS.fresh hA.fr;have HN:=hid hN;have BA:Hid (Calls Tryz.prog 47 #[.pointer (some ⟨b,0,none⟩)] w fun e w'=>e=.returned (.int .i64 ((R+1:Nat):Int))/\w'=w):=hid (z1j w b R a0 c0 hN.k0 (by omega));have mk:=fun w=>run_make_row' (P:=Tryz.prog) 118 4 (.bool false) 1 qCw (by kernel_rfl) rfl .i64 .i64 (R+1) (by omega) (by omega) w;have kA:=(HA.fresh ((mRf _ w).alloc (.cells (madeCells #[.bool false] (R+1)) 4))).s;rw[hl]at kA;generalize hV:W0k R q X (List.replicate (R+1) false)=V;have jn:=hid hV;unfold WnRet;generalize j7:R+1=r1 at BA mk kA jn ⊢;have jm:=hid j7;have k5:r1<=9:=by omega
 generalize hp:P.length=n at hP hl k1 kA HV hv;have ju:=hid hl;have k9:IntKind.i64.wrap (((n+1:Nat):Int)-1)=(n:Int):=by rw[qBv];omega
 have s1:(n:Int)<((n+1:Nat):Int):=by omega
 have jy:cb<w.heap.size:=z0j hA.c;clear hA hv hI h hS hQ hXb hp hl hN hV j7;go_enter Tryz.func52,Tryz.ntmps52
 go_wp2_with (first
  |(go_at_call 47;refine csm BA.out ?_))
 go_loopw [5,6,7] (fun x5 _ _ wr=>∃(k:Nat) (o:List Bool),x5=.int .i64 k/\k<=X.length/\Q1x wr w.heap.size o/\o.length=r1/\Q0a w wr/\W0k R q (X.drop k) o=V)
   (fun x _ _ _=>10001-(intOf x).toNat)
 case atStart =>
  refine⟨0,List.replicate r1 false,rfl,by omega,?_,by simp,(mRf _ w).alloc _,jn.out⟩;rw[z03];exact z0a _ _
 obtain⟨k,o,rfl,hk,hB,jt,j6,j0⟩:=hrel;have j9:=hid (Q19 (B:=10001) k (by omega));have HB:=hid hB;have HF:=hid j6;have j5:=hid jt;clear k1 kx kA;have k1:=(HA.fresh j6).s;rw[ju.out]at k1;have k2:=(HA.fresh j6).at HV.out;have kx:=(HA.fresh j6).x;have hI:=HI.fresh j6;clear hB jt mk;by_cases jh:k<X.length
 ·have s2:(k:Int)<(X.length:Int):=by omega
  obtain⟨g,c',jp⟩:=Joins.ownsRow_form hI.own (by omega);rw[qI]at jp;obtain⟨rfl,_,rfl⟩:=jp;have r1:=hI.range k jh;have js:=jv.out _ (qG jh);rw[qC jh,W0k]at j0;generalize X[k]=m at r1 js j0;have l1:(ldI (.pointer (some ⟨g,k*3,none⟩))).run Tryz.prog wr=.ok (.agg (itA m.p m.d m.f)) wr:=z3g r1;obtain⟨ji,k3⟩:=js;have j2:=hid j0;clear r1 hI j0;go_upto_region 7 with(first
   |(refine z0e rfl 180 _ _ rfl wr _ (itA m.p m.d m.f) _ rfl rfl rfl szIt rfl (y8v _ _ _) ?_))
  have jc:=W0c wr m 180;have ja:Q0a wr (wr.alloc (.cells (itA m.p m.d m.f) 180 (0,0))):=(mRf _ wr).alloc _;have je:=z0a wr (.cells (itA m.p m.d m.f) 180 (0,0));generalize(wr.alloc (.cells (itA m.p m.d m.f) 180 (0,0)))=W2 at jc ja je ⊢;have l2:(ldI (.pointer (some ⟨wr.heap.size,0,none⟩))).run Tryz.prog W2=.ok (.agg (itA m.p m.d m.f)) W2:=z3g jc;have jk:=hid ja;have jj:=hid je;have SY:=hid (z5q W2 cb b R H q m (Q0h ja kx) (HS.fresh ((HA.fr.trans j6).trans ja)) HQ.out ji (by omega));clear l1 k1 k2 kx jc ja je j6;go_upto_region 8 with(first
   |(go_at_call 84;refine(SY.out).mono ?_;rintro e W3⟨rfl,jf⟩;have jl:=hid (jk.trans jf);have j8:=hid (jf.at jj.out id);clear jf))
  have b0:W3.cell? ⟨wr.heap.size,0,none⟩=some (.int .i64 m.p):=Q0b j8.out 0;have b2:W3.cell? ⟨wr.heap.size,2,none⟩=some (.int .i64 m.f):=Q0b j8.out 2;have j1:=hid (HB.fresh jl.out);have j4:=hid (HF.trans jl.out);have kx:=(HA.fresh j4.out).x;have jb:=HN.fresh j4.out;have z0:=jb.k0;obtain⟨g3,o3,c3,g4,o4,n4,c4,al,cl,jd⟩:=jb.pr ji;have q3:=jd.q3;have y3:=jd.y3;have jq:hdI q m=q[m.p].1:=by unfold hdI;rw[qE ji];rfl
  rw[← jq]at y3;have s4:(m.p:Int)<(q.length:Int):=by omega
  have hW:=j2.out;unfold wanS at hW;generalize Q4w q m=sc at hW;generalize hdI q m=hm at hW y3;have k6:=j1.lt;clear l2 SY jk jj jb jd jq j2;by_cases j3:sc<0
  ·rw[qAb j3]at hW;have d1:decide (sc<0)=true:=qCj j3;have d2:¬0<=sc:=by omega
   by_cases jo:m.f=0
   ·have d3:(m.f:Int)=0:=by omega
    by_cases jg:hm=0
    ·rw[qAb ⟨jo,jg⟩]at hW;have HW:=hid hW;have j7:=jm.out;have c1:=j1.cell (j:=R) (by rw[j5.out];omega);have c2:=j1.frozen R;have s5:(R:Int)<(r1:Int):=by omega
     clear j7;have HP:=hid (j1.put R true);subst jg;rw[d3]at b2;clear hW;go_wp2_with fail
     go_quiet (fail);have jx:=Q0h (Q0v W3 nq) c1;have ka:=Q0h (Q0v W3 nq) z0;have k8:=Q0h (Q0v W3 nq) kx;go_wp2;go_roundw
     case rel=>exact⟨k+1,_,by go_num,by omega,HP.out,by simp[j5.out],(j4.trans (Q0v W3 nq)).setCell (fun h=>absurd h (qBw _)) _,HW.out⟩
     exact j9.out
    rw[qAa (fun e=>jg e.2)]at hW;have HW:=hid hW;rw[d3]at b2;clear hW;go_wp2_with fail
    go_quiet (fail);go_wp2;go_roundw
    case rel=>exact⟨k+1,o,by go_num,by omega,j1.fresh (Q0v _ _),j5.out,j4.trans (Q0v _ _),HW.out⟩
    exact j9.out
   rw[qAa (fun e=>jo e.1)]at hW;have HW:=hid hW;have d3:decide ((m.f:Int)=0)=false:=qCa (by omega);have d4:¬(m.f:Int)=0:=by omega
   clear hW;go_wp2_with fail
   go_quiet (fail);go_wp2;go_roundw
   case rel=>exact⟨k+1,o,by go_num,by omega,j1.fresh (Q0v _ _),j5.out,j4.trans (Q0v _ _),HW.out⟩
   exact j9.out
  rw[qAa j3]at hW;have d1:decide (sc<0)=false:=qCa j3;obtain⟨j,rfl⟩:∃j:Nat,sc=j:=⟨sc.toNat,by omega⟩;by_cases jr:(j:Int)<(R:Int)
  ·rw[qAb jr,qAo]at hW;have HW:=hid hW;have j7:=jm.out;have c1:=j1.cell (j:=j) (by rw[j5.out];omega);have c2:=j1.frozen j;have s5:(j:Int)<(r1:Int):=by omega
   clear j7;have HP:=hid (j1.put j true);clear hW;go_wp2_with fail
   go_quiet (fail);go_wp2;go_roundw
   case rel=>exact⟨k+1,_,by go_num,by omega,HP.fresh (Q0v _ _),by simp[j5.out],(j4.setCell (fun h=>absurd h (qBw _)) _).trans (Q0v _ _),HW.out⟩
   exact j9.out
  rw[qAa jr]at hW;have HW:=hid hW;clear hW;go_wp2_with fail
  go_quiet (fail);go_wp2;go_roundw
  case rel=>exact⟨k+1,o,by go_num,by omega,j1.fresh (Q0v _ _),j5.out,j4.trans (Q0v _ _),HW.out⟩
  exact j9.out
 have s2:¬(k:Int)<(X.length:Int):=by omega
 rw[qAp (by omega),W0k]at j0;have j2:=hid j0;clear j0 hI;go_wp2;go_ret;exact⟨_,rfl,by rw[← j2.out];exact HB.out,HF.out⟩
end Go.Proofs.YtbdpfmalabgmbaaGreat
