import Derived.Test.YtbdpfmalabgmbaaGreatRa6
import Derived.Laws.CopyOwn
import Derived.BigRegion
namespace Go.Proofs.YtbdpfmalabgmbaaGreat
open Go.RowKit
set_option maxRecDepth 99999
set_option maxHeartbeats 0
set_option linter.all false
theorem x0d(w:World)(ga gb n:Nat)(xs ys:List Bool)(ha:Q1x w ga xs)(hb:Q1x w gb ys)(la:xs.length=n)(lb:ys.length=n)(ty:TypeId) :
  (Builtin.copy_ #[118,118] ty #[bsl gb n,bsl ga n]).run Tryz.prog w=.ok (goInt n) (w.setRow gb (Q34 xs).toArray):=by
 have h:=run_copy_row (P:=Tryz.prog) w 118 118 ty 4 gb 0 n n ⟨ga,0,none⟩ n n (Q34 ys).toArray 4 (Q34 xs) qCw (by kernel_rfl) hb (by simp[Q34,la]) (fun j v hj=>by
  have j0:j<xs.length:=by have:=(qS hj).1;simpa [Q34]using this
  have:=ha.cell j0;rw[qDd,qBy,this];simp[Q34,j0]at hj;rw[← hj];simp[j0]) (by simp[Q34,la,lb]) (by intro v hv;simp[Q34]at hv;rcases hv with⟨_,rfl⟩|⟨_,rfl⟩<;>rfl)
 have e1:(Q34 xs).length=n:=by simp[Q34,la]
 have e2:((Q34 ys).toArray.toList.take 0++Q34 xs++(Q34 ys).toArray.toList.drop (0+n)).toArray=(Q34 xs).toArray:=by
  rw[qAp (by simp[Q34,lb])];simp
 rw[e1,e2]at h;exact h
theorem x5r(base:Int)(rules:Bool)(out:List Bool)(l:List Int)(i:Nat)(hi:i<l.length):(l.drop i).all (Q6r base rules out)=(Q6r base rules out l[i]&&(l.drop (i+1)).all (Q6r base rules out)):=by
 rw[qC hi,qDv]
theorem x2l(base:Int)(rules:Bool)(out:List Bool)(q:List Q1)(i:Nat)(hi:i<q.length)(nx:List Bool):W0a base rules out (q.drop i) nx=W0a base rules out (q.drop (i+1)) (nx.set q[i].1.toNat (nx.getD q[i].1.toNat false||q[i].2.all (Q6r base rules out))):=by
 rw[qC hi];rfl
theorem y6u(w:World)(b R H:Nat)(q:List Q1)(rules:Bool)(hS:Q3q w b R H q)(hQ:QOk R H q) :
  Calls Tryz.prog 75 #[.pointer (some ⟨b,0,none⟩),.bool rules] w fun e w'=>∃g,w.heap.size<=g/\e=.returned (bsl g H)/\Q1x w' g (Q4q (bs R) rules q H)/\Q0a w w':=by
 obtain⟨a0,c0,a1,c1,a2,c2,v3,v4,sv,hN⟩:=hS;have r8:=hQ.r8;have h8:=hQ.h8;have p20:=hQ.p20;have HQ:=hid hQ;have HN:=hid hN;have k2:=hN.k2;have mk:=fun w=>run_make_row' (P:=Tryz.prog) 118 4 (.bool false) 1 qCw (by kernel_rfl) rfl .i64 .i64 H (by omega) (by omega) w;generalize hV:Q4q (bs R) rules q H=V;have HV:=hid hV;clear hN hQ hV;go_enter Tryz.func75,Tryz.ntmps75
 go_wp2;go_loopw [5,6,7,8,9,10,11] (fun x5 x6 _ _ _ _ _ wr=>∃(n g:Nat) (out:List Bool),x6=.int .i64 n/\x5=bsl g H/\n<=H/\w.heap.size<=g/\Q1x wr g out/\out.length=H/\Q0a w wr/\derN (bs R) rules q (H-n) out=V)
   (fun _ x _ _ _ _ _ _=>1001-(intOf x).toNat)
 case atStart =>
  refine⟨0,w.heap.size,List.replicate H false,rfl,rfl,by omega,qR _,?_,by simp,(mRf _ w).alloc _,HV.out⟩;rw[z03];exact z0a _ _
 obtain⟨n,g,out,rfl,rfl,hn,hg,hB,jk,j3,j0⟩:=hrel;have kb:=hid (Q19 (B:=1001) n (by omega));have HF:=hid j3;have HB:=hid hB;have jv:=hid jk;have kq:=Q0h j3 k2;by_cases kx:n<H
 ·have k1:(n:Int)<(H:Int):=by omega
  rw[show H-n=(H-(n+1))+1 by omega]at j0;unfold derN at j0;have j7:=hid j0;have kd:=hB.lt;have CP:=x0d (wr.alloc (.cells (madeCells #[.bool false] H) 4)) g wr.heap.size H out (List.replicate H false) (hB.fresh ((mRf _ wr).alloc _)) (by rw[z03];exact z0a _ _) jk (by simp);have jg:Hid (Q1x ((wr.alloc (.cells (madeCells #[.bool false] H) 4)).setRow wr.heap.size (Q34 out).toArray) wr.heap.size out):=hid (qAn _ _ _ _ _ _ (z0a _ _));have jl:Hid (Q1x ((wr.alloc (.cells (madeCells #[.bool false] H) 4)).setRow wr.heap.size (Q34 out).toArray) g out):=hid (by
   have:=(hB.fresh ((mRf (fun _=>False) wr).alloc (.cells (madeCells #[.bool false] H) 4)));unfold Q1x at this ⊢;rw[qCx _ _ _ _ (by omega)];exact this)
  have jm:Hid (Q0a w ((wr.alloc (.cells (madeCells #[.bool false] H) 4)).setRow wr.heap.size (Q34 out).toArray)):=hid ((j3.alloc _).setRow (by have:=j3.size;simp;omega) _);generalize hW2:(wr.alloc (.cells (madeCells #[.bool false] H) 4)).setRow wr.heap.size (Q34 out).toArray=W2 at CP jg jl jm;have jo:=hid (show w.heap.size<=wr.heap.size from j3.size);have ju:=hid (show g≠wr.heap.size by omega);clear hW2 j3 hB jk j0 kd;go_wp2;generalize hNX:W0a (bs R) rules out q out=NX at j7;have kc:=hid hNX;clear hNX;generalize hgx:wr.heap.size=gx at CP jg jo ju ⊢;clear hgx CP mk kq HF HB;go_loopw [8,9,10,11] (fun x8 _ _ _ wr=>∃(i:Nat) (nx:List Bool),x8=.int .i64 i/\i<=q.length/\Q1x wr gx nx/\nx.length=H/\Q1x wr g out/\Q0a w wr/\W0a (bs R) rules out (q.drop i) nx=NX)
    (fun x _ _ _ _=>1001-(intOf x).toNat)
  case atStart=>exact⟨0,out,rfl,by omega,jg.out,jv.out,jl.out,jm.out,kc.out⟩
  obtain⟨i,nx,rfl,hi,hX,js,hB,j3,j0⟩:=hrel;have jp:=hid (Q19 (B:=1001) i (by omega));have HX:=hid hX;have jq:=hid js;have k8:=hid j3;have HB:=hid hB;have kp:=Q0h j3 HN.k1;clear jg jl jm;by_cases j4:i<q.length
  ·have s1:(i:Int)<(q.length:Int):=by omega
   rw[x2l _ _ _ _ _ j4]at j0;have j1:=hid j0;clear j0;have jb:=HN.fresh j3;have jf:i<sv.length:=by rw[HN.len];exact j4
   have s4:(i:Int)<(sv.length:Int):=by omega
   obtain⟨ks,kv,e4,kf,j9⟩:=jb.r4;obtain⟨g4,o4,rfl,y4⟩:=j9 i jf;have q4:=jb.k4;rw[e4]at q4;obtain⟨kt,kw,el,kh,ja⟩:=jb.each i sv[i] q[i] (qE jf) (qE j4);rw[el]at y4;obtain⟨kr,ku,e3,ke,j8⟩:=jb.r3;obtain⟨g3,o3,rfl,y3⟩:=j8 i (by rw[qAv];exact j4);rw[qCd]at y3;rw[qAv]at e3;have q3:=jb.k3;rw[e3]at q3;have kj:=HQ.hd q[i] (qG j4);have jr:=HQ.sy q[i] (qG j4);have k5:=jb.k0;have kl:=jb.k1;obtain⟨j5,jz⟩:∃m:Nat,q[i].1=m:=⟨q[i].1.toNat,by omega⟩;rw[jz]at y3 kj j1;rw[qAo]at j1;have kn:j5<H:=by omega
   have km:=jr.1;have jw:=hid jr.2;have jt:=hid ja;generalize q[i].2=l at y4 jt jw j1 km kh;generalize hFIN:l.all (Q6r (bs R) rules out)=FIN at j1;have jn:=hid hFIN;clear hFIN jr ja j8 j9 ke kf e3 e4 el jb jz hX js hB kp;obtain⟨wo,ko⟩:∃wo,wo=wr:=⟨_,rfl⟩;subst ko;have jx:=hid (And.intro q3 y3);have ka:=hid j3;clear j3 y3 q3;go_wp2;go_loopw [9,10,11] (fun x9 x10 _ wi=>∃(j m:Nat) (A:Bool),x10=.int .i64 j/\x9=.bool A/\j<=l.length/\wi=wo.drewN m/\(A&&(l.drop j).all (Q6r (bs R) rules out))=FIN)
     (fun _ x _ _=>1001-(intOf x).toNat)
   case atStart=>exact⟨0,0,true,rfl,rfl,by omega,rfl,by rw[qBm];exact jn.out⟩
   obtain⟨j,m,A,rfl,rfl,hj,rfl,j0⟩:=hrel;have jc:=hid (Q19 (B:=1001) j (by omega));have z4:=Q0h (Q0v wo m) q4;have x4:=Q0h (Q0v wo m) y4;have z0:=Q0h (Q0v wo m) k5;have j6:=hid (Q0v wo m);generalize hW:wo.drewN m=wr at z4 x4 z0 j6 ⊢;have HW:=hid hW;clear hW q4 y4 k5 kl;by_cases jd:j<l.length
   ·have s3:(j:Int)<(l.length:Int):=by omega
    rw[x5r _ _ _ _ _ jd]at j0;obtain⟨gl,ol,rfl,y5⟩:=jt.out j jd;have z5:=Q0h j6.out y5;have jh:=jw.out l[j] (qG jd);have jj:=fun(k:Nat) (hk:k<H)=>(HB.fresh j6.out).cell (j:=k) (by rw[jv.out];exact hk);have BQ:=hid (fun n=>z1j (wr.drewN n) b R a0 c0 (Q0h (Q0v wr n) z0) (by omega));generalize l[j]=c at j0 z5 jh;clear y5;cases A
    ·rw[qDh]at j0;have j2:=hid j0;obtain⟨dz,k6⟩:∃dz:Int,IntKind.i64.wrap (c-bs R)=dz:=⟨_,rfl⟩;clear j0 jj jh;go_wp2;go_quiet (first|(go_at_call 47;refine Calls.quiet_of_same (BQ.out _)));go_wp2;go_roundw
     case rel=>exact⟨j+1,m+nq,false,by go_num,rfl,by omega,by rw[← HW.out,qDu],j2.out⟩
     exact jc.out
    rw[qBm]at j0;by_cases je:c-bs R<0
    ·have e1:Q6r (bs R) rules out c=rules:=by unfold Q6r;rw[qCj je,qCa (by omega)];simp
     rw[e1]at j0;have j2:=hid j0;have s1:decide (c-bs R<0)=true:=qCj je;have s6:¬0<=c-bs R:=by omega
     have k6:IntKind.i64.wrap (c-bs R)=c-bs R:=by rw[qBv];unfold bs;omega
     clear j0 jj jh e1;cases rules;all_goals
      go_wp2;go_quiet (first|(go_at_call 47;refine Calls.quiet_of_same (BQ.out _)));go_wp2;go_roundw
      case rel=>exact⟨j+1,m+nq,_,by go_num,rfl,by omega,by rw[← HW.out,qDu],j2.out⟩
      exact jc.out
    obtain⟨dz,ji⟩:∃dz:Nat,c-bs R=dz:=⟨(c-bs R).toNat,by omega⟩;have ki:dz<H:=by unfold bs at ji;omega
    have e1:Q6r (bs R) rules out c=out.getD dz false:=by unfold Q6r;rw[ji,qCa (by omega),qCj (by omega),qAo];simp
    rw[e1]at j0;have jy:=jj dz ki;have s1:¬(dz:Int)<0:=by omega
    have s6:(0:Int)<=(dz:Int):=by omega
    have s7:(dz:Int)<(H:Int):=by omega
    have k6:IntKind.i64.wrap (c-bs R)=(dz:Int):=by rw[qBv];unfold bs at ji ⊢;omega
    generalize out.getD dz false=oj at j0 jy;have j2:=hid j0;clear j0 jj jh e1 ji je;cases oj;all_goals
     go_wp2;go_quiet (first|(go_at_call 47;refine Calls.quiet_of_same (BQ.out _)));have kg:=Q0h (Q0v wr nq) jy;go_wp2;go_roundw
     case rel=>exact⟨j+1,m+nq,_,by go_num,rfl,by omega,by rw[← HW.out,qDu],j2.out⟩
     exact jc.out
   have s3:¬(j:Int)<(l.length:Int):=by omega
   rw[qAp (by omega),List.all_nil,Bool.and_true]at j0;have j2:=hid j0;have b1:=(HX.fresh j6.out).cell (j:=j5) (by rw[jq.out];exact kn);have b2:=(HX.fresh j6.out).frozen j5;have u3:=Q0h j6.out jx.1;have u4:=Q0h j6.out jx.2;have s5:(j5:Int)<(H:Int):=by omega
   have HP:Hid (∀c:Bool,Q1x (wr.setCell ⟨gx,j5,none⟩ (.bool c)).drew gx (nx.set j5 c)):=hid (fun c=>(HX.fresh j6.out).put j5 c);have k7:Hid (∀c:Bool,Q1x (wr.setCell ⟨gx,j5,none⟩ (.bool c)).drew g out):=hid (fun c=>by
    have:=HB.fresh j6.out;unfold Q1x at this ⊢;show(wr.setCell ⟨gx,j5,none⟩ (.bool c)).heap[g]? = _;rw[heap_setCell_other _ ju.out];exact this)
   have k9:Hid (∀c:Bool,Q0a w (wr.setCell ⟨gx,j5,none⟩ (.bool c)).drew):=hid (fun c=>((ka.trans j6.out).setCell (by have:=jo.out;simp;omega) _).drew);generalize nx.getD j5 false=nb at j1 b1;clear j0 z0;cases nb<;>cases A;all_goals
    go_wp2_with fail
    go_region;all_goals
     go_wp2;go_roundw
     case rel=>exact⟨i+1,_,by go_num,by omega,HP.out _,by simp[jq.out],k7.out _,k9.out _,by have:=j1.out;rw[← j2.out]at this;simpa using this⟩
     exact jp.out
  have s1:¬(i:Int)<(q.length:Int):=by omega
  rw[qAp (by omega)]at j0;have j1:=hid j0;clear j0 hX js j3 hB;go_wp2;go_roundw
  case rel=>exact⟨n+1,gx,nx,by go_num,rfl,by omega,jo.out,HX.out,jq.out,k8.out,by have:=j1.out;unfold W0a at this;rw[this];exact j7.out⟩
  exact kb.out
 have k1:¬(n:Int)<(H:Int):=by omega
 have kk:n=H:=by omega
 rw[kk,qEm]at j0;have j7:=hid j0;clear j0 j3 hB jk;go_wp2;go_ret;exact⟨g,hg,rfl,by rw[← j7.out];exact HB.out,HF.out⟩
end Go.Proofs.YtbdpfmalabgmbaaGreat
