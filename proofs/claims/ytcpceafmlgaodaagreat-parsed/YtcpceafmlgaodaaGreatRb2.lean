import Derived.Test.YtcpceafmlgaodaaGreatRa6
import Derived.Laws.CopyOwn
import Derived.BigRegion
namespace Go.Proofs.YtcpceafmlgaodaaGreat
open Go.RowKit
set_option maxRecDepth 99999
set_option maxHeartbeats 0
set_option linter.all false
theorem y9o(w:World)(ga gb n:Nat)(xs ys:List Bool)(ha:Q1y w ga xs)(hb:Q1y w gb ys)(la:xs.length=n)(lb:ys.length=n)(ty:TypeId) :
  (Builtin.copy_ #[90,90] ty #[bsl gb n,bsl ga n]).run Tryz.prog w=.ok (goInt n) (w.setRow gb (Q3y xs).toArray):=by
 have h:=run_copy_row (P:=Tryz.prog) w 90 90 ty 4 gb 0 n n ⟨ga,0,none⟩ n n (Q3y ys).toArray 4 (Q3y xs) Tryz.underlying90 (by kernel_rfl) hb (by simp[Q3y,la]) (fun j v hj=>by
  have j0:j<xs.length:=by have:=(qS hj).1;simpa [Q3y]using this
  have:=ha.cell j0;rw[Addr.add_mid,qBi,this];simp[Q3y,j0]at hj;rw[← hj];simp[j0]) (by simp[Q3y,la,lb]) (by intro v hv;simp[Q3y]at hv;rcases hv with⟨_,rfl⟩|⟨_,rfl⟩<;>rfl)
 have e1:(Q3y xs).length=n:=by simp[Q3y,la]
 have e2:((Q3y ys).toArray.toList.take 0++Q3y xs++(Q3y ys).toArray.toList.drop (0+n)).toArray=(Q3y xs).toArray:=by
  rw[qAi (by simp[Q3y,lb])];simp
 rw[e1,e2]at h;exact h
theorem x5e(base:Int)(rules:Bool)(out:List Bool)(l:List Int)(i:Nat)(hi:i<l.length):(l.drop i).all (Q6h base rules out)=(Q6h base rules out l[i]&&(l.drop (i+1)).all (Q6h base rules out)):=by
 rw[qC hi,qCp]
theorem x1u(base:Int)(rules:Bool)(out:List Bool)(q:List Q1)(i:Nat)(hi:i<q.length)(nx:List Bool):Q9v base rules out (q.drop i) nx=Q9v base rules out (q.drop (i+1)) (nx.set q[i].1.toNat (nx.getD q[i].1.toNat false||q[i].2.all (Q6h base rules out))):=by
 rw[qC hi];rfl
theorem y6c(w:World)(b R H:Nat)(q:List Q1)(rules:Bool)(hS:Q3x w b R H q)(hQ:QOk R H q) :
  Calls Tryz.prog 65 #[.pointer (some ⟨b,0,none⟩),.bool rules] w fun e w'=>∃g,w.heap.size<=g/\e=.returned (bsl g H)/\Q1y w' g (Q4j (bs R) rules q H)/\Q0a w w':=by
 obtain⟨a0,c0,a1,c1,a2,c2,v3,v4,sv,hN⟩:=hS;have r8:=hQ.r8;have h8:=hQ.h8;have p20:=hQ.p20;have HQ:=hid hQ;have HN:=hid hN;have k2:=hN.k2;have mk:=fun w=>run_make_row' (P:=Tryz.prog) 90 4 (.bool false) 1 Tryz.underlying90 (by kernel_rfl) rfl .i64 .i64 H (by omega) (by omega) w;generalize hV:Q4j (bs R) rules q H=V;have HV:=hid hV;clear hN hQ hV;go_enter Tryz.func65,Tryz.ntmps65
 go_wp2;go_loopw [5,6,7,8,9,10,11] (fun x5 x6 _ _ _ _ _ wr=>∃(n g:Nat) (out:List Bool),x6=.int .i64 n/\x5=bsl g H/\n<=H/\w.heap.size<=g/\Q1y wr g out/\out.length=H/\Q0a w wr/\derN (bs R) rules q (H-n) out=V)
   (fun _ x _ _ _ _ _ _=>1001-(intOf x).toNat)
 case atStart =>
  refine⟨0,w.heap.size,List.replicate H false,rfl,rfl,by omega,qR _,?_,by simp,(mRf _ w).alloc _,HV.out⟩;rw[z03];exact z0a _ _
 obtain⟨n,g,out,rfl,rfl,hn,hg,hB,hol,hfr,hrec⟩:=hrel;have jt:=hid (Q15 (B:=1001) n (by omega));have HF:=hid hfr;have HB:=hid hB;have jj:=hid hol;have k9:=Q0i hfr k2;by_cases hlt:n<H
 ·have k1:(n:Int)<(H:Int):=by omega
  rw[show H-n=(H-(n+1))+1 by omega]at hrec;unfold derN at hrec;have j3:=hid hrec;have jv:=hB.lt;have CP:=y9o (wr.alloc (.cells (madeCells #[.bool false] H) 4)) g wr.heap.size H out (List.replicate H false) (hB.fresh ((mRf _ wr).alloc _)) (by rw[z03];exact z0a _ _) hol (by simp);have j7:Hid (Q1y ((wr.alloc (.cells (madeCells #[.bool false] H) 4)).setRow wr.heap.size (Q3y out).toArray) wr.heap.size out):=hid (setRow_heap _ _ _ _ _ _ (z0a _ _));have ja:Hid (Q1y ((wr.alloc (.cells (madeCells #[.bool false] H) 4)).setRow wr.heap.size (Q3y out).toArray) g out):=hid (by
   have:=(hB.fresh ((mRf (fun _=>False) wr).alloc (.cells (madeCells #[.bool false] H) 4)));unfold Q1y at this ⊢;rw[setRow_other _ _ _ _ (by omega)];exact this)
  have jb:Hid (Q0a w ((wr.alloc (.cells (madeCells #[.bool false] H) 4)).setRow wr.heap.size (Q3y out).toArray)):=hid ((hfr.alloc _).setRow (by have:=hfr.size;simp;omega) _);generalize hW2:(wr.alloc (.cells (madeCells #[.bool false] H) 4)).setRow wr.heap.size (Q3y out).toArray=W2 at CP j7 ja jb;have jd:=hid (show w.heap.size<=wr.heap.size from hfr.size);have ji:=hid (show g≠wr.heap.size by omega);clear hW2 hfr hB hol hrec jv;go_wp2;generalize hNX:Q9v (bs R) rules out q out=NX at j3;have ju:=hid hNX;clear hNX;generalize hgx:wr.heap.size=gx at CP j7 jd ji ⊢;clear hgx CP mk k9 HF HB;go_loopw [8,9,10,11] (fun x8 _ _ _ wr=>∃(i:Nat) (nx:List Bool),x8=.int .i64 i/\i<=q.length/\Q1y wr gx nx/\nx.length=H/\Q1y wr g out/\Q0a w wr/\Q9v (bs R) rules out (q.drop i) nx=NX)
    (fun x _ _ _ _=>1001-(intOf x).toNat)
  case atStart=>exact⟨0,out,rfl,by omega,j7.out,jj.out,ja.out,jb.out,ju.out⟩
  obtain⟨i,nx,rfl,hi,hX,hxl,hB,hfr,hrec⟩:=hrel;have je:=hid (Q15 (B:=1001) i (by omega));have HX:=hid hX;have jf:=hid hxl;have jq:=hid hfr;have HB:=hid hB;have k8:=Q0i hfr HN.k1;clear j7 ja jb;by_cases hlt2:i<q.length
  ·have s1:(i:Int)<(q.length:Int):=by omega
   rw[x1u _ _ _ _ _ hlt2]at hrec;have j0:=hid hrec;clear hrec;have j4:=HN.fresh hfr;have j6:i<sv.length:=by rw[HN.len];exact hlt2
   have s4:(i:Int)<(sv.length:Int):=by omega
   obtain⟨ao4,cp4,e4,hc4,cell4⟩:=j4.r4;obtain⟨g4,o4,rfl,y4⟩:=cell4 i j6;have q4:=j4.k4;rw[e4]at q4;obtain⟨aol,cpl,el,hcl,celll⟩:=j4.each i sv[i] q[i] (qE j6) (qE hlt2);rw[el]at y4;obtain⟨ao3,cp3,e3,hc3,cell3⟩:=j4.r3;obtain⟨g3,o3,rfl,y3⟩:=cell3 i (by rw[qAo];exact hlt2);rw[qBt]at y3;rw[qAo]at e3;have q3:=j4.k3;rw[e3]at q3;have jy:=HQ.hd q[i] (qG hlt2);have jg:=HQ.sy q[i] (qG hlt2);have jn:=j4.k0;have k5:=j4.k1;obtain⟨hn',hhn⟩:∃m:Nat,q[i].1=m:=⟨q[i].1.toNat,by omega⟩;rw[hhn]at y3 jy j0;rw[qAl]at j0;have k7:hn'<H:=by omega
   have k6:=jg.1;have jk:=hid jg.2;have jh:=hid celll;generalize q[i].2=l at y4 jh jk j0 k6 hcl;generalize hFIN:l.all (Q6h (bs R) rules out)=FIN at j0;have jc:=hid hFIN;clear hFIN jg celll cell3 cell4 hc3 hc4 e3 e4 el j4 hhn hX hxl hB k8;obtain⟨wo,hwo⟩:∃wo,wo=wr:=⟨_,rfl⟩;subst hwo;have jl:=hid (And.intro q3 y3);have js:=hid hfr;clear hfr y3 q3;go_wp2;go_loopw [9,10,11] (fun x9 x10 _ wi=>∃(j m:Nat) (A:Bool),x10=.int .i64 j/\x9=.bool A/\j<=l.length/\wi=wo.drewN m/\(A&&(l.drop j).all (Q6h (bs R) rules out))=FIN)
     (fun _ x _ _=>1001-(intOf x).toNat)
   case atStart=>exact⟨0,0,true,rfl,rfl,by omega,rfl,by rw[qBa];exact jc.out⟩
   obtain⟨j,m,A,rfl,rfl,hj,rfl,hrec⟩:=hrel;have j5:=hid (Q15 (B:=1001) j (by omega));have z4:=Q0i (Q0r wo m) q4;have x4:=Q0i (Q0r wo m) y4;have z0:=Q0i (Q0r wo m) jn;have j2:=hid (Q0r wo m);generalize hW:wo.drewN m=wr at z4 x4 z0 j2 ⊢;have HW:=hid hW;clear hW q4 y4 jn k5;by_cases hlt3:j<l.length
   ·have s3:(j:Int)<(l.length:Int):=by omega
    rw[x5e _ _ _ _ _ hlt3]at hrec;obtain⟨gl,ol,rfl,y5⟩:=jh.out j hlt3;have z5:=Q0i j2.out y5;have j8:=jk.out l[j] (qG hlt3);have j9:=fun(k:Nat) (hk:k<H)=>(HB.fresh j2.out).cell (j:=k) (by rw[jj.out];exact hk);have BQ:=hid (fun n=>z1i (wr.drewN n) b R a0 c0 (Q0i (Q0r wr n) z0) (by omega));generalize l[j]=c at hrec z5 j8;clear y5;cases A
    ·rw[qCi]at hrec;have j1:=hid hrec;obtain⟨dz,jo⟩:∃dz:Int,IntKind.i64.wrap (c-bs R)=dz:=⟨_,rfl⟩;clear hrec j9 j8;go_wp2;go_quiet (first|(go_at_call 34;refine Calls.quiet_of_same (BQ.out _)));go_wp2;go_roundw
     case rel=>exact⟨j+1,m+nq,false,by go_num,rfl,by omega,by rw[← HW.out,World.drewN_drewN],j1.out⟩
     exact j5.out
    rw[qBa]at hrec;by_cases hneg:c-bs R<0
    ·have e1:Q6h (bs R) rules out c=rules:=by unfold Q6h;rw[qBl hneg,qBh (by omega)];simp
     rw[e1]at hrec;have j1:=hid hrec;have s1:decide (c-bs R<0)=true:=qBl hneg;have s6:¬0<=c-bs R:=by omega
     have jo:IntKind.i64.wrap (c-bs R)=c-bs R:=by rw[IntKind.wrap_i64];unfold bs;omega
     clear hrec j9 j8 e1;cases rules;all_goals
      go_wp2;go_quiet (first|(go_at_call 34;refine Calls.quiet_of_same (BQ.out _)));go_wp2;go_roundw
      case rel=>exact⟨j+1,m+nq,_,by go_num,rfl,by omega,by rw[← HW.out,World.drewN_drewN],j1.out⟩
      exact j5.out
    obtain⟨dz,hdz⟩:∃dz:Nat,c-bs R=dz:=⟨(c-bs R).toNat,by omega⟩;have jx:dz<H:=by unfold bs at hdz;omega
    have e1:Q6h (bs R) rules out c=out.getD dz false:=by unfold Q6h;rw[hdz,qBh (by omega),qBl (by omega),qAl];simp
    rw[e1]at hrec;have jm:=j9 dz jx;have s1:¬(dz:Int)<0:=by omega
    have s6:(0:Int)<=(dz:Int):=by omega
    have s7:(dz:Int)<(H:Int):=by omega
    have jo:IntKind.i64.wrap (c-bs R)=(dz:Int):=by rw[IntKind.wrap_i64];unfold bs at hdz ⊢;omega
    generalize out.getD dz false=oj at hrec jm;have j1:=hid hrec;clear hrec j9 j8 e1 hdz hneg;cases oj;all_goals
     go_wp2;go_quiet (first|(go_at_call 34;refine Calls.quiet_of_same (BQ.out _)));have jw:=Q0i (Q0r wr nq) jm;go_wp2;go_roundw
     case rel=>exact⟨j+1,m+nq,_,by go_num,rfl,by omega,by rw[← HW.out,World.drewN_drewN],j1.out⟩
     exact j5.out
   have s3:¬(j:Int)<(l.length:Int):=by omega
   rw[qAi (by omega),List.all_nil,Bool.and_true]at hrec;have j1:=hid hrec;have b1:=(HX.fresh j2.out).cell (j:=hn') (by rw[jf.out];exact k7);have b2:=(HX.fresh j2.out).frozen hn';have u3:=Q0i j2.out jl.1;have u4:=Q0i j2.out jl.2;have s5:(hn':Int)<(H:Int):=by omega
   have HP:Hid (∀c:Bool,Q1y (wr.setCell ⟨gx,hn',none⟩ (.bool c)).drew gx (nx.set hn' c)):=hid (fun c=>(HX.fresh j2.out).put hn' c);have jp:Hid (∀c:Bool,Q1y (wr.setCell ⟨gx,hn',none⟩ (.bool c)).drew g out):=hid (fun c=>by
    have:=HB.fresh j2.out;unfold Q1y at this ⊢;show(wr.setCell ⟨gx,hn',none⟩ (.bool c)).heap[g]? = _;rw[heap_setCell_other _ ji.out];exact this)
   have jr:Hid (∀c:Bool,Q0a w (wr.setCell ⟨gx,hn',none⟩ (.bool c)).drew):=hid (fun c=>((js.trans j2.out).setCell (by have:=jd.out;simp;omega) _).drew);generalize nx.getD hn' false=nb at j0 b1;clear hrec z0;cases nb<;>cases A;all_goals
    go_wp2_with fail
    go_region;all_goals
     go_wp2;go_roundw
     case rel=>exact⟨i+1,_,by go_num,by omega,HP.out _,by simp[jf.out],jp.out _,jr.out _,by have:=j0.out;rw[← j1.out]at this;simpa using this⟩
     exact je.out
  have s1:¬(i:Int)<(q.length:Int):=by omega
  rw[qAi (by omega)]at hrec;have j0:=hid hrec;clear hrec hX hxl hfr hB;go_wp2;go_roundw
  case rel=>exact⟨n+1,gx,nx,by go_num,rfl,by omega,jd.out,HX.out,jf.out,jq.out,by have:=j0.out;unfold Q9v at this;rw[this];exact j3.out⟩
  exact jt.out
 have k1:¬(n:Int)<(H:Int):=by omega
 have jz:n=H:=by omega
 rw[jz,qCu]at hrec;have j3:=hid hrec;clear hrec hfr hB hol;go_wp2;go_ret;exact⟨g,hg,rfl,by rw[← j3.out];exact HB.out,HF.out⟩
end Go.Proofs.YtcpceafmlgaodaaGreat
