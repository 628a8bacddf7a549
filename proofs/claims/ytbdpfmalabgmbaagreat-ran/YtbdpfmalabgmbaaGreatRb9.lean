import Derived.Test.YtbdpfmalabgmbaaGreatRb6
namespace Go.Proofs.YtbdpfmalabgmbaaGreat
open Go.RowKit
set_option maxRecDepth 99999
set_option maxHeartbeats 0
set_option linter.all false
theorem v25(base:Int)(null:List Bool)(L:Mat)(R:Nat)(l:List Int)(n i:Nat)(out:List Bool)(h:i<n):fiI base null L R l (n-i) i out=fiI base null L R l (n-(i+1)) (i+1) (if Q4b base null (l.take i)=true then fiT L (l.getD i 0) R 0 out else out):=by
 rw[show n-i=(n-(i+1))+1 by omega];rfl
theorem v26(L:Mat)(c:Int)(n t:Nat)(out:List Bool)(h:t<n):fiT L c (n-t) t out=fiT L c (n-(t+1)) (t+1) (out.set t ((out.getD t false||c==(t:Int))||atM L c.toNat t)):=by
 rw[show n-t=(n-(t+1))+1 by omega];rfl
theorem x2s(L:Mat)(c:Int):∀(f t:Nat) (out:List Bool),(fiT L c f t out).length=out.length
 |0,_,_=>rfl
 |f+1,t,out=>by unfold fiT;rw[x2s L c f];simp
def Q9z(w:World)(n:Nat)(l:List Bool)(e:Ending)(w':World):Prop:=∃g,e=.returned (bsl g n)/\w.heap.size<=g/\Q1x w' g l/\Q0a w w'
theorem y4d(w:World)(B ab b R H:Nat)(q:List Q1)(gn:Nat)(vL:Value)(gs:List Nat)(v:Value)(l:List Int)(hA:Q8c w B ab b R H q gn vL gs)(hS:Q3q w b R H q)(hQ:QOk R H q)(hnl:(Q4q (bs R) false q H).length=H) (hsq:Sq (R+1+H) (ldF R H (Q4q (bs R) false q H) q))
  (hv:Q1c w v l) (hl:l.length<=6) (hc:∀c∈l,0<=c/\c<(R:Int)+1+H) :
  Calls Tryz.prog 77 #[.pointer (some ⟨ab,0,none⟩),v] w fun e w'=>Q9z w (R+1) (fiF R H (Q4q (bs R) false q H) q l) e w':=by
 obtain⟨a0,c0,a1,c1,a2,c2,v3,v4,sv,hN⟩:=hS;have r8:=hQ.r8;have h8:=hQ.h8;obtain⟨ao,cap,rfl,jg,j5⟩:=hv;obtain⟨al,cl,k6⟩:=z0c hA.m.own;subst k6;have p0:=Q0b hA.o 0;have p1:=Q0b hA.o 1;have p2:=Q0b hA.o 2;simp at p0 p1 p2;have k0:=hN.k0;unfold fiF firF;generalize hnu:Q4q (bs R) false q H=null at hA hnl hsq ⊢;generalize hLd:ldF R H null q=L at hA hsq ⊢;have jv:Hid (Q1x w gn null):=hid (by have:=hA.n;rw[hnu]at this;exact this);have jd:Hid (Q1v w B (R+1+H) (.slice al gs.length cl) gs L):=hid (by have:=hA.m;rw[hnu,hLd]at this;exact this);have jp:gs.length=R+1+H:=by rw[jd.len,hsq.len]
 have ju:=hid hN;have k7:=hid hnl;have jx:=hid hsq;have HC:=hid j5;have jr:=hid hc;have jl:bs R=((R+1:Nat):Int):=by unfold bs;omega
 have BA:=hid (fun(W:World) (hW:Q0a w W)=>z1j W b R a0 c0 (Q0h hW k0) (by omega));rw[jl]at BA;have NO:=hid (fun(W:World) (i:Nat) (hW:Q0a w W) (hi:i<=l.length)=>z4q W b R H gn a0 c0 (.slice ao i cap) (l.take i) null (Q0h hW k0) (by omega) (by omega) ((Q1c.take ⟨ao,cap,rfl,jg,j5⟩ rfl hi).fresh hW) (by rw[qCo];omega) (jv.fresh hW) hnl (fun c hcc=>hc c (qFl hcc)));have mk:=fun w=>run_make_row' (P:=Tryz.prog) 118 4 (.bool false) 1 qCw (by kernel_rfl) rfl .i64 .i64 (R+1) (by omega) (by omega) w;generalize hV:fiI (bs R) null L R l l.length 0 (List.replicate (R+1) false)=V;generalize hbs:bs R=base at hV NO;have HV:=hid hV;have jy:R+1<=9:=by omega
 have je:=hid (show R<R+1 by omega);generalize hq1:R+1=R1 at HV BA mk jy je ⊢;have k8:=hid hq1;have js:=hid jp;have k4:gs.length<=20:=by omega
 clear hV hN hQ hnl hsq j5 hc hA hbs jl hq1 jp hnu hLd k0;go_enter Tryz.func77,Tryz.ntmps77
 go_wp2_with (first
  |(go_at_call 47;refine csm (BA.out _ (mRf _ _)) ?_))
 go_loopw [6,7,8] (fun x6 _ _ wr=>∃(i:Nat) (o:List Bool),x6=.int .i64 i/\i<=l.length/\Q1x wr w.heap.size o/\o.length=R1/\Q0a w wr/\fiI base null L R l (l.length-i) i o=V)
   (fun x _ _ _=>1001-(intOf x).toNat)
 case atStart =>
  refine⟨0,List.replicate R1 false,rfl,by omega,?_,by simp,(mRf _ w).alloc _,HV.out⟩;rw[z03];exact z0a _ _
 obtain⟨i,o,rfl,hi,hB,j6,j2,j0⟩:=hrel;have jc:=hid (Q19 (B:=1001) i (by omega));have HB:=hid hB;have jw:=hid j6;have HF:=hid j2;have u0:=Q0h j2 p0;have u1:=Q0h j2 p1;clear hB j6 mk;by_cases j9:i<l.length
 ·have k1:(i:Int)<(l.length:Int):=by omega
  have k2:(i:Int)<=(l.length:Int):=by omega
  rw[v25 _ _ _ _ _ _ _ _ j9]at j0;obtain⟨gl,ol,rfl,y5⟩:=HC.out i j9;have k3:(i:Int)<=(cap:Int):=by omega
  have jm:=jr.out l[i] (qG j9);obtain⟨cn,jh⟩:∃a:Nat,l[i]=a:=⟨l[i].toNat,by omega⟩;have jo:l.getD i 0=(cn:Int):=by rw[qD,qE j9,qDy,jh]
  rw[jh]at y5 jm;rw[jo]at j0;have jz:cn<gs.length:=by rw[js.out];omega
  have NQ:=hid (fun n=>NO.out (wr.drewN n) i (j2.trans (Q0v wr n)) (by omega));generalize Q4b base null (l.take i)=nb at j0 NQ;generalize hF2:(if nb=true then fiT L (cn:Int) R 0 o else o)=F2 at j0;have jk:=hid hF2;have j4:=hid j0;clear j0 hF2 j2 jo jh jm;go_wp2;go_quiet (first|(go_at_call 78;refine Calls.quiet_of (NQ.out _)));have jb:=hid (HF.trans (Q0v wr nq));have ja:=hid (HB.fresh (Q0v wr nq));generalize wr.drewN nq=W2 at jb ja ⊢;clear u0 u1 HB HF NQ;go_wp2;go_loopw [8] (fun x8 wi=>∃(t:Nat) (o:List Bool),x8=.int .i64 t/\t<=R/\Q1x wi w.heap.size o/\o.length=R1/\Q0a w wi/\(if nb=true then fiT L (cn:Int) (R-t) t o else o)=F2)
    (fun x _=>1001-(intOf x).toNat)
  case atStart=>exact⟨0,o,rfl,by omega,ja.out,jw.out,jb.out,jk.out⟩
  obtain⟨t,o2,rfl,ht,hB,j6,j2,j0⟩:=hrel;have jt:=hid (Q19 (B:=1001) t (by omega));have j7:=hid hB;have j3:=hid j6;have j8:=hid j2;have u0:=Q0h j2 p0;have u2:=Q0h j2 p2;have uk:=(ju.fresh j2).k0;clear jb ja jk j6;by_cases jj:t<R/\nb=true
  ·obtain⟨jq,k5⟩:=jj;subst k5;have s1:(t:Int)<(R:Int):=by omega
   have s2:(t:Int)<(R1:Int):=by have:=je.out;omega
   rw[qAb rfl,v26 _ _ _ _ _ jq,qAo]at j0;obtain⟨gv,cv,hv⟩:=Joins.ownsRow_form jd.own (by omega);rw[qI]at hv;obtain⟨rfl,_,rfl⟩:=hv;obtain⟨gc,ji⟩:∃g,gs[cn]? = some g:=⟨_,qE jz⟩;have jf:=jd.fresh j2;have r1:=jf.row ji;have d1:=jf.cell jx.out ji (j:=t) (by omega);have b1:=hB.cell (j:=t) (by rw[j3.out];have:=je.out;omega);have b2:=hB.frozen t;have z5:=Q0h j2 y5;have s3:(cn:Int)<(gs.length:Int):=by omega
   have s4:(t:Int)<((R+1+H:Nat):Int):=by omega
   generalize o2.getD t false=xa at j0 b1;generalize atM L cn t=xl at j0 d1;generalize hce:((cn:Int)==(t:Int))=xe at j0;have j1:=hid j0;have HP:Hid (∀c:Bool,Q1x (wr.setCell ⟨w.heap.size,t,none⟩ (.bool c)).drew w.heap.size (o2.set t c)/\Q0a w (wr.setCell ⟨w.heap.size,t,none⟩ (.bool c)).drew):=hid (fun c=>⟨j7.put t c,(j8.setCell (fun h=>absurd h (by simp)) _).drew⟩);clear j0 jf ji j2 hB;generalize R+1+H=nn at r1 s4;cases xa<;>cases xe<;>cases xl;all_goals
    go_wp2_with fail
    go_region;all_goals
     go_wp2;go_roundw
     case rel=>exact⟨t+1,_,by go_num,by omega,(HP.out _).1,by simp[j3.out],(HP.out _).2,by first|exact j1.out|(rw[qAb rfl];exact j1.out)|simpa using j1.out⟩
     exact jt.out
  have jn:(if nb=true then fiT L (cn:Int) (R-t) t o2 else o2)=o2:=by
   cases nb
   ·rfl
   have:R-t=0:=by
    rcases qCk t R with q|q
    ·exact absurd ⟨q,rfl⟩ jj
    omega
   rw[qAb rfl,this];rfl
  rw[jn]at j0;have j1:=hid j0;clear j0 jn j2 hB;cases nb
  ·by_cases jq:t<R
   ·have s1:(t:Int)<(R:Int):=by omega
    go_wp2;go_roundw
    case rel=>exact⟨i+1,o2,by go_num,by omega,j7.out,j3.out,j8.out,by rw[j1.out];exact j4.out⟩
    exact jc.out
   have s1:¬(t:Int)<(R:Int):=by omega
   go_wp2;go_roundw
   case rel=>exact⟨i+1,o2,by go_num,by omega,j7.out,j3.out,j8.out,by rw[j1.out];exact j4.out⟩
   exact jc.out
  have s1:¬(t:Int)<(R:Int):=by
   intro h;exact jj ⟨by omega,rfl⟩
  go_wp2;go_roundw
  case rel=>exact⟨i+1,o2,by go_num,by omega,j7.out,j3.out,j8.out,by rw[j1.out];exact j4.out⟩
  exact jc.out
 have k1:¬(i:Int)<(l.length:Int):=by omega
 have hz:l.length-i=0:=by omega
 rw[hz]at j0;have j4:=hid j0;clear j0 j2 hz;go_wp2;go_ret;refine⟨_,rfl,qR _,?_,HF.out⟩;have:=j4.out;unfold fiI at this;rw[← this];exact HB.out
def rchF(R H:Nat)(q:List Q1):List Bool:=((reF R H q).getD 0 []).set 0 true
theorem x6t(w:World)(B ab b R H:Nat)(q:List Q1)(gn:Nat)(vL:Value)(gL:List Nat)(hA:Q8c w B ab b R H q gn vL gL)(hS:Q3q w b R H q)(hQ:QOk R H q)(hnl:(Q4q (bs R) false q H).length=H) :
  Calls Tryz.prog 109 #[.pointer (some ⟨ab,0,none⟩)] w fun e w'=>MxRet w H (laF R H (Q4q (bs R) false q H) q) e w':=by
 obtain⟨a0,c0,a1,c1,a2,c2,v3,v4,sv,hN⟩:=hS;have r8:=hQ.r8;have h8:=hQ.h8;have p20:=hQ.p20;have p0:=Q0b hA.o 0;have p1:=Q0b hA.o 1;simp at p0 p1;have jw:=hA.n;generalize Q4q (bs R) false q H=null at jw hnl ⊢;have km:=hid jw;have kl:=hid hnl;clear hA jw hnl;have HQ:=hid hQ;have HN:=hid hN;have k1:=hN.k1;have k2:=hN.k2;have SQ:=hid (z7h w H (by omega));have CH:=hid (fun(W:World) (B:Nat) (v:Value) (gs:List Nat) (M:Mat) (h1:Q1v W B H v gs M) (h2:Sq H M)=>z8w W B H v gs M h1 h2 (by omega));have hV:Q5j (cdI (laC R null) laX (laY R) q (sqF H))=laF R H null q:=rfl;generalize laF R H null q=V at hV ⊢;have HV:=hid hV;clear hN hQ hV;go_enter Tryz.func109,Tryz.ntmps109
 go_wp2_with (first
  |(go_at_call 85;refine(SQ.out).mono ?_;rintro e w3⟨v,gs,rfl,hm,kc⟩;obtain⟨ao,cp,hv⟩:=z0c hm.own;subst hv;have HM:=hid hm;have HF:=hid kc;clear hm kc))
 generalize hL0:cdI (laC R null) laX (laY R) q (sqF H)=L0 at HV;have ka:=hid hL0;clear hL0 SQ;go_loopw [5,6,7,8] (fun x5 _ _ _ wr=>∃(i:Nat) (M:Mat),x5=.int .i64 i/\i<=q.length/\Q1v wr w.heap.size H (.slice ao gs.length cp) gs M/\Sq H M/\Q0a w wr/\cdI (laC R null) laX (laY R) (q.drop i) M=L0)
   (fun x _ _ _ _=>1001-(intOf x).toNat)
 case atStart=>exact⟨0,_,rfl,by omega,HM.out,y12 H,HF.out,ka.out⟩
 obtain⟨i,M,rfl,hi,hm,hs,j2,j0⟩:=hrel;have kk:=hid (Q19 (B:=1001) i (by omega));have jl:=hid hm;have jv:=hid hs;have js:=hid j2;have kx:=Q0h j2 k1;clear HM HF ka hs;by_cases jc:i<q.length
 ·have s1:(i:Int)<(q.length:Int):=by omega
  rw[v1z _ _ _ _ _ _ jc]at j0;generalize hF2:cdJ (laC R null q[i]) (laX q[i]) (laY R q[i]) q[i].2.length 0 M=F2 at j0;have j9:=hid j0;have ke:=HQ.hd q[i] (qG jc);have jo:=HQ.sy q[i] (qG jc);obtain⟨g3,o3,c3,g4,o4,n4,c4,al,cl,hP⟩:=HN.pr jc;generalize q[i]=z at hF2 ke jo hP;have k8:=hid hF2;have HP:=hid hP;have kw:=jo.1;have s4:(i:Int)<(n4:Int):=by have:=hP.n4;omega
  have kb:=hid jo.2;have q4:=(hP.fresh j2).q4;have y4:=(hP.fresh j2).y4;obtain⟨j7,kf⟩:∃a:Nat,z.1=a:=⟨z.1.toNat,by omega⟩;have kp:j7<H:=by omega
  have k9:=hid kf;clear j0 hF2 hP jo ke j2 kf hm;go_wp2;go_loopw [6,7,8] (fun x6 _ _ wr=>∃(j:Nat) (M:Mat),x6=.int .i64 j/\j<=z.2.length/\Q1v wr w.heap.size H (.slice ao gs.length cp) gs M/\Sq H M/\Q0a w wr/\cdJ (laC R null z) (laX z) (laY R z) (z.2.length-j) j M=F2)
    (fun x _ _ _=>1001-(intOf x).toNat)
  case atStart=>exact⟨0,M,rfl,by omega,jl.out,jv.out,js.out,k8.out⟩
  obtain⟨j,M2,rfl,hj,hm,hs,j2,j0⟩:=hrel;have jt:=hid (Q19 (B:=1001) j (by omega));have jm:=hid hm;have jf:=hid hs;have jk:=hid j2;have j6:=HP.fresh j2;have jz:=j6.l;clear jl jv js k8 q4 y4;have q4:=j6.q4;have y4:=j6.y4;by_cases j5:j<z.2.length
  ·have s2:(j:Int)<(z.2.length:Int):=by omega
   rw[v10 _ _ _ _ _ _ j5]at j0;have BQ:=hid (fun n=>z1j (wr.drewN n) b R a0 c0 (Q0h (j2.trans (Q0v wr n)) HN.k0) (by omega));have k3:=jz;obtain⟨kt,ku,e5,kv,j4⟩:=jz;rw[qI]at e5;obtain⟨rfl,_,rfl⟩:=e5;obtain⟨gl,ol,rfl,y5⟩:=j4 j j5;have jx:=kb.out z.2[j] (qG j5);have jn:z.2.getD j 0=z.2[j]:=by rw[qD,qE j5];rfl
   have jj:laX z=j7:=by unfold laX;rw[k9.out];simp
   have k4:laY R z j=(z.2[j]-bs R).toNat:=by unfold laY;rw[jn]
   have jy:laC R null z j=(decide (0<=z.2[j]-bs R)&&Q4b (bs R) null (z.2.drop (j+1))):=by unfold laC;rw[jn]
   rw[jy,jj,k4]at j0;have NQ:=hid (fun(n:Nat) (v:Value) (hv:Q1c wr v (z.2.drop (j+1)))=>z4q (wr.drewN n) b R H gn a0 c0 v (z.2.drop (j+1)) null (Q0h (j2.trans (Q0v wr n)) HN.k0) (by omega) (by omega) (hv.fresh (Q0v wr n)) (by rw[qCt];omega) (km.fresh (j2.trans (Q0v wr n))) kl.out (fun c hc=>kb.out c (List.mem_of_mem_drop hc)));have u1:=Q0h j2 p1;generalize z.2[j]=c at j0 jx y5;generalize Q4b (bs R) null (z.2.drop (j+1))=nb at j0 NQ;have s8:(j:Int)+1<=(z.2.length:Int):=by omega
   have s9:(j:Int)+1<=(cl:Int):=by omega
   have jg:Hid (cl=j+1->∀(ao:Option Addr) (n c:Nat),n=0->Q1c wr (.slice ao n c) (z.2.drop (j+1))):=hid (fun h ao n c hn=>Q1c.none (qAp (by omega)) hn);have jh:Hid (Q1c wr (.slice (some ⟨gl,ol+(j+1),none⟩) (z.2.length-(j+1)) (cl-(j+1))) (z.2.drop (j+1))):=hid (Q1c.drop k3 (j+1) (by omega));by_cases j8:0<=c-bs R
   ·obtain⟨yn,jp⟩:∃a:Nat,c-bs R=a:=⟨(c-bs R).toNat,by omega⟩;rw[qCj j8,qBm,jp,qAo]at j0;have kr:yn<H:=by unfold bs at jp;omega
    have t0:(0:Int)<=(yn:Int):=by omega
    have t2:(yn:Int)<(H:Int):=by omega
    have ks:IntKind.i64.wrap (c-bs R)=(yn:Int):=by rw[qBv];unfold bs at jp ⊢;omega
    have kq:gs.length=H:=by rw[hm.len,hs.len]
    have t1:(j7:Int)<(gs.length:Int):=by omega
    obtain⟨gx,kd⟩:∃g,gs[j7]? = some g:=⟨_,qE (by omega)⟩;obtain⟨gv,cv,hv⟩:=Joins.ownsRow_form hm.own (by omega);rw[qI]at hv;obtain⟨rfl,_,rfl⟩:=hv;have je:=hid kd;have j1:Hid (cdJ (laC R null z) (laX z) (laY R z) (z.2.length-(j+1)) (j+1) (if nb=true then Q72 M2 j7 yn true else M2)=F2):=hid (by rw[jj];exact j0);clear j0 jx j8 jp kq jy jj k4 jn hs hm kd j4 j2 k3;go_wp2;go_quiet (first|(go_at_call 47;refine Calls.quiet_of_same (BQ.out _)));have j3:=Q0v wr nq;have k5:=Q0h j3 q4;have k7:=Q0h j3 y4;have k6:=Q0h j3 u1;obtain⟨W0,ji⟩:∃W0,W0=wr.drewN nq:=⟨_,rfl⟩;have NR:=hid (fun(n:Nat) (v:Value) (hv:Q1c wr v (z.2.drop (j+1)))=>NQ.out (nq+n) v hv);simp only[← qDu]at NR;rw[← ji]at j3 k5 k7 k6 NR ⊢;have jr:=hid j3;clear ji j3 q4 y4 u1 NQ;go_upto_region 10 with fail
    go_cut [8] (fun s8 wx=>s8=.bool nb/\Q0a W0 wx)
    case first =>
     clear j6;rcases(show cl=j+1∨¬cl=j+1 by omega)with hc1|hc1
     ·have jq:=hid hc1;subst hc1;go_quiet (first|(go_at_call 78;refine Calls.quiet_of (NR.out _ _ (jg.out jq.out _ _ _ (by first|rfl|omega)))));go_wp2_with fail
      go_meet;exact⟨rfl,Q0v W0 nq⟩
     have ko:¬cl-(j+1)=0:=by omega
     go_quiet (first|(go_at_call 78;refine Calls.quiet_of (NR.out _ _ jh.out)));go_wp2_with fail
     go_meet;exact⟨rfl,Q0v W0 nq⟩
    obtain⟨rfl,jb⟩:=hcut;have hf:=jr.trans jb;cases nb
    ·have jd:=hid hf;clear hf jb j6;go_wp2;go_roundw
     case rel=>exact⟨j+1,M2,by go_num,by omega,jm.fresh jd.out,jf.out,jk.trans jd.out,by have:=j1.out;rw[qAa (by simp)]at this;exact this⟩
     exact jt.out
    have ja:=jm.fresh hf;have p3:=(j6.fresh hf).q3;have e3:=(j6.fresh hf).y3;rw[k9.out]at e3;have r1:=ja.row je.out;have d1:=ja.cell jf.out je.out kr;have d2:=(ja.blk j7 gx je.out).2.frozen yn;have ju:Hid (Q1v (wc.setCell ⟨gx,yn,none⟩ (.bool true)) w.heap.size H (.slice (some ⟨gv,0,none⟩) gs.length cp) gs (Q72 M2 j7 yn true)/\Sq H (Q72 M2 j7 yn true)/\Q0a w (wc.setCell ⟨gx,yn,none⟩ (.bool true))):=hid ⟨ja.put je.out yn true,y0b jf.out kp true,(jk.trans hf).setCell (fun jc=>by have:=(ja.blk j7 gx je.out).1;exact absurd jc (by show ¬gx<w.heap.size;omega)) _⟩;clear ja hf jb j6 y5;go_wp2;go_roundw
    case rel=>exact⟨j+1,_,by go_num,by omega,ju.1,ju.2.1,ju.2.2,by have:=j1.out;rw[qAb rfl]at this;exact this⟩
    exact jt.out
   have j1:Hid (cdJ (laC R null z) (laX z) (laY R z) (z.2.length-(j+1)) (j+1) M2=F2):=hid (by rw[qCa j8,qDh,qAa (by simp)]at j0;rw[jj];exact j0);have t0:¬0<=c-bs R:=j8;have ks:IntKind.i64.wrap (c-bs R)=c-bs R:=by rw[qBv];unfold bs;omega
   clear j0 jx jy jj k4 jn hs hm j4 j2 j6 k3;go_wp2;go_quiet (first|(go_at_call 47;refine Calls.quiet_of_same (BQ.out _)));have j3:=Q0v wr nq;have k5:=Q0h j3 q4;have k7:=Q0h j3 y4;have k6:=Q0h j3 u1;obtain⟨W0,ji⟩:∃W0,W0=wr.drewN nq:=⟨_,rfl⟩;have NR:=hid (fun(n:Nat) (v:Value) (hv:Q1c wr v (z.2.drop (j+1)))=>NQ.out (nq+n) v hv);simp only[← qDu]at NR;rw[← ji]at j3 k5 k7 k6 NR ⊢;have jr:=hid j3;clear ji j3 q4 y4 u1 NQ;go_upto_region 10 with fail
   go_cut [8] (fun s8 wx=>s8=.bool nb/\Q0a W0 wx)
   case first =>
    rcases(show cl=j+1∨¬cl=j+1 by omega)with hc1|hc1
    ·have jq:=hid hc1;subst hc1;go_quiet (first|(go_at_call 78;refine Calls.quiet_of (NR.out _ _ (jg.out jq.out _ _ _ (by first|rfl|omega)))));go_wp2_with fail
     go_meet;exact⟨rfl,Q0v W0 nq⟩
    have ko:¬cl-(j+1)=0:=by omega
    go_quiet (first|(go_at_call 78;refine Calls.quiet_of (NR.out _ _ jh.out)));go_wp2_with fail
    go_meet;exact⟨rfl,Q0v W0 nq⟩
   obtain⟨rfl,jb⟩:=hcut;have jd:=hid (jr.trans jb);clear jb;go_wp2;go_roundw
   case rel=>exact⟨j+1,M2,by go_num,by omega,jm.fresh jd.out,jf.out,jk.trans jd.out,j1.out⟩
   exact jt.out
  have s2:¬(j:Int)<(z.2.length:Int):=by omega
  have kg:z.2.length-j=0:=by omega
  rw[kg]at j0;have j1:=hid j0;clear j0 kg hm hs j2 jz j6;go_wp2;go_roundw
  case rel=>exact⟨i+1,M2,by go_num,by omega,jm.out,jf.out,jk.out,by have:=j1.out;unfold cdJ at this;rw[this];exact j9.out⟩
  exact kk.out
 have s1:¬(i:Int)<(q.length:Int):=by omega
 rw[qAp (by omega)]at j0;have j9:=hid j0;clear j0 j2 hm;go_wp2_with (first
  |(go_at_call 108;refine(CH.out _ _ _ _ _ jl.out jv.out).mono ?_;rintro e w3⟨rfl,kh,ki⟩;have kj:=hid kh;have kn:=hid ki;clear kh ki))
 go_ret;refine⟨_,gs,rfl,?_,?_⟩
 ·rw[← HV.out,← j9.out];exact kj.out
 exact js.trans' kn.out (fun k j5 hk=>by
  obtain⟨j,hj,rfl⟩:=qBf hk;have:=(jl.blk j _ (qE hj)).1;omega)
end Go.Proofs.YtbdpfmalabgmbaaGreat
