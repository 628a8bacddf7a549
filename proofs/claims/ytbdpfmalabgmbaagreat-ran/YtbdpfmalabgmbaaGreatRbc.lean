import Derived.Test.YtbdpfmalabgmbaaGreatRb9
namespace Go.Proofs.YtbdpfmalabgmbaaGreat
open Go.RowKit
set_option maxRecDepth 99999
set_option maxHeartbeats 0
set_option linter.all false
theorem v2j(n:Nat)(c:Nat->Bool)(g:Nat->List Bool)(m j:Nat)(out:List Bool)(h:j<m):orJ n c g (m-j) j out=orJ n c g (m-(j+1)) (j+1) (if c j=true then orI out (g j) n n else out):=by
 rw[show m-j=(m-(j+1))+1 by omega];rfl
theorem v29(n:Nat)(c:Q1->Nat->Bool)(g:Q1->Nat->List Bool)(q:List Q1)(i:Nat)(out:List Bool)(h:i<q.length):orQ n c g (q.drop i) out=orQ n c g (q.drop (i+1)) (orJ n (c q[i]) (g q[i]) q[i].2.length 0 out):=by
 rw[qC h];rfl
theorem x2r(base:Int)(null:List Bool)(L:Mat)(R:Nat)(l:List Int):∀(f i:Nat) (out:List Bool),(fiI base null L R l f i out).length=out.length
 |0,_,_=>rfl
 |f+1,i,out=>by
  unfold fiI;rw[x2r base null L R l f];split
  ·rw[x2s]
  rfl
theorem y6z(R H:Nat)(null:List Bool)(q:List Q1)(l:List Int):(fiF R H null q l).length=R+1:=by
 unfold fiF firF;rw[x2r];simp
theorem x38(R H:Nat)(null:List Bool)(q:List Q1)(h:Int):(nxF R H null q h).length=R+1:=by
 unfold nxF;exact(x4e q _ (by simp)).1
theorem x65(w:World)(B ab b R H:Nat)(q:List Q1)(gn:Nat)(vL:Value)(gL:List Nat)(head:Nat)(hA:Q8c w B ab b R H q gn vL gL)(hS:Q3q w b R H q)(hQ:QOk R H q)(hnl:(Q4q (bs R) false q H).length=H) (hsq:Sq (R+1+H) (ldF R H (Q4q (bs R) false q H) q)) (hhd:head<=1000) :
  Calls Tryz.prog 110 #[.pointer (some ⟨ab,0,none⟩),.int .i64 head] w fun e w'=>Q9z w (R+1) (nxF R H (Q4q (bs R) false q H) q head) e w':=by
 have FI:=hid (fun(W:World) (v:Value) (l:List Int) (hW:Q0a w W) (hv:Q1c W v l) (hl:l.length<=6) (hc:∀c∈l,0<=c/\c<(R:Int)+1+H)=>y4d W B ab b R H q gn vL gL v l (hA.fresh hW) (hS.fresh hW) hQ hnl hsq hv hl hc);obtain⟨a0,c0,a1,c1,a2,c2,v3,v4,sv,hN⟩:=hS;have r8:=hQ.r8;have h8:=hQ.h8;have p20:=hQ.p20;have p0:=Q0b hA.o 0;simp at p0;generalize Q4q (bs R) false q H=null at FI ⊢;have FL:=hid (fun l=>y6z R H null q l);clear hA hnl hsq;have HQ:=hid hQ;have HN:=hid hN;have k0:=hN.k0;have k1:=hN.k1;have ka:bs R=((R+1:Nat):Int):=by unfold bs;omega
 have BA:=hid (z1j w b R a0 c0 k0 (by omega));rw[ka]at BA;have kv:IntKind.i64.wrap (bs R+(head:Int))=bs R+head:=by rw[qBv];unfold bs;omega
 have mk:=fun w=>run_make_row' (P:=Tryz.prog) 118 4 (.bool false) 1 qCw (by kernel_rfl) rfl .i64 .i64 (R+1) (by omega) (by omega) w;have UN:=hid (fun(W:World) (ga gb:Nat) (xs ys:List Bool) (ha:Q1x W ga xs) (hb:Q1x W gb ys) (la:xs.length=R+1) (lb:ys.length=R+1)=>z23 W ga gb (R+1) xs ys ha hb la lb (by omega));generalize hhz:((head:Int)==0)=hz;have hV:orQ (R+1) (nxC R head) (nxG R H null q) q ((List.replicate (R+1) false).set R hz)=nxF R H null q head:=by unfold nxF;rw[hhz]
 generalize nxF R H null q head=V at hV ⊢;have HV:=hid hV;have k7:=hid (show R<R+1 by omega);have kk:R+1<=9:=by omega
 have OI:=hid (fun xs ys=>z2s xs ys (R+1) (R+1));generalize hq1:R+1=R1 at HV BA mk kk k7 UN FI FL OI ⊢;have kq:R<R1:=k7.out;have e1:(R:Int)<(R1:Int):=by omega
 clear hN hQ hV hq1 ka;go_enter Tryz.func110,Tryz.ntmps110
 go_upto_region 3 with(first
  |(go_at_call 47;refine csm BA.out ?_))
 have jm:Q0a w (w.alloc (.cells (madeCells #[.bool false] R1) 4)):=(mRf _ w).alloc _;have jb:Q1x (w.alloc (.cells (madeCells #[.bool false] R1) 4)) w.heap.size (List.replicate R1 false):=by rw[z03];exact z0a _ _
 generalize w.alloc (.cells (madeCells #[.bool false] R1) 4)=W1 at jm jb ⊢;have kl:=Q0h jm k0;have c9:=jb.cell (j:=R) (by simp;omega);have c8:=jb.frozen R;have k6:=hid (fun(c:Bool)=>(⟨jb.put R c,jm.setCell (fun h=>absurd h (by simp)) _⟩:Q1x (W1.setCell ⟨w.heap.size,R,none⟩ (.bool c)) w.heap.size ((List.replicate R1 false).set R c)/\Q0a w (W1.setCell ⟨w.heap.size,R,none⟩ (.bool c))));clear jm jb mk k0;go_cut [] (fun wx=>Q1x wx w.heap.size ((List.replicate R1 false).set R hz)/\Q0a w wx)
 case first =>
  cases hz;all_goals
   go_wp2_with fail
   go_meet;exact k6.out _
 obtain⟨k9,kc⟩:=hcut;have jp:=hid k9;have k2:=hid kc;clear k9 kc k6 c9 c8 kl hhz;generalize hO0:(List.replicate R1 false).set R hz=O0 at HV jp;have ja:=hid (show O0.length=R1 by rw[← hO0];simp);clear hO0;go_wp2;go_loopw [6,7,8,9] (fun x6 x7 _ _ wr=>∃(i go:Nat) (o:List Bool),x7=.int .i64 i/\i<=q.length/\x6=bsl go R1/\w.heap.size<=go/\Q1x wr go o/\o.length=R1/\Q0a w wr/\orQ R1 (nxC R head) (nxG R H null q) (q.drop i) o=V)
   (fun _ x _ _ _=>1001-(intOf x).toNat)
 case atStart=>exact⟨0,w.heap.size,O0,rfl,by omega,rfl,qR _,jp.out,ja.out,k2.out,HV.out⟩
 obtain⟨i,go,o,rfl,hi,rfl,ji,hB,jj,j3,j0⟩:=hrel;have ki:=hid (Q19 (B:=1001) i (by omega));have jq:=hid hB;have k5:=hid jj;have jt:=hid j3;have ku:=Q0h j3 k1;have j7:=hid ji;clear jp k2 HV ja hB jj ji;by_cases jz:i<q.length
 ·have s1:(i:Int)<(q.length:Int):=by omega
  rw[v29 _ _ _ _ _ _ jz]at j0;generalize hF2:orJ R1 (nxC R head q[i]) (nxG R H null q q[i]) q[i].2.length 0 o=F2 at j0;have j6:=hid j0;have jn:=HQ.sy q[i] (qG jz);obtain⟨g3,o3,c3,g4,o4,n4,c4,al,cl,hP⟩:=HN.pr jz;generalize q[i]=z at hF2 jn hP;have k3:=hid hF2;have HP:=hid hP;have kt:=jn.1;have s4:(i:Int)<(n4:Int):=by have:=hP.n4;omega
  have kj:=hid jn.2;have q4:=(hP.fresh j3).q4;have y4:=(hP.fresh j3).y4;clear j0 hF2 hP jn j3;go_wp2;go_loopw [6,8,9] (fun x6 x8 _ wr=>∃(j go:Nat) (o:List Bool),x8=.int .i64 j/\j<=z.2.length/\x6=bsl go R1/\w.heap.size<=go/\Q1x wr go o/\o.length=R1/\Q0a w wr/\orJ R1 (nxC R head z) (nxG R H null q z) (z.2.length-j) j o=F2)
    (fun _ x _ _=>1001-(intOf x).toNat)
  case atStart=>exact⟨0,go,o,rfl,by omega,rfl,j7.out,jq.out,k5.out,jt.out,k3.out⟩
  clear jq k5 jt k3 q4 y4 j7;obtain⟨j,k8,o2,rfl,hj,rfl,ji,hB,jj,j3,j0⟩:=hrel;have jv:=hid (Q19 (B:=1001) j (by omega));have jk:=hid hB;have jl:=hid jj;have j9:=hid j3;have k4:=hid ji;have je:=HP.fresh j3;have jy:=je.l;have q4:=je.q4;have y4:=je.y4;clear hB jj ji;by_cases j8:j<z.2.length
  ·have s2:(j:Int)<(z.2.length:Int):=by omega
   rw[v2j _ _ _ _ _ _ j8]at j0;have BQ:=hid (fun n=>z1j (wr.drewN n) b R a0 c0 (Q0h (j3.trans (Q0v wr n)) HN.k0) (by omega));have kf:=jy;obtain⟨ko,kp,e5,ks,j4⟩:=jy;rw[qI]at e5;obtain⟨rfl,_,rfl⟩:=e5;obtain⟨gl,ol,rfl,y5⟩:=j4 j j8;have kd:z.2.getD j 0=z.2[j]:=by rw[qD,qE j8];rfl
   have kb:nxC R head z j=(z.2[j]==bs R+(head:Int)):=by unfold nxC;rw[kd]
   rw[kb]at j0;generalize z.2[j]=c at j0 y5;generalize hqe:(c==bs R+(head:Int))=qe at j0;have s8:(j:Int)+1<=(z.2.length:Int):=by omega
   have s9:(j:Int)+1<=(cl:Int):=by omega
   have jw:Hid (cl=j+1->∀(ao:Option Addr) (n c:Nat),n=0->Q1c wr (.slice ao n c) (z.2.drop (j+1))):=hid (fun h ao n c hn=>Q1c.none (qAp (by omega)) hn);have jx:Hid (Q1c wr (.slice (some ⟨gl,ol+(j+1),none⟩) (z.2.length-(j+1)) (cl-(j+1))) (z.2.drop (j+1))):=hid (Q1c.drop kf (j+1) (by omega));have FQ:=hid (fun(W:World) (v:Value) (hW:Q0a wr W) (hv:Q1c wr v (z.2.drop (j+1)))=>FI.out W v (z.2.drop (j+1)) (j3.trans hW) (hv.fresh hW) (by rw[qCt];omega) (fun c hc=>kj.out c (List.mem_of_mem_drop hc)));have jo:=hid (FL.out (z.2.drop (j+1)));have HX:Hid (nxG R H null q z j=fiF R H null q (z.2.drop (j+1))):=hid rfl;rw[HX.out]at j0;generalize fiF R H null q (z.2.drop (j+1))=fv at FQ jo j0;clear kb kd j4 j3 je kf HX;cases qe
   ·rw[qAa (by simp)]at j0;have j1:=hid j0;clear j0;go_wp2;go_quiet (first|(go_at_call 47;refine Calls.quiet_of_same (BQ.out _)));have hf:=Q0v wr nq;have j2:=hid hf;generalize wr.drewN nq=W2 at j2 ⊢;clear hf;go_wp2;go_roundw
    case rel=>exact⟨j+1,k8,o2,by go_num,by omega,rfl,k4.out,jk.fresh j2.out,jl.out,j9.trans j2.out,j1.out⟩
    exact jv.out
   rw[qAb rfl]at j0;have j1:=hid j0;clear j0;go_wp2;go_quiet (first|(go_at_call 47;refine Calls.quiet_of_same (BQ.out _)));have hf:=Q0v wr nq;have km:=Q0h hf q4;have kn:=Q0h hf y4;have j2:=hid hf;generalize wr.drewN nq=W2 at j2 km kn ⊢;clear hf q4 y4 y5;rcases(show cl=j+1∨¬cl=j+1 by omega)with hc1|hc1
   ·have kg:=hid hc1;subst hc1;go_wp2_with (first
     |(go_at_call 80;refine(UN.out _ _ _ _ _ ((jk.fresh j2.out).fresh j5.out) jr.out jl.out jo.out).mono ?_;rintro e w4⟨rfl,jg,jd⟩;have ju:=hid jg;have js:=hid jd;clear jg jd)
     |(go_at_call 77;refine(FQ.out _ _ j2.out (jw.out kg.out _ _ _ (by first|rfl|omega))).mono ?_;rintro e w3⟨g9,rfl,jh,jc,jf⟩;have j5:=hid jf;have jr:=hid jc;have kh:=hid jh;clear jf jc jh))
    go_roundw
    case rel=>exact⟨j+1,w3.heap.size,_,by go_num,by omega,rfl,by have h1:=j9.size;have h2:=j2.size;have h3:=j5.size;omega,js.out,OI.out _ _,((j9.trans j2.out).trans j5.out).trans ju.out,j1.out⟩
    exact jv.out
   have kr:¬cl-(j+1)=0:=by omega
   go_wp2_with (first
    |(go_at_call 80;refine(UN.out _ _ _ _ _ ((jk.fresh j2.out).fresh j5.out) jr.out jl.out jo.out).mono ?_;rintro e w4⟨rfl,jg,jd⟩;have ju:=hid jg;have js:=hid jd;clear jg jd)
    |(go_at_call 77;refine(FQ.out _ _ j2.out jx.out).mono ?_;rintro e w3⟨g9,rfl,jh,jc,jf⟩;have j5:=hid jf;have jr:=hid jc;have kh:=hid jh;clear jf jc jh))
   go_roundw
   case rel=>exact⟨j+1,w3.heap.size,_,by go_num,by omega,rfl,by have h1:=j9.size;have h2:=j2.size;have h3:=j5.size;omega,js.out,OI.out _ _,((j9.trans j2.out).trans j5.out).trans ju.out,j1.out⟩
   exact jv.out
  have s2:¬(j:Int)<(z.2.length:Int):=by omega
  have ke:z.2.length-j=0:=by omega
  rw[ke]at j0;have j1:=hid j0;clear j0 ke j3 jy je;go_wp2;go_roundw
  case rel=>exact⟨i+1,k8,o2,by go_num,by omega,rfl,k4.out,jk.out,jl.out,j9.out,by have:=j1.out;unfold orJ at this;rw[this];exact j6.out⟩
  exact ki.out
 have s1:¬(i:Int)<(q.length:Int):=by omega
 rw[qAp (by omega)]at j0;have j6:=hid j0;clear j0 j3;go_wp2;go_ret;refine⟨go,rfl,j7.out,?_,jt.out⟩;have:=j6.out;unfold orQ at this;rw[← this];exact jq.out
theorem x98(R H:Nat)(null:List Bool)(q:List Q1)(h:Nat):(foF R H null q h).length=R+1:=by
 unfold foF;exact(y89 _ _ _ (x38 _ _ _ _ _)).1
theorem x0g(w:World)(B ab b R H:Nat)(q:List Q1)(gn:Nat)(vL:Value)(gL:List Nat)(head:Nat)(hA:Q8c w B ab b R H q gn vL gL)(hS:Q3q w b R H q)(hQ:QOk R H q)(hnl:(Q4q (bs R) false q H).length=H) (hsq:Sq (R+1+H) (ldF R H (Q4q (bs R) false q H) q)) (hsl:Sq H (laF R H (Q4q (bs R) false q H) q)) (hhd:head<H) :
  Calls Tryz.prog 79 #[.pointer (some ⟨ab,0,none⟩),.int .i64 head] w fun e w'=>Q9z w (R+1) (foF R H (Q4q (bs R) false q H) q head) e w':=by
 have r8:=hQ.r8;have h8:=hQ.h8;have NX:=hid (fun(W:World) (h:Nat) (hW:Q0a w W) (hh:h<=1000)=>x65 W B ab b R H q gn vL gL h (hA.fresh hW) (hS.fresh hW) hQ hnl hsq hh);have LA:=hid (x6t w B ab b R H q gn vL gL hA hS hQ hnl);obtain⟨a0,c0,a1,c1,a2,c2,v3,v4,sv,hN⟩:=hS;have p0:=Q0b hA.o 0;simp at p0;have k2:=hN.k2;have hV:orJ (R+1) (fun h=>atM (laF R H (Q4q (bs R) false q H) q) h head) (fun h=>nxF R H (Q4q (bs R) false q H) q h) H 0 (nxF R H (Q4q (bs R) false q H) q head)=foF R H (Q4q (bs R) false q H) q head:=rfl;have NL:=hid (fun h=>x38 R H (Q4q (bs R) false q H) q h);generalize foF R H (Q4q (bs R) false q H) q head=V at hV ⊢;generalize laF R H (Q4q (bs R) false q H) q=L at LA hsl hV;generalize Q4q (bs R) false q H=null at NX NL hV;clear hA hnl hsq hN hQ;have UN:=hid (fun(W:World) (ga gb:Nat) (xs ys:List Bool) (ha:Q1x W ga xs) (hb:Q1x W gb ys) (la:xs.length=R+1) (lb:ys.length=R+1)=>z23 W ga gb (R+1) xs ys ha hb la lb (by omega));have OI:=hid (fun xs ys=>z2s xs ys (R+1) (R+1));have HV:=hid hV;have jf:=hid hsl;generalize hq1:R+1=R1 at HV UN NX NL OI ⊢;generalize hG:(fun h:Nat=>nxF R H null q (h:Int))=G at HV;have HG:=hid hG;have e1:(head:Int)<(H:Int):=by omega
 clear hV hq1 hsl hG r8;go_enter Tryz.func79,Tryz.ntmps79
 go_wp2_with (first
  |(go_at_call 110;refine(NX.out _ head HF.out (by omega)).mono ?_;rintro e w4⟨go,rfl,j5,jh,jk⟩;have j7:=hid jk;have j9:=hid jh;have jc:=hid j5;clear jk jh j5)
  |(go_at_call 109;refine(LA.out).mono ?_;rintro e w3⟨v,gs,rfl,hm,jm⟩;obtain⟨ao,cp,hv⟩:=z0c hm.own;subst hv;have HM:=hid hm;have HF:=hid jm;clear hm jm))
 have jd:=hid (HM.fresh j7.out);have j2:=hid (HF.trans j7.out);have ja:=hid (show w.heap.size<=go by have h1:=HF.size;have h2:=jc.out;omega);have jn:gs.length=H:=by rw[HM.len,jf.len]
 obtain⟨gv,cv,hv⟩:=Joins.ownsRow_form HM.own (by omega);rw[qI]at hv;obtain⟨rfl,_,rfl⟩:=hv;have jt:=hid jn;have ju:H<=gs.length:=by omega
 clear HM HF j7 jc jn;go_loopw [6,7,8] (fun x6 x7 _ wr=>∃(i go:Nat) (o:List Bool),x7=.int .i64 i/\i<=H/\x6=bsl go R1/\w.heap.size<=go/\Q1x wr go o/\o.length=R1/\Q1v wr w.heap.size H (.slice (some ⟨gv,0,none⟩) gs.length cp) gs L/\Q0a w wr/\orJ R1 (fun h=>atM L h head) G (H-i) i o=V)
   (fun _ x _ _=>1001-(intOf x).toNat)
 case atStart=>exact⟨0,go,_,rfl,by omega,rfl,ja.out,j9.out,NL.out _,jd.out,j2.out,HV.out⟩
 obtain⟨i,g2,o,rfl,hi,rfl,j5,hB,jo,hm,j4,j0⟩:=hrel;have je:=hid (Q19 (B:=1001) i (by omega));have HB:=hid hB;have HO:=hid jo;have j3:=hid j4;have HM:=hid hm;have jb:=hid j5;have u0:=Q0h j4 p0;have jv:=Q0h j4 k2;clear j9 jd j2 ja HV hB jo j5;by_cases js:i<H
 ·have s1:(i:Int)<(H:Int):=by omega
  rw[v2j _ _ _ _ _ _ js]at j0;obtain⟨gc,j8⟩:∃g,gs[i]? = some g:=⟨_,qE (by omega)⟩;have r1:=hm.row j8;have d1:=hm.cell jf.out j8 hhd;have s2:(i:Int)<(gs.length:Int):=by omega
  generalize atM L i head=ab1 at j0 d1;clear j4 hm j8;cases ab1
  ·rw[qAa (by simp)]at j0;have j1:=hid j0;clear j0;go_wp2;go_roundw
   case rel=>exact⟨i+1,g2,o,by go_num,by omega,rfl,jb.out,HB.out,HO.out,HM.out,j3.out,j1.out⟩
   exact je.out
  rw[qAb rfl]at j0;have j1:=hid j0;clear j0;go_wp2_with (first
   |(go_at_call 80;refine(UN.out _ _ _ _ _ (HB.fresh j6.out) jp.out HO.out (NL.out _)).mono ?_;rintro e w5⟨rfl,jl,ji⟩;have j2:=hid jl;have jq:=hid ji;clear jl ji)
   |(go_at_call 110;refine(NX.out _ i j3.out (by omega)).mono ?_;rintro e w3⟨g9,rfl,jr,jg,jj⟩;have j6:=hid jj;have jp:=hid jg;clear jj jg jr))
  go_roundw
  case rel =>
   refine⟨i+1,w3.heap.size,_,by go_num,by omega,rfl,?_,jq.out,OI.out _ _,(HM.fresh j6.out).fresh j2.out,(j3.trans j6.out).trans j2.out,?_⟩
   ·have h1:=j3.size;have h2:=j6.size;omega
   have:=j1.out;rw[← HG.out]at this;rw[← HG.out];exact this
  exact je.out
 have s1:¬(i:Int)<(H:Int):=by omega
 rw[show H-i=0 by omega]at j0;have j1:=hid j0;clear j0 j4 hm;go_wp2;go_ret;refine⟨g2,rfl,jb.out,?_,j3.out⟩;have:=j1.out;unfold orJ at this;rw[← this];exact HB.out
section
variable {ps:List Pr}{R H:Nat}
theorem y68(hT:Q1d ps R H):Q7g ps H (Q4q (bs R) false (Q0e R ps) H):=⟨(z83 hT).1,(z83 hT).2⟩
theorem x7t(hT:Q1d ps R H)(hH:0<H):(rchF R H (Q0e R ps)).length=H:=by
 obtain⟨r1,r2⟩:=v2o (ps:=ps) hT;unfold rchF;rw[qBr];exact r1.row 0 hH
end
theorem x5l{s:ByteArray}(hc:Q0u s=(0,0)):Q1d (Q0p (Q0c s).1) (Q0g (Q0c s).1).length (Q0j (Q0c s).1).length/\(Q0g (Q0c s).1).length<=8:=by
 obtain⟨c1,c2,c3,c4,c5⟩:=z2d hc;have hI:=Q62 hc;have j0:=Q7y hc;exact⟨tabOk c3 hI.places j0.mem,y28 (fun y hy=>(hI.places y hy).1) c5⟩
structure NumOk(R H:Nat)(q:List Q1):Prop where
 qk:QOk R H q
 n:(Q4q (bs R) false q H).length=H
 u:(Q4q (bs R) true q H).length=H
 r:(rchF R H q).length=H
 sl:Sq (R+1+H) (ldF R H (Q4q (bs R) false q H) q)
 sa:Sq H (laF R H (Q4q (bs R) false q H) q)
 se:Sq H (reF R H q)
 pos:0<H
theorem x37{s:ByteArray}(hc:Q0u s=(0,0)):NumOk (Q0g (Q0c s).1).length (Q0j (Q0c s).1).length (Q0e (Q0g (Q0c s).1).length (Q0p (Q0c s).1)):=by
 obtain⟨hT,hR⟩:=x5l hc;have hQ:=q_ok hc hT hR;have hp:0<(Q0j (Q0c s).1).length:=by
  have:=hQ.hd _ (qG hQ.pos);omega
 exact⟨hQ,(z83 hT).1,(x6f hT).1,x7t hT hp,(v2d hT (y68 hT)).1,(v2b hT (y68 hT)).1,(v2o hT).1,hp⟩
attribute [local go_sem ↓] z17
def ahF(R H:Nat)(null:List Bool)(q:List Q1)(z:Q1):List Bool :=
 if Q4b (bs R) null z.2=true then orI (fiF R H null q z.2) (foF R H null q z.1.toNat) (R+1) (R+1) else fiF R H null q z.2
theorem x9s(R H:Nat)(null:List Bool)(q:List Q1)(z:Q1):(ahF R H null q z).length=R+1:=by
 unfold ahF;split
 ·exact z2s _ _ _ _
 exact y6z _ _ _ _ _
section
variable {ps:List Pr}{R H:Nat}
theorem v24(hT:Q1d ps R H)(hR:R<=8){p:Pr}(hp:p∈ps){t:Nat}(ht:t<R+1) :
  (ahF R H (Q4q (bs R) false (Q0e R ps) H) (Q0e R ps) (p.head,p.syms.map (Q0w R))).getD t false=(Q8n (Q33 ps (Q0z R H)) p.head p.syms).getD t false:=by
 have hh:=hT.hd p hp;have hH:0<H:=by omega
 have hS:=x71 hT hR hH;have hn:=y68 hT;have j0:=fun s hs=>hT.sy p hp s hs;rw[z89 (z8o hT hR).ok hR t p.head p.syms j0];have e1:hN (Q33 ps (Q0z R H))=NS ps H:=funext hS.n;have e2:(fun X=>hF (Q33 ps (Q0z R H)) X t)=fun X=>FS ps (NS ps H) t H X:=funext fun X=>hS.f X t;rw[e1,e2];have fi:=(v14 hT hn j0).2 t;have no:Q4b (bs R) (Q4q (bs R) false (Q0e R ps) H) (p.syms.map (Q0w R))=p.syms.all (Q4c (NS ps H)):=y2u hn j0;have hd:((p.head.toNat:Nat):Int)=p.head:=by omega
 have fo:=(v27 hT hn p.head.toNat).2 t ht;rw[hd,← hS.o p.head t]at fo;unfold ahF;dsimp only;rw[no];by_cases h:p.syms.all (Q4c (NS ps H))=true
 ·rw[qAb h,z9y ht,fi,h,qBm];congr 1;rw[qBc];exact fo
 rw[qAa h,fi];have:p.syms.all (Q4c (NS ps H))=false:=by simpa using h
 rw[this];simp
end
def hitB(q:List Q1)(A:Mat)(h t i j:Nat):Bool:=(((q.getD i (0,[])).1==(h:Int)&&(q.getD j (0,[])).1==(h:Int))&&atM A i t)&&atM A j t
def zcJ(q:List Q1)(A:Mat)(h t i:Nat):Nat->Nat->List Cl->List Cl
 |0,_,acc=>acc
 |f+1,j,acc=>zcJ q A h t i f (j+1) (if hitB q A h t i j=true then acc++[⟨h,t,i,j⟩] else acc)
def zcI(q:List Q1)(A:Mat)(h t:Nat):Nat->Nat->List Cl->List Cl
 |0,_,acc=>acc
 |f+1,i,acc=>zcI q A h t f (i+1) (zcJ q A h t i (q.length-(i+1)) (i+1) acc)
def zcT(q:List Q1)(A:Mat)(h:Nat):Nat->Nat->List Cl->List Cl
 |0,_,acc=>acc
 |f+1,t,acc=>zcT q A h f (t+1) (zcI q A h t q.length 0 acc)
def zcH(q:List Q1)(A:Mat)(R:Nat):Nat->Nat->List Cl->List Cl
 |0,_,acc=>acc
 |f+1,h,acc=>zcH q A R f (h+1) (zcT q A h (R+1) 0 acc)
def Q5r(R H:Nat)(q:List Q1):Mat:=q.map (ahF R H (Q4q (bs R) false q H) q)
def zclF(R H:Nat)(q:List Q1):List Cl:=zcH q (Q5r R H q) R H 0 []
theorem y3r(q:List Q1)(A:Mat)(h t i:Nat):∀(f j:Nat) (acc:List Cl),acc.length<=(zcJ q A h t i f j acc).length
 |0,_,_=>qR _
 |f+1,j,acc=>by
  unfold zcJ;refine qDa ?_ (y3r q A h t i f (j+1) _);split
  ·simp
  exact qR _
theorem y3q(q:List Q1)(A:Mat)(h t:Nat):∀(f i:Nat) (acc:List Cl),acc.length<=(zcI q A h t f i acc).length
 |0,_,_=>qR _
 |f+1,i,acc=>by
  unfold zcI;exact qDa (y3r _ _ _ _ _ _ _ _) (y3q q A h t f (i+1) _)
theorem y3s(q:List Q1)(A:Mat)(h:Nat):∀(f t:Nat) (acc:List Cl),acc.length<=(zcT q A h f t acc).length
 |0,_,_=>qR _
 |f+1,t,acc=>by
  unfold zcT;exact qDa (y3q _ _ _ _ _ _ _) (y3s q A h f (t+1) _)
theorem y90(q:List Q1)(A:Mat)(R:Nat):∀(f h:Nat) (acc:List Cl),acc.length<=(zcH q A R f h acc).length
 |0,_,_=>qR _
 |f+1,h,acc=>by
  unfold zcH;exact qDa (y3s _ _ _ _ _ _) (y90 q A R f (h+1) _)
theorem v3k(q:List Q1)(A:Mat)(h t i n j:Nat)(acc:List Cl)(hj:j<n):zcJ q A h t i (n-j) j acc=zcJ q A h t i (n-(j+1)) (j+1) (if hitB q A h t i j=true then acc++[⟨h,t,i,j⟩] else acc):=by
 rw[show n-j=(n-(j+1))+1 by omega];rfl
theorem v3j(q:List Q1)(A:Mat)(h t n i:Nat)(acc:List Cl)(hi:i<n):zcI q A h t (n-i) i acc=zcI q A h t (n-(i+1)) (i+1) (zcJ q A h t i (q.length-(i+1)) (i+1) acc):=by
 rw[show n-i=(n-(i+1))+1 by omega];rfl
theorem v3l(q:List Q1)(A:Mat)(h n t:Nat)(acc:List Cl)(ht:t<n):zcT q A h (n-t) t acc=zcT q A h (n-(t+1)) (t+1) (zcI q A h t q.length 0 acc):=by
 rw[show n-t=(n-(t+1))+1 by omega];rfl
theorem v3i(q:List Q1)(A:Mat)(R n h:Nat)(acc:List Cl)(hh:h<n):zcH q A R (n-h) h acc=zcH q A R (n-(h+1)) (h+1) (zcT q A h (R+1) 0 acc):=by
 rw[show n-h=(n-(h+1))+1 by omega];rfl
structure Alk(q:List Q1)(A:Mat)(R:Nat)(z:List (Pr × List Bool)):Prop where
 len:z.length=q.length
 hd:∀(k:Nat) (h:k<z.length),(q.getD k (0,[])).1=z[k].1.head
 at':∀(k t:Nat) (h:k<z.length),t<R+1->atM A k t=Q9e z[k].2 t
theorem v2l(n t:Int)(z:List (Pr × List Bool))(i:Nat)(hi:i<z.length):ovL n t (z.drop i) i=if z[i].1.head=n/\Q9e z[i].2 t=true then(i:Int)::ovL n t (z.drop (i+1)) (i+1) else ovL n t (z.drop (i+1)) (i+1):=by
 rw[qC hi,ovL]
theorem x9p{q:List Q1}{A:Mat}{R:Nat}{z:List (Pr × List Bool)}(hA:Alk q A R z){h t i:Nat}(ht:t<R+1)(hi:i<z.length):∀(f j:Nat) (acc:List Cl),f+j=z.length ->
  zcJ q A h t i f j acc=acc++(if z[i].1.head=(h:Int)/\Q9e z[i].2 t=true then(ovL h t (z.drop j) j).map (fun s=>⟨h,t,i,s⟩) else [])
 |0,j,acc,e=>by
  rw[qAp (by omega)];simp[zcJ,ovL]
 |f+1,j,acc,e=>by
  have hj:j<z.length:=by omega
  unfold zcJ;rw[x9p hA ht hi f (j+1) _ (by omega),v2l _ _ _ _ hj];have hb:hitB q A h t i j=true↔(z[i].1.head=(h:Int)/\Q9e z[i].2 t=true)/\z[j].1.head=(h:Int)/\Q9e z[j].2 t=true:=by
   unfold hitB;rw[hA.hd i hi,hA.hd j hj,hA.at' i t hi ht,hA.at' j t hj ht];simp only[qAd,qBi];constructor
   ·rintro⟨⟨⟨a,b⟩,c⟩,d⟩;exact⟨⟨a,c⟩,b,d⟩
   rintro⟨⟨a,c⟩,b,d⟩;exact⟨⟨⟨a,b⟩,c⟩,d⟩
  by_cases h1:z[i].1.head=(h:Int)/\Q9e z[i].2 t=true
  ·rw[qAb h1,qAb h1];by_cases h2:z[j].1.head=(h:Int)/\Q9e z[j].2 t=true
   ·rw[qAb h2,qAb (hb.2 ⟨h1,h2⟩)];simp
   rw[qAa h2,qAa (fun e=>h2 (hb.1 e).2)]
  rw[qAa h1,qAa h1,qAa (fun e=>h1 (hb.1 e).1)]
theorem x9o{q:List Q1}{A:Mat}{R:Nat}{z:List (Pr × List Bool)}(hA:Alk q A R z){h t:Nat}(ht:t<R+1):∀(f i:Nat) (acc:List Cl),f+i=z.length ->
  zcI q A h t f i acc=acc++Q6l h t (ovL h t (z.drop i) i)
 |0,i,acc,e=>by
  rw[qAp (by omega)];simp[zcI,ovL,Q6l]
 |f+1,i,acc,e=>by
  have hi:i<z.length:=by omega
  unfold zcI;rw[x9o hA ht f (i+1) _ (by omega),x9p hA ht hi (q.length-(i+1)) (i+1) acc (by have:=hA.len;omega),v2l _ _ _ _ hi];by_cases h1:z[i].1.head=(h:Int)/\Q9e z[i].2 t=true
  ·rw[qAb h1,qAb h1,Q6l,qAs]
  rw[qAa h1,qAa h1];simp
theorem x9q{q:List Q1}{A:Mat}{R:Nat}{z:List (Pr × List Bool)}(hA:Alk q A R z){h:Nat}:∀(f t:Nat) (acc:List Cl),f+t=R+1 ->
  zcT q A h f t acc=acc++clT z h R (f+1) t
 |0,t,acc,e=>by
  unfold zcT clT;rw[qAa (by omega)];simp
 |f+1,t,acc,e=>by
  unfold zcT;rw[clT,x9q hA f (t+1) _ (by omega),qAb (by omega),x9o hA (by omega) q.length 0 acc (by rw[← hA.len];omega),qEc,qAs]
theorem x9n{q:List Q1}{A:Mat}{R H:Nat}{z:List (Pr × List Bool)}(hA:Alk q A R z):∀(f h:Nat) (acc:List Cl),f+h=H ->
  zcH q A R f h acc=acc++clN z R H (f+1) h
 |0,h,acc,e=>by
  unfold zcH clN;rw[qAa (by omega)];simp
 |f+1,h,acc,e=>by
  unfold zcH;rw[clN,x9n (H:=H) hA f (h+1) _ (by omega),qAb (by omega),x9q hA (R+1) 0 acc (by omega),qAs]
theorem y8b{s:ByteArray}(hc:Q0u s=(0,0)):zclF (Q0g (Q0c s).1).length (Q0j (Q0c s).1).length (Q0e (Q0g (Q0c s).1).length (Q0p (Q0c s).1))=Q13 s:=by
 obtain⟨hT,hR⟩:=x5l hc;unfold zclF Q13 Q6g;have hz:((Q0p (Q0c s).1).zip (Q0r (Q7p s) (Q0p (Q0c s).1)))=(Q0p (Q0c s).1).map (fun p=>(p,Q8n (Q7p s) p.head p.syms)):=by
  unfold Q0r;rw[List.zip_map_right];simp[List.zip_eq_zipWith,List.zipWith_self]
 rw[hz];refine x9n (z:=(Q0p (Q0c s).1).map (fun p=>(p,Q8n (Q7p s) p.head p.syms))) ⟨?_,?_,?_⟩ _ _ _ (by omega)
 ·unfold Q0e;simp
 ·intro k hk;rw[qAv]at hk;unfold Q0e;rw[qD,qBt,qE hk,qCd];rfl
 intro k t hk ht;rw[qAv]at hk;rw[qCd];have:=v24 hT hR (qG hk) ht;have e:(Q5r (Q0g (Q0c s).1).length (Q0j (Q0c s).1).length (Q0e (Q0g (Q0c s).1).length (Q0p (Q0c s).1))).getD k []=ahF (Q0g (Q0c s).1).length (Q0j (Q0c s).1).length (Q4q (bs (Q0g (Q0c s).1).length) false (Q0e (Q0g (Q0c s).1).length (Q0p (Q0c s).1)) (Q0j (Q0c s).1).length) (Q0e (Q0g (Q0c s).1).length (Q0p (Q0c s).1)) (((Q0p (Q0c s).1)[k]).head,((Q0p (Q0c s).1)[k]).syms.map (Q0w (Q0g (Q0c s).1).length)):=by
  unfold Q5r;rw[qD,qBt,show(Q0e (Q0g (Q0c s).1).length (Q0p (Q0c s).1))[k]? = some (((Q0p (Q0c s).1)[k]).head,((Q0p (Q0c s).1)[k]).syms.map (Q0w (Q0g (Q0c s).1).length)) from by
   unfold Q0e;rw[qBt,qE hk];rfl]
  rfl
 unfold atM;rw[e,this];unfold Q9e;rw[qAb (by omega),qAo];rfl
theorem x1j(w:World)(B ab b R H:Nat)(q:List Q1)(gn:Nat)(vL:Value)(gL:List Nat)(i:Nat)(hi:i<q.length)(hA:Q8c w B ab b R H q gn vL gL)(hS:Q3q w b R H q)(hK:NumOk R H q) :
  Calls Tryz.prog 46 #[.pointer (some ⟨ab,0,none⟩),.int .i64 i] w fun e w'=>Q9z w (R+1) (ahF R H (Q4q (bs R) false q H) q q[i]) e w':=by
 have hQ:=hK.qk;have r8:=hQ.r8;have h8:=hQ.h8;have jl:=hQ.hd q[i] (qG hi);have j5:=hQ.sy q[i] (qG hi);have FO:=hid (fun(W:World) (h:Nat) (hW:Q0a w W) (hh:h<H)=>x0g W B ab b R H q gn vL gL h (hA.fresh hW) (hS.fresh hW) hQ hK.n hK.sl hK.sa hh);have FI:=hid (fun(v:Value) (hv:Q1c w v q[i].2)=>y4d w B ab b R H q gn vL gL v q[i].2 hA hS hQ hK.n hK.sl hv j5.1 j5.2);have ja:=hid hA.n;have p0:=Q0b hA.o 0;have p1:=Q0b hA.o 1;simp at p0 p1;obtain⟨a0,c0,a1,c1,a2,c2,v3,v4,sv,hN⟩:=hS;obtain⟨g3,o3,c3,g4,o4,n4,c4,al,cl,hP⟩:=hN.pr hi;have k0:=hN.k0;have je:=hid hK.n;have j2:=hid (y6z R H (Q4q (bs R) false q H) q q[i].2);have jc:=hid (fun h=>x98 R H (Q4q (bs R) false q H) q h);unfold ahF;generalize Q4q (bs R) false q H=null at FO FI ja je j2 jc ⊢;have UN:=hid (fun(W:World) (ga gb:Nat) (xs ys:List Bool) (ha:Q1x W ga xs) (hb:Q1x W gb ys) (la:xs.length=R+1) (lb:ys.length=R+1)=>z23 W ga gb (R+1) xs ys ha hb la lb (by omega));generalize q[i]=z at jl j5 FI hP j2 ⊢;obtain⟨j3,jm⟩:∃a:Nat,z.1=a:=⟨z.1.toNat,by omega⟩;have jt:j3<H:=by omega
 have NO:=hid (fun(W:World) (n:Nat) (hW:Q0a w W)=>z4q (W.drewN n) b R H gn a0 c0 (.slice al z.2.length cl) z.2 null (Q0h (hW.trans (Q0v W n)) k0) (by omega) (by omega) (hP.l.fresh (hW.trans (Q0v W n))) (by omega) (ja.fresh (hW.trans (Q0v W n))) je.out j5.2);have q4:=hP.q4;have y4:=hP.y4;have s4:(i:Int)<(n4:Int):=by have:=hP.n4;omega
 have s3:(i:Int)<(q.length:Int):=by omega
 have HP:=hid hP;have j6:=hid (FI.out _ hP.l);rw[show z.1.toNat=j3 by omega];generalize hFV:fiF R H null q z.2=fv at j6 j2;generalize Q4b (bs R) null z.2=nb at NO;have jb:=hid (jc.out j3);have j7:=hid (fun(W:World) (hW:Q0a w W)=>FO.out W j3 hW jt);generalize foF R H null q j3=ov at j7 jb;generalize hq1:R+1=R1 at j7 j6 UN j2 jb ⊢;have js:=hid jm;clear hA hK hQ hN hP FO FI jl j5 hFV hq1 ja jm jc k0;go_enter Tryz.func46,Tryz.ntmps46
 go_wp2_with (first
  |(go_at_call 77;refine(j6.out).mono ?_;rintro e w1⟨g1,rfl,jk,jf,j1⟩;have jr:=hid jk;have jn:=hid jf;have jd:=hid j1;have u0:=Q0h j1 p0;have u1:=Q0h j1 p1;have jv:=Q0h j1 q4;have jw:=Q0h j1 y4;clear jk jf j1))
 go_quiet (first|(go_at_call 78;refine Calls.quiet_of (NO.out _ _ jd.out)));have j4:=Q0v w1 nq;have j0:=hid (jd.trans j4);have j8:=hid (jn.fresh j4);have v0:=Q0h j4 u0;have p3:=(HP.fresh j0.out).q3;have e3:=(HP.fresh j0.out).y3;rw[js.out]at e3;generalize w1.drewN nq=W2 at j4 j0 j8 v0 p3 e3 ⊢;clear j4 u0 u1 q4 y4 jv jw NO;cases nb
 ·go_wp2;go_ret;exact⟨g1,rfl,jr.out,j8.out,j0.out⟩
 go_wp2_with (first
  |(go_at_call 79;refine(j7.out _ j0.out).mono ?_;rintro e w3⟨jx,rfl,ju,jg,ji⟩;have jo:=hid jg;have j9:=hid ji;clear ju jg ji)
  |(go_at_call 80;refine(UN.out _ _ _ _ _ (j8.fresh j9.out) jo.out j2.out jb.out).mono ?_;rintro e w5⟨rfl,jj,jh⟩;have jq:=hid jj;have jp:=hid jh;clear jj jh))
 go_ret;refine⟨w3.heap.size,rfl,?_,jp.out,(j0.trans j9.out).trans jq.out⟩;have h1:=j0.size;have h2:=j9.size;omega
section
variable {P:Program}(w:World)
end
theorem x0k(w:World)(va vb:Value)(l:List Int)(ha:Q1c w va l)(hb:Q1c w vb l)(hl:l.length<=1000000000000000) :
  Calls Tryz.prog 8 #[va,vb] w fun e w'=>e=.returned (.bool true)/\∃m,w'=w.drewN m:=by
 obtain⟨aa,ca,rfl,j6,j0⟩:=ha;obtain⟨ab,cb,rfl,j7,j1⟩:=hb;have CA:=hid j0;have CB:=hid j1;clear j0 j1;go_enter Tryz.func8,Tryz.ntmps8
 go_wp2;go_loopw [5] (fun x5 wr=>∃(i m:Nat),x5=.int .i64 i/\wr=w.drewN m/\i<=l.length) (fun x _=>1000000000000001-(intOf x).toNat)
 case atStart=>exact⟨0,0,rfl,rfl,by omega⟩
 obtain⟨i,m,rfl,rfl,hi⟩:=hrel;have j5:=hid (Q19 (B:=1000000000000001) i (by omega));by_cases j4:i<l.length
 ·have k1:(i:Int)<(l.length:Int):=by omega
  obtain⟨g,o,rfl,j2⟩:=CA.out i j4;obtain⟨g2,o2,rfl,j3⟩:=CB.out i j4;have u1:=Q0h (Q0v w m) j2;have u2:=Q0h (Q0v w m) j3;generalize l[i]=c at u1 u2;generalize hW:w.drewN m=wr at u1 u2 ⊢;have HW:=hid hW;clear hW j2 j3;go_wp2;go_quiet (fail);go_wp2;go_roundw
  case rel=>exact⟨i+1,m+nq,by go_num,by rw[← HW.out,qDu],by omega⟩
  exact j5.out
 have k1:¬(i:Int)<(l.length:Int):=by omega
 go_wp2;go_ret;exact⟨rfl,m,rfl⟩
end Go.Proofs.YtbdpfmalabgmbaaGreat
