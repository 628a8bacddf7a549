import Derived.Test.YtcpceafmlgaodaaGreatRbb
namespace Go.Proofs.YtcpceafmlgaodaaGreat
open Go.RowKit
set_option maxRecDepth 99999
set_option maxHeartbeats 0
set_option linter.all false
theorem v1p(n:Nat)(c:Nat->Bool)(g:Nat->List Bool)(m j:Nat)(out:List Bool)(h:j<m):orJ n c g (m-j) j out=orJ n c g (m-(j+1)) (j+1) (if c j=true then orI out (g j) n n else out):=by
 rw[show m-j=(m-(j+1))+1 by omega];rfl
theorem v2c(n:Nat)(c:Q1->Nat->Bool)(g:Q1->Nat->List Bool)(q:List Q1)(i:Nat)(out:List Bool)(h:i<q.length):orQ n c g (q.drop i) out=orQ n c g (q.drop (i+1)) (orJ n (c q[i]) (g q[i]) q[i].2.length 0 out):=by
 rw[qC h];rfl
theorem x17(base:Int)(null:List Bool)(L:Mat)(R:Nat)(l:List Int):∀(f i:Nat) (out:List Bool),(fiI base null L R l f i out).length=out.length
 |0,_,_=>rfl
 |f+1,i,out=>by
  unfold fiI;rw[x17 base null L R l f];split
  ·rw[x18]
  rfl
theorem y6h(R H:Nat)(null:List Bool)(q:List Q1)(l:List Int):(fiF R H null q l).length=R+1:=by
 unfold fiF firF;rw[x17];simp
theorem x3p(R H:Nat)(null:List Bool)(q:List Q1)(h:Int):(nxF R H null q h).length=R+1:=by
 unfold nxF;exact(x3v q _ (by simp)).1
theorem x6p(w:World)(B ab b R H:Nat)(q:List Q1)(gn:Nat)(vL:Value)(gL:List Nat)(head:Nat)(hA:Q7y w B ab b R H q gn vL gL)(hS:Q3x w b R H q)(hQ:QOk R H q)(hnl:(Q4j (bs R) false q H).length=H) (hsq:Sq (R+1+H) (ldF R H (Q4j (bs R) false q H) q)) (hhd:head<=1000) :
  Calls Tryz.prog 94 #[.pointer (some ⟨ab,0,none⟩),.int .i64 head] w fun e w'=>Q9k w (R+1) (nxF R H (Q4j (bs R) false q H) q head) e w':=by
 have FI:=hid (fun(W:World) (v:Value) (l:List Int) (hW:Q0a w W) (hv:Q0z W v l) (hl:l.length<=6) (hc:∀c∈l,0<=c/\c<(R:Int)+1+H)=>y3v W B ab b R H q gn vL gL v l (hA.fresh hW) (hS.fresh hW) hQ hnl hsq hv hl hc);obtain⟨a0,c0,a1,c1,a2,c2,v3,v4,sv,hN⟩:=hS;have r8:=hQ.r8;have h8:=hQ.h8;have p20:=hQ.p20;have p0:=Q0b hA.o 0;simp at p0;generalize Q4j (bs R) false q H=null at FI ⊢;have FL:=hid (fun l=>y6h R H null q l);clear hA hnl hsq;have HQ:=hid hQ;have HN:=hid hN;have k0:=hN.k0;have k1:=hN.k1;have ju:bs R=((R+1:Nat):Int):=by unfold bs;omega
 have BA:=hid (z1i w b R a0 c0 k0 (by omega));rw[ju]at BA;have kd:IntKind.i64.wrap (bs R+(head:Int))=bs R+head:=by rw[IntKind.wrap_i64];unfold bs;omega
 have mk:=fun w=>run_make_row' (P:=Tryz.prog) 90 4 (.bool false) 1 Tryz.underlying90 (by kernel_rfl) rfl .i64 .i64 (R+1) (by omega) (by omega) w;have UN:=hid (fun(W:World) (ga gb:Nat) (xs ys:List Bool) (ha:Q1y W ga xs) (hb:Q1y W gb ys) (la:xs.length=R+1) (lb:ys.length=R+1)=>z2x W ga gb (R+1) xs ys ha hb la lb (by omega));generalize hhz:((head:Int)==0)=hz;have hV:orQ (R+1) (nxC R head) (nxG R H null q) q ((List.replicate (R+1) false).set R hz)=nxF R H null q head:=by unfold nxF;rw[hhz]
 generalize nxF R H null q head=V at hV ⊢;have HV:=hid hV;have jt:=hid (show R<R+1 by omega);have k5:R+1<=9:=by omega
 have OI:=hid (fun xs ys=>z2l xs ys (R+1) (R+1));generalize hq1:R+1=R1 at HV BA mk k5 jt UN FI FL OI ⊢;have k9:R<R1:=jt.out;have e1:(R:Int)<(R1:Int):=by omega
 clear hN hQ hV hq1 ju;go_enter Tryz.func94,Tryz.ntmps94
 go_upto_region 3 with(first
  |(go_at_call 34;refine csm BA.out ?_))
 have jb:Q0a w (w.alloc (.cells (madeCells #[.bool false] R1) 4)):=(mRf _ w).alloc _;have j7:Q1y (w.alloc (.cells (madeCells #[.bool false] R1) 4)) w.heap.size (List.replicate R1 false):=by rw[z03];exact z0a _ _
 generalize w.alloc (.cells (madeCells #[.bool false] R1) 4)=W1 at jb j7 ⊢;have k6:=Q0i jb k0;have c9:=j7.cell (j:=R) (by simp;omega);have c8:=j7.frozen R;have js:=hid (fun(c:Bool)=>(⟨j7.put R c,jb.setCell (fun h=>absurd h (by simp)) _⟩:Q1y (W1.setCell ⟨w.heap.size,R,none⟩ (.bool c)) w.heap.size ((List.replicate R1 false).set R c)/\Q0a w (W1.setCell ⟨w.heap.size,R,none⟩ (.bool c))));clear jb j7 mk k0;go_cut [] (fun wx=>Q1y wx w.heap.size ((List.replicate R1 false).set R hz)/\Q0a w wx)
 case first =>
  cases hz;all_goals
   go_wp2_with fail
   go_meet;exact js.out _
 obtain⟨hBx,hfx⟩:=hcut;have je:=hid hBx;have jo:=hid hfx;clear hBx hfx js c9 c8 k6 hhz;generalize hO0:(List.replicate R1 false).set R hz=O0 at HV je;have j6:=hid (show O0.length=R1 by rw[← hO0];simp);clear hO0;go_wp2;go_loopw [6,7,8,9] (fun x6 x7 _ _ wr=>∃(i go:Nat) (o:List Bool),x7=.int .i64 i/\i<=q.length/\x6=bsl go R1/\w.heap.size<=go/\Q1y wr go o/\o.length=R1/\Q0a w wr/\orQ R1 (nxC R head) (nxG R H null q) (q.drop i) o=V)
   (fun _ x _ _ _=>1001-(intOf x).toNat)
 case atStart=>exact⟨0,w.heap.size,O0,rfl,by omega,rfl,qR _,je.out,j6.out,jo.out,HV.out⟩
 obtain⟨i,go,o,rfl,hi,rfl,hgo,hB,hol,hfr,hrec⟩:=hrel;have k3:=hid (Q15 (B:=1001) i (by omega));have jf:=hid hB;have jr:=hid hol;have ji:=hid hfr;have kc:=Q0i hfr k1;have j4:=hid hgo;clear je jo HV j6 hB hol hgo;by_cases hlt:i<q.length
 ·have s1:(i:Int)<(q.length:Int):=by omega
  rw[v2c _ _ _ _ _ _ hlt]at hrec;generalize hF2:orJ R1 (nxC R head q[i]) (nxG R H null q q[i]) q[i].2.length 0 o=F2 at hrec;have j3:=hid hrec;have jc:=HQ.sy q[i] (qG hlt);obtain⟨g3,o3,c3,g4,o4,n4,c4,al,cl,hP⟩:=HN.pr hlt;generalize q[i]=z at hF2 jc hP;have jp:=hid hF2;have HP:=hid hP;have kb:=jc.1;have s4:(i:Int)<(n4:Int):=by have:=hP.n4;omega
  have k4:=hid jc.2;have q4:=(hP.fresh hfr).q4;have y4:=(hP.fresh hfr).y4;clear hrec hF2 hP jc hfr;go_wp2;go_loopw [6,8,9] (fun x6 x8 _ wr=>∃(j go:Nat) (o:List Bool),x8=.int .i64 j/\j<=z.2.length/\x6=bsl go R1/\w.heap.size<=go/\Q1y wr go o/\o.length=R1/\Q0a w wr/\orJ R1 (nxC R head z) (nxG R H null q z) (z.2.length-j) j o=F2)
    (fun _ x _ _=>1001-(intOf x).toNat)
  case atStart=>exact⟨0,go,o,rfl,by omega,rfl,j4.out,jf.out,jr.out,ji.out,jp.out⟩
  clear jf jr ji jp q4 y4 j4;obtain⟨j,go2,o2,rfl,hj,rfl,hgo,hB,hol,hfr,hrec⟩:=hrel;have jk:=hid (Q15 (B:=1001) j (by omega));have j9:=hid hB;have ja:=hid hol;have j5:=hid hfr;have jq:=hid hgo;have j8:=HP.fresh hfr;have jn:=j8.l;have q4:=j8.q4;have y4:=j8.y4;clear hB hol hgo;by_cases hlt2:j<z.2.length
  ·have s2:(j:Int)<(z.2.length:Int):=by omega
   rw[v1p _ _ _ _ _ _ hlt2]at hrec;have BQ:=hid (fun n=>z1i (wr.drewN n) b R a0 c0 (Q0i (hfr.trans (Q0r wr n)) HN.k0) (by omega));have jy:=jn;obtain⟨ao5,cp5,e5,hc5,cell5⟩:=jn;rw[qI]at e5;obtain⟨rfl,_,rfl⟩:=e5;obtain⟨gl,ol,rfl,y5⟩:=cell5 j hlt2;have jw:z.2.getD j 0=z.2[j]:=by rw[qD,qE hlt2];rfl
   have jv:nxC R head z j=(z.2[j]==bs R+(head:Int)):=by unfold nxC;rw[jw]
   rw[jv]at hrec;generalize z.2[j]=c at hrec y5;generalize hqe:(c==bs R+(head:Int))=qe at hrec;have s8:(j:Int)+1<=(z.2.length:Int):=by omega
   have s9:(j:Int)+1<=(cl:Int):=by omega
   have jl:Hid (cl=j+1->∀(ao:Option Addr) (n c:Nat),n=0->Q0z wr (.slice ao n c) (z.2.drop (j+1))):=hid (fun h ao n c hn=>Q0z.none (qAi (by omega)) hn);have jm:Hid (Q0z wr (.slice (some ⟨gl,ol+(j+1),none⟩) (z.2.length-(j+1)) (cl-(j+1))) (z.2.drop (j+1))):=hid (Q0z.drop jy (j+1) (by omega));have FQ:=hid (fun(W:World) (v:Value) (hW:Q0a wr W) (hv:Q0z wr v (z.2.drop (j+1)))=>FI.out W v (z.2.drop (j+1)) (hfr.trans hW) (hv.fresh hW) (by rw[qBx];omega) (fun c hc=>k4.out c (List.mem_of_mem_drop hc)));have jd:=hid (FL.out (z.2.drop (j+1)));have HX:Hid (nxG R H null q z j=fiF R H null q (z.2.drop (j+1))):=hid rfl;rw[HX.out]at hrec;generalize fiF R H null q (z.2.drop (j+1))=fv at FQ jd hrec;clear jv jw cell5 hfr j8 jy HX;cases qe
   ·rw[qAa (by simp)]at hrec;have j0:=hid hrec;clear hrec;go_wp2;go_quiet (first|(go_at_call 34;refine Calls.quiet_of_same (BQ.out _)));have hf:=Q0r wr nq;have j1:=hid hf;generalize wr.drewN nq=W2 at j1 ⊢;clear hf;go_wp2;go_roundw
    case rel=>exact⟨j+1,go2,o2,by go_num,by omega,rfl,jq.out,j9.fresh j1.out,ja.out,j5.trans j1.out,j0.out⟩
    exact jk.out
   rw[qAb rfl]at hrec;have j0:=hid hrec;clear hrec;go_wp2;go_quiet (first|(go_at_call 34;refine Calls.quiet_of_same (BQ.out _)));have hf:=Q0r wr nq;have k7:=Q0i hf q4;have k8:=Q0i hf y4;have j1:=hid hf;generalize wr.drewN nq=W2 at j1 k7 k8 ⊢;clear hf q4 y4 y5;rcases(show cl=j+1∨¬cl=j+1 by omega)with hc1|hc1
   ·have jz:=hid hc1;subst hc1;go_wp2_with (first
     |(go_at_call 70;refine(UN.out _ _ _ _ _ ((j9.fresh j1.out).fresh j2.out) jg.out ja.out jd.out).mono ?_;rintro e w4⟨rfl,hf4,hB4⟩;have jj:=hid hf4;have jh:=hid hB4;clear hf4 hB4)
     |(go_at_call 67;refine(FQ.out _ _ j1.out (jl.out jz.out _ _ _ (by first|rfl|omega))).mono ?_;rintro e w3⟨g9,rfl,hg9,hB3,hf3⟩;have j2:=hid hf3;have jg:=hid hB3;have k2:=hid hg9;clear hf3 hB3 hg9))
    go_roundw
    case rel=>exact⟨j+1,w3.heap.size,_,by go_num,by omega,rfl,by have h1:=j5.size;have h2:=j1.size;have h3:=j2.size;omega,jh.out,OI.out _ _,((j5.trans j1.out).trans j2.out).trans jj.out,j0.out⟩
    exact jk.out
   have ka:¬cl-(j+1)=0:=by omega
   go_wp2_with (first
    |(go_at_call 70;refine(UN.out _ _ _ _ _ ((j9.fresh j1.out).fresh j2.out) jg.out ja.out jd.out).mono ?_;rintro e w4⟨rfl,hf4,hB4⟩;have jj:=hid hf4;have jh:=hid hB4;clear hf4 hB4)
    |(go_at_call 67;refine(FQ.out _ _ j1.out jm.out).mono ?_;rintro e w3⟨g9,rfl,hg9,hB3,hf3⟩;have j2:=hid hf3;have jg:=hid hB3;have k2:=hid hg9;clear hf3 hB3 hg9))
   go_roundw
   case rel=>exact⟨j+1,w3.heap.size,_,by go_num,by omega,rfl,by have h1:=j5.size;have h2:=j1.size;have h3:=j2.size;omega,jh.out,OI.out _ _,((j5.trans j1.out).trans j2.out).trans jj.out,j0.out⟩
   exact jk.out
  have s2:¬(j:Int)<(z.2.length:Int):=by omega
  have jx:z.2.length-j=0:=by omega
  rw[jx]at hrec;have j0:=hid hrec;clear hrec jx hfr jn j8;go_wp2;go_roundw
  case rel=>exact⟨i+1,go2,o2,by go_num,by omega,rfl,jq.out,j9.out,ja.out,j5.out,by have:=j0.out;unfold orJ at this;rw[this];exact j3.out⟩
  exact k3.out
 have s1:¬(i:Int)<(q.length:Int):=by omega
 rw[qAi (by omega)]at hrec;have j3:=hid hrec;clear hrec hfr;go_wp2;go_ret;refine⟨go,rfl,j4.out,?_,ji.out⟩;have:=j3.out;unfold orQ at this;rw[← this];exact jf.out
theorem x9h(R H:Nat)(null:List Bool)(q:List Q1)(h:Nat):(foF R H null q h).length=R+1:=by
 unfold foF;exact(y8m _ _ _ (x3p _ _ _ _ _)).1
theorem y9s(w:World)(B ab b R H:Nat)(q:List Q1)(gn:Nat)(vL:Value)(gL:List Nat)(head:Nat)(hA:Q7y w B ab b R H q gn vL gL)(hS:Q3x w b R H q)(hQ:QOk R H q)(hnl:(Q4j (bs R) false q H).length=H) (hsq:Sq (R+1+H) (ldF R H (Q4j (bs R) false q H) q)) (hsl:Sq H (laF R H (Q4j (bs R) false q H) q)) (hhd:head<H) :
  Calls Tryz.prog 69 #[.pointer (some ⟨ab,0,none⟩),.int .i64 head] w fun e w'=>Q9k w (R+1) (foF R H (Q4j (bs R) false q H) q head) e w':=by
 have r8:=hQ.r8;have h8:=hQ.h8;have NX:=hid (fun(W:World) (h:Nat) (hW:Q0a w W) (hh:h<=1000)=>x6p W B ab b R H q gn vL gL h (hA.fresh hW) (hS.fresh hW) hQ hnl hsq hh);have LA:=hid (x6d w B ab b R H q gn vL gL hA hS hQ hnl);obtain⟨a0,c0,a1,c1,a2,c2,v3,v4,sv,hN⟩:=hS;have p0:=Q0b hA.o 0;simp at p0;have k2:=hN.k2;have hV:orJ (R+1) (fun h=>atM (laF R H (Q4j (bs R) false q H) q) h head) (fun h=>nxF R H (Q4j (bs R) false q H) q h) H 0 (nxF R H (Q4j (bs R) false q H) q head)=foF R H (Q4j (bs R) false q H) q head:=rfl;have NL:=hid (fun h=>x3p R H (Q4j (bs R) false q H) q h);generalize foF R H (Q4j (bs R) false q H) q head=V at hV ⊢;generalize laF R H (Q4j (bs R) false q H) q=L at LA hsl hV;generalize Q4j (bs R) false q H=null at NX NL hV;clear hA hnl hsq hN hQ;have UN:=hid (fun(W:World) (ga gb:Nat) (xs ys:List Bool) (ha:Q1y W ga xs) (hb:Q1y W gb ys) (la:xs.length=R+1) (lb:ys.length=R+1)=>z2x W ga gb (R+1) xs ys ha hb la lb (by omega));have OI:=hid (fun xs ys=>z2l xs ys (R+1) (R+1));have HV:=hid hV;have jb:=hid hsl;generalize hq1:R+1=R1 at HV UN NX NL OI ⊢;generalize hG:(fun h:Nat=>nxF R H null q (h:Int))=G at HV;have HG:=hid hG;have e1:(head:Int)<(H:Int):=by omega
 clear hV hq1 hsl hG r8;go_enter Tryz.func69,Tryz.ntmps69
 go_wp2_with (first
  |(go_at_call 94;refine(NX.out _ head HF.out (by omega)).mono ?_;rintro e w4⟨go,rfl,hgo,hB4,hf4⟩;have j4:=hid hf4;have j5:=hid hB4;have j8:=hid hgo;clear hf4 hB4 hgo)
  |(go_at_call 93;refine(LA.out).mono ?_;rintro e w3⟨v,gs,rfl,hm,hfx⟩;obtain⟨ao,cp,hv⟩:=z0d hm.own;subst hv;have HM:=hid hm;have HF:=hid hfx;clear hm hfx))
 have j9:=hid (HM.fresh j4.out);have j1:=hid (HF.trans j4.out);have j6:=hid (show w.heap.size<=go by have h1:=HF.size;have h2:=j8.out;omega);have jc:gs.length=H:=by rw[HM.len,jb.len]
 obtain⟨gv,cv,hv⟩:=Joins.ownsRow_form HM.own (by omega);rw[qI]at hv;obtain⟨rfl,_,rfl⟩:=hv;have jf:=hid jc;have jg:H<=gs.length:=by omega
 clear HM HF j4 j8 jc;go_loopw [6,7,8] (fun x6 x7 _ wr=>∃(i go:Nat) (o:List Bool),x7=.int .i64 i/\i<=H/\x6=bsl go R1/\w.heap.size<=go/\Q1y wr go o/\o.length=R1/\Q1t wr w.heap.size H (.slice (some ⟨gv,0,none⟩) gs.length cp) gs L/\Q0a w wr/\orJ R1 (fun h=>atM L h head) G (H-i) i o=V)
   (fun _ x _ _=>1001-(intOf x).toNat)
 case atStart=>exact⟨0,go,_,rfl,by omega,rfl,j6.out,j5.out,NL.out _,j9.out,j1.out,HV.out⟩
 obtain⟨i,g2,o,rfl,hi,rfl,hgo,hB,hol,hm,hfr,hrec⟩:=hrel;have ja:=hid (Q15 (B:=1001) i (by omega));have HB:=hid hB;have HO:=hid hol;have j2:=hid hfr;have HM:=hid hm;have j7:=hid hgo;have u0:=Q0i hfr p0;have jh:=Q0i hfr k2;clear j5 j9 j1 j6 HV hB hol hgo;by_cases hlt:i<H
 ·have s1:(i:Int)<(H:Int):=by omega
  rw[v1p _ _ _ _ _ _ hlt]at hrec;obtain⟨gc,hgc⟩:∃g,gs[i]? = some g:=⟨_,qE (by omega)⟩;have r1:=hm.row hgc;have d1:=hm.cell jb.out hgc hhd;have s2:(i:Int)<(gs.length:Int):=by omega
  generalize atM L i head=ab1 at hrec d1;clear hfr hm hgc;cases ab1
  ·rw[qAa (by simp)]at hrec;have j0:=hid hrec;clear hrec;go_wp2;go_roundw
   case rel=>exact⟨i+1,g2,o,by go_num,by omega,rfl,j7.out,HB.out,HO.out,HM.out,j2.out,j0.out⟩
   exact ja.out
  rw[qAb rfl]at hrec;have j0:=hid hrec;clear hrec;go_wp2_with (first
   |(go_at_call 70;refine(UN.out _ _ _ _ _ (HB.fresh j3.out) jd.out HO.out (NL.out _)).mono ?_;rintro e w5⟨rfl,hf5,hB5⟩;have j1:=hid hf5;have je:=hid hB5;clear hf5 hB5)
   |(go_at_call 94;refine(NX.out _ i j2.out (by omega)).mono ?_;rintro e w3⟨g9,rfl,hg9,hB3,hf3⟩;have j3:=hid hf3;have jd:=hid hB3;clear hf3 hB3 hg9))
  go_roundw
  case rel =>
   refine⟨i+1,w3.heap.size,_,by go_num,by omega,rfl,?_,je.out,OI.out _ _,(HM.fresh j3.out).fresh j1.out,(j2.trans j3.out).trans j1.out,?_⟩
   ·have h1:=j2.size;have h2:=j3.size;omega
   have:=j0.out;rw[← HG.out]at this;rw[← HG.out];exact this
  exact ja.out
 have s1:¬(i:Int)<(H:Int):=by omega
 rw[show H-i=0 by omega]at hrec;have j0:=hid hrec;clear hrec hfr hm;go_wp2;go_ret;refine⟨g2,rfl,j7.out,?_,j2.out⟩;have:=j0.out;unfold orJ at this;rw[← this];exact HB.out
section
variable {ps:List Pr}{R H:Nat}
theorem y6r(hT:Q1b ps R H):Q63 ps H (Q4j (bs R) false (Q0e R ps) H):=⟨(z8r hT).1,(z8r hT).2⟩
theorem x7c(hT:Q1b ps R H)(hH:0<H):(rchF R H (Q0e R ps)).length=H:=by
 obtain⟨r1,r2⟩:=v1u (ps:=ps) hT;unfold rchF;rw[qBd];exact r1.row 0 hH
end
theorem x45{s:ByteArray}(hc:Q0t s=(0,0)):Q1b (Q0q (Q0c s).1) (Q0f (Q0c s).1).length (Q0h (Q0c s).1).length/\(Q0f (Q0c s).1).length<=8:=by
 obtain⟨c1,c2,c3,c4,c5⟩:=z19 hc;have hI:=Q6r hc;have j0:=Q7j hc;exact⟨tabOk c3 hI.places j0.mem,y2q (fun y hy=>(hI.places y hy).1) c5⟩
def ReadN(s:ByteArray)(w:World)(e:Ending)(w':World):Prop :=
 ∃(b:Nat) (pl:Int),e=.returned (.tuple #[.pointer (some ⟨b,0,none⟩),.int .i64 0,.int .i64 pl])/\Q3x w' b (Q0f (Q0c s).1).length (Q0h (Q0c s).1).length (Q0e (Q0f (Q0c s).1).length (Q0q (Q0c s).1))/\Q0a w w'
theorem v01(s:ByteArray)(w:World)(hs:s.size<=maxLen)(hc:Q0t s=(0,0)):Calls Tryz.prog 15 #[.string s] w fun e w'=>ReadN s w e w':=by
 refine(y5y s w hs).mono ?_;rintro e w'⟨p,pl,rfl,hf,_,_,h⟩;obtain⟨b,xs,_,rfl,hX,hO⟩:=h (by rw[hc]);refine⟨b,pl,by rw[hc],v1y hX (x7i hc hO),hf⟩
structure NumOk(R H:Nat)(q:List Q1):Prop where
 qk:QOk R H q
 n:(Q4j (bs R) false q H).length=H
 u:(Q4j (bs R) true q H).length=H
 r:(rchF R H q).length=H
 sl:Sq (R+1+H) (ldF R H (Q4j (bs R) false q H) q)
 sa:Sq H (laF R H (Q4j (bs R) false q H) q)
 se:Sq H (reF R H q)
 pos:0<H
theorem x8i{s:ByteArray}(hc:Q0t s=(0,0)):NumOk (Q0f (Q0c s).1).length (Q0h (Q0c s).1).length (Q0e (Q0f (Q0c s).1).length (Q0q (Q0c s).1)):=by
 obtain⟨hT,hR⟩:=x45 hc;have hQ:=q_ok hc hT hR;have hp:0<(Q0h (Q0c s).1).length:=by
  have:=hQ.hd _ (qG hQ.pos);omega
 exact⟨hQ,(z8r hT).1,(x5y hT).1,x7c hT hp,(v1j hT (y6r hT)).1,(v1h hT (y6r hT)).1,(v1u hT).1,hp⟩
attribute [local go_sem ↓] z13
def ahF(R H:Nat)(null:List Bool)(q:List Q1)(z:Q1):List Bool :=
 if Q34 (bs R) null z.2=true then orI (fiF R H null q z.2) (foF R H null q z.1.toNat) (R+1) (R+1) else fiF R H null q z.2
theorem x85(R H:Nat)(null:List Bool)(q:List Q1)(z:Q1):(ahF R H null q z).length=R+1:=by
 unfold ahF;split
 ·exact z2l _ _ _ _
 exact y6h _ _ _ _ _
section
variable {ps:List Pr}{R H:Nat}
theorem v17(hT:Q1b ps R H)(hR:R<=8){p:Pr}(hp:p∈ps){t:Nat}(ht:t<R+1) :
  (ahF R H (Q4j (bs R) false (Q0e R ps) H) (Q0e R ps) (p.head,p.syms.map (Q0u R))).getD t false=(Q8b (Q3w ps (Q0v R H)) p.head p.syms).getD t false:=by
 have hh:=hT.hd p hp;have hH:0<H:=by omega
 have hS:=x7h hT hR hH;have hn:=y6r hT;have j0:=fun s hs=>hT.sy p hp s hs;rw[z8x (z8e hT hR).ok hR t p.head p.syms j0];have e1:hN (Q3w ps (Q0v R H))=NS ps H:=funext hS.n;have e2:(fun X=>hF (Q3w ps (Q0v R H)) X t)=fun X=>FS ps (NS ps H) t H X:=funext fun X=>hS.f X t;rw[e1,e2];have fi:=(v1a hT hn j0).2 t;have no:Q34 (bs R) (Q4j (bs R) false (Q0e R ps) H) (p.syms.map (Q0u R))=p.syms.all (Q35 (NS ps H)):=y2a hn j0;have hd:((p.head.toNat:Nat):Int)=p.head:=by omega
 have fo:=(v2a hT hn p.head.toNat).2 t ht;rw[hd,← hS.o p.head t]at fo;unfold ahF;dsimp only;rw[no];by_cases h:p.syms.all (Q35 (NS ps H))=true
 ·rw[qAb h,z9k ht,fi,h,qBa];congr 1;rw[qAs];exact fo
 rw[qAa h,fi];have:p.syms.all (Q35 (NS ps H))=false:=by simpa using h
 rw[this];simp
end
def hitB(q:List Q1)(A:Mat)(h t i j:Nat):Bool:=(((q.getD i (0,[])).1==(h:Int)&&(q.getD j (0,[])).1==(h:Int))&&atM A i t)&&atM A j t
def zcJ(q:List Q1)(A:Mat)(h t i:Nat):Nat->Nat->List Cl->List Cl
 |0,_,acc=>acc
 |f+1,j,acc=>zcJ q A h t i f (j+1) (if hitB q A h t i j=true then acc++[⟨h,t,i,j⟩] else acc)
def zcI(q:List Q1)(A:Mat)(h t:Nat):Nat->Nat->List Cl->List Cl
 |0,_,acc=>acc
 |f+1,i,acc=>zcI q A h t f (i+1) (zcJ q A h t i (q.length-(i+1)) (i+1) acc)
def zcT(q:List Q1)(A:Mat)(h:Nat):Nat->Nat->List Cl->List Cl
 |0,_,acc=>acc
 |f+1,t,acc=>zcT q A h f (t+1) (zcI q A h t q.length 0 acc)
def zcH(q:List Q1)(A:Mat)(R:Nat):Nat->Nat->List Cl->List Cl
 |0,_,acc=>acc
 |f+1,h,acc=>zcH q A R f (h+1) (zcT q A h (R+1) 0 acc)
def Q5g(R H:Nat)(q:List Q1):Mat:=q.map (ahF R H (Q4j (bs R) false q H) q)
def zclF(R H:Nat)(q:List Q1):List Cl:=zcH q (Q5g R H q) R H 0 []
theorem y29(q:List Q1)(A:Mat)(h t i:Nat):∀(f j:Nat) (acc:List Cl),acc.length<=(zcJ q A h t i f j acc).length
 |0,_,_=>qR _
 |f+1,j,acc=>by
  unfold zcJ;refine qCd ?_ (y29 q A h t i f (j+1) _);split
  ·simp
  exact qR _
theorem y28(q:List Q1)(A:Mat)(h t:Nat):∀(f i:Nat) (acc:List Cl),acc.length<=(zcI q A h t f i acc).length
 |0,_,_=>qR _
 |f+1,i,acc=>by
  unfold zcI;exact qCd (y29 _ _ _ _ _ _ _ _) (y28 q A h t f (i+1) _)
theorem y3a(q:List Q1)(A:Mat)(h:Nat):∀(f t:Nat) (acc:List Cl),acc.length<=(zcT q A h f t acc).length
 |0,_,_=>qR _
 |f+1,t,acc=>by
  unfold zcT;exact qCd (y28 _ _ _ _ _ _ _) (y3a q A h f (t+1) _)
theorem y9c(q:List Q1)(A:Mat)(R:Nat):∀(f h:Nat) (acc:List Cl),acc.length<=(zcH q A R f h acc).length
 |0,_,_=>qR _
 |f+1,h,acc=>by
  unfold zcH;exact qCd (y3a _ _ _ _ _ _) (y9c q A R f (h+1) _)
theorem v2n(q:List Q1)(A:Mat)(h t i n j:Nat)(acc:List Cl)(hj:j<n):zcJ q A h t i (n-j) j acc=zcJ q A h t i (n-(j+1)) (j+1) (if hitB q A h t i j=true then acc++[⟨h,t,i,j⟩] else acc):=by
 rw[show n-j=(n-(j+1))+1 by omega];rfl
theorem v2m(q:List Q1)(A:Mat)(h t n i:Nat)(acc:List Cl)(hi:i<n):zcI q A h t (n-i) i acc=zcI q A h t (n-(i+1)) (i+1) (zcJ q A h t i (q.length-(i+1)) (i+1) acc):=by
 rw[show n-i=(n-(i+1))+1 by omega];rfl
theorem v2o(q:List Q1)(A:Mat)(h n t:Nat)(acc:List Cl)(ht:t<n):zcT q A h (n-t) t acc=zcT q A h (n-(t+1)) (t+1) (zcI q A h t q.length 0 acc):=by
 rw[show n-t=(n-(t+1))+1 by omega];rfl
theorem v2l(q:List Q1)(A:Mat)(R n h:Nat)(acc:List Cl)(hh:h<n):zcH q A R (n-h) h acc=zcH q A R (n-(h+1)) (h+1) (zcT q A h (R+1) 0 acc):=by
 rw[show n-h=(n-(h+1))+1 by omega];rfl
structure Alk(q:List Q1)(A:Mat)(R:Nat)(z:List (Pr × List Bool)):Prop where
 len:z.length=q.length
 hd:∀(k:Nat) (h:k<z.length),(q.getD k (0,[])).1=z[k].1.head
 at':∀(k t:Nat) (h:k<z.length),t<R+1->atM A k t=Q8y z[k].2 t
theorem v1r(n t:Int)(z:List (Pr × List Bool))(i:Nat)(hi:i<z.length):ovL n t (z.drop i) i=if z[i].1.head=n/\Q8y z[i].2 t=true then(i:Int)::ovL n t (z.drop (i+1)) (i+1) else ovL n t (z.drop (i+1)) (i+1):=by
 rw[qC hi,ovL]
theorem x82{q:List Q1}{A:Mat}{R:Nat}{z:List (Pr × List Bool)}(hA:Alk q A R z){h t i:Nat}(ht:t<R+1)(hi:i<z.length):∀(f j:Nat) (acc:List Cl),f+j=z.length ->
  zcJ q A h t i f j acc=acc++(if z[i].1.head=(h:Int)/\Q8y z[i].2 t=true then(ovL h t (z.drop j) j).map (fun s=>⟨h,t,i,s⟩) else [])
 |0,j,acc,e=>by
  rw[qAi (by omega)];simp[zcJ,ovL]
 |f+1,j,acc,e=>by
  have hj:j<z.length:=by omega
  unfold zcJ;rw[x82 hA ht hi f (j+1) _ (by omega),v1r _ _ _ _ hj];have hb:hitB q A h t i j=true↔(z[i].1.head=(h:Int)/\Q8y z[i].2 t=true)/\z[j].1.head=(h:Int)/\Q8y z[j].2 t=true:=by
   unfold hitB;rw[hA.hd i hi,hA.hd j hj,hA.at' i t hi ht,hA.at' j t hj ht];simp only[qAc,qAx];constructor
   ·rintro⟨⟨⟨a,b⟩,c⟩,d⟩;exact⟨⟨a,c⟩,b,d⟩
   rintro⟨⟨a,c⟩,b,d⟩;exact⟨⟨⟨a,b⟩,c⟩,d⟩
  by_cases h1:z[i].1.head=(h:Int)/\Q8y z[i].2 t=true
  ·rw[qAb h1,qAb h1];by_cases h2:z[j].1.head=(h:Int)/\Q8y z[j].2 t=true
   ·rw[qAb h2,qAb (hb.2 ⟨h1,h2⟩)];simp
   rw[qAa h2,qAa (fun e=>h2 (hb.1 e).2)]
  rw[qAa h1,qAa h1,qAa (fun e=>h1 (hb.1 e).1)]
theorem x81{q:List Q1}{A:Mat}{R:Nat}{z:List (Pr × List Bool)}(hA:Alk q A R z){h t:Nat}(ht:t<R+1):∀(f i:Nat) (acc:List Cl),f+i=z.length ->
  zcI q A h t f i acc=acc++Q6b h t (ovL h t (z.drop i) i)
 |0,i,acc,e=>by
  rw[qAi (by omega)];simp[zcI,ovL,Q6b]
 |f+1,i,acc,e=>by
  have hi:i<z.length:=by omega
  unfold zcI;rw[x81 hA ht f (i+1) _ (by omega),x82 hA ht hi (q.length-(i+1)) (i+1) acc (by have:=hA.len;omega),v1r _ _ _ _ hi];by_cases h1:z[i].1.head=(h:Int)/\Q8y z[i].2 t=true
  ·rw[qAb h1,qAb h1,Q6b,qAh]
  rw[qAa h1,qAa h1];simp
theorem x83{q:List Q1}{A:Mat}{R:Nat}{z:List (Pr × List Bool)}(hA:Alk q A R z){h:Nat}:∀(f t:Nat) (acc:List Cl),f+t=R+1 ->
  zcT q A h f t acc=acc++clT z h R (f+1) t
 |0,t,acc,e=>by
  unfold zcT clT;rw[qAa (by omega)];simp
 |f+1,t,acc,e=>by
  unfold zcT;rw[clT,x83 hA f (t+1) _ (by omega),qAb (by omega),x81 hA (by omega) q.length 0 acc (by rw[← hA.len];omega),qDe,qAh]
theorem x80{q:List Q1}{A:Mat}{R H:Nat}{z:List (Pr × List Bool)}(hA:Alk q A R z):∀(f h:Nat) (acc:List Cl),f+h=H ->
  zcH q A R f h acc=acc++clN z R H (f+1) h
 |0,h,acc,e=>by
  unfold zcH clN;rw[qAa (by omega)];simp
 |f+1,h,acc,e=>by
  unfold zcH;rw[clN,x80 (H:=H) hA f (h+1) _ (by omega),qAb (by omega),x83 hA (R+1) 0 acc (by omega),qAh]
theorem x5v{s:ByteArray}(hc:Q0t s=(0,0)):zclF (Q0f (Q0c s).1).length (Q0h (Q0c s).1).length (Q0e (Q0f (Q0c s).1).length (Q0q (Q0c s).1))=Q26 s:=by
 obtain⟨hT,hR⟩:=x45 hc;unfold zclF Q26 Q55;have hz:((Q0q (Q0c s).1).zip (Q0p (Q7p s) (Q0q (Q0c s).1)))=(Q0q (Q0c s).1).map (fun p=>(p,Q8b (Q7p s) p.head p.syms)):=by
  unfold Q0p;rw[List.zip_map_right];simp[List.zip_eq_zipWith,List.zipWith_self]
 rw[hz];refine x80 (z:=(Q0q (Q0c s).1).map (fun p=>(p,Q8b (Q7p s) p.head p.syms))) ⟨?_,?_,?_⟩ _ _ _ (by omega)
 ·unfold Q0e;simp
 ·intro k hk;rw[qAo]at hk;unfold Q0e;rw[qD,qBe,qE hk,qBt];rfl
 intro k t hk ht;rw[qAo]at hk;rw[qBt];have:=v17 hT hR (qG hk) ht;have e:(Q5g (Q0f (Q0c s).1).length (Q0h (Q0c s).1).length (Q0e (Q0f (Q0c s).1).length (Q0q (Q0c s).1))).getD k []=ahF (Q0f (Q0c s).1).length (Q0h (Q0c s).1).length (Q4j (bs (Q0f (Q0c s).1).length) false (Q0e (Q0f (Q0c s).1).length (Q0q (Q0c s).1)) (Q0h (Q0c s).1).length) (Q0e (Q0f (Q0c s).1).length (Q0q (Q0c s).1)) (((Q0q (Q0c s).1)[k]).head,((Q0q (Q0c s).1)[k]).syms.map (Q0u (Q0f (Q0c s).1).length)):=by
  unfold Q5g;rw[qD,qBe,show(Q0e (Q0f (Q0c s).1).length (Q0q (Q0c s).1))[k]? = some (((Q0q (Q0c s).1)[k]).head,((Q0q (Q0c s).1)[k]).syms.map (Q0u (Q0f (Q0c s).1).length)) from by
   unfold Q0e;rw[qBe,qE hk];rfl]
  rfl
 unfold atM;rw[e,this];unfold Q8y;rw[qAb (by omega),qAl];rfl
theorem x00(w:World)(B ab b R H:Nat)(q:List Q1)(gn:Nat)(vL:Value)(gL:List Nat)(i:Nat)(hi:i<q.length)(hA:Q7y w B ab b R H q gn vL gL)(hS:Q3x w b R H q)(hK:NumOk R H q) :
  Calls Tryz.prog 33 #[.pointer (some ⟨ab,0,none⟩),.int .i64 i] w fun e w'=>Q9k w (R+1) (ahF R H (Q4j (bs R) false q H) q q[i]) e w':=by
 have hQ:=hK.qk;have r8:=hQ.r8;have h8:=hQ.h8;have jd:=hQ.hd q[i] (qG hi);have j3:=hQ.sy q[i] (qG hi);have FO:=hid (fun(W:World) (h:Nat) (hW:Q0a w W) (hh:h<H)=>y9s W B ab b R H q gn vL gL h (hA.fresh hW) (hS.fresh hW) hQ hK.n hK.sl hK.sa hh);have FI:=hid (fun(v:Value) (hv:Q0z w v q[i].2)=>y3v w B ab b R H q gn vL gL v q[i].2 hA hS hQ hK.n hK.sl hv j3.1 j3.2);have j8:=hid hA.n;have p0:=Q0b hA.o 0;have p1:=Q0b hA.o 1;simp at p0 p1;obtain⟨a0,c0,a1,c1,a2,c2,v3,v4,sv,hN⟩:=hS;obtain⟨g3,o3,c3,g4,o4,n4,c4,al,cl,hP⟩:=hN.pr hi;have k0:=hN.k0;have jc:=hid hK.n;have j1:=hid (y6h R H (Q4j (bs R) false q H) q q[i].2);have ja:=hid (fun h=>x9h R H (Q4j (bs R) false q H) q h);unfold ahF;generalize Q4j (bs R) false q H=null at FO FI j8 jc j1 ja ⊢;have UN:=hid (fun(W:World) (ga gb:Nat) (xs ys:List Bool) (ha:Q1y W ga xs) (hb:Q1y W gb ys) (la:xs.length=R+1) (lb:ys.length=R+1)=>z2x W ga gb (R+1) xs ys ha hb la lb (by omega));generalize q[i]=z at jd j3 FI hP j1 ⊢;obtain⟨hdn,hhn⟩:∃a:Nat,z.1=a:=⟨z.1.toNat,by omega⟩;have jk:hdn<H:=by omega
 have NO:=hid (fun(W:World) (n:Nat) (hW:Q0a w W)=>z4o (W.drewN n) b R H gn a0 c0 (.slice al z.2.length cl) z.2 null (Q0i (hW.trans (Q0r W n)) k0) (by omega) (by omega) (hP.l.fresh (hW.trans (Q0r W n))) (by omega) (j8.fresh (hW.trans (Q0r W n))) jc.out j3.2);have q4:=hP.q4;have y4:=hP.y4;have s4:(i:Int)<(n4:Int):=by have:=hP.n4;omega
 have s3:(i:Int)<(q.length:Int):=by omega
 have HP:=hid hP;have j4:=hid (FI.out _ hP.l);rw[show z.1.toNat=hdn by omega];generalize hFV:fiF R H null q z.2=fv at j4 j1;generalize Q34 (bs R) null z.2=nb at NO;have j9:=hid (ja.out hdn);have j5:=hid (fun(W:World) (hW:Q0a w W)=>FO.out W hdn hW jk);generalize foF R H null q hdn=ov at j5 j9;generalize hq1:R+1=R1 at j5 j4 UN j1 j9 ⊢;have jj:=hid hhn;clear hA hK hQ hN hP FO FI jd j3 hFV hq1 j8 hhn ja k0;go_enter Tryz.func33,Tryz.ntmps33
 go_wp2_with (first
  |(go_at_call 67;refine(j4.out).mono ?_;rintro e w1⟨g1,rfl,hg1,hB1,hf1⟩;have ji:=hid hg1;have je:=hid hB1;have jb:=hid hf1;have u0:=Q0i hf1 p0;have u1:=Q0i hf1 p1;have jl:=Q0i hf1 q4;have jm:=Q0i hf1 y4;clear hg1 hB1 hf1))
 go_quiet (first|(go_at_call 68;refine Calls.quiet_of (NO.out _ _ jb.out)));have j2:=Q0r w1 nq;have j0:=hid (jb.trans j2);have j6:=hid (je.fresh j2);have v0:=Q0i j2 u0;have p3:=(HP.fresh j0.out).q3;have e3:=(HP.fresh j0.out).y3;rw[jj.out]at e3;generalize w1.drewN nq=W2 at j2 j0 j6 v0 p3 e3 ⊢;clear j2 u0 u1 q4 y4 jl jm NO;cases nb
 ·go_wp2;go_ret;exact⟨g1,rfl,ji.out,j6.out,j0.out⟩
 go_wp2_with (first
  |(go_at_call 69;refine(j5.out _ j0.out).mono ?_;rintro e w3⟨g3',rfl,hg3,hB3,hf3⟩;have jf:=hid hB3;have j7:=hid hf3;clear hg3 hB3 hf3)
  |(go_at_call 70;refine(UN.out _ _ _ _ _ (j6.fresh j7.out) jf.out j1.out j9.out).mono ?_;rintro e w5⟨rfl,hf5,hB5⟩;have jh:=hid hf5;have jg:=hid hB5;clear hf5 hB5))
 go_ret;refine⟨w3.heap.size,rfl,?_,jg.out,(j0.trans j7.out).trans jh.out⟩;have h1:=j0.size;have h2:=j7.size;omega
end Go.Proofs.YtcpceafmlgaodaaGreat
