import Derived.Test.YtcpceafmlgaodaaGreatEbg
namespace Go.Proofs.YtcpceafmlgaodaaGreat
open Go.RowKit
set_option maxRecDepth 100000
set_option maxHeartbeats 16000000
set_option linter.unusedVariables false
set_option linter.unusedSimpArgs false
theorem v2d(base:Int)(null:List Bool)(L:Mat)(R:Nat)(l:List Int)(n i:Nat)(out:List Bool)(h:i<n):fiI base null L R l(n-i)i out=fiI base null L R l(n-(i+1))(i+1)(if Q4e base null(l.take i)=true then fiT L(l.getD i 0)R 0 out else out):=by
 rw[show n-i=(n-(i+1))+1 by omega];rfl
theorem v2b(L:Mat)(c:Int)(n t:Nat)(out:List Bool)(h:t<n):fiT L c(n-t)t out=fiT L c(n-(t+1))(t+1)(out.set t((out.getD t false||c==(t:Int))||atM L c.toNat t)):=by
 rw[show n-t=(n-(t+1))+1 by omega];rfl
theorem x4x(L:Mat)(c:Int):∀(f t:Nat)(out:List Bool),(fiT L c f t out).length=out.length
 |0,_,_=>rfl
 |f+1,t,out=>by unfold fiT;rw[x4x L c f];simp
def Q9w(w:World)(n:Nat)(l:List Bool)(e:Ending)(w':World):Prop:=∃g,e=.returned(bsl g n)/\w.heap.size<=g/\Q13 w' g l/\Q0a w w'
theorem y4g(w:World)(B ab b R H:Nat)(q:List Q1)(gn:Nat)(vL:Value)(gs:List Nat)(v:Value)(l:List Int)(hA:Q8e w B ab b R H q gn vL gs)(hS:Q35 w b R H q)(hQ:QOk R H q)(hnl:(Q4q(bs R)false q H).length=H)(hsq:Sq(R+1+H)(ldF R H(Q4q(bs R)false q H)q))
  (hv:Q02 w v l)(hl:l.length<=6)(hc:∀c∈l,0<=c/\c<(R:Int)+1+H) :
  Calls Tryz.prog 67#[.pointer(some⟨ab,0,none⟩),v]w fun e w'=>Q9w w(R+1)(fiF R H(Q4q(bs R)false q H)q l)e w':=by
 obtain⟨a0,c0,a1,c1,a2,c2,v3,v4,sv,hN⟩:=hS;have r8:=hQ.r8;have h8:=hQ.h8;obtain⟨ao,cap,rfl,hcap,hcell⟩:=hv;obtain⟨al,cl,hvL⟩:=z0d hA.m.own;subst hvL;have p0:=Q0b hA.o 0;have p1:=Q0b hA.o 1;have p2:=Q0b hA.o 2;simp at p0 p1 p2;have k0:=hN.k0;unfold fiF firF;generalize hnu:Q4q(bs R)false q H=null at hA hnl hsq ⊢;generalize hLd:ldF R H null q=L at hA hsq ⊢;have jj:Hid(Q13 w gn null):=hid(by have:=hA.n;rw[hnu]at this;exact this);have j7:Hid(Q1v w B(R+1+H)(.slice al gs.length cl)gs L):=hid(by have:=hA.m;rw[hnu,hLd]at this;exact this);have jf:gs.length=R+1+H:=by rw[j7.out.len,hsq.len]
 have jl:=hid hN;have js:=hid hnl;have jm:=hid hsq;have HC:=hid hcell;have jo:=hid hc;have jc:bs R=((R+1:Nat):Int):=by unfold bs;omega
 have BA:=hid(fun(W:World)(hW:Q0a w W)=>z1i W b R a0 c0(Q0j hW k0)(by omega));rw[jc]at BA;have NO:=hid(fun(W:World)(i:Nat)(hW:Q0a w W)(hi:i<=l.length)=>z4r W b R H gn a0 c0(.slice ao i cap)(l.take i)null(Q0j hW k0)(by omega)(by omega)((Q02.take⟨ao,cap,rfl,hcap,hcell⟩rfl hi).fresh hW)(by rw[List.length_take];omega)(jj.out.fresh hW)hnl(fun c hcc=>hc c(List.mem_of_mem_take hcc)));have mk:=fun w=>run_make_row'(P:=Tryz.prog)90 4(.bool false)1 Tryz.underlying90(by kernel_rfl)rfl .i64 .i64(R+1)(by omega)(by omega)w;generalize hV:fiI(bs R)null L R l l.length 0(List.replicate(R+1)false)=V;generalize hbs:bs R=base at hV NO;have HV:=hid hV;have jh:R+1<=9:=by omega
 have j6:=hid(show R<R+1 by omega);generalize hq1:R+1=R1 at HV BA mk jh j6 ⊢;have jr:=hid hq1;have jk:=hid jf;have jn:gs.length<=20:=by omega
 clear hV hN hQ hnl hsq hcell hc hA hbs jc hq1 jf hnu hLd k0;go_enter Tryz.func67,Tryz.ntmps67
 go_wp2_with(first
  |(go_at_call 34;refine(BA.out _(mRf _ _)).mono ?_;rintro e w'⟨rfl,hw⟩;rw[hw];clear hw))
 go_loopw [6,7,8](fun x6 _ _ wr=>∃(i:Nat)(o:List Bool),x6=.int .i64 i/\i<=l.length/\Q13 wr w.heap.size o/\o.length=R1/\Q0a w wr/\fiI base null L R l(l.length-i)i o=V)
   (fun x _ _ _=>1001-(intOf x).toNat)
 case atStart =>
  refine⟨0,List.replicate R1 false,rfl,by omega,?_,by simp,(mRf _ w).alloc _,HV.out⟩;rw[z02];exact z0a _ _
 obtain⟨i,o,rfl,hi,hB,hol,hfr,hrec⟩:=hrel;have ja:=hid(Q2a(B:=1001)i(by omega));have HB:=hid hB;have ji:=hid hol;have HF:=hid hfr;have u0:=Q0j hfr p0;have u1:=Q0j hfr p1;clear hB hol mk;by_cases hlt:i<l.length
 ·have k1:(i:Int)<(l.length:Int):=by omega
  have k2:(i:Int)<=(l.length:Int):=by omega
  rw[v2d _ _ _ _ _ _ _ _ hlt]at hrec;obtain⟨gl,ol,rfl,y5⟩:=HC.out i hlt;have k3:(i:Int)<=(cap:Int):=by omega
  have jb:=jo.out l[i](List.getElem_mem hlt);obtain⟨cn,hcn⟩:∃a:Nat,l[i]=a:=⟨l[i].toNat,by omega⟩;have jg:l.getD i 0=(cn:Int):=by rw[qD,qE hlt,Option.getD_some,hcn]
  rw[hcn]at y5 jb;rw[jg]at hrec;have jp:cn<gs.length:=by rw[jk.out];omega
  have NQ:=hid(fun n=>NO.out(wr.drewN n)i(hfr.trans(Q0s wr n))(by omega));generalize Q4e base null(l.take i)=nb at hrec NQ;generalize hF2:(if nb=true then fiT L(cn:Int)R 0 o else o)=F2 at hrec;have jd:=hid hF2;have j1:=hid hrec;clear hrec hF2 hfr jg hcn jb;go_wp2;go_quiet(first|(go_at_call 68;refine Calls.quiet_of(NQ.out _)));have j5:=hid(HF.out.trans(Q0s wr nq));have j8:=hid(HB.out.fresh(Q0s wr nq));generalize wr.drewN nq=W2 at j5 j8 ⊢;clear u0 u1 HB HF NQ;go_wp2;go_loopw [8](fun x8 wi=>∃(t:Nat)(o:List Bool),x8=.int .i64 t/\t<=R/\Q13 wi w.heap.size o/\o.length=R1/\Q0a w wi/\(if nb=true then fiT L(cn:Int)(R-t)t o else o)=F2)
    (fun x _=>1001-(intOf x).toNat)
  case atStart=>exact⟨0,o,rfl,by omega,j8.out,ji.out,j5.out,jd.out⟩
  obtain⟨t,o2,rfl,ht,hB,hol,hfr,hrec⟩:=hrel;have jq:=hid(Q2a(B:=1001)t(by omega));have j3:=hid hB;have j2:=hid hol;have j4:=hid hfr;have u0:=Q0j hfr p0;have u2:=Q0j hfr p2;have uk:=(jl.out.fresh hfr).k0;clear j5 j8 jd hol;by_cases hgo:t<R/\nb=true
  ·obtain⟨htR,hnb⟩:=hgo;subst hnb;have s1:(t:Int)<(R:Int):=by omega
   have s2:(t:Int)<(R1:Int):=by have:=j6.out;omega
   rw[if_pos rfl,v2b _ _ _ _ _ htR,Int.toNat_natCast]at hrec;obtain⟨gv,cv,hv⟩:=Q1d.ownsRow_form j7.out.own(by omega);rw[qI]at hv;obtain⟨rfl,_,rfl⟩:=hv;obtain⟨gc,hgc⟩:∃g,gs[cn]? = some g:=⟨_,qE jp⟩;have j9:=j7.out.fresh hfr;have r1:=j9.row hgc;have d1:=j9.cell jm.out hgc(j:=t)(by omega);have b1:=hB.cell(j:=t)(by rw[j2.out];have:=j6.out;omega);have b2:=hB.frozen t;have z5:=Q0j hfr y5;have s3:(cn:Int)<(gs.length:Int):=by omega
   have s4:(t:Int)<((R+1+H:Nat):Int):=by omega
   generalize o2.getD t false=xa at hrec b1;generalize atM L cn t=xl at hrec d1;generalize hce:((cn:Int)==(t:Int))=xe at hrec;have j0:=hid hrec;have HP:Hid(∀c:Bool,Q13(wr.setCell⟨w.heap.size,t,none⟩(.bool c)).drew w.heap.size(o2.set t c)/\Q0a w(wr.setCell⟨w.heap.size,t,none⟩(.bool c)).drew):=hid(fun c=>⟨j3.out.put t c,(j4.out.setCell(fun h=>absurd h(by simp))_).drew⟩);clear hrec j9 hgc hfr hB;generalize R+1+H=nn at r1 s4;cases xa<;>cases xe<;>cases xl;all_goals
    go_wp2_with fail
    go_region;all_goals
     go_wp2;go_roundw
     case rel=>exact⟨t+1,_,by go_num,by omega,(HP.out _).1,by simp[j2.out],(HP.out _).2,by first|exact j0.out|(rw[if_pos rfl];exact j0.out)|simpa using j0.out⟩
     exact jq.out
  have je:(if nb=true then fiT L(cn:Int)(R-t)t o2 else o2)=o2:=by
   cases nb
   ·rfl
   have:R-t=0:=by
    rcases Nat.lt_or_ge t R with q|q
    ·exact absurd⟨q,rfl⟩hgo
    omega
   rw[if_pos rfl,this];rfl
  rw[je]at hrec;have j0:=hid hrec;clear hrec je hfr hB;cases nb
  ·by_cases htR:t<R
   ·have s1:(t:Int)<(R:Int):=by omega
    go_wp2;go_roundw
    case rel=>exact⟨i+1,o2,by go_num,by omega,j3.out,j2.out,j4.out,by rw[j0.out];exact j1.out⟩
    exact ja.out
   have s1:¬(t:Int)<(R:Int):=by omega
   go_wp2;go_roundw
   case rel=>exact⟨i+1,o2,by go_num,by omega,j3.out,j2.out,j4.out,by rw[j0.out];exact j1.out⟩
   exact ja.out
  have s1:¬(t:Int)<(R:Int):=by
   intro h;exact hgo⟨by omega,rfl⟩
  go_wp2;go_roundw
  case rel=>exact⟨i+1,o2,by go_num,by omega,j3.out,j2.out,j4.out,by rw[j0.out];exact j1.out⟩
  exact ja.out
 have k1:¬(i:Int)<(l.length:Int):=by omega
 have hz:l.length-i=0:=by omega
 rw[hz]at hrec;have j1:=hid hrec;clear hrec hfr hz;go_wp2;go_ret;refine⟨_,rfl,qR _,?_,HF.out⟩;have:=j1.out;unfold fiI at this;rw[← this];exact HB.out
def rchF(R H:Nat)(q:List Q1):List Bool:=((reF R H q).getD 0 []).set 0 true
theorem x52(w:World)(B ab b R H:Nat)(q:List Q1)(gn:Nat)(vL:Value)(gL:List Nat)(hA:Q8e w B ab b R H q gn vL gL)(hS:Q35 w b R H q)(hQ:QOk R H q)(hnl:(Q4q(bs R)false q H).length=H) :
  Calls Tryz.prog 93#[.pointer(some⟨ab,0,none⟩)]w fun e w'=>MxRet w H(laF R H(Q4q(bs R)false q H)q)e w':=by
 obtain⟨a0,c0,a1,c1,a2,c2,v3,v4,sv,hN⟩:=hS;have r8:=hQ.r8;have h8:=hQ.h8;have p20:=hQ.p20;have p0:=Q0b hA.o 0;have p1:=Q0b hA.o 1;simp at p0 p1;have jm:=hA.n;generalize Q4q(bs R)false q H=null at jm hnl ⊢;have k7:=hid jm;have k9:=hid hnl;clear hA jm hnl;have HQ:=hid hQ;have HN:=hid hN;have k1:=hN.k1;have k2:=hN.k2;have SQ:=hid(z65 w H(by omega));have CH:=hid(fun(W:World)(B:Nat)(v:Value)(gs:List Nat)(M:Mat)(h1:Q1v W B H v gs M)(h2:Sq H M)=>z9r W B H v gs M h1 h2(by omega));have hV:Q5k(cdI(laC R null)laX(laY R)q(sqF H))=laF R H null q:=rfl;generalize laF R H null q=V at hV ⊢;have HV:=hid hV;clear hN hQ hV;go_enter Tryz.func93,Tryz.ntmps93
 go_wp2_with(first
  |(go_at_call 74;refine(SQ.out).mono ?_;rintro e w3⟨v,gs,rfl,hm,hfx⟩;obtain⟨ao,cp,hv⟩:=z0d hm.own;subst hv;have HM:=hid hm;have HF:=hid hfx;clear hm hfx))
 generalize hL0:cdI(laC R null)laX(laY R)q(sqF H)=L0 at HV;have jx:=hid hL0;clear hL0 SQ;go_loopw [5,6,7,8](fun x5 _ _ _ wr=>∃(i:Nat)(M:Mat),x5=.int .i64 i/\i<=q.length/\Q1v wr w.heap.size H(.slice ao gs.length cp)gs M/\Sq H M/\Q0a w wr/\cdI(laC R null)laX(laY R)(q.drop i)M=L0)
   (fun x _ _ _ _=>1001-(intOf x).toNat)
 case atStart=>exact⟨0,_,rfl,by omega,HM.out,y1c H,HF.out,jx.out⟩
 obtain⟨i,M,rfl,hi,hm,hs,hfr,hrec⟩:=hrel;have k8:=hid(Q2a(B:=1001)i(by omega));have je:=hid hm;have jg:=hid hs;have jq:=hid hfr;have ke:=Q0j hfr k1;clear HM HF jx hs;by_cases hlt:i<q.length
 ·have s1:(i:Int)<(q.length:Int):=by omega
  rw[v1x _ _ _ _ _ _ hlt]at hrec;generalize hF2:cdJ(laC R null q[i])(laX q[i])(laY R q[i])q[i].2.length 0 M=F2 at hrec;have j3:=hid hrec;have k3:=HQ.out.hd q[i](List.getElem_mem hlt);have jd:=HQ.out.sy q[i](List.getElem_mem hlt);obtain⟨g3,o3,c3,g4,o4,n4,c4,al,cl,hP⟩:=HN.out.pr hlt;generalize q[i]=z at hF2 k3 jd hP;have jw:=hid hF2;have HP:=hid hP;have kf:=jd.1;have s4:(i:Int)<(n4:Int):=by have:=hP.n4;omega
  have jz:=hid jd.2;have q4:=(hP.fresh hfr).q4;have y4:=(hP.fresh hfr).y4;obtain⟨hdn,hhn⟩:∃a:Nat,z.1=a:=⟨z.1.toNat,by omega⟩;have k6:hdn<H:=by omega
  have jv:=hid hhn;clear hrec hF2 hP jd k3 hfr hhn hm;go_wp2;go_loopw [6,7,8](fun x6 _ _ wr=>∃(j:Nat)(M:Mat),x6=.int .i64 j/\j<=z.2.length/\Q1v wr w.heap.size H(.slice ao gs.length cp)gs M/\Sq H M/\Q0a w wr/\cdJ(laC R null z)(laX z)(laY R z)(z.2.length-j)j M=F2)
    (fun x _ _ _=>1001-(intOf x).toNat)
  case atStart=>exact⟨0,M,rfl,by omega,je.out,jg.out,jq.out,jw.out⟩
  obtain⟨j,M2,rfl,hj,hm,hs,hfr,hrec⟩:=hrel;have jp:=hid(Q2a(B:=1001)j(by omega));have jc:=hid hm;have j8:=hid hs;have jb:=hid hfr;have j2:=HP.out.fresh hfr;have ju:=j2.l;clear je jg jq jw q4 y4;have q4:=j2.q4;have y4:=j2.y4;by_cases hlt2:j<z.2.length
  ·have s2:(j:Int)<(z.2.length:Int):=by omega
   rw[v1p _ _ _ _ _ _ hlt2]at hrec;have BQ:=hid(fun n=>z1i(wr.drewN n)b R a0 c0(Q0j(hfr.trans(Q0s wr n))HN.out.k0)(by omega));have jo:=ju;obtain⟨ao5,cp5,e5,hc5,cell5⟩:=ju;rw[qI]at e5;obtain⟨rfl,_,rfl⟩:=e5;obtain⟨gl,ol,rfl,y5⟩:=cell5 j hlt2;have ji:=jz.out z.2[j](List.getElem_mem hlt2);have jf:z.2.getD j 0=z.2[j]:=by rw[qD,qE hlt2];rfl
   have j9:laX z=hdn:=by unfold laX;rw[jv.out];simp
   have jt:laY R z j=(z.2[j]-bs R).toNat:=by unfold laY;rw[jf]
   have jh:laC R null z j=(decide(0<=z.2[j]-bs R)&&Q4e(bs R)null(z.2.drop(j+1))):=by unfold laC;rw[jf]
   rw[jh,j9,jt]at hrec;have NQ:=hid(fun(n:Nat)(v:Value)(hv:Q02 wr v(z.2.drop(j+1)))=>z4r(wr.drewN n)b R H gn a0 c0 v(z.2.drop(j+1))null(Q0j(hfr.trans(Q0s wr n))HN.out.k0)(by omega)(by omega)(hv.fresh(Q0s wr n))(by rw[List.length_drop];omega)(k7.out.fresh(hfr.trans(Q0s wr n)))k9.out(fun c hc=>jz.out c(List.mem_of_mem_drop hc)));have u1:=Q0j hfr p1;generalize z.2[j]=c at hrec ji y5;generalize Q4e(bs R)null(z.2.drop(j+1))=nb at hrec NQ;have s8:(j:Int)+1<=(z.2.length:Int):=by omega
   have s9:(j:Int)+1<=(cl:Int):=by omega
   have j7:Hid(cl=j+1->∀(ao:Option Addr)(n c:Nat),n=0->Q02 wr(.slice ao n c)(z.2.drop(j+1))):=hid(fun h ao n c hn=>Q02.none(List.drop_eq_nil_of_le(by omega))hn);have ja:Hid(Q02 wr(.slice(some⟨gl,ol+(j+1),none⟩)(z.2.length-(j+1))(cl-(j+1)))(z.2.drop(j+1))):=hid(Q02.drop jo(j+1)(by omega));by_cases hneg:0<=c-bs R
   ·obtain⟨yn,hyn⟩:∃a:Nat,c-bs R=a:=⟨(c-bs R).toNat,by omega⟩;rw[decide_eq_true hneg,Bool.true_and,hyn,Int.toNat_natCast]at hrec;have ka:yn<H:=by unfold bs at hyn;omega
    have t0:(0:Int)<=(yn:Int):=by omega
    have t2:(yn:Int)<(H:Int):=by omega
    have k5:IntKind.i64.wrap(c-bs R)=(yn:Int):=by rw[IntKind.wrap_i64];unfold bs at hyn ⊢;omega
    have kd:gs.length=H:=by rw[hm.len,hs.len]
    have t1:(hdn:Int)<(gs.length:Int):=by omega
    obtain⟨gx,hgx⟩:∃g,gs[hdn]? = some g:=⟨_,qE(by omega)⟩;obtain⟨gv,cv,hv⟩:=Q1d.ownsRow_form hm.own(by omega);rw[qI]at hv;obtain⟨rfl,_,rfl⟩:=hv;have j6:=hid hgx;have j0:Hid(cdJ(laC R null z)(laX z)(laY R z)(z.2.length-(j+1))(j+1)(if nb=true then Q7w M2 hdn yn true else M2)=F2):=hid(by rw[j9];exact hrec);clear hrec ji hneg hyn kd jh j9 jt jf hs hm hgx cell5 hfr jo;go_wp2;go_quiet(first|(go_at_call 34;refine Calls.quiet_of_same(BQ.out _)));have j1:=Q0s wr nq;have jl:=Q0j j1 q4;have jj:=Q0j j1 y4;have js:=Q0j j1 u1;obtain⟨W0,hW0⟩:∃W0,W0=wr.drewN nq:=⟨_,rfl⟩;have NR:=hid(fun(n:Nat)(v:Value)(hv:Q02 wr v(z.2.drop(j+1)))=>NQ.out(nq+n)v hv);simp only[← World.drewN_drewN]at NR;rw[← hW0]at j1 jl jj js NR ⊢;have jk:=hid j1;clear hW0 j1 q4 y4 u1 NQ;go_upto_region 10 with fail
    go_cut [8](fun s8 wx=>s8=.bool nb/\Q0a W0 wx)
    case first =>
     clear j2;rcases(show cl=j+1∨¬cl=j+1 by omega)with hc1|hc1
     ·have jn:=hid hc1;subst hc1;go_quiet(first|(go_at_call 68;refine Calls.quiet_of(NR.out _ _(j7.out jn.out _ _ _(by first|rfl|omega)))));go_wp2_with fail
      go_meet;exact⟨rfl,Q0s W0 nq⟩
     have kc:¬cl-(j+1)=0:=by omega
     go_quiet(first|(go_at_call 68;refine Calls.quiet_of(NR.out _ _ ja.out)));go_wp2_with fail
     go_meet;exact⟨rfl,Q0s W0 nq⟩
    obtain⟨rfl,hf2⟩:=hcut;have hf:=jk.out.trans hf2;cases nb
    ·have j5:=hid hf;clear hf hf2 j2;go_wp2;go_roundw
     case rel=>exact⟨j+1,M2,by go_num,by omega,jc.out.fresh j5.out,j8.out,jb.out.trans j5.out,by have:=j0.out;rw[if_neg(by simp)]at this;exact this⟩
     exact jp.out
    have j4:=jc.out.fresh hf;have p3:=(j2.fresh hf).q3;have e3:=(j2.fresh hf).y3;rw[jv.out]at e3;have r1:=j4.row j6.out;have d1:=j4.cell j8.out j6.out ka;have d2:=(j4.blk hdn gx j6.out).2.frozen yn;have jr:Hid(Q1v(wc.setCell⟨gx,yn,none⟩(.bool true))w.heap.size H(.slice(some⟨gv,0,none⟩)gs.length cp)gs(Q7w M2 hdn yn true)/\Sq H(Q7w M2 hdn yn true)/\Q0a w(wc.setCell⟨gx,yn,none⟩(.bool true))):=hid⟨j4.put j6.out yn true,z9b j8.out k6 true,(jb.out.trans hf).setCell(fun hlt=>by have:=(j4.blk hdn gx j6.out).1;exact absurd hlt(by show ¬gx<w.heap.size;omega))_⟩;clear j4 hf hf2 j2 y5;go_wp2;go_roundw
    case rel=>exact⟨j+1,_,by go_num,by omega,jr.out.1,jr.out.2.1,jr.out.2.2,by have:=j0.out;rw[if_pos rfl]at this;exact this⟩
    exact jp.out
   have j0:Hid(cdJ(laC R null z)(laX z)(laY R z)(z.2.length-(j+1))(j+1)M2=F2):=hid(by rw[decide_eq_false hneg,Bool.false_and,if_neg(by simp)]at hrec;rw[j9];exact hrec);have t0:¬0<=c-bs R:=hneg;have k5:IntKind.i64.wrap(c-bs R)=c-bs R:=by rw[IntKind.wrap_i64];unfold bs;omega
   clear hrec ji jh j9 jt jf hs hm cell5 hfr j2 jo;go_wp2;go_quiet(first|(go_at_call 34;refine Calls.quiet_of_same(BQ.out _)));have j1:=Q0s wr nq;have jl:=Q0j j1 q4;have jj:=Q0j j1 y4;have js:=Q0j j1 u1;obtain⟨W0,hW0⟩:∃W0,W0=wr.drewN nq:=⟨_,rfl⟩;have NR:=hid(fun(n:Nat)(v:Value)(hv:Q02 wr v(z.2.drop(j+1)))=>NQ.out(nq+n)v hv);simp only[← World.drewN_drewN]at NR;rw[← hW0]at j1 jl jj js NR ⊢;have jk:=hid j1;clear hW0 j1 q4 y4 u1 NQ;go_upto_region 10 with fail
   go_cut [8](fun s8 wx=>s8=.bool nb/\Q0a W0 wx)
   case first =>
    rcases(show cl=j+1∨¬cl=j+1 by omega)with hc1|hc1
    ·have jn:=hid hc1;subst hc1;go_quiet(first|(go_at_call 68;refine Calls.quiet_of(NR.out _ _(j7.out jn.out _ _ _(by first|rfl|omega)))));go_wp2_with fail
     go_meet;exact⟨rfl,Q0s W0 nq⟩
    have kc:¬cl-(j+1)=0:=by omega
    go_quiet(first|(go_at_call 68;refine Calls.quiet_of(NR.out _ _ ja.out)));go_wp2_with fail
    go_meet;exact⟨rfl,Q0s W0 nq⟩
   obtain⟨rfl,hf2⟩:=hcut;have j5:=hid(jk.out.trans hf2);clear hf2;go_wp2;go_roundw
   case rel=>exact⟨j+1,M2,by go_num,by omega,jc.out.fresh j5.out,j8.out,jb.out.trans j5.out,j0.out⟩
   exact jp.out
  have s2:¬(j:Int)<(z.2.length:Int):=by omega
  have jy:z.2.length-j=0:=by omega
  rw[jy]at hrec;have j0:=hid hrec;clear hrec jy hm hs hfr ju j2;go_wp2;go_roundw
  case rel=>exact⟨i+1,M2,by go_num,by omega,jc.out,j8.out,jb.out,by have:=j0.out;unfold cdJ at this;rw[this];exact j3.out⟩
  exact k8.out
 have s1:¬(i:Int)<(q.length:Int):=by omega
 rw[List.drop_eq_nil_of_le(by omega)]at hrec;have j3:=hid hrec;clear hrec hfr hm;go_wp2_with(first
  |(go_at_call 92;refine(CH.out _ _ _ _ _ je.out jg.out).mono ?_;rintro e w3⟨rfl,hm3,hu3⟩;have kb:=hid hm3;have k4:=hid hu3;clear hm3 hu3))
 go_ret;refine⟨_,gs,rfl,?_,?_⟩
 ·rw[← HV.out,← j3.out];exact kb.out
 exact jq.out.trans' k4.out(fun k hlt2 hk=>by
  obtain⟨j,hj,rfl⟩:=List.getElem_of_mem hk;have:=(je.out.blk j _(qE hj)).1;omega)
theorem v09(n:Nat)(c:Nat->Bool)(g:Nat->List Bool)(m j:Nat)(out:List Bool)(h:j<m):orJ n c g(m-j)j out=orJ n c g(m-(j+1))(j+1)(if c j=true then orI out(g j)n n else out):=by
 rw[show m-j=(m-(j+1))+1 by omega];rfl
theorem v2n(n:Nat)(c:Q1->Nat->Bool)(g:Q1->Nat->List Bool)(q:List Q1)(i:Nat)(out:List Bool)(h:i<q.length):orQ n c g(q.drop i)out=orQ n c g(q.drop(i+1))(orJ n(c q[i])(g q[i])q[i].2.length 0 out):=by
 rw[qC h];rfl
theorem x5d(base:Int)(null:List Bool)(L:Mat)(R:Nat)(l:List Int):∀(f i:Nat)(out:List Bool),(fiI base null L R l f i out).length=out.length
 |0,_,_=>rfl
 |f+1,i,out=>by
  unfold fiI;rw[x5d base null L R l f];split
  ·rw[x4x]
  rfl
theorem y66(R H:Nat)(null:List Bool)(q:List Q1)(l:List Int):(fiF R H null q l).length=R+1:=by
 unfold fiF firF;rw[x5d];simp
theorem x1o(R H:Nat)(null:List Bool)(q:List Q1)(h:Int):(nxF R H null q h).length=R+1:=by
 unfold nxF;exact(x5a q _(by simp)).1
theorem x7e(w:World)(B ab b R H:Nat)(q:List Q1)(gn:Nat)(vL:Value)(gL:List Nat)(head:Nat)(hA:Q8e w B ab b R H q gn vL gL)(hS:Q35 w b R H q)(hQ:QOk R H q)(hnl:(Q4q(bs R)false q H).length=H)(hsq:Sq(R+1+H)(ldF R H(Q4q(bs R)false q H)q))(hhd:head<=1000) :
  Calls Tryz.prog 94#[.pointer(some⟨ab,0,none⟩),.int .i64 head]w fun e w'=>Q9w w(R+1)(nxF R H(Q4q(bs R)false q H)q head)e w':=by
 have FI:=hid(fun(W:World)(v:Value)(l:List Int)(hW:Q0a w W)(hv:Q02 W v l)(hl:l.length<=6)(hc:∀c∈l,0<=c/\c<(R:Int)+1+H)=>y4g W B ab b R H q gn vL gL v l(hA.fresh hW)(hS.fresh hW)hQ hnl hsq hv hl hc);obtain⟨a0,c0,a1,c1,a2,c2,v3,v4,sv,hN⟩:=hS;have r8:=hQ.r8;have h8:=hQ.h8;have p20:=hQ.p20;have p0:=Q0b hA.o 0;simp at p0;generalize Q4q(bs R)false q H=null at FI ⊢;have FL:=hid(fun l=>y66 R H null q l);clear hA hnl hsq;have HQ:=hid hQ;have HN:=hid hN;have k0:=hN.k0;have k1:=hN.k1;have jq:bs R=((R+1:Nat):Int):=by unfold bs;omega
 have BA:=hid(z1i w b R a0 c0 k0(by omega));rw[jq]at BA;have kc:IntKind.i64.wrap(bs R+(head:Int))=bs R+head:=by rw[IntKind.wrap_i64];unfold bs;omega
 have mk:=fun w=>run_make_row'(P:=Tryz.prog)90 4(.bool false)1 Tryz.underlying90(by kernel_rfl)rfl .i64 .i64(R+1)(by omega)(by omega)w;have UN:=hid(fun(W:World)(ga gb:Nat)(xs ys:List Bool)(ha:Q13 W ga xs)(hb:Q13 W gb ys)(la:xs.length=R+1)(lb:ys.length=R+1)=>z2q W ga gb(R+1)xs ys ha hb la lb(by omega));generalize hhz:((head:Int)==0)=hz;have hV:orQ(R+1)(nxC R head)(nxG R H null q)q((List.replicate(R+1)false).set R hz)=nxF R H null q head:=by unfold nxF;rw[hhz]
 generalize nxF R H null q head=V at hV ⊢;have HV:=hid hV;have jo:=hid(show R<R+1 by omega);have jz:R+1<=9:=by omega
 have OI:=hid(fun xs ys=>z2j xs ys(R+1)(R+1));generalize hq1:R+1=R1 at HV BA mk jz jo UN FI FL OI ⊢;have kd:R<R1:=jo.out;have e1:(R:Int)<(R1:Int):=by omega
 clear hN hQ hV hq1 jq;go_enter Tryz.func94,Tryz.ntmps94
 go_upto_region 3 with(first
  |(go_at_call 34;refine(BA.out).mono ?_;rintro e w'⟨rfl,hw⟩;rw[hw];clear hw))
 have ja:Q0a w(w.alloc(.cells(madeCells#[.bool false]R1)4)):=(mRf _ w).alloc _;have j8:Q13(w.alloc(.cells(madeCells#[.bool false]R1)4))w.heap.size(List.replicate R1 false):=by rw[z02];exact z0a _ _
 generalize w.alloc(.cells(madeCells#[.bool false]R1)4)=W1 at ja j8 ⊢;have k6:=Q0j ja k0;have c9:=j8.cell(j:=R)(by simp;omega);have c8:=j8.frozen R;have ju:=hid(fun(c:Bool)=>(⟨j8.put R c,ja.setCell(fun h=>absurd h(by simp))_⟩:Q13(W1.setCell⟨w.heap.size,R,none⟩(.bool c))w.heap.size((List.replicate R1 false).set R c)/\Q0a w(W1.setCell⟨w.heap.size,R,none⟩(.bool c))));clear ja j8 mk k0;go_cut [](fun wx=>Q13 wx w.heap.size((List.replicate R1 false).set R hz)/\Q0a w wx)
 case first =>
  cases hz;all_goals
   go_wp2_with fail
   go_meet;exact ju.out _
 obtain⟨hBx,hfx⟩:=hcut;have jj:=hid hBx;have jr:=hid hfx;clear hBx hfx ju c9 c8 k6 hhz;generalize hO0:(List.replicate R1 false).set R hz=O0 at HV jj;have j7:=hid(show O0.length=R1 by rw[← hO0];simp);clear hO0;go_wp2;go_loopw [6,7,8,9](fun x6 x7 _ _ wr=>∃(i go:Nat)(o:List Bool),x7=.int .i64 i/\i<=q.length/\x6=bsl go R1/\w.heap.size<=go/\Q13 wr go o/\o.length=R1/\Q0a w wr/\orQ R1(nxC R head)(nxG R H null q)(q.drop i)o=V)
   (fun _ x _ _ _=>1001-(intOf x).toNat)
 case atStart=>exact⟨0,w.heap.size,O0,rfl,by omega,rfl,qR _,jj.out,j7.out,jr.out,HV.out⟩
 obtain⟨i,go,o,rfl,hi,rfl,hgo,hB,hol,hfr,hrec⟩:=hrel;have k4:=hid(Q2a(B:=1001)i(by omega));have jd:=hid hB;have jw:=hid hol;have ji:=hid hfr;have k9:=Q0j hfr k1;have j4:=hid hgo;clear jj jr HV j7 hB hol hgo;by_cases hlt:i<q.length
 ·have s1:(i:Int)<(q.length:Int):=by omega
  rw[v2n _ _ _ _ _ _ hlt]at hrec;generalize hF2:orJ R1(nxC R head q[i])(nxG R H null q q[i])q[i].2.length 0 o=F2 at hrec;have j3:=hid hrec;have jb:=HQ.out.sy q[i](List.getElem_mem hlt);obtain⟨g3,o3,c3,g4,o4,n4,c4,al,cl,hP⟩:=HN.out.pr hlt;generalize q[i]=z at hF2 jb hP;have js:=hid hF2;have HP:=hid hP;have kb:=jb.1;have s4:(i:Int)<(n4:Int):=by have:=hP.n4;omega
  have k8:=hid jb.2;have q4:=(hP.fresh hfr).q4;have y4:=(hP.fresh hfr).y4;clear hrec hF2 hP jb hfr;go_wp2;go_loopw [6,8,9](fun x6 x8 _ wr=>∃(j go:Nat)(o:List Bool),x8=.int .i64 j/\j<=z.2.length/\x6=bsl go R1/\w.heap.size<=go/\Q13 wr go o/\o.length=R1/\Q0a w wr/\orJ R1(nxC R head z)(nxG R H null q z)(z.2.length-j)j o=F2)
    (fun _ x _ _=>1001-(intOf x).toNat)
  case atStart=>exact⟨0,go,o,rfl,by omega,rfl,j4.out,jd.out,jw.out,ji.out,js.out⟩
  clear jd jw ji js q4 y4 j4;obtain⟨j,go2,o2,rfl,hj,rfl,hgo,hB,hol,hfr,hrec⟩:=hrel;have jh:=hid(Q2a(B:=1001)j(by omega));have j9:=hid hB;have jc:=hid hol;have j5:=hid hfr;have jx:=hid hgo;have j6:=HP.out.fresh hfr;have jm:=j6.l;have q4:=j6.q4;have y4:=j6.y4;clear hB hol hgo;by_cases hlt2:j<z.2.length
  ·have s2:(j:Int)<(z.2.length:Int):=by omega
   rw[v09 _ _ _ _ _ _ hlt2]at hrec;have BQ:=hid(fun n=>z1i(wr.drewN n)b R a0 c0(Q0j(hfr.trans(Q0s wr n))HN.out.k0)(by omega));have jt:=jm;obtain⟨ao5,cp5,e5,hc5,cell5⟩:=jm;rw[qI]at e5;obtain⟨rfl,_,rfl⟩:=e5;obtain⟨gl,ol,rfl,y5⟩:=cell5 j hlt2;have jy:z.2.getD j 0=z.2[j]:=by rw[qD,qE hlt2];rfl
   have jp:nxC R head z j=(z.2[j]==bs R+(head:Int)):=by unfold nxC;rw[jy]
   rw[jp]at hrec;generalize z.2[j]=c at hrec y5;generalize hqe:(c==bs R+(head:Int))=qe at hrec;have s8:(j:Int)+1<=(z.2.length:Int):=by omega
   have s9:(j:Int)+1<=(cl:Int):=by omega
   have jg:Hid(cl=j+1->∀(ao:Option Addr)(n c:Nat),n=0->Q02 wr(.slice ao n c)(z.2.drop(j+1))):=hid(fun h ao n c hn=>Q02.none(List.drop_eq_nil_of_le(by omega))hn);have jn:Hid(Q02 wr(.slice(some⟨gl,ol+(j+1),none⟩)(z.2.length-(j+1))(cl-(j+1)))(z.2.drop(j+1))):=hid(Q02.drop jt(j+1)(by omega));have FQ:=hid(fun(W:World)(v:Value)(hW:Q0a wr W)(hv:Q02 wr v(z.2.drop(j+1)))=>FI.out W v(z.2.drop(j+1))(hfr.trans hW)(hv.fresh hW)(by rw[List.length_drop];omega)(fun c hc=>k8.out c(List.mem_of_mem_drop hc)));have jl:=hid(FL.out(z.2.drop(j+1)));have HX:Hid(nxG R H null q z j=fiF R H null q(z.2.drop(j+1))):=hid rfl;rw[HX.out]at hrec;generalize fiF R H null q(z.2.drop(j+1))=fv at FQ jl hrec;clear jp jy cell5 hfr j6 jt HX;cases qe
   ·rw[if_neg(by simp)]at hrec;have j0:=hid hrec;clear hrec;go_wp2;go_quiet(first|(go_at_call 34;refine Calls.quiet_of_same(BQ.out _)));have hf:=Q0s wr nq;have j1:=hid hf;generalize wr.drewN nq=W2 at j1 ⊢;clear hf;go_wp2;go_roundw
    case rel=>exact⟨j+1,go2,o2,by go_num,by omega,rfl,jx.out,j9.out.fresh j1.out,jc.out,j5.out.trans j1.out,j0.out⟩
    exact jh.out
   rw[if_pos rfl]at hrec;have j0:=hid hrec;clear hrec;go_wp2;go_quiet(first|(go_at_call 34;refine Calls.quiet_of_same(BQ.out _)));have hf:=Q0s wr nq;have k5:=Q0j hf q4;have k2:=Q0j hf y4;have j1:=hid hf;generalize wr.drewN nq=W2 at j1 k5 k2 ⊢;clear hf q4 y4 y5;rcases(show cl=j+1∨¬cl=j+1 by omega)with hc1|hc1
   ·have k7:=hid hc1;subst hc1;go_wp2_with(first
     |(go_at_call 70;refine(UN.out _ _ _ _ _((j9.out.fresh j1.out).fresh j2.out)je.out jc.out jl.out).mono ?_;rintro e w4⟨rfl,hf4,hB4⟩;have jk:=hid hf4;have jf:=hid hB4;clear hf4 hB4)
     |(go_at_call 67;refine(FQ.out _ _ j1.out(jg.out k7.out _ _ _(by first|rfl|omega))).mono ?_;rintro e w3⟨g9,rfl,hg9,hB3,hf3⟩;have j2:=hid hf3;have je:=hid hB3;have k3:=hid hg9;clear hf3 hB3 hg9))
    go_roundw
    case rel=>exact⟨j+1,w3.heap.size,_,by go_num,by omega,rfl,by have h1:=j5.out.size;have h2:=j1.out.size;have h3:=j2.out.size;omega,jf.out,OI.out _ _,((j5.out.trans j1.out).trans j2.out).trans jk.out,j0.out⟩
    exact jh.out
   have ka:¬cl-(j+1)=0:=by omega
   go_wp2_with(first
    |(go_at_call 70;refine(UN.out _ _ _ _ _((j9.out.fresh j1.out).fresh j2.out)je.out jc.out jl.out).mono ?_;rintro e w4⟨rfl,hf4,hB4⟩;have jk:=hid hf4;have jf:=hid hB4;clear hf4 hB4)
    |(go_at_call 67;refine(FQ.out _ _ j1.out jn.out).mono ?_;rintro e w3⟨g9,rfl,hg9,hB3,hf3⟩;have j2:=hid hf3;have je:=hid hB3;have k3:=hid hg9;clear hf3 hB3 hg9))
   go_roundw
   case rel=>exact⟨j+1,w3.heap.size,_,by go_num,by omega,rfl,by have h1:=j5.out.size;have h2:=j1.out.size;have h3:=j2.out.size;omega,jf.out,OI.out _ _,((j5.out.trans j1.out).trans j2.out).trans jk.out,j0.out⟩
   exact jh.out
  have s2:¬(j:Int)<(z.2.length:Int):=by omega
  have jv:z.2.length-j=0:=by omega
  rw[jv]at hrec;have j0:=hid hrec;clear hrec jv hfr jm j6;go_wp2;go_roundw
  case rel=>exact⟨i+1,go2,o2,by go_num,by omega,rfl,jx.out,j9.out,jc.out,j5.out,by have:=j0.out;unfold orJ at this;rw[this];exact j3.out⟩
  exact k4.out
 have s1:¬(i:Int)<(q.length:Int):=by omega
 rw[List.drop_eq_nil_of_le(by omega)]at hrec;have j3:=hid hrec;clear hrec hfr;go_wp2;go_ret;refine⟨go,rfl,j4.out,?_,ji.out⟩;have:=j3.out;unfold orQ at this;rw[← this];exact jd.out
theorem x9e(R H:Nat)(null:List Bool)(q:List Q1)(h:Nat):(foF R H null q h).length=R+1:=by
 unfold foF;exact(y81 _ _ _(x1o _ _ _ _ _)).1
theorem y96(w:World)(B ab b R H:Nat)(q:List Q1)(gn:Nat)(vL:Value)(gL:List Nat)(head:Nat)(hA:Q8e w B ab b R H q gn vL gL)(hS:Q35 w b R H q)(hQ:QOk R H q)(hnl:(Q4q(bs R)false q H).length=H)(hsq:Sq(R+1+H)(ldF R H(Q4q(bs R)false q H)q))(hsl:Sq H(laF R H(Q4q(bs R)false q H)q))(hhd:head<H) :
  Calls Tryz.prog 69#[.pointer(some⟨ab,0,none⟩),.int .i64 head]w fun e w'=>Q9w w(R+1)(foF R H(Q4q(bs R)false q H)q head)e w':=by
 have r8:=hQ.r8;have h8:=hQ.h8;have NX:=hid(fun(W:World)(h:Nat)(hW:Q0a w W)(hh:h<=1000)=>x7e W B ab b R H q gn vL gL h(hA.fresh hW)(hS.fresh hW)hQ hnl hsq hh);have LA:=hid(x52 w B ab b R H q gn vL gL hA hS hQ hnl);obtain⟨a0,c0,a1,c1,a2,c2,v3,v4,sv,hN⟩:=hS;have p0:=Q0b hA.o 0;simp at p0;have k2:=hN.k2;have hV:orJ(R+1)(fun h=>atM(laF R H(Q4q(bs R)false q H)q)h head)(fun h=>nxF R H(Q4q(bs R)false q H)q h)H 0(nxF R H(Q4q(bs R)false q H)q head)=foF R H(Q4q(bs R)false q H)q head:=rfl;have NL:=hid(fun h=>x1o R H(Q4q(bs R)false q H)q h);generalize foF R H(Q4q(bs R)false q H)q head=V at hV ⊢;generalize laF R H(Q4q(bs R)false q H)q=L at LA hsl hV;generalize Q4q(bs R)false q H=null at NX NL hV;clear hA hnl hsq hN hQ;have UN:=hid(fun(W:World)(ga gb:Nat)(xs ys:List Bool)(ha:Q13 W ga xs)(hb:Q13 W gb ys)(la:xs.length=R+1)(lb:ys.length=R+1)=>z2q W ga gb(R+1)xs ys ha hb la lb(by omega));have OI:=hid(fun xs ys=>z2j xs ys(R+1)(R+1));have HV:=hid hV;have j7:=hid hsl;generalize hq1:R+1=R1 at HV UN NX NL OI ⊢;generalize hG:(fun h:Nat=>nxF R H null q(h:Int))=G at HV;have HG:=hid hG;have e1:(head:Int)<(H:Int):=by omega
 clear hV hq1 hsl hG r8;go_enter Tryz.func69,Tryz.ntmps69
 go_wp2_with(first
  |(go_at_call 94;refine(NX.out _ head HF.out(by omega)).mono ?_;rintro e w4⟨go,rfl,hgo,hB4,hf4⟩;have j4:=hid hf4;have j5:=hid hB4;have j6:=hid hgo;clear hf4 hB4 hgo)
  |(go_at_call 93;refine(LA.out).mono ?_;rintro e w3⟨v,gs,rfl,hm,hfx⟩;obtain⟨ao,cp,hv⟩:=z0d hm.own;subst hv;have HM:=hid hm;have HF:=hid hfx;clear hm hfx))
 have jc:=hid(HM.out.fresh j4.out);have j1:=hid(HF.out.trans j4.out);have j8:=hid(show w.heap.size<=go by have h1:=HF.out.size;have h2:=j6.out;omega);have ja:gs.length=H:=by rw[HM.out.len,j7.out.len]
 obtain⟨gv,cv,hv⟩:=Q1d.ownsRow_form HM.out.own(by omega);rw[qI]at hv;obtain⟨rfl,_,rfl⟩:=hv;have jf:=hid ja;have jg:H<=gs.length:=by omega
 clear HM HF j4 j6 ja;go_loopw [6,7,8](fun x6 x7 _ wr=>∃(i go:Nat)(o:List Bool),x7=.int .i64 i/\i<=H/\x6=bsl go R1/\w.heap.size<=go/\Q13 wr go o/\o.length=R1/\Q1v wr w.heap.size H(.slice(some⟨gv,0,none⟩)gs.length cp)gs L/\Q0a w wr/\orJ R1(fun h=>atM L h head)G(H-i)i o=V)
   (fun _ x _ _=>1001-(intOf x).toNat)
 case atStart=>exact⟨0,go,_,rfl,by omega,rfl,j8.out,j5.out,NL.out _,jc.out,j1.out,HV.out⟩
 obtain⟨i,g2,o,rfl,hi,rfl,hgo,hB,hol,hm,hfr,hrec⟩:=hrel;have j9:=hid(Q2a(B:=1001)i(by omega));have HB:=hid hB;have HO:=hid hol;have j2:=hid hfr;have HM:=hid hm;have jb:=hid hgo;have u0:=Q0j hfr p0;have jh:=Q0j hfr k2;clear j5 jc j1 j8 HV hB hol hgo;by_cases hlt:i<H
 ·have s1:(i:Int)<(H:Int):=by omega
  rw[v09 _ _ _ _ _ _ hlt]at hrec;obtain⟨gc,hgc⟩:∃g,gs[i]? = some g:=⟨_,qE(by omega)⟩;have r1:=hm.row hgc;have d1:=hm.cell j7.out hgc hhd;have s2:(i:Int)<(gs.length:Int):=by omega
  generalize atM L i head=ab1 at hrec d1;clear hfr hm hgc;cases ab1
  ·rw[if_neg(by simp)]at hrec;have j0:=hid hrec;clear hrec;go_wp2;go_roundw
   case rel=>exact⟨i+1,g2,o,by go_num,by omega,rfl,jb.out,HB.out,HO.out,HM.out,j2.out,j0.out⟩
   exact j9.out
  rw[if_pos rfl]at hrec;have j0:=hid hrec;clear hrec;go_wp2_with(first
   |(go_at_call 70;refine(UN.out _ _ _ _ _(HB.out.fresh j3.out)jd.out HO.out(NL.out _)).mono ?_;rintro e w5⟨rfl,hf5,hB5⟩;have j1:=hid hf5;have je:=hid hB5;clear hf5 hB5)
   |(go_at_call 94;refine(NX.out _ i j2.out(by omega)).mono ?_;rintro e w3⟨g9,rfl,hg9,hB3,hf3⟩;have j3:=hid hf3;have jd:=hid hB3;clear hf3 hB3 hg9))
  go_roundw
  case rel =>
   refine⟨i+1,w3.heap.size,_,by go_num,by omega,rfl,?_,je.out,OI.out _ _,(HM.out.fresh j3.out).fresh j1.out,(j2.out.trans j3.out).trans j1.out,?_⟩
   ·have h1:=j2.out.size;have h2:=j3.out.size;omega
   have:=j0.out;rw[← HG.out]at this;rw[← HG.out];exact this
  exact j9.out
 have s1:¬(i:Int)<(H:Int):=by omega
 rw[show H-i=0 by omega]at hrec;have j0:=hid hrec;clear hrec hfr hm;go_wp2;go_ret;refine⟨g2,rfl,jb.out,?_,j2.out⟩;have:=j0.out;unfold orJ at this;rw[← this];exact HB.out
section
variable{ps:List Pr}{R H:Nat}
theorem y6u(hT:Q1c ps R H):Q7c ps H(Q4q(bs R)false(Q0e R ps)H):=⟨(z9u hT).1,(z9u hT).2⟩
theorem x64(hT:Q1c ps R H)(hH:0<H):(rchF R H(Q0e R ps)).length=H:=by
 obtain⟨r1,r2⟩:=v13(ps:=ps)hT;unfold rchF;rw[List.length_set];exact r1.row 0 hH
end
end Go.Proofs.YtcpceafmlgaodaaGreat
