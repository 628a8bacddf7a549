import Derived.Test.YtcpceafmlgaodaaGreatGw2
namespace Go.Proofs.YtcpceafmlgaodaaGreat
open Go.RowKit
set_option maxRecDepth 99999
set_option maxHeartbeats 0
set_option linter.all false
theorem v18(base:Int)(null:List Bool)(L:Mat)(R:Nat)(l:List Int)(n i:Nat)(out:List Bool)(h:i<n):fiI base null L R l (n-i) i out=fiI base null L R l (n-(i+1)) (i+1) (if Q34 base null (l.take i)=true then fiT L (l.getD i 0) R 0 out else out):=by
 rw[show n-i=(n-(i+1))+1 by omega];rfl
theorem v19(L:Mat)(c:Int)(n t:Nat)(out:List Bool)(h:t<n):fiT L c (n-t) t out=fiT L c (n-(t+1)) (t+1) (out.set t ((out.getD t false||c==(t:Int))||atM L c.toNat t)):=by
 rw[show n-t=(n-(t+1))+1 by omega];rfl
theorem x18(L:Mat)(c:Int):∀(f t:Nat) (out:List Bool),(fiT L c f t out).length=out.length
 |0,_,_=>rfl
 |f+1,t,out=>by unfold fiT;rw[x18 L c f];simp
def Q9k(w:World)(n:Nat)(l:List Bool)(e:Ending)(w':World):Prop:=∃g,e=.returned (bsl g n)/\w.heap.size<=g/\Q1y w' g l/\Q0a w w'
theorem y3v(w:World)(B ab b R H:Nat)(q:List Q1)(gn:Nat)(vL:Value)(gs:List Nat)(v:Value)(l:List Int)(hA:Q7y w B ab b R H q gn vL gs)(hS:Q3x w b R H q)(hQ:QOk R H q)(hnl:(Q4j (bs R) false q H).length=H) (hsq:Sq (R+1+H) (ldF R H (Q4j (bs R) false q H) q))
  (hv:Q0z w v l) (hl:l.length<=6) (hc:∀c∈l,0<=c/\c<(R:Int)+1+H) :
  Calls Tryz.prog 67 #[.pointer (some ⟨ab,0,none⟩),v] w fun e w'=>Q9k w (R+1) (fiF R H (Q4j (bs R) false q H) q l) e w':=by
 obtain⟨a0,c0,a1,c1,a2,c2,v3,v4,sv,hN⟩:=hS;have r8:=hQ.r8;have h8:=hQ.h8;obtain⟨ao,cap,rfl,hcap,hcell⟩:=hv;obtain⟨al,cl,hvL⟩:=z0d hA.m.own;subst hvL;have p0:=Q0b hA.o 0;have p1:=Q0b hA.o 1;have p2:=Q0b hA.o 2;simp at p0 p1 p2;have k0:=hN.k0;unfold fiF firF;generalize hnu:Q4j (bs R) false q H=null at hA hnl hsq ⊢;generalize hLd:ldF R H null q=L at hA hsq ⊢;have jl:Hid (Q1y w gn null):=hid (by have:=hA.n;rw[hnu]at this;exact this);have j8:Hid (Q1t w B (R+1+H) (.slice al gs.length cl) gs L):=hid (by have:=hA.m;rw[hnu,hLd]at this;exact this);have jg:gs.length=R+1+H:=by rw[j8.len,hsq.len]
 have jk:=hid hN;have jr:=hid hnl;have jn:=hid hsq;have HC:=hid hcell;have jh:=hid hc;have jc:bs R=((R+1:Nat):Int):=by unfold bs;omega
 have BA:=hid (fun(W:World) (hW:Q0a w W)=>z1i W b R a0 c0 (Q0i hW k0) (by omega));rw[jc]at BA;have NO:=hid (fun(W:World) (i:Nat) (hW:Q0a w W) (hi:i<=l.length)=>z4o W b R H gn a0 c0 (.slice ao i cap) (l.take i) null (Q0i hW k0) (by omega) (by omega) ((Q0z.take ⟨ao,cap,rfl,hcap,hcell⟩ rfl hi).fresh hW) (by rw[qBo];omega) (jl.fresh hW) hnl (fun c hcc=>hc c (qEd hcc)));have mk:=fun w=>run_make_row' (P:=Tryz.prog) 90 4 (.bool false) 1 Tryz.underlying90 (by kernel_rfl) rfl .i64 .i64 (R+1) (by omega) (by omega) w;generalize hV:fiI (bs R) null L R l l.length 0 (List.replicate (R+1) false)=V;generalize hbs:bs R=base at hV NO;have HV:=hid hV;have jo:R+1<=9:=by omega
 have j9:=hid (show R<R+1 by omega);generalize hq1:R+1=R1 at HV BA mk jo j9 ⊢;have js:=hid hq1;have ji:=hid jg;have jq:gs.length<=20:=by omega
 clear hV hN hQ hnl hsq hcell hc hA hbs jc hq1 jg hnu hLd k0;go_enter Tryz.func67,Tryz.ntmps67
 go_wp2_with (first
  |(go_at_call 34;refine csm (BA.out _ (mRf _ _)) ?_))
 go_loopw [6,7,8] (fun x6 _ _ wr=>∃(i:Nat) (o:List Bool),x6=.int .i64 i/\i<=l.length/\Q1y wr w.heap.size o/\o.length=R1/\Q0a w wr/\fiI base null L R l (l.length-i) i o=V)
   (fun x _ _ _=>1001-(intOf x).toNat)
 case atStart =>
  refine⟨0,List.replicate R1 false,rfl,by omega,?_,by simp,(mRf _ w).alloc _,HV.out⟩;rw[z03];exact z0a _ _
 obtain⟨i,o,rfl,hi,hB,hol,hfr,hrec⟩:=hrel;have j7:=hid (Q15 (B:=1001) i (by omega));have HB:=hid hB;have jm:=hid hol;have HF:=hid hfr;have u0:=Q0i hfr p0;have u1:=Q0i hfr p1;clear hB hol mk;by_cases hlt:i<l.length
 ·have k1:(i:Int)<(l.length:Int):=by omega
  have k2:(i:Int)<=(l.length:Int):=by omega
  rw[v18 _ _ _ _ _ _ _ _ hlt]at hrec;obtain⟨gl,ol,rfl,y5⟩:=HC.out i hlt;have k3:(i:Int)<=(cap:Int):=by omega
  have jd:=jh.out l[i] (qG hlt);obtain⟨cn,hcn⟩:∃a:Nat,l[i]=a:=⟨l[i].toNat,by omega⟩;have jf:l.getD i 0=(cn:Int):=by rw[qD,qE hlt,qDa,hcn]
  rw[hcn]at y5 jd;rw[jf]at hrec;have jp:cn<gs.length:=by rw[ji.out];omega
  have NQ:=hid (fun n=>NO.out (wr.drewN n) i (hfr.trans (Q0r wr n)) (by omega));generalize Q34 base null (l.take i)=nb at hrec NQ;generalize hF2:(if nb=true then fiT L (cn:Int) R 0 o else o)=F2 at hrec;have jb:=hid hF2;have j2:=hid hrec;clear hrec hF2 hfr jf hcn jd;go_wp2;go_quiet (first|(go_at_call 68;refine Calls.quiet_of (NQ.out _)));have j6:=hid (HF.trans (Q0r wr nq));have j5:=hid (HB.fresh (Q0r wr nq));generalize wr.drewN nq=W2 at j6 j5 ⊢;clear u0 u1 HB HF NQ;go_wp2;go_loopw [8] (fun x8 wi=>∃(t:Nat) (o:List Bool),x8=.int .i64 t/\t<=R/\Q1y wi w.heap.size o/\o.length=R1/\Q0a w wi/\(if nb=true then fiT L (cn:Int) (R-t) t o else o)=F2)
    (fun x _=>1001-(intOf x).toNat)
  case atStart=>exact⟨0,o,rfl,by omega,j5.out,jm.out,j6.out,jb.out⟩
  obtain⟨t,o2,rfl,ht,hB,hol,hfr,hrec⟩:=hrel;have jj:=hid (Q15 (B:=1001) t (by omega));have j3:=hid hB;have j1:=hid hol;have j4:=hid hfr;have u0:=Q0i hfr p0;have u2:=Q0i hfr p2;have uk:=(jk.fresh hfr).k0;clear j6 j5 jb hol;by_cases hgo:t<R/\nb=true
  ·obtain⟨htR,hnb⟩:=hgo;subst hnb;have s1:(t:Int)<(R:Int):=by omega
   have s2:(t:Int)<(R1:Int):=by have:=j9.out;omega
   rw[qAb rfl,v19 _ _ _ _ _ htR,qAl]at hrec;obtain⟨gv,cv,hv⟩:=Joins.ownsRow_form j8.own (by omega);rw[qI]at hv;obtain⟨rfl,_,rfl⟩:=hv;obtain⟨gc,hgc⟩:∃g,gs[cn]? = some g:=⟨_,qE jp⟩;have ja:=j8.fresh hfr;have r1:=ja.row hgc;have d1:=ja.cell jn.out hgc (j:=t) (by omega);have b1:=hB.cell (j:=t) (by rw[j1.out];have:=j9.out;omega);have b2:=hB.frozen t;have z5:=Q0i hfr y5;have s3:(cn:Int)<(gs.length:Int):=by omega
   have s4:(t:Int)<((R+1+H:Nat):Int):=by omega
   generalize o2.getD t false=xa at hrec b1;generalize atM L cn t=xl at hrec d1;generalize hce:((cn:Int)==(t:Int))=xe at hrec;have j0:=hid hrec;have HP:Hid (∀c:Bool,Q1y (wr.setCell ⟨w.heap.size,t,none⟩ (.bool c)).drew w.heap.size (o2.set t c)/\Q0a w (wr.setCell ⟨w.heap.size,t,none⟩ (.bool c)).drew):=hid (fun c=>⟨j3.put t c,(j4.setCell (fun h=>absurd h (by simp)) _).drew⟩);clear hrec ja hgc hfr hB;generalize R+1+H=nn at r1 s4;cases xa<;>cases xe<;>cases xl;all_goals
    go_wp2_with fail
    go_region;all_goals
     go_wp2;go_roundw
     case rel=>exact⟨t+1,_,by go_num,by omega,(HP.out _).1,by simp[j1.out],(HP.out _).2,by first|exact j0.out|(rw[qAb rfl];exact j0.out)|simpa using j0.out⟩
     exact jj.out
  have je:(if nb=true then fiT L (cn:Int) (R-t) t o2 else o2)=o2:=by
   cases nb
   ·rfl
   have:R-t=0:=by
    rcases qBn t R with q|q
    ·exact absurd ⟨q,rfl⟩ hgo
    omega
   rw[qAb rfl,this];rfl
  rw[je]at hrec;have j0:=hid hrec;clear hrec je hfr hB;cases nb
  ·by_cases htR:t<R
   ·have s1:(t:Int)<(R:Int):=by omega
    go_wp2;go_roundw
    case rel=>exact⟨i+1,o2,by go_num,by omega,j3.out,j1.out,j4.out,by rw[j0.out];exact j2.out⟩
    exact j7.out
   have s1:¬(t:Int)<(R:Int):=by omega
   go_wp2;go_roundw
   case rel=>exact⟨i+1,o2,by go_num,by omega,j3.out,j1.out,j4.out,by rw[j0.out];exact j2.out⟩
   exact j7.out
  have s1:¬(t:Int)<(R:Int):=by
   intro h;exact hgo ⟨by omega,rfl⟩
  go_wp2;go_roundw
  case rel=>exact⟨i+1,o2,by go_num,by omega,j3.out,j1.out,j4.out,by rw[j0.out];exact j2.out⟩
  exact j7.out
 have k1:¬(i:Int)<(l.length:Int):=by omega
 have hz:l.length-i=0:=by omega
 rw[hz]at hrec;have j2:=hid hrec;clear hrec hfr hz;go_wp2;go_ret;refine⟨_,rfl,qR _,?_,HF.out⟩;have:=j2.out;unfold fiI at this;rw[← this];exact HB.out
def rchF(R H:Nat)(q:List Q1):List Bool:=((reF R H q).getD 0 []).set 0 true
end Go.Proofs.YtcpceafmlgaodaaGreat
