import Derived.Test.YtcpceafmlgaodaaGreatRbc
namespace Go.Proofs.YtcpceafmlgaodaaGreat
open Go.RowKit
set_option maxRecDepth 99999
set_option maxHeartbeats 0
set_option linter.all false
theorem y5q(w:World)(b R H:Nat)(q:List Q1)(hK:NumOk R H q)(hS:Q3x w b R H q)(hlen:(zclF R H q).length<=10000000000) :
  Calls Tryz.prog 16 #[.pointer (some ⟨b,0,none⟩)] w fun e w'=>∃v,e=.returned v/\Q6x w' w.heap.size v (zclF R H q)/\Q0a w w':=by
 obtain⟨i0,hi0,iz0,iz1,iz2⟩:=infoBS';obtain⟨j0,hj0,jz0,jz1,jz2⟩:=infoCl';have hQ:=hK.qk;have r8:=hQ.r8;have h8:=hQ.h8;have p20:=hQ.p20;have jo:=hQ.pos;have AL:=hid (x86 w b R H q hS hQ hK.n);have AH:=hid (fun(W1:World) (ab gn:Nat) (vL:Value) (gL:List Nat) (hA:Q7y W1 w.heap.size ab b R H q gn vL gL) (hf:Q0a w W1) (W:World) (hW:Q0a W1 W) (i:Nat) (hi:i<q.length)=>x00 W w.heap.size ab b R H q gn vL gL i hi (hA.fresh hW) (hS.fresh (hf.trans hW)) hK);obtain⟨a0,c0,a1,c1,a2,c2,v3,v4,sv,hN⟩:=hS;have k0:=hN.k0;have k1:=hN.k1;have k2:=hN.k2;have k3:=hN.k3;obtain⟨ao3,cp3,e3,hc3,cell3⟩:=hN.r3;rw[qAo]at e3;obtain⟨g3,o3,rfl,_⟩:=cell3 0 (by rw[qAo];exact jo);rw[e3]at k3;have jr:Hid (∀(i:Nat) (h:i<q.length),w.cell? ⟨g3,o3+i,none⟩=some (.int .i64 q[i].1)):=hid (fun i h=>by
  obtain⟨g,o,e,hc⟩:=cell3 i (by rw[qAo];exact h);rw[qO,Addr.mk.injEq]at e;obtain⟨rfl,rfl,_⟩:=e;rw[qBt]at hc;exact hc)
 have k6:bs R=((R+1:Nat):Int):=by unfold bs;omega
 have BA:=hid (fun(W:World) (hW:Q0a w W)=>z1i W b R a0 c0 (Q0i hW k0) (by omega));rw[k6]at BA;have jg:Hid (∀(i:Nat) (h:i<q.length),(Q5g R H q).take (i+1)=(Q5g R H q).take i++[ahF R H (Q4j (bs R) false q H) q q[i]]):=hid (fun i h=>by
  unfold Q5g;rw[← List.map_take,← List.map_take,qCc,qBf,qE h];rfl)
 have jn:Hid ((Q5g R H q).length=q.length):=hid (by unfold Q5g;simp);have jh:Hid (∀i,i<q.length->((Q5g R H q).getD i []).length=R+1):=hid (fun i h=>by
  unfold Q5g;rw[qD,qBe,qE h];exact x85 _ _ _ _ _)
 have hV:zcH q (Q5g R H q) R H 0 []=zclF R H q:=rfl;generalize zclF R H q=V at hV hlen ⊢;have HV:=hid hV;generalize Q5g R H q=A at jg jn jh HV;have ki:Hid (∀h acc,zcT q A h (R+1) 0 acc=zcT q A h (R+1) 0 acc):=hid (fun _ _=>rfl);clear hV hN hc3 e3 cell3 hK hQ k0 k6 ki;have km:R+1<=9:=by omega
 go_enter Tryz.func16,Tryz.ntmps16
 go_wp2_with (first
  |(go_at_call 32;refine(AL.out).mono ?_;rintro e w1⟨ab,gn,vL,gL,rfl,hA1,hf1⟩;have jq:=hid hA1;have jf:=hid hf1;clear hA1 hf1))
 have je:=hid (fun(W:World) (hW:Q0a w1 W) (i:Nat) (hi:i<q.length)=>AH.out w1 ab gn vL gL jq.out jf.out W hW i hi);generalize ahF R H (Q4j (bs R) false q H) q=AF at jg je;clear AH jq AL;generalize hq1:R+1=R1 at BA jh je km;have kh:=hid hq1;clear hq1;have kp:w.heap.size<=w1.heap.size:=jf.size;go_loopw [4,5,6] (fun x4 x5 _ wr=>∃(i:Nat) (gs:List Nat),x5=.int .i64 i/\i<=q.length/\gs.length=i/\Q1t wr w1.heap.size R1 x4 gs (A.take i)/\Q0a w1 wr)
   (fun _ x _ _=>1001-(intOf x).toNat)
 case atStart=>exact⟨0,[],rfl,by omega,rfl,Q1t.nil _ _ _,mRf _ _⟩
 obtain⟨i,gs,rfl,hi,hgl,hM,hfr⟩:=hrel;have jy:=hid (Q15 (B:=1001) i (by omega));have HM:=hid hM;have HF:=hid hfr;have jx:=hid hgl;have jj:=Q0i (jf.trans hfr) k1;obtain⟨ao,cp,hv⟩:=z0d hM.own;subst hv;have ko:gs.length<=100:=by omega
 by_cases hlt:i<q.length
 ·have s1:(i:Int)<(q.length:Int):=by omega
  have jp:=hid (je.out wr hfr i hlt);have jz:=hid (jg.out i hlt);generalize AF q[i]=ah at jp jz;clear hM hfr hgl;go_wp2_with (first
   |(at_builtin;refine z0g _ rfl _ _ 89 rfl w1.heap.size 90 i0 _ 1 24 Tryz.underlying89 hi0 iz0 iz1 iz2 rfl (by decide) (.slice ao gs.length cp) gs.length _ rfl (kg.alloc _) ⟨w2.heap.size,0,none⟩ 1 1 [bsl g2 R1] rfl rfl (z0l rfl) (by intro u hu;simp at hu;subst hu;rfl) (by unfold maxLen;omega) (by omega) (by have z1:=HF.size;have z2:=j1.size;simp;omega) ?_)
   |(go_at_call 33;refine(jp.out).mono ?_;rintro e w2⟨g2,rfl,hg2,hB2,j7⟩;have jl:=hid hg2;have k9:=hid hB2;have j1:=hid j7;have kg:=hid (HM.fresh j7).own;clear hg2 hB2 j7))
  intro v' w6 hown2 hgrow hblk;have j7:Q0a w2 (w2.alloc (.cells #[bsl g2 R1] 90)):=(mRf _ w2).alloc _;have j8:Hid (Q1t w6 w1.heap.size R1 v' (gs++[g2]) (A.take (i+1))/\Q0a w1 w6):=hid (by
   refine⟨?_,Mod.grown (S:=fun _=>False) ((HF.trans j1.out).trans j7) hgrow (fun k hk hlt=>by have:=(HM.own.lt k hk).1;omega)⟩;rw[jz.out];refine((HM.fresh j1.out).fresh j7).next (k9.fresh j7) (qCd HF.size jl.out) ?_ ?_ hown2 hgrow (by simpa using hblk)
   ·intro e;have:=(HM.own.lt _ e).2;have:=jl.out;omega
   intro x hx e;obtain⟨k,hk,rfl⟩:=qAv hx;have:=(HM.blk k _ (qE hk)).2.lt;have:=jl.out;omega)
  have jm:Hid ((gs++[g2]).length=i+1):=hid (by rw[qP,jx.out];rfl);clear hown2 hgrow hblk j7;go_wp2;go_roundw
  case rel=>exact⟨i+1,_,by go_num,by omega,jm.out,j8.1,j8.2⟩
  exact jy.out
 have s1:¬(i:Int)<(q.length:Int):=by omega
 have kl:i=q.length:=by omega
 rw[kl,← jn.out,qAr]at hM;have kk:gs.length=q.length:=by omega
 obtain⟨ga,cv,hv⟩:=Joins.ownsRow_form hM.own (by omega);rw[qI]at hv;obtain⟨rfl,hx,rfl⟩:=hv;clear hx;rename World=>wA
 have j3:Q0a w wA:=jf.trans hfr;have CE:Hid (∀W,Q0a wA W->W.cell? ⟨b,1,none⟩=some (.slice a1 q.length c1)/\W.cell? ⟨b,2,none⟩=some (.slice a2 H c2)/\W.cell? ⟨b,3,none⟩=some (.slice (some ⟨g3,o3,none⟩) q.length cp3)):=hid (fun W hW=>⟨Q0i (j3.trans hW) k1,Q0i (j3.trans hW) k2,Q0i (j3.trans hW) k3⟩);have k8:=hid (fun(W:World) (hW:Q0a wA W)=>BA.out W (j3.trans hW));have js:Hid (∀W,Q0a wA W->∀(i:Nat) (h:i<q.length),W.cell? ⟨g3,o3+i,none⟩=some (.int .i64 q[i].1)):=hid (fun W hW i h=>Q0i (j3.trans hW) (jr.out i h));have k4:Hid (∀W,Q0a wA W->∀i,i<q.length->∃gi,W.cell? ⟨ga,i,none⟩=some (bsl gi R1)/\∀t,t<R1->W.cell? ⟨gi,t,none⟩=some (.bool (atM A i t))):=hid (fun W hW i h=>by
  have k5:=hM.fresh hW;have k7:gs[i]? = some gs[i]:=qE (by omega);exact⟨_,k5.row k7,fun t ht=>(k5.blk i _ k7).2.cell (by rw[jh.out i h];exact ht)⟩)
 have kj:q.length<=gs.length:=by omega
 have jw:=hid j3;clear hM hfr kk HM HF jx hgl je jg jn jh jr k1 k2 k3 BA j3 jy;go_wp2;go_loopw [7,8,9,10,11] (fun x7 x8 _ _ _ wr=>∃(h:Nat) (acc:List Cl),x8=.int .i64 h/\h<=H/\Q6x wr wA.heap.size x7 acc/\Q0a wA wr/\zcH q A R (H-h) h acc=V)
   (fun _ x _ _ _ _=>1001-(intOf x).toNat)
 case atStart=>exact⟨0,[],rfl,by omega,World.ownsRow_nil _ _ _ _,mRf _ _,HV.out⟩
 clear jj HV;obtain⟨h,acc,rfl,hh,hC,hfr,hrec⟩:=hrel;have kd:=hid (Q15 (B:=1001) h (by omega));have j2:=hid hC;have j1:=hid hfr;obtain⟨-,kk2,-⟩:=CE.out wr hfr;obtain⟨co,cc,hv⟩:=z0d hC;subst hv;by_cases hlt:h<H
 ·have s2:(h:Int)<(H:Int):=by omega
  rw[v2l _ _ _ _ _ _ hlt,kh.out]at hrec;generalize hF3:zcT q A h R1 0 acc=F3 at hrec;have ka:Hid (F3.length<=10000000000):=hid (by have:=y9c q A R (H-(h+1)) (h+1) F3;rw[hrec]at this;omega);have ja:=hid hrec;have jt:=hid hF3;clear hrec hF3 hC hfr;go_wp2;go_loopw [7,9,10,11] (fun x7 x9 _ _ wr=>∃(t:Nat) (acc:List Cl),x9=.int .i64 t/\t<=R1/\Q6x wr wA.heap.size x7 acc/\Q0a wA wr/\zcT q A h (R1-t) t acc=F3)
    (fun _ x _ _ _=>1001-(intOf x).toNat)
  case atStart=>exact⟨0,acc,rfl,by omega,j2.out,j1.out,jt.out⟩
  clear kk2 j2 j1 jt;obtain⟨t,acc,rfl,ht,hC,hfr,hrec⟩:=hrel;have kf:=hid (Q15 (B:=1001) t (by omega));have j2:=hid hC;have j1:=hid hfr;have jk:=hid (k8.out wr hfr);obtain⟨co,cc,hv⟩:=z0d hC;subst hv;by_cases hltt:t<R1
  ·have s3:(t:Int)<(R1:Int):=by omega
   rw[v2o _ _ _ _ _ _ hltt]at hrec;generalize hF4:zcI q A h t q.length 0 acc=F4 at hrec;have kb:Hid (F4.length<=10000000000):=hid (by have:=y3a q A h (R1-(t+1)) (t+1) F4;rw[hrec]at this;have:=ka.out;omega);have jc:=hid hrec;have ju:=hid hF4;clear hrec hF4 hC hfr;go_wp2_with (first
    |(go_at_call 34;refine csm jk.out ?_))
   go_loopw [7,10,11] (fun x7 x10 _ wr=>∃(i:Nat) (acc:List Cl),x10=.int .i64 i/\i<=q.length/\Q6x wr wA.heap.size x7 acc/\Q0a wA wr/\zcI q A h t (q.length-i) i acc=F4)
     (fun _ x _ _=>1001-(intOf x).toNat)
   case atStart=>exact⟨0,acc,rfl,by omega,j2.out,j1.out,ju.out⟩
   clear j2 j1 ju jk;obtain⟨i,acc,rfl,hi,hC,hfr,hrec⟩:=hrel;have ke:=hid (Q15 (B:=1001) i (by omega));have j2:=hid hC;have j1:=hid hfr;obtain⟨jj,-,-⟩:=CE.out wr hfr;obtain⟨co,cc,hv⟩:=z0d hC;subst hv;by_cases hlti:i<q.length
   ·have s4:(i:Int)<(q.length:Int):=by omega
    rw[v2m _ _ _ _ _ _ _ hlti]at hrec;generalize hF5:zcJ q A h t i (q.length-(i+1)) (i+1) acc=F5 at hrec;have kc:Hid (F5.length<=10000000000):=hid (by have:=y28 q A h t (q.length-(i+1)) (i+1) F5;rw[hrec]at this;have:=kb.out;omega);have jb:=hid hrec;have jv:=hid hF5;clear hrec hF5 hC hfr;go_wp2;go_loopw [7,11] (fun x7 x11 wr=>∃(j:Nat) (acc:List Cl),x11=.int .i64 j/\j<=q.length/\i<j/\Q6x wr wA.heap.size x7 acc/\Q0a wA wr/\zcJ q A h t i (q.length-j) j acc=F5)
      (fun _ x _=>1001-(intOf x).toNat)
    case atStart=>exact⟨i+1,acc,by go_num,by omega,by omega,j2.out,j1.out,jv.out⟩
    clear jj j2 j1 jv;obtain⟨j,acc,rfl,hj,hij,hC,hfr,hrec⟩:=hrel;have j9:=hid (Q15 (B:=1001) j (by omega));have j2:=hid hC;have j1:=hid hfr;obtain⟨jj,-,kk3⟩:=CE.out wr hfr;obtain⟨co,cc,hv⟩:=z0d hC;subst hv;by_cases hltj:j<q.length
    ·have s5:(j:Int)<(q.length:Int):=by omega
     rw[v2n _ _ _ _ _ _ _ _ hltj]at hrec;have d1:=js.out wr hfr i hlti;have d2:=js.out wr hfr j hltj;obtain⟨gi,x1,x1'⟩:=k4.out wr hfr i hlti;obtain⟨gj,x2,x2'⟩:=k4.out wr hfr j hltj;have y1:=x1' t hltt;have y2:=x2' t hltt;have s6:(i:Int)<(gs.length:Int):=by omega
     have s7:(j:Int)<(gs.length:Int):=by omega
     have jd:hitB q A h t i j=(((q[i].1==(h:Int)&&q[j].1==(h:Int))&&atM A i t)&&atM A j t):=by
      unfold hitB;rw[qD,qE hlti,qD,qE hltj];rfl
     rw[jd]at hrec;generalize q[i].1=hdi at d1 hrec;generalize q[j].1=hdj at d2 hrec;generalize atM A i t=at1 at y1 hrec;generalize atM A j t=at2 at y2 hrec;generalize hb1:(hdi==(h:Int))=b1 at hrec;generalize hb2:(hdj==(h:Int))=b2 at hrec;have j4:=hid hrec;clear hrec hC hfr x1' x2' jd;have j5:Hid ((((b1&&b2)&&at1)&&at2)=false->zcJ q A h t i (q.length-(j+1)) (j+1) acc=F5):=hid (fun e=>by have:=j4.out;rw[e,qAa (by simp)]at this;exact this);cases b1
     ·clear d2 x1 x2 y1 y2 hb2;go_wp2;go_roundw
      case rel=>exact⟨j+1,acc,by go_num,by omega,by omega,j2.out,j1.out,j5.out (by simp)⟩
      exact j9.out
     cases b2
     ·clear x1 x2 y1 y2;go_wp2;go_roundw
      case rel=>exact⟨j+1,acc,by go_num,by omega,by omega,j2.out,j1.out,j5.out (by simp)⟩
      exact j9.out
     cases at1
     ·clear x2 y2;go_wp2;go_roundw
      case rel=>exact⟨j+1,acc,by go_num,by omega,by omega,j2.out,j1.out,j5.out (by simp)⟩
      exact j9.out
     cases at2
     ·go_wp2;go_roundw
      case rel=>exact⟨j+1,acc,by go_num,by omega,by omega,j2.out,j1.out,j5.out (by simp)⟩
      exact j9.out
     have ji:=j4.out;rw[qAb (by simp)]at ji;have kn:acc.length+1<=10000000000:=by
      have:=y29 q A h t i (q.length-(j+1)) (j+1) (acc++[⟨h,t,i,j⟩]);rw[ji,qP,qAf]at this;have:=kc.out;omega
     have j6:=hid ji;have kq:wA.heap.size<=wr.heap.size:=j1.size;clear ji j5 j4;go_wp2_with (first
      |(at_builtin;refine z0g _ rfl _ _ 55 rfl wA.heap.size 94 j0 _ 4 32 Tryz.underlying55 hj0 jz0 jz1 jz2 rfl (by decide) (.slice co acc.length cc) acc.length (Q00 Cl.cells acc) rfl (j2.alloc _) ⟨wr.heap.size,0,none⟩ 1 1 [.int .i64 h,.int .i64 t,.int .i64 i,.int .i64 j] rfl rfl (z0l rfl) (by intro u hu;simp only[qBc,qCt,or_false]at hu;rcases hu with rfl|rfl|rfl|rfl<;>rfl) (by unfold maxLen;omega) (by omega) (by simp;omega) ?_))
     intro v' w6 hown2 hgrow hblk;have j8:Hid (Q6x w6 wA.heap.size v' (acc++[⟨h,t,i,j⟩])/\Q0a wA w6):=hid ⟨by unfold Q6x;rw[z0y,qP,qAf];exact hown2,Mod.grown (S:=fun _=>False) (j1.alloc _) hgrow (fun k hk hlt=>by have:=(j2.lt k hk).1;omega)⟩;clear hown2 hgrow hblk;go_wp2;go_roundw
     case rel=>exact⟨j+1,_,by go_num,by omega,by omega,j8.1,j8.2,j6.out⟩
     exact j9.out
    have s5:¬(j:Int)<(q.length:Int):=by omega
    rw[show q.length-j=0 by omega]at hrec;have j6:=hid hrec;clear hrec hC hfr;go_wp2;go_roundw
    case rel=>exact⟨i+1,acc,by go_num,by omega,j2.out,j1.out,by have:=j6.out;unfold zcJ at this;rw[this];exact jb.out⟩
    exact ke.out
   have s4:¬(i:Int)<(q.length:Int):=by omega
   rw[show q.length-i=0 by omega]at hrec;have j6:=hid hrec;clear hrec hC hfr;go_wp2;go_roundw
   case rel=>exact⟨t+1,acc,by go_num,by omega,j2.out,j1.out,by have:=j6.out;unfold zcI at this;rw[this];exact jc.out⟩
   exact kf.out
  have s3:¬(t:Int)<(R1:Int):=by omega
  rw[show R1-t=0 by omega]at hrec;have j6:=hid hrec;clear hrec hC hfr;go_wp2_with (first
   |(go_at_call 34;refine csm jk.out ?_))
  go_roundw
  case rel=>exact⟨h+1,acc,by go_num,by omega,j2.out,j1.out,by have:=j6.out;unfold zcT at this;rw[this];exact ja.out⟩
  exact kd.out
 have s2:¬(h:Int)<(H:Int):=by omega
 rw[show H-h=0 by omega]at hrec;have j6:=hid hrec;clear hrec hC hfr;go_wp2;go_ret;have e:=j6.out;unfold zcH at e;refine⟨_,rfl,?_,jw.trans j1.out⟩;rw[← e];exact z0f j2.out jw.size
end Go.Proofs.YtcpceafmlgaodaaGreat
