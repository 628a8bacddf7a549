import Derived.Test.YtcpceafmlgaodaaGreatRbb
namespace Go.Proofs.YtcpceafmlgaodaaGreat
open Go.RowKit
set_option maxRecDepth 99999
set_option maxHeartbeats 0
set_option linter.all false
theorem y5q(w:World)(b R H:Nat)(q:List Q1)(hK:NumOk R H q)(hS:Q3x w b R H q)(hlen:(zclF R H q).length<=10000000000) :
  Calls Tryz.prog 16 #[.pointer (some ⟨b,0,none⟩)] w fun e w'=>∃v,e=.returned v/\Q6x w' w.heap.size v (zclF R H q)/\Q0a w w':=by
 obtain⟨i0,hi0,iz0,iz1,iz2⟩:=infoBS';obtain⟨j0,hj0,jz0,jz1,jz2⟩:=infoCl';have hQ:=hK.qk;have r8:=hQ.r8;have h8:=hQ.h8;have p20:=hQ.p20;have jo:=hQ.pos;have AL:=hid (x86 w b R H q hS hQ hK.n);have AH:=hid (fun(W1:World) (ab gn:Nat) (vL:Value) (gL:List Nat) (hA:Q7y W1 w.heap.size ab b R H q gn vL gL) (hf:Q0a w W1) (W:World) (hW:Q0a W1 W) (i:Nat) (hi:i<q.length)=>x00 W w.heap.size ab b R H q gn vL gL i hi (hA.fresh hW) (hS.fresh (hf.trans hW)) hK);obtain⟨a0,c0,a1,c1,a2,c2,v3,v4,sv,hN⟩:=hS;have k0:=hN.k0;have k1:=hN.k1;have k2:=hN.k2;have k3:=hN.k3;obtain⟨ao3,cp3,e3,hc3,cell3⟩:=hN.r3;rw[qAo]at e3;obtain⟨g3,o3,rfl,_⟩:=cell3 0 (by rw[qAo];exact jo);rw[e3]at k3;have jr:Hid (∀(i:Nat) (h:i<q.length),w.cell? ⟨g3,o3+i,none⟩=some (.int .i64 q[i].1)):=hid (fun i h=>by
  obtain⟨g,o,e,hc⟩:=cell3 i (by rw[qAo];exact h);rw[qO,Addr.mk.injEq]at e;obtain⟨rfl,rfl,_⟩:=e;rw[qBt]at hc;exact hc)
 have k6:bs R=((R+1:Nat):Int):=by unfold bs;omega
 have BA:=hid (fun(W:World) (hW:Q0a w W)=>z1i W b R a0 c0 (Q0i hW k0) (by omega));rw[k6]at BA;have jg:Hid (∀(i:Nat) (h:i<q.length),(Q5g R H q).take (i+1)=(Q5g R H q).take i++[ahF R H (Q4j (bs R) false q H) q q[i]]):=hid (fun i h=>by
  unfold Q5g;rw[← List.map_take,← List.map_take,qCc,qBf,qE h];rfl)
 have jn:Hid ((Q5g R H q).length=q.length):=hid (by unfold Q5g;simp);have jh:Hid (∀i,i<q.length->((Q5g R H q).getD i []).length=R+1):=hid (fun i h=>by
  unfold Q5g;rw[qD,qBe,qE h];exact x85 _ _ _ _ _)
 have hV:zcH q (Q5g R H q) R H 0 []=zclF R H q:=rfl;generalize zclF R H q=V at hV hlen ⊢;have HV:=hid hV;generalize Q5g R H q=A at jg jn jh HV;have ki:Hid (∀h acc,zcT q A h (R+1) 0 acc=zcT q A h (R+1) 0 acc):=hid (fun _ _=>rfl);clear hV hN hc3 e3 cell3 hK hQ k0 k6 ki;have km:R+1<=9:=by omega
 go_enter Tryz.func16,Tryz.ntmps16
 go_wp2_with (first
  |(go_at_call 32;refine(AL.out).mono ?_;rintro e w1⟨ab,gn,vL,gL,rfl,hA1,hf1⟩;have jq:=hid hA1;have jf:=hid hf1;clear hA1 hf1))
 have je:=hid (fun(W:World) (hW:Q0a w1 W) (i:Nat) (hi:i<q.length)=>AH.out w1 ab gn vL gL jq.out jf.out W hW i hi);generalize ahF R H (Q4j (bs R) false q H) q=AF at jg je;clear AH jq AL;generalize hq1:R+1=R1 at BA jh je km;have kh:=hid hq1;clear hq1;have kp:w.heap.size<=w1.heap.size:=jf.size;go_loopw [4,5,6] (fun x4 x5 _ wr=>∃(i:Nat) (gs:List Nat),x5=.int .i64 i/\i<=q.length/\gs.length=i/\Q1t wr w1.heap.size R1 x4 gs (A.take i)/\Q0a w1 wr)
   (fun _ x _ _=>1001-(intOf x).toNat)
 case atStart=>exact⟨0,[],rfl,by omega,rfl,Q1t.nil _ _ _,mRf _ _⟩
 obtain⟨i,gs,rfl,hi,hgl,hM,hfr⟩:=hrel;have jy:=hid (Q15 (B:=1001) i (by omega));have HM:=hid hM;have HF:=hid hfr;have jx:=hid hgl;have jj:=Q0i (jf.trans hfr) k1;obtain⟨ao,cp,hv⟩:=z0d hM.own;subst hv;have ko:gs.length<=100:=by omega
 by_cases hlt:i<q.length
 ·have s1:(i:Int)<(q.length:Int):=by omega
  have jp:=hid (je.out wr hfr i hlt);have jz:=hid (jg.out i hlt);generalize AF q[i]=ah at jp jz;clear hM hfr hgl;go_wp2_with (first
   |(at_builtin;refine z0g _ rfl _ _ 89 rfl w1.heap.size 90 i0 _ 1 24 Tryz.underlying89 hi0 iz0 iz1 iz2 rfl (by decide) (.slice ao gs.length cp) gs.length _ rfl (kg.alloc _) ⟨w2.heap.size,0,none⟩ 1 1 [bsl g2 R1] rfl rfl (z0l rfl) (by intro u hu;simp at hu;subst hu;rfl) (by unfold maxLen;omega) (by omega) (by have z1:=HF.size;have z2:=j1.size;simp;omega) ?_)
   |(go_at_call 33;refine(jp.out).mono ?_;rintro e w2⟨g2,rfl,hg2,hB2,j7⟩;have jl:=hid hg2;have k9:=hid hB2;have j1:=hid j7;have kg:=hid (HM.fresh j7).own;clear hg2 hB2 j7))
  intro v' w6 hown2 hgrow hblk;have j7:Q0a w2 (w2.alloc (.cells #[bsl g2 R1] 90)):=(mRf _ w2).alloc _;have j8:Hid (Q1t w6 w1.heap.size R1 v' (gs++[g2]) (A.take (i+1))/\Q0a w1 w6):=hid (by
   refine⟨?_,Mod.grown (S:=fun _=>False) ((HF.trans j1.out).trans j7) hgrow (fun k hk hlt=>by have:=(HM.own.lt k hk).1;omega)⟩;rw[jz.out];refine((HM.fresh j1.out).fresh j7).next (k9.fresh j7) (qCd HF.size jl.out) ?_ ?_ hown2 hgrow (by simpa using hblk)
   ·intro e;have:=(HM.own.lt _ e).2;have:=jl.out;omega
   intro x hx e;obtain⟨k,hk,rfl⟩:=qAv hx;have:=(HM.blk k _ (qE hk)).2.lt;have:=jl.out;omega)
  have jm:Hid ((gs++[g2]).length=i+1):=hid (by rw[qP,jx.out];rfl);clear hown2 hgrow hblk j7;go_wp2;go_roundw
  case rel=>exact⟨i+1,_,by go_num,by omega,jm.out,j8.1,j8.2⟩
  exact jy.out
 have s1:¬(i:Int)<(q.length:Int):=by omega
 have kl:i=q.length:=by omega
 rw[kl,← jn.out,qAr]at hM;have kk:gs.length=q.length:=by omega
 obtain⟨ga,cv,hv⟩:=Joins.ownsRow_form hM.own (by omega);rw[qI]at hv;obtain⟨rfl,hx,rfl⟩:=hv;clear hx;rename World=>wA
 have j3:Q0a w wA:=jf.trans hfr;have CE:Hid (∀W,Q0a wA W->W.cell? ⟨b,1,none⟩=some (.slice a1 q.length c1)/\W.cell? ⟨b,2,none⟩=some (.slice a2 H c2)/\W.cell? ⟨b,3,none⟩=some (.slice (some ⟨g3,o3,none⟩) q.length cp3)):=hid (fun W hW=>⟨Q0i (j3.trans hW) k1,Q0i (j3.trans hW) k2,Q0i (j3.trans hW) k3⟩);have k8:=hid (fun(W:World) (hW:Q0a wA W)=>BA.out W (j3.trans hW));have js:Hid (∀W,Q0a wA W->∀(i:Nat) (h:i<q.length),W.cell? ⟨g3,o3+i,none⟩=some (.int .i64 q[i].1)):=hid (fun W hW i h=>Q0i (j3.trans hW) (jr.out i h));have k4:Hid (∀W,Q0a wA W->∀i,i<q.length->∃gi,W.cell? ⟨ga,i,none⟩=some (bsl gi R1)/\∀t,t<R1->W.cell? ⟨gi,t,none⟩=some (.bool (atM A i t))):=hid (fun W hW i h=>by
  have k5:=hM.fresh hW;have k7:gs[i]? = some gs[i]:=qE (by omega);exact⟨_,k5.row k7,fun t ht=>(k5.blk i _ k7).2.cell (by rw[jh.out i h];exact ht)⟩)
 have kj:q.length<=gs.length:=by omega
 have jw:=hid j3;clear hM hfr kk HM HF jx hgl je jg jn jh jr k1 k2 k3 BA j3 jy;go_wp2;go_loopw [7,8,9,10,11] (fun x7 x8 _ _ _ wr=>∃(h:Nat) (acc:List Cl),x8=.int .i64 h/\h<=H/\Q6x wr wA.heap.size x7 acc/\Q0a wA wr/\zcH q A R (H-h) h acc=V)
   (fun _ x _ _ _ _=>1001-(intOf x).toNat)
 case atStart=>exact⟨0,[],rfl,by omega,World.ownsRow_nil _ _ _ _,mRf _ _,HV.out⟩
 clear jj HV;obtain⟨h,acc,rfl,hh,hC,hfr,hrec⟩:=hrel;have kd:=hid (Q15 (B:=1001) h (by omega));have j2:=hid hC;have j1:=hid hfr;obtain⟨-,kk2,-⟩:=CE.out wr hfr;obtain⟨co,cc,hv⟩:=z0d hC;subst hv;by_cases hlt:h<H
 ·have s2:(h:Int)<(H:Int):=by omega
  rw[v2l _ _ _ _ _ _ hlt,kh.out]at hrec;generalize hF3:zcT q A h R1 0 acc=F3 at hrec;have ka:Hid (F3.length<=10000000000):=hid (by have:=y9c q A R (H-(h+1)) (h+1) F3;rw[hrec]at this;omega);have ja:=hid hrec;have jt:=hid hF3;clear hrec hF3 hC hfr;go_wp2;go_loopw [7,9,10,11] (fun x7 x9 _ _ wr=>∃(t:Nat) (acc:List Cl),x9=.int .i64 t/\t<=R1/\Q6x wr wA.heap.size x7 acc/\Q0a wA wr/\zcT q A h (R1-t) t acc=F3)
    (fun _ x _ _ _=>1001-(intOf x).toNat)
  case atStart=>exact⟨0,acc,rfl,by omega,j2.out,j1.out,jt.out⟩
  clear kk2 j2 j1 jt;obtain⟨t,acc,rfl,ht,hC,hfr,hrec⟩:=hrel;have kf:=hid (Q15 (B:=1001) t (by omega));have j2:=hid hC;have j1:=hid hfr;have jk:=hid (k8.out wr hfr);obtain⟨co,cc,hv⟩:=z0d hC;subst hv;by_cases hltt:t<R1
  ·have s3:(t:Int)<(R1:Int):=by omega
   rw[v2o _ _ _ _ _ _ hltt]at hrec;generalize hF4:zcI q A h t q.length 0 acc=F4 at hrec;have kb:Hid (F4.length<=10000000000):=hid (by have:=y3a q A h (R1-(t+1)) (t+1) F4;rw[hrec]at this;have:=ka.out;omega);have jc:=hid hrec;have ju:=hid hF4;clear hrec hF4 hC hfr;go_wp2_with (first
    |(go_at_call 34;refine csm jk.out ?_))
   go_loopw [7,10,11] (fun x7 x10 _ wr=>∃(i:Nat) (acc:List Cl),x10=.int .i64 i/\i<=q.length/\Q6x wr wA.heap.size x7 acc/\Q0a wA wr/\zcI q A h t (q.length-i) i acc=F4)
     (fun _ x _ _=>1001-(intOf x).toNat)
   case atStart=>exact⟨0,acc,rfl,by omega,j2.out,j1.out,ju.out⟩
   clear j2 j1 ju jk;obtain⟨i,acc,rfl,hi,hC,hfr,hrec⟩:=hrel;have ke:=hid (Q15 (B:=1001) i (by omega));have j2:=hid hC;have j1:=hid hfr;obtain⟨jj,-,-⟩:=CE.out wr hfr;obtain⟨co,cc,hv⟩:=z0d hC;subst hv;by_cases hlti:i<q.length
   ·have s4:(i:Int)<(q.length:Int):=by omega
    rw[v2m _ _ _ _ _ _ _ hlti]at hrec;generalize hF5:zcJ q A h t i (q.length-(i+1)) (i+1) acc=F5 at hrec;have kc:Hid (F5.length<=10000000000):=hid (by have:=y28 q A h t (q.length-(i+1)) (i+1) F5;rw[hrec]at this;have:=kb.out;omega);have jb:=hid hrec;have jv:=hid hF5;clear hrec hF5 hC hfr;go_wp2;go_loopw [7,11] (fun x7 x11 wr=>∃(j:Nat) (acc:List Cl),x11=.int .i64 j/\j<=q.length/\i<j/\Q6x wr wA.heap.size x7 acc/\Q0a wA wr/\zcJ q A h t i (q.length-j) j acc=F5)
      (fun _ x _=>1001-(intOf x).toNat)
    case atStart=>exact⟨i+1,acc,by go_num,by omega,by omega,j2.out,j1.out,jv.out⟩
    clear jj j2 j1 jv;obtain⟨j,acc,rfl,hj,hij,hC,hfr,hrec⟩:=hrel;have j9:=hid (Q15 (B:=1001) j (by omega));have j2:=hid hC;have j1:=hid hfr;obtain⟨jj,-,kk3⟩:=CE.out wr hfr;obtain⟨co,cc,hv⟩:=z0d hC;subst hv;by_cases hltj:j<q.length
    ·have s5:(j:Int)<(q.length:Int):=by omega
     rw[v2n _ _ _ _ _ _ _ _ hltj]at hrec;have d1:=js.out wr hfr i hlti;have d2:=js.out wr hfr j hltj;obtain⟨gi,x1,x1'⟩:=k4.out wr hfr i hlti;obtain⟨gj,x2,x2'⟩:=k4.out wr hfr j hltj;have y1:=x1' t hltt;have y2:=x2' t hltt;have s6:(i:Int)<(gs.length:Int):=by omega
     have s7:(j:Int)<(gs.length:Int):=by omega
     have jd:hitB q A h t i j=(((q[i].1==(h:Int)&&q[j].1==(h:Int))&&atM A i t)&&atM A j t):=by
      unfold hitB;rw[qD,qE hlti,qD,qE hltj];rfl
     rw[jd]at hrec;generalize q[i].1=hdi at d1 hrec;generalize q[j].1=hdj at d2 hrec;generalize atM A i t=at1 at y1 hrec;generalize atM A j t=at2 at y2 hrec;generalize hb1:(hdi==(h:Int))=b1 at hrec;generalize hb2:(hdj==(h:Int))=b2 at hrec;have j4:=hid hrec;clear hrec hC hfr x1' x2' jd;have j5:Hid ((((b1&&b2)&&at1)&&at2)=false->zcJ q A h t i (q.length-(j+1)) (j+1) acc=F5):=hid (fun e=>by have:=j4.out;rw[e,qAa (by simp)]at this;exact this);cases b1
     ·clear d2 x1 x2 y1 y2 hb2;go_wp2;go_roundw
      case rel=>exact⟨j+1,acc,by go_num,by omega,by omega,j2.out,j1.out,j5.out (by simp)⟩
      exact j9.out
     cases b2
     ·clear x1 x2 y1 y2;go_wp2;go_roundw
      case rel=>exact⟨j+1,acc,by go_num,by omega,by omega,j2.out,j1.out,j5.out (by simp)⟩
      exact j9.out
     cases at1
     ·clear x2 y2;go_wp2;go_roundw
      case rel=>exact⟨j+1,acc,by go_num,by omega,by omega,j2.out,j1.out,j5.out (by simp)⟩
      exact j9.out
     cases at2
     ·go_wp2;go_roundw
      case rel=>exact⟨j+1,acc,by go_num,by omega,by omega,j2.out,j1.out,j5.out (by simp)⟩
      exact j9.out
     have ji:=j4.out;rw[qAb (by simp)]at ji;have kn:acc.length+1<=10000000000:=by
      have:=y29 q A h t i (q.length-(j+1)) (j+1) (acc++[⟨h,t,i,j⟩]);rw[ji,qP,qAf]at this;have:=kc.out;omega
     have j6:=hid ji;have kq:wA.heap.size<=wr.heap.size:=j1.size;clear ji j5 j4;go_wp2_with (first
      |(at_builtin;refine z0g _ rfl _ _ 55 rfl wA.heap.size 94 j0 _ 4 32 Tryz.underlying55 hj0 jz0 jz1 jz2 rfl (by decide) (.slice co acc.length cc) acc.length (Q00 Cl.cells acc) rfl (j2.alloc _) ⟨wr.heap.size,0,none⟩ 1 1 [.int .i64 h,.int .i64 t,.int .i64 i,.int .i64 j] rfl rfl (z0l rfl) (by intro u hu;simp only[qBc,qCt,or_false]at hu;rcases hu with rfl|rfl|rfl|rfl<;>rfl) (by unfold maxLen;omega) (by omega) (by simp;omega) ?_))
     intro v' w6 hown2 hgrow hblk;have j8:Hid (Q6x w6 wA.heap.size v' (acc++[⟨h,t,i,j⟩])/\Q0a wA w6):=hid ⟨by unfold Q6x;rw[z0y,qP,qAf];exact hown2,Mod.grown (S:=fun _=>False) (j1.alloc _) hgrow (fun k hk hlt=>by have:=(j2.lt k hk).1;omega)⟩;clear hown2 hgrow hblk;go_wp2;go_roundw
     case rel=>exact⟨j+1,_,by go_num,by omega,by omega,j8.1,j8.2,j6.out⟩
     exact j9.out
    have s5:¬(j:Int)<(q.length:Int):=by omega
    rw[show q.length-j=0 by omega]at hrec;have j6:=hid hrec;clear hrec hC hfr;go_wp2;go_roundw
    case rel=>exact⟨i+1,acc,by go_num,by omega,j2.out,j1.out,by have:=j6.out;unfold zcJ at this;rw[this];exact jb.out⟩
    exact ke.out
   have s4:¬(i:Int)<(q.length:Int):=by omega
   rw[show q.length-i=0 by omega]at hrec;have j6:=hid hrec;clear hrec hC hfr;go_wp2;go_roundw
   case rel=>exact⟨t+1,acc,by go_num,by omega,j2.out,j1.out,by have:=j6.out;unfold zcI at this;rw[this];exact jc.out⟩
   exact kf.out
  have s3:¬(t:Int)<(R1:Int):=by omega
  rw[show R1-t=0 by omega]at hrec;have j6:=hid hrec;clear hrec hC hfr;go_wp2_with (first
   |(go_at_call 34;refine csm jk.out ?_))
  go_roundw
  case rel=>exact⟨h+1,acc,by go_num,by omega,j2.out,j1.out,by have:=j6.out;unfold zcT at this;rw[this];exact ja.out⟩
  exact kd.out
 have s2:¬(h:Int)<(H:Int):=by omega
 rw[show H-h=0 by omega]at hrec;have j6:=hid hrec;clear hrec hC hfr;go_wp2;go_ret;have e:=j6.out;unfold zcH at e;refine⟨_,rfl,?_,jw.trans j1.out⟩;rw[← e];exact z0f j2.out jw.size
theorem y9n{s:ByteArray}(hc:(Q0t s).1=0):(Q26 s).length<=10000000000:=by
 obtain⟨hT,hR⟩:=x45 (z31 hc);have h8:=(x8i (z31 hc)).qk.h8;have hz:((Q0q (Q0c s).1).zip (Q0p (Q7p s) (Q0q (Q0c s).1))).length<=1000:=by
  rw[List.length_zip];have:=(y5e hc).2.2;omega
 have:=y59 _ hz (Q0f (Q0c s).1).length (Q0h (Q0c s).1).length (by omega) ((Q0h (Q0c s).1).length+1) 0;unfold Q26 Q55;omega
def ldCz(v:Value):Sem Value:=Instr.loadAt 94 v
theorem x23(v:Value):Instr.loadAt 94 v=ldCz v:=rfl
attribute [local go_sem ↓] x23
theorem x5u{s:ByteArray}(h:800<s.size):(Q0t s).1=1:=by unfold Q0t;rw[qAb h]
theorem y9w{R:Int}{l:List Int}{i:Nat}(hi:i<l.length)(h:Q0w R (l.take i)=true)(h0:0<=l[i])(h1:l[i]<R):Q0w R (l.take (i+1))=true:=by
 unfold Q0w at h ⊢;rw[Q6g hi,qEk,h];simp[h0,h1]
theorem x22{R:Int}{l:List Int}{i:Nat}(hi:i<l.length)(h:l[i]<0∨R<=l[i]):Q0w R l=false:=by
 cases hk:Q0w R l with
 |false=>rfl
 |true =>
  unfold Q0w at hk;rw[qAn]at hk;have:=hk l[i] (qG hi);simp at this;omega
theorem z99(s:ByteArray)(kinds:List Int)(vk:Value)(w:World)(hs:s.size<=maxLen)(hk:Q0z w vk kinds)(hl:800<s.size∨60<kinds.length)(hm:kinds.length<=maxLen) :
  Calls Tryz.prog 5 #[.string s,vk] w fun e w'=>Q2c s (Q65 1) w e w':=by
 obtain⟨ka,kc,rfl,hkc,_⟩:=hk;unfold maxLen at hm hs;by_cases h8:800<s.size
 ·have h1:(800:Int)<(s.size:Int):=by omega
  clear hl;go_enter Tryz.func5,Tryz.ntmps5
  go_wp2;exact bodyPost_ret (z0m rfl _ _ w.heap.size 25 (Q3n (.slice none 0 0) (.slice none 0 0) 0) (0,0) _ rfl (z0a _ _) Tryz.underlying25 rfl Q2i) rfl (Q2c.bad ((mRf _ w).alloc _))
 have h1:¬(800:Int)<(s.size:Int):=by omega
 have h2:(60:Int)<(kinds.length:Int):=by omega
 clear hl;go_enter Tryz.func5,Tryz.ntmps5
 go_wp2;exact bodyPost_ret (z0m rfl _ _ w.heap.size 25 (Q3n (.slice none 0 0) (.slice none 0 0) 0) (0,0) _ rfl (z0a _ _) Tryz.underlying25 rfl Q2i) rfl (Q2c.bad ((mRf _ w).alloc _))
theorem x0z(s:ByteArray)(kinds:List Int)(vk:Value)(w:World)(hs:s.size<=800)(hk:Q0z w vk kinds)(hl:kinds.length<=60)(hc:(Q0t s).1≠0) :
  Calls Tryz.prog 5 #[.string s,vk] w fun e w'=>Q2c s (Q65 (Q0t s).1) w e w':=by
 obtain⟨ka,kc,rfl,hkc,_⟩:=hk;have RD:=hid (fun w=>y5y s w (by unfold maxLen;omega));unfold Q9j at RD;have c0:((Q0t s).1 != 0)=true:=by simpa using hc
 have j3:¬(60:Int)<(kinds.length:Int):=by omega
 have j4:¬(800:Int)<(s.size:Int):=by omega
 have j0:Hid (∀w,Calls Tryz.prog 15 #[.string s] w fun e w'=>∃(p:Value) (pl:Int),e=.returned (.tuple #[p,.int .i64 (Q0t s).1,.int .i64 pl])/\Q0a w w'):=hid (fun w=>(RD.out w).mono (by
  rintro e w'⟨p,pl,h1,h2,_⟩;exact⟨p,pl,h1,h2⟩))
 generalize(Q0t s).1=E at j0 c0;clear hc RD;go_enter Tryz.func5,Tryz.ntmps5
 go_wp2_with (first
  |(refine wpList_store_row rfl 25 _ _ rfl w.heap.size (Q3n (.slice none 0 0) (.slice none 0 0) 0) rfl rfl _ _ j1.out Q2i rfl (z1z _ _ _ rfl rfl) ?_)
  |(go_at_call 15;refine(j0.out _).mono ?_;rintro e w1⟨p,pl,rfl,hf1⟩;have j2:=hid hf1;have j1:=hid (hf1.at (z0a w _) (fun x=>x));clear hf1))
 refine bodyPost_ret (z0m rfl _ _ w.heap.size 25 (Q3n (.slice none 0 0) (.slice none 0 0) 0) (0,0) _ rfl (setRow_heap _ _ _ _ _ _ j1.out) Tryz.underlying25 rfl Q2i) rfl (Q2c.bad ?_);exact(Mod.trans ((mRf _ w).alloc _) j2.out).setRow (fun h=>absurd h (qBk _)) _
theorem y7f(s:ByteArray)(kinds:List Int)(vk:Value)(w:World)(hs:s.size<=800)(hk:Q0z w vk kinds)(hl:kinds.length<=60)(hc:(Q0t s).1=0) :
  Calls Tryz.prog 5 #[.string s,vk] w fun e w'=>Q2c s (Q2f s kinds) w e w':=by
 have jb:=z31 hc;have RD:=hid (fun w=>v01 s w (by unfold maxLen;omega) jb);have jh:=x5v jb;have j8:=y9n hc;have j2:=x8i jb;have CL:=hid (fun(W:World) (b:Nat) (hS:Q3x W b (Q0f (Q0c s).1).length (Q0h (Q0c s).1).length (Q0e (Q0f (Q0c s).1).length (Q0q (Q0c s).1)))=>y5q W b _ _ _ j2 hS (by rw[jh];exact j8));rw[jh]at CL;have HK:=hid hk;obtain⟨ka,kc,hvk,hkc,hcell⟩:=hk;have ZP:Hid (Q26 s=[]->Q0w (nR s) kinds=true->∀(W:World) (b:Nat),Q0a w W->Q3x W b (Q0f (Q0c s).1).length (Q0h (Q0c s).1).length (Q0e (Q0f (Q0c s).1).length (Q0q (Q0c s).1))->Calls Tryz.prog 17 #[.pointer (some ⟨b,0,none⟩),.slice ka kinds.length kc] W fun e w'=>Q2c s (Q70 s kinds) W e w'):=hid (fun hcl j7 W b hW hS=>x05 W b _ _ _ _ (x44 hc hcl) hS j2.qk ka kc kinds (by rw[← hvk];exact HK.fresh hW) hl j7);have js:Q2f s kinds=if Q0w (nR s) kinds=false then Q65 7 else if Q26 s≠[] then Q65 8 else Q70 s kinds:=by
  unfold Q2f;rw[qAa (by omega),qAa (by simp[hc])]
 rw[js];generalize hRES:(if Q0w (nR s) kinds=false then Q65 7 else if Q26 s≠[] then Q65 8 else Q70 s kinds)=RES;have j1:=hid hRES;unfold ReadN at RD;subst hvk;have k4:nR s<=8:=j2.qk.r8;have e1:((Q0f (Q0c s).1).length:Nat)=nR s:=rfl;rw[e1]at RD CL ZP;have ju:=hid hcell;have jy:¬(60:Int)<(kinds.length:Int):=by omega
 have jz:¬(800:Int)<(s.size:Int):=by omega
 have k2:decide ((60:Int)<(kinds.length:Int))=false:=qBh jy;have k3:decide ((800:Int)<(s.size:Int))=false:=qBh jz;generalize nR s=R at *;clear js hc jb jh j8 j2 e1 hcell HK hRES;go_enter Tryz.func5,Tryz.ntmps5
 go_upto_region 6 with(first
  |(go_at_call 15;refine(RD.out _).mono ?_;rintro e w1⟨b,pl,rfl,hS1,hf1⟩;have jx:=hid hS1;have ja:=hid (Mod.trans ((mRf _ w).alloc _) hf1);have ji:=hid (hf1.at (z0a w _) (fun x=>x));clear hS1 hf1))
 go_wp2;go_loopw [9] (fun x9 wr=>∃i:Nat,x9=.int .i64 i/\i<=kinds.length/\Q0w R (kinds.take i)=true/\Q0a w1 wr)
   (fun x _=>1001-(intOf x).toNat)
 case atStart=>exact⟨0,rfl,by omega,by simp[Q0w],mRf _ _⟩
 obtain⟨i,rfl,hi,hok,hfr⟩:=hrel;have jw:=hid (Q15 (B:=1001) i (by omega));have HF:=hid hfr;have jn:=hid hok;have jj:=jx.fresh hfr;obtain⟨a0,c0,a1,c1,a2,c2,v3,v4,sv,hN⟩:=id jj;have z0:=hN.k0;have jo:=hid jj;clear hok hN jj;by_cases hlt:i<kinds.length
 ·have s1:(i:Int)<(kinds.length:Int):=by omega
  obtain⟨g,o,rfl,y0⟩:=ju.out i hlt;have y1:=Q0i (ja.trans hfr) y0;have jr:=y9w (R:=R) hlt jn.out;have jq:=x22 (R:=R) hlt;have jl:=hid jr;have jd:=hid jq;generalize kinds[i]=c at y1 y0 jl jd;clear jr jq y0 hfr;by_cases hneg:c<0
  ·have d1:decide (c<0)=true:=qBl hneg;have HB:=hid (jd.out (.inl hneg));have j4:=hid (HF.at ji.out (fun x=>x));go_wp2_with fail
   go_quiet (fail);have j0:=hid ((Q0r wr nq).at j4.out (fun x=>x));have j6:=hid ((ja.trans HF.out).trans (Q0r wr nq));generalize wr.drewN nq=W at j0 j6 ⊢;go_wp2_with (first
    |(refine wpList_store_row rfl 25 _ _ rfl w.heap.size (Q3n (.slice none 0 0) (.slice none 0 0) 0) rfl rfl _ _ j0.out Q2i rfl (z1z _ _ _ rfl rfl) ?_))
   refine bodyPost_ret (z0m rfl _ _ w.heap.size 25 (Q3n (.slice none 0 0) (.slice none 0 0) 0) (0,0) _ rfl (setRow_heap _ _ _ _ _ _ j0.out) Tryz.underlying25 rfl Q2i) rfl ?_;rw[show RES=Q65 7 by rw[← j1.out,HB.out,qAb rfl]];exact Q2c.bad (j6.setRow (fun h=>absurd h (qBk _)) _)
  have d1:decide (c<0)=false:=qBh hneg;by_cases hge:(R:Int)<=c
  ·have HB:=hid (jd.out (.inr hge));have j4:=hid (HF.at ji.out (fun x=>x));go_wp2_with fail
   go_quiet (fail);have j0:=hid ((Q0r wr nq).at j4.out (fun x=>x));have j6:=hid ((ja.trans HF.out).trans (Q0r wr nq));generalize wr.drewN nq=W at j0 j6 ⊢;go_wp2_with (first
    |(refine wpList_store_row rfl 25 _ _ rfl w.heap.size (Q3n (.slice none 0 0) (.slice none 0 0) 0) rfl rfl _ _ j0.out Q2i rfl (z1z _ _ _ rfl rfl) ?_))
   refine bodyPost_ret (z0m rfl _ _ w.heap.size 25 (Q3n (.slice none 0 0) (.slice none 0 0) 0) (0,0) _ rfl (setRow_heap _ _ _ _ _ _ j0.out) Tryz.underlying25 rfl Q2i) rfl ?_;rw[show RES=Q65 7 by rw[← j1.out,HB.out,qAb rfl]];exact Q2c.bad (j6.setRow (fun h=>absurd h (qBk _)) _)
  have jv:=hid (jl.out (by omega) (by omega));go_wp2_with fail
  go_quiet (fail);go_wp2;go_roundw
  case rel=>exact⟨i+1,by go_num,by omega,jv.out,HF.trans (Q0r _ _)⟩
  exact jw.out
 have s1:¬(i:Int)<(kinds.length:Int):=by omega
 have j7:Q0w R kinds=true:=by
  have:=jn.out;rw[qCh (by omega)]at this;exact this
 have j3:=j1.out;rw[j7,qAa (by simp)]at j3;have jf:=hid (fun hcl=>ZP.out hcl j7);have j9:=hid (CL.out wr b jo.out);have j4:=hid (hfr.at ji.out (fun x=>x));have jc:=hid (ja.trans hfr);clear j7 ZP CL hfr j1;by_cases hcl:Q26 s=[]
 ·rw[qAa (by simp[hcl])]at j3;have jg:=hid (jf.out hcl);rw[hcl]at j9;generalize Q70 s kinds=GS at jg j3;have je:=hid j3;unfold Q2c at jg;clear hcl jf j3;go_wp2_with (first
   |(refine wpList_store_row rfl 25 _ _ rfl w.heap.size (Q3n (.slice na (Q17 (tabF s) GS.st).length nc) (.slice wa GS.wanted.length wc) GS.place) rfl rfl _ _ j0.out Q2i rfl (z1z _ _ _ rfl rfl) ?_)
   |(go_at_call 16;refine(j9.out).mono ?_;rintro e w2⟨v,rfl,hO,hf2⟩;obtain⟨ao,cp,hv⟩:=z0d hO;subst hv;have j5:=hid hf2;clear hO hf2)
   |(go_at_call 17;refine(jg.out _ b (jc.trans j5.out) (jo.fresh j5.out)).mono ?_;rintro e w4⟨vn,vw,rfl,hf4,hn4,hw4⟩;obtain⟨na,nc,hvn⟩:=z0d hn4;subst hvn;obtain⟨wa,wc,hvw⟩:=z0d hw4;subst hvw;have jm:=hid hn4;have jp:=hid hw4;have jk:=hid (j5.trans hf4);have j0:=hid (jk.at j4.out (fun x=>x));have jt:w.heap.size<w2.heap.size:=z0j (j5.at j4.out (fun x=>x));clear hn4 hw4 hf4))
  refine bodyPost_ret (z0m rfl _ _ w.heap.size 25 (Q3n (.slice na (Q17 (tabF s) GS.st).length nc) (.slice wa GS.wanted.length wc) GS.place) (0,0) _ rfl (setRow_heap _ _ _ _ _ _ j0.out) Tryz.underlying25 rfl Q2i) rfl ?_;rw[← je.out];refine⟨_,_,rfl,(jc.trans jk.out).setRow (fun h=>absurd h (qBk _)) _,?_,?_⟩
  ·refine z0f (z0c jm.out (fun g hg=>?_)) (qEa jt);have:=(jm.lt g hg).1;exact setRow_other _ _ _ _ (by omega)
  refine z0f (z0c jp.out (fun g hg=>?_)) (qEa jt);have:=(jp.lt g hg).1;exact setRow_other _ _ _ _ (by omega)
 rw[qAb hcl]at j3;have je:=hid j3;have k1:(0:Int)<((Q26 s).length:Int):=by have:=List.length_pos_iff.2 hcl;omega
 clear hcl jf j3;generalize Q26 s=CF at j9 k1;go_wp2_with (first
  |(refine wpList_store_row rfl 25 _ _ rfl w.heap.size (Q3n (.slice none 0 0) (.slice none 0 0) 0) rfl rfl _ _ j0.out Q2i rfl (z1z _ _ _ rfl rfl) ?_)
  |(go_at_call 16;refine(j9.out).mono ?_;rintro e w2⟨v,rfl,hO,hf2⟩;obtain⟨ao,cp,hv⟩:=z0d hO;subst hv;have j5:=hid hf2;have j0:=hid (hf2.at j4.out (fun x=>x));clear hO hf2))
 refine bodyPost_ret (z0m rfl _ _ w.heap.size 25 (Q3n (.slice none 0 0) (.slice none 0 0) 0) (0,0) _ rfl (setRow_heap _ _ _ _ _ _ j0.out) Tryz.underlying25 rfl Q2i) rfl ?_;rw[← je.out];refine Q2c.bad ?_;exact(jc.trans j5.out).setRow (fun h=>absurd h (qBk _)) _
theorem x0y(s:ByteArray)(kinds:List Int)(vk:Value)(w:World)(hs:s.size<=maxLen)(hk:Q0z w vk kinds)(hm:kinds.length<=maxLen) :
  Calls Tryz.prog 5 #[.string s,vk] w fun e w'=>Q2c s (Q2f s kinds) w e w':=by
 by_cases hl:60<kinds.length
 ·have e:Q2f s kinds=Q65 1:=by unfold Q2f;rw[qAb hl]
  rw[e];exact z99 s kinds vk w hs hk (.inr hl) hm
 by_cases h8:800<s.size
 ·have e:Q2f s kinds=Q65 1:=by unfold Q2f;rw[qAa hl,x5u h8,qAb (by decide)]
  rw[e];exact z99 s kinds vk w hs hk (.inl h8) hm
 by_cases hc:(Q0t s).1=0
 ·exact y7f s kinds vk w (by omega) hk (by omega) hc
 have e:Q2f s kinds=Q65 (Q0t s).1:=by unfold Q2f;rw[qAa hl,qAb hc]
 rw[e];exact x0z s kinds vk w (by omega) hk (by omega) hc
section
variable {P:Program}(w:World)
theorem x6k{l news:List Value}{x:Value}{N o:Nat}(hfit:N+news.length<=l.length)(hx:∀u∈news,u=x)(ho:l[o]? = some x):(l.take N++news++l.drop (N+news.length))[o]? = some x:=by
 have j0:o<l.length:=by
  rcases qBn o l.length with h|h
  ·exact h
  rw[qN h]at ho;cases ho
 have ht:(l.take N).length=N:=by rw[qBo];omega
 by_cases h1:o<N
 ·rw[qAh,qAe (by omega),List.getElem?_take,qAb h1];exact ho
 by_cases h2:o<N+news.length
 ·rw[qAe (by rw[qP];omega),qAg (by omega),ht];have hm:o-N<news.length:=by omega
  rw[qE hm,hx _ (qG hm)]
 rw[qAg (by rw[qP];omega),qP,ht,qCq];rw[show N+news.length+(o-(N+news.length))=o by omega];exact ho
theorem z3n(base:Nat)(t ty e:TypeId)(i:TypeInfo)(z:Value)(size bytes:Nat)(ht:P.underlying t=some (.slice e))(hi:P.info? e=some i)(hz:i.zero=some z)
  (hsize:i.size=size) (hby:i.bytes=bytes) (hzs:z.cells.size=size) (hsz:0<size)
  (v:Value) (n:Nat) (xs:List Value) (hown:w.ownsRow base e size v n xs)
  (a:Addr) (m c:Nat) (news:List Value) (hl:news.length=m*size) (hnews:∀j u,news[j]? = some u->w.cell? (a.add j)=some u) (h1:∀u∈news,u.oneCell'=true)
  (h63:n+m<=maxLen) (hbytes:(n+m)*bytes<=140737488355328) (hbase:base<=w.heap.size) (x:Value) (hx:∀u∈news,u=x) :
  ∃v' w',(Builtin.append_ #[t,t] ty #[v,.slice (some a) m c]).run P w=.ok v' w'/\w'.ownsRow base e size v' (n+m) (xs++news)/\w.grownBy w' v.ownBlock /\
   (∀k,v'.ownBlock=some k->v.ownBlock=some k∨w.heap.size<=k)/\(∀b o,w.cell? ⟨b,o,none⟩=some x->w'.cell? ⟨b,o,none⟩=some x)/\w'.ownsRow base e size v n xs:=by
 have old:∀w':World,w.grownBy w' none->∀b o,w.cell? ⟨b,o,none⟩=some x->w'.cell? ⟨b,o,none⟩=some x:=fun w' hg b o hc=>by
  have hb:b<w.heap.size:=by
   rcases qBn b w.heap.size with h|h
   ·exact h
   simp[World.cell?,Array.getElem?_eq_none h]at hc
  rw[World.cell?_of_block (hg.block b hb (by simp))];exact hc
 rcases hown.2 with⟨rfl,rfl⟩|⟨g,cap,cur,rfl,hbg,hg,hnc,hcm,hcs,htake⟩
 ·have j4:xs=[]:=qBs (by simpa using hown.1);subst j4;obtain⟨v',w',hr,h2,h3,_⟩:=run_append_own (P:=P) w w.heap.size t ty e i z size bytes ht hi hz hsize hby hzs hsz _ 0 [] (World.ownsRow_nil w _ e size) a m c news hl hnews h1 h63 hbytes (qR _);exact⟨v',w',hr,z0f h2 hbase,h3,fun k hk=>.inr (h2.lt k hk).1,old w' h3,World.ownsRow_nil _ _ _ _⟩
 by_cases hroom:n+m<=cap
 ·obtain⟨v',w',hr,h2,h3,_⟩:=run_append_own (P:=P) w base t ty e i z size bytes ht hi hz hsize hby hzs hsz _ n xs hown a m c news hl hnews h1 h63 hbytes hbase;subst hsize;have j0:n*i.size+news.length<=cur.size:=by rw[hl,hcs,← qDt];exact qBv _ hroom
  have j2:=run_append_room (P:=P) w t ty e i ht hi g n cap cur hg a m c news hl hnews h1 hroom j0;rw[hr]at j2;injection j2 with e1 e2;have hh:(w.setRow g (cur.toList.take (n*i.size)++news++cur.toList.drop (n*i.size+news.length)).toArray).heap[g]? = some (.cells (cur.toList.take (n*i.size)++news++cur.toList.drop (n*i.size+news.length)).toArray e (0,0)):=setRow_heap _ _ _ _ _ _ hg;rw[← e2]at hh;refine⟨v',w',hr,h2,h3,fun k hk=>by rw[e1]at hk;exact .inl hk,fun b o hc=>?_,?_⟩
  ·by_cases hb:b=g
   ·subst hb;have q:cur[o]? = some x:=by rw[← Q0b hg o];exact hc
    rw[Q0b hh o];rw[qCb];exact x6k (by simpa using j0) hx (by simpa using q)
   have j3:b<w.heap.size:=by
    rcases qBn b w.heap.size with h|h
    ·exact h
    simp[World.cell?,Array.getElem?_eq_none h]at hc
   rw[World.cell?_of_block (h3.block b j3 (by simp[Value.ownBlock];exact hb))];exact hc
  refine⟨hown.1,.inr ⟨g,cap,_,rfl,hbg,hh,hnc,hcm,?_,?_⟩⟩
  ·simp only[List.size_toArray,qP,qBo,qBx,qDr];omega
  rw[qAh,List.take_append_of_le_length (by rw[qBo,qDr];omega),qEf,Nat.min_self];exact htake
 have j1:∀j u,xs[j]? = some u->w.cell? ((⟨g,0,none⟩:Addr).add j)=some u:=hown.cells (g:=g) rfl;obtain⟨v',w',hr,h2,h3⟩:=run_append_arg_grows (P:=P) w t ty e i z size bytes ht hi hz hsize hby hzs hsz ⟨g,0,none⟩ n cap xs hown.1 j1 a m c news hl hnews (by omega) h63 hbytes;exact⟨v',w',hr,z0f h2 hbase,z7n h3 _,fun k hk=>.inr (h2.lt k hk).1,old w' h3,z0c hown (fun k hk=>h3.block k (hown.lt k hk).2 (by simp))⟩
theorem z2w{ops:Array Oper}{rest:List Oper}{o:Oper}{a:Act}{Q:Exit->Act->World->Prop}(hgd:o.guard=none)(s x:Operand)(t:TypeId)
  (ho:o.op=.call {callee:=.builtin .append,args:=#[s,x],argTypes:=#[t,t]}) (v xv:Value) (hs:a.eval s=v) (hx:a.eval x=xv) (v':Value) (w':World)
  (hr:(Builtin.append_ #[t,t] o.type #[v,xv]).run P w=.ok v' w') (h:wpList P ops Q rest (a.put o.dst v') w'):wpList P ops Q (o::rest) a w :=
 wpList_plain hgd fun _ hK=>by
  unfold Oper.wp execOp;simp only[ho,resolve,invoke,builtin,Sem.run_bind,Sem.run_pure,Result.andThen_ok,List.map_toArray,qCl,List.map_nil,hs,hx,hr];exact hK _ _ h
end
theorem y48{P:Program}{fn:Func}{p:Tmp}{ty:TypeId}(h:fn.results=#[.cell p ty])(tmps:Array Value)(w:World)(g:Nat)(t:TypeId)(cs:Array Value)(fr:Nat × Nat)(d:TypeDesc)
  (hp:tmps.getD p undef=.pointer (some ⟨g,0,none⟩)) (hg:w.heap[g]? = some (.cells cs t fr))
  (hu:P.underlying ty=some d) (hd:(match d with | .struct _ | .array _ _=>true|_=>false)=true) (hi:(P.info? ty).map (·.size)=some cs.size) :
  (results fn tmps).run P w=.ok (.agg cs) w:=by
 have j0:tmps[p]?.getD undef=.pointer (some ⟨g,0,none⟩):=by simpa using hp
 simp[results,h,j0,asAddr,run_loadVar_row w g t ty cs fr d hg hu hd hi]
abbrev Q3b(w:World)(v:Value)(n:Nat)(mk:Int):Prop:=Q0z w v (List.replicate n mk)
theorem Q3b.keep{w w':World}{v:Value}{n:Nat}{mk:Int}(h:Q3b w v n mk)(hk:∀b o,w.cell? ⟨b,o,none⟩=some (.int .i64 mk)->w'.cell? ⟨b,o,none⟩=some (.int .i64 mk)):Q3b w' v n mk:=by
 obtain⟨ao,cap,h1,h2,h3⟩:=h;refine⟨ao,cap,h1,h2,fun j hj=>?_⟩;obtain⟨g,o,h4,h5⟩:=h3 j hj;rw[List.getElem_replicate]at h5 ⊢;exact⟨g,o,h4,hk _ _ h5⟩
theorem Q3b.of{w:World}{base:Nat}{v:Value}{n:Nat}{mk:Int}(h:w.ownsRow base 3 1 v n (Q5w (List.replicate n mk))):Q3b w v n mk:=by
 have:IntOwn w base v (List.replicate n mk):=by unfold IntOwn;rw[List.length_replicate];exact h
 exact IntOwn.at' this
theorem Q0z.kept{w w':World}{v:Value}{l:List Int}(h:Q0z w v l)(hk:∀k,v.ownBlock=some k->k<w.heap.size->w'.heap[k]? = w.heap[k]?):Q0z w' v l:=by
 obtain⟨ao,cap,h1,h2,h3⟩:=h;refine⟨ao,cap,h1,h2,fun j hj=>?_⟩;obtain⟨g,o,h4,h5⟩:=h3 j hj;refine⟨g,o,h4,?_⟩;have hb:g<w.heap.size:=by
  rcases qBn g w.heap.size with h|h
  ·exact h
  simp[World.cell?,Array.getElem?_eq_none h]at h5
 rw[World.cell?_of_block (hk g (by rw[h1,h4];rfl) hb)];exact h5
theorem x3h{l:List Int}{i:Nat}{mk:Int}(hi:i<l.length):(List.replicate i mk++l.drop i).set i mk=List.replicate (i+1) mk++l.drop (i+1):=by
 rw[qCy _ _ (by simp),List.length_replicate,qCu,qC hi,qEn,List.replicate_succ',qAh];rfl
theorem y06(w:World)(va vb:Value)(l:List Int)(ha:Q0z w va l)(hb:Q0z w vb l)(hl:l.length<=1000000000000000) :
  Calls Tryz.prog 7 #[va,vb] w fun e w'=>e=.returned (.bool true)/\∃m,w'=w.drewN m:=by
 obtain⟨aa,ca,rfl,hca,cella⟩:=ha;obtain⟨ab,cb,rfl,hcb,cellb⟩:=hb;have CA:=hid cella;have CB:=hid cellb;clear cella cellb;go_enter Tryz.func7,Tryz.ntmps7
 go_wp2;go_loopw [5] (fun x5 wr=>∃(i m:Nat),x5=.int .i64 i/\wr=w.drewN m/\i<=l.length) (fun x _=>1000000000000001-(intOf x).toNat)
 case atStart=>exact⟨0,0,rfl,rfl,by omega⟩
 obtain⟨i,m,rfl,rfl,hi⟩:=hrel;have j0:=hid (Q15 (B:=1000000000000001) i (by omega));by_cases hlt:i<l.length
 ·have k1:(i:Int)<(l.length:Int):=by omega
  obtain⟨g,o,rfl,hc1⟩:=CA.out i hlt;obtain⟨g2,o2,rfl,hc2⟩:=CB.out i hlt;have u1:=Q0i (Q0r w m) hc1;have u2:=Q0i (Q0r w m) hc2;generalize l[i]=c at u1 u2;generalize hW:w.drewN m=wr at u1 u2 ⊢;have HW:=hid hW;clear hW hc1 hc2;go_wp2;go_quiet (fail);go_wp2;go_roundw
  case rel=>exact⟨i+1,m+nq,by go_num,by rw[← HW.out,World.drewN_drewN],by omega⟩
  exact j0.out
 have k1:¬(i:Int)<(l.length:Int):=by omega
 go_wp2;go_ret;exact⟨rfl,m,rfl⟩
theorem x2c(w:World)(v:Value)(n:Nat)(mk:Int)(h:Q3b w v n mk)(hn:n<=1000) :
  Calls Tryz.prog 18 #[v,.int .i64 mk] w fun e w'=>e=.returned (.bool true)/\w'=w:=by
 obtain⟨ao,cap,rfl,hc,cell⟩:=h;have CC:=hid cell;rw[List.length_replicate]at hc ⊢;have CD:Hid (∀j,j<n->∃g o,ao=some ⟨g,o,none⟩/\w.cell? ⟨g,o+j,none⟩=some (.int .i64 mk)):=hid (fun j hj=>by
  obtain⟨g,o,h1,h2⟩:=CC.out j (by rw[List.length_replicate];exact hj);rw[List.getElem_replicate]at h2;exact⟨g,o,h1,h2⟩)
 clear cell CC;go_enter Tryz.func18,Tryz.ntmps18
 go_wp2;go_loopw [5] (fun x5 wr=>∃(i:Nat),x5=.int .i64 i/\wr=w/\i<=n) (fun x _=>1001-(intOf x).toNat)
 case atStart=>exact⟨0,rfl,rfl,by omega⟩
 obtain⟨i,rfl,rfl,hi⟩:=hrel;have j0:=hid (Q15 (B:=1001) i (by omega));by_cases hlt:i<n
 ·have k1:(i:Int)<(n:Int):=by omega
  obtain⟨g,o,rfl,hc1⟩:=CD.out i hlt;go_wp2;go_roundw
  case rel=>exact⟨i+1,by go_num,by first|rfl|trivial,by omega⟩
  exact j0.out
 have k1:¬(i:Int)<(n:Int):=by omega
 go_wp2;go_ret;exact⟨rfl,rfl⟩
end Go.Proofs.YtcpceafmlgaodaaGreat
