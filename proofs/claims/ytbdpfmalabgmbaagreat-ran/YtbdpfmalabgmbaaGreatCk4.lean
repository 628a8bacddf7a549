import Derived.Test.YtbdpfmalabgmbaaGreatCk3
namespace Go.Proofs.YtbdpfmalabgmbaaGreat
open Go.RowKit
set_option maxRecDepth 99999
set_option maxHeartbeats 0
set_option linter.all false
def Q7c(lns:List Ln)(syms:List Wd):Nat->Nat->Option Int
 |0,_=>none
 |f+1,j=>match syms[j]? with|some d=>if W0h lns d then Q7c lns syms f (j+1) else some d.place|none=>none
def Q74(lns:List Ln)(syms:List Wd):Option Int:=Q7c lns syms (syms.length+1) 0
def Q65(lns:List Ln):Nat->Nat->Int
 |0,_=>-1
 |f+1,i=>match lns[i]? with
  |some x=>if Q0x x&&Q3b lns i then x.front.place else(match Q74 lns x.syms with|some p=>p|none=>Q65 lns f (i+1))
  |none=>-1
def Q2b(lns:List Ln):Int:=Q65 lns (lns.length+1) 0
theorem Q30.range{w:World}{g n cap:Nat}{ds:List Wd}(h:Q30 w (.slice (some ⟨g,0,none⟩) n cap) ds)(i:Nat)(hi:i<ds.length):w.rangeAt g (i*9) (ds[i]).cells:=Q18.range h i hi
def SB(x:LV):Prop:=x.ln.syms.length<=1000
theorem z3l(w:World)(v:Value)(xs:List LV)(hL:Q0s w v xs)(hn:xs.length<=1000)(hfb:∀x∈xs,FB x)(hsb:∀x∈xs,SB x) :
  Calls Tryz.prog 25 #[v] w fun e w'=>e=.returned (.int .i64 (Q2b (xs.map LV.ln)))/\Q0a w w':=by
 obtain⟨ao,cap,hv⟩:=z0c hL.own;subst hv;have HL:=hid hL;have jt:=hid hfb;have jx:=hid hsb;generalize hR:Q2b (xs.map LV.ln)=R;have HR:Hid (Q65 (xs.map LV.ln) ((xs.map LV.ln).length+1) 0=R):=hR;clear hL hfb hR hsb;go_enter Tryz.func25,Tryz.ntmps25
 go_wp2;go_loopw [9] (fun x9 wr=>∃(f i:Nat),x9=.int .i64 i/\Q65 (xs.map LV.ln) f i=R/\xs.length+1<=f+i/\i<=xs.length/\Q0a w wr)
   (fun x _=>1001-(intOf x).toNat)
 case atStart=>exact⟨_,0,rfl,HR.out,by simp,by omega,mRf _ _⟩
 obtain⟨f,i,rfl,hR,k4,hi,ja⟩:=hrel;obtain⟨f,rfl⟩:∃g,f=g+1:=⟨f-1,by omega⟩;unfold Q65 at hR;have jv:=hid (Q19 (B:=1001) i (by omega));by_cases ji:i<xs.length
 ·have jj:i<(xs.map LV.ln).length:=by simpa using ji
  rw[qE jj]at hR;simp only[qCd]at hR;obtain⟨g,jy,j7⟩:=Joins.ownsRow_form HL.own (by omega);rw[qI]at j7;obtain⟨rfl,_,rfl⟩:=j7;have j9:=hid (HL.fresh ja);have RG:=hid (j9.row.range i ji);have hA:=j9.each xs[i] (by simp);have HA:=hid hA;have j0:=hid hA.front;have ju:=hid (jt.out xs[i] (by simp));have hsb:=jx.out xs[i] (by simp);obtain⟨so,sc,jk⟩:=z0c hA.syms.own;have jm:=hid (fun w hL=>y3v w (.slice (some ⟨g,0,none⟩) xs.length cap) xs i hL (by omega) ji);have k2:=LV.at13 hA.front;have k0:=LV.at0 xs[i];rw[jk]at k2;have jo:=hid jk;generalize hX:xs[i]=x at *;clear hA hX jk;unfold SB at hsb;have jz:Hid (Q0x x.ln=!Q16 x.ln.front):=rfl;have RU:=hid (fun w=>z2l x w j0.out ju.out);rw[← jz.out]at RU;cases hra:(Q0x x.ln&&Q3b (xs.map LV.ln) i)
  ·rw[hra]at hR;simp only[qF,qAz]at hR;have j3:=hid hR;clear hR;have j5:(Q0x x.ln=false)∨(Q0x x.ln=true/\Q3b (xs.map LV.ln) i=false):=by
    cases h:Q0x x.ln
    ·exact .inl rfl
    rw[h]at hra;simpa using hra
   clear hra;rcases j5 with hr|⟨hr,jg⟩;all_goals
    rw[hr]at RU;go_wp2_with (first
     |(go_at_call 30;refine(RU.out _).mono ?_;rintro e w1⟨rfl,hf⟩;have j4:=hid ((j9.fresh ((mRf _ wr).alloc (.cells x.cells.toArray 81 (0,0)))).fresh hf);have kc:=Q0b (hf.at (z0a _ _) id);have j8:=hid (hf.at (z0a _ _) id);have jb:=(ja.alloc (.cells x.cells.toArray 81 (0,0))).trans hf;have jc:Q0a wr w1:=(Mod.alloc (mRf _ wr) (.cells x.cells.toArray 81 (0,0))).trans hf)
     |(go_at_call 56;refine(jm.out _ j4.out).mono ?_;rw[jg];rintro e w2⟨rfl,j2⟩;replace j4:=hid (j4.fresh j2);clear kc;have kc:=Q0b (j2.at j8.out id);replace j8:=hid (j2.at j8.out id);replace jb:=jb.trans j2;replace jc:=jc.trans j2)
     |(refine qAe rfl 81 _ rfl g (i*14) rfl x.cells _ RG.out qAm rfl (by rw[LV.cells_len j0.out];exact Q1e) ?_)
     |(refine z0e rfl 81 _ _ rfl wr _ _ _ rfl rfl rfl (Q09 j0.out) (Q0l rfl (LV.size j0.out)) HA.one ?_)
     |(refine qAf rfl 81 _ rfl wr.heap.size rfl _ _ _ _ (z0a _ _) qAm rfl (Q09 j0.out) ?_))
    have jr:=hid jb;have js:=hid jc;clear kc jb jc j8;generalize hS:Q74 (xs.map LV.ln) x.ln.syms=S at j3;have HS:Hid (Q7c (xs.map LV.ln) x.ln.syms (x.ln.syms.length+1) 0=S):=hS;clear hS;obtain⟨wo,k1⟩:∃wo,wo=wr:=⟨_,rfl⟩;subst k1;go_loopw [29] (fun y wi=>∃(ff j:Nat),y=.int .i64 j/\Q7c (xs.map LV.ln) x.ln.syms ff j=S/\x.ln.syms.length+1<=ff+j/\j<=x.ln.syms.length/\Q0a w wi/\Q0a wo wi)
     (fun y _=>1001-(intOf y).toNat)
    case atStart=>exact⟨_,0,rfl,HS.out,by omega,by omega,jr.out,js.out⟩
    obtain⟨ff,j,rfl,hS,k3,hj,je,jq⟩:=hrel;obtain⟨ff,rfl⟩:∃g,ff=g+1:=⟨ff-1,by omega⟩;unfold Q7c at hS;have jw:=hid (Q19 (B:=1001) j (by omega));by_cases jh:j<x.ln.syms.length
    ·rw[qE jh]at hS;simp only[]at hS;obtain⟨sg,k5,j7⟩:=Joins.ownsRow_form HA.syms.own (by omega);rw[jo.out,qI]at j7;obtain⟨rfl,_,rfl⟩:=j7;have jd:=HA.syms;rw[jo.out]at jd;have jp:=hid (Q30.range (Q18.fresh jd jq) j jh);have jl:=jd.wf _ (qG jh);have j1:Hid (x.ln.syms[j].ls.length=8):=by unfold Hid;simp[Wd.cells]at jl;exact jl
     have IS:=hid (fun w hL=>y4p w (.slice (some ⟨g,0,none⟩) xs.length cap) xs x.ln.syms[j] hL (by omega) j1.out);have jn:=hid (HL.fresh je);have kp:x.ln.syms[j].cells.toArray[0]? = some (.int .i64 x.ln.syms[j].place):=by simp[Wd.cells]
     generalize x.ln.syms[j]=dj at *;clear jd jl;cases hsb2:W0h (xs.map LV.ln) dj
     ·rw[hsb2]at hS;simp only[qF,qAz]at hS;have jf:=hid hS;clear hS;go_wp2_with (first
       |(go_at_call 57;refine(IS.out _ (jn.fresh ((mRf _ wr).alloc _))).mono ?_;rw[hsb2];rintro e w5⟨rfl,j6⟩;have kq:=Q0b (j6.at (z0a _ _) id))
       |(refine qAe rfl 76 _ rfl sg (j*9) rfl dj.cells _ jp.out qAx rfl (by rw[Wd.cells_len j1.out];exact Q2s) ?_)
       |(refine z0e rfl 76 _ _ rfl wr _ _ _ rfl rfl rfl (Q1w j1.out) (Q0l rfl (Wd.size j1.out)) (Wd.one _) ?_)
       |(refine qAf rfl 76 _ rfl wr.heap.size rfl _ _ _ _ (z0a _ _) qAx rfl (Q1w j1.out) ?_))
      go_ret;have e1:=j3.out;rw[← jf.out]at e1;exact⟨z1i e1,(je.alloc _).trans j6⟩
     rw[hsb2]at hS;simp only[qBn]at hS;have jf:=hid hS;clear hS;go_wp2_with (first
      |(go_at_call 57;refine(IS.out _ (jn.fresh ((mRf _ wr).alloc _))).mono ?_;rw[hsb2];rintro e w5⟨rfl,j6⟩)
      |(refine qAe rfl 76 _ rfl sg (j*9) rfl dj.cells _ jp.out qAx rfl (by rw[Wd.cells_len j1.out];exact Q2s) ?_)
      |(refine z0e rfl 76 _ _ rfl wr _ _ _ rfl rfl rfl (Q1w j1.out) (Q0l rfl (Wd.size j1.out)) (Wd.one _) ?_)
      |(refine qAf rfl 76 _ rfl wr.heap.size rfl _ _ _ _ (z0a _ _) qAx rfl (Q1w j1.out) ?_))
     go_roundw
     case rel=>exact⟨ff,j+1,by go_num,jf.out,by omega,by omega,(je.alloc _).trans j6,(jq.alloc _).trans j6⟩
     exact jw.out
    rw[qN (by omega)]at hS;simp only[]at hS;have e1:=j3.out;rw[← hS]at e1;simp only[]at e1;have E1:=hid e1;clear hS e1;go_wp2;go_roundw
    case rel=>exact⟨f,i+1,by go_num,E1.out,by omega,by omega,je⟩
    exact jv.out
  rw[hra]at hR;simp only[qBn]at hR;have j3:=hid hR;simp only[qAd]at hra;obtain⟨hr,jg⟩:=hra;rw[hr]at RU;clear hR;go_wp2_with (first
   |(go_at_call 30;refine(RU.out _).mono ?_;rintro e w1⟨rfl,hf⟩;have j4:=hid ((j9.fresh ((mRf _ wr).alloc (.cells x.cells.toArray 81 (0,0)))).fresh hf))
   |(go_at_call 56;refine(jm.out _ j4.out).mono ?_;rw[jg];rintro e w2⟨rfl,j2⟩;have kc:=Q0b (j2.at (hf.at (z0a _ _) id) id))
   |(refine qAe rfl 81 _ rfl g (i*14) rfl x.cells _ RG.out qAm rfl (by rw[LV.cells_len j0.out];exact Q1e) ?_)
   |(refine z0e rfl 81 _ _ rfl wr _ _ _ rfl rfl rfl (Q09 j0.out) (Q0l rfl (LV.size j0.out)) HA.one ?_)
   |(refine qAf rfl 81 _ rfl wr.heap.size rfl _ _ _ _ (z0a _ _) qAm rfl (Q09 j0.out) ?_))
  go_ret;exact⟨z1i j3.out,((ja.alloc _).trans hf).trans j2⟩
 rw[qN (by simp;omega)]at hR;have j3:=hid hR;clear hR;go_wp2;go_ret;exact⟨z1i j3.out,ja⟩
def emptyB(x:Ln):Bool:=Q0x x&&(Q5f x.ns x.st x.en ByteArray.empty 0==0)
def Q7t(lns:List Ln):Nat->Nat->Int
 |0,_=>-1
 |f+1,i=>match lns[i]? with|some x=>if emptyB x then x.front.place else Q7t lns f (i+1)|none=>-1
def Q6x(lns:List Ln):Int:=Q7t lns (lns.length+1) 0
theorem y4y(w:World)(v:Value)(st en:Int)(ns:List Q0q)(hN:Q15 w v ns)(hn:ns.length<=100000) :
  Calls Tryz.prog 58 #[patV v st en,.string ⟨#[]⟩,.int .i64 0] w fun e w'=>e=.returned (.int .i64 (Q5f ns st en ByteArray.empty 0))/\Q0a w w':=by
 have:=z9t w v st en ns ByteArray.empty 0 hN hn (by simp) (by omega);exact this
theorem z64(w:World)(v:Value)(xs:List LV)(hL:Q0s w v xs)(hn:xs.length<=1000)(hfb:∀x∈xs,FB x) :
  Calls Tryz.prog 26 #[v] w fun e w'=>e=.returned (.int .i64 (Q6x (xs.map LV.ln)))/\Q0a w w':=by
 obtain⟨ao,cap,hv⟩:=z0c hL.own;subst hv;have HL:=hid hL;have ja:=hid hfb;generalize hR:Q6x (xs.map LV.ln)=R;have HR:Hid (Q7t (xs.map LV.ln) ((xs.map LV.ln).length+1) 0=R):=hR;clear hL hfb hR;go_enter Tryz.func26,Tryz.ntmps26
 go_wp2;go_loopw [7] (fun x9 wr=>∃(f i:Nat),x9=.int .i64 i/\Q7t (xs.map LV.ln) f i=R/\xs.length+1<=f+i/\i<=xs.length/\Q0a w wr)
   (fun x _=>1001-(intOf x).toNat)
 case atStart=>exact⟨_,0,rfl,HR.out,by simp,by omega,mRf _ _⟩
 obtain⟨f,i,rfl,hR,jf,hi,j2⟩:=hrel;obtain⟨f,rfl⟩:∃g,f=g+1:=⟨f-1,by omega⟩;unfold Q7t at hR;have j6:=hid (Q19 (B:=1001) i (by omega));by_cases j7:i<xs.length
 ·have j4:i<(xs.map LV.ln).length:=by simpa using j7
  rw[qE j4]at hR;simp only[qCd]at hR;obtain⟨g,jd,j8⟩:=Joins.ownsRow_form HL.own (by omega);rw[qI]at j8;obtain⟨rfl,_,rfl⟩:=j8;have j5:=hid (HL.fresh j2);have RG:=hid (j5.row.range i j7);have hA:=j5.each xs[i] (by simp);have HA:=hid hA;have j0:=hid hA.front;have jb:=hid (ja.out xs[i] (by simp));have k0:=LV.at0 xs[i];obtain⟨jg,jh,ji⟩:=LV.at10 hA.front;generalize hX:xs[i]=x at *;clear hA hX;have je:Hid (Q0x x.ln=!Q16 x.ln.front):=rfl;have RU:=hid (fun w=>z2l x w j0.out jb.out);rw[← je.out]at RU;have LG:=hid (fun w hN=>y4y w x.vn x.ln.st x.ln.en x.ln.ns hN (by have:=HA.small;omega));unfold emptyB at hR;generalize Q5f x.ln.ns x.ln.st x.ln.en ByteArray.empty 0=lg at hR LG;cases hr:Q0x x.ln
  ·rw[hr]at hR RU;simp only[qDh,qF,qAz]at hR;have j1:=hid hR;clear hR;go_wp2_with (first
    |(go_at_call 30;refine(RU.out _).mono ?_;rintro e w1⟨rfl,hf⟩)
    |(refine qAe rfl 81 _ rfl g (i*14) rfl x.cells _ RG.out qAm rfl (by rw[LV.cells_len j0.out];exact Q1e) ?_)
    |(refine z0e rfl 81 _ _ rfl wr _ _ _ rfl rfl rfl (Q09 j0.out) (Q0l rfl (LV.size j0.out)) HA.one ?_)
    |(refine qAf rfl 81 _ rfl wr.heap.size rfl _ _ _ _ (z0a _ _) qAm rfl (Q09 j0.out) ?_))
   go_roundw
   case rel=>exact⟨f,i+1,by go_num,j1.out,by omega,by omega,(j2.alloc _).trans hf⟩
   exact j6.out
  rw[hr]at hR RU;simp only[qBm]at hR;cases hlg:(lg==0);all_goals
   rw[hlg]at hR;simp only[qF,qAz,qBn]at hR;have j1:=hid hR;clear hR;go_wp2_with (first
    |(go_at_call 30;refine(RU.out _).mono ?_;rintro e w1⟨rfl,hf⟩;have kc:=Q0b (hf.at (z0a _ _) id);have j9:=hid (hf.at (z0a _ _) id);have jc:=hid ((HA.nodes.fresh ((mRf _ wr).alloc (.cells x.cells.toArray 81 (0,0)))).fresh hf))
    |(go_at_call 58;refine(LG.out _ jc.out).mono ?_;rintro e w2⟨rfl,j3⟩;clear kc;have kc:=Q0b (j3.at j9.out id))
    |(refine qAe rfl 81 _ rfl g (i*14) rfl x.cells _ RG.out qAm rfl (by rw[LV.cells_len j0.out];exact Q1e) ?_)
    |(refine z0e rfl 81 _ _ rfl wr _ _ _ rfl rfl rfl (Q09 j0.out) (Q0l rfl (LV.size j0.out)) HA.one ?_)
    |(refine qAf rfl 81 _ rfl wr.heap.size rfl _ _ _ _ (z0a _ _) qAm rfl (Q09 j0.out) ?_))
  ·go_roundw
   case rel=>exact⟨f,i+1,by go_num,j1.out,by omega,by omega,((j2.alloc _).trans hf).trans j3⟩
   exact j6.out
  go_ret;exact⟨z1i j1.out,((j2.alloc _).trans hf).trans j3⟩
 rw[qN (by simp;omega)]at hR;have j1:=hid hR;clear hR;go_wp2;go_ret;exact⟨z1i j1.out,j2⟩
def Q4a(lns:List Ln):Bool:=lns.any (fun x=>!Q0x x)
theorem z9h(w:World)(v:Value)(xs:List LV)(hL:Q0s w v xs)(hn:xs.length<=1000)(hfb:∀x∈xs,FB x) :
  Calls Tryz.prog 27 #[v] w fun e w'=>e=.returned (.bool (Q4a (xs.map LV.ln)))/\Q0a w w':=by
 obtain⟨ao,cap,hv⟩:=z0c hL.own;subst hv;have HL:=hid hL;have j8:=hid hfb;clear hL hfb;go_enter Tryz.func27,Tryz.ntmps27
 go_wp2;go_loopw [6] (fun x9 wr=>∃(i:Nat),x9=.int .i64 i/\(∀j (hj:j<xs.length),j<i->Q0x xs[j].ln=true)/\i<=xs.length/\Q0a w wr)
   (fun x _=>1001-(intOf x).toNat)
 case atStart=>exact⟨0,rfl,fun j _ h=>by omega,by omega,mRf _ _⟩
 obtain⟨i,rfl,j0,hi,j1⟩:=hrel;have ja:=hid (Q19 (B:=1001) i (by omega));have j2:=hid j0;clear j0;by_cases j6:i<xs.length
 ·obtain⟨g,jb,j7⟩:=Joins.ownsRow_form HL.own (by omega);rw[qI]at j7;obtain⟨rfl,_,rfl⟩:=j7;have j4:=hid (HL.fresh j1);have RG:=hid (j4.row.range i j6);have j3:=hid (j4.each xs[i] (by simp)).front;have j9:=hid (j8.out xs[i] (by simp));have jd:Hid (Q0x xs[i].ln=!Q16 xs[i].ln.front):=rfl;have RU:=hid (fun w=>z2l xs[i] w j3.out j9.out);rw[← jd.out]at RU;cases hr:Q0x xs[i].ln;all_goals
   rw[hr]at RU;have j5:=hid hr;clear hr;go_wp2_with (first
    |(go_at_call 30;refine(RU.out _).mono ?_;rintro e w1⟨rfl,hf⟩)
    |(refine qAe rfl 81 _ rfl g (i*14) rfl xs[i].cells _ RG.out qAm rfl (by rw[LV.cells_len j3.out];exact Q1e) ?_))
  ·go_ret;refine⟨z0w ?_,j1.trans hf⟩;symm;unfold Q4a;rw[qBb];exact⟨xs[i].ln,qBj.2 ⟨xs[i],qG j6,rfl⟩,by rw[j5.out];rfl⟩
  go_roundw
  case rel =>
   refine⟨i+1,by go_num,?_,by omega,j1.trans hf⟩;intro j hj je;by_cases e:j=i
   ·subst e;exact j5.out
   exact j2.out j hj (by omega)
  exact ja.out
 have jc:i=xs.length:=by omega
 subst jc;go_wp2;go_ret;refine⟨z0w ?_,j1⟩;symm;unfold Q4a;rw[List.any_eq_false];intro x hx;simp only[qBj]at hx;obtain⟨y,hy,rfl⟩:=hx;obtain⟨j,hj,rfl⟩:=qBf hy;simp[j2.out j hj hj]
abbrev Q5m(p a b c d e f g k:Int)(sk:Bool)(vn:Value)(st en:Int)(vs:Value):List Value:=[.int .i64 p,.int .u8 a,.int .u8 b,.int .u8 c,.int .u8 d,.int .u8 e,.int .u8 f,.int .u8 g,.int .u8 k,.bool sk,vn,.int .i64 st,.int .i64 en,vs]
theorem z5b(w:World)(v:Value)(xs:List LV)(hL:Q0s w v xs)(hn:xs.length<=1000)(hfb:∀x∈xs,FB x) :
  Calls Tryz.prog 13 #[v] w fun e w'=>∃v',e=.returned v'/\Q0s w' v' (xs.filter fun x=>Q0x x.ln)/\Q0a w w':=by
 obtain⟨ao,cap,hv⟩:=z0c hL.own;subst hv;have HL:=hid hL;have jm:=hid hfb;obtain⟨i0,ju,k0,k1,k2⟩:=Q9f;clear hL hfb;go_enter Tryz.func13,Tryz.ntmps13
 go_wp2;go_loopw [3,7] (fun x3 x7 wr=>∃(i:Nat),x7=.int .i64 i/\i<=xs.length/\wr.ownsRow w.heap.size 81 14 x3 ((xs.take i).filter fun x=>Q0x x.ln).length (Q0y LV.cells ((xs.take i).filter fun x=>Q0x x.ln))/\Q0a w wr)
   (fun _ x _=>1001-(intOf x).toNat)
 case atStart=>exact⟨0,rfl,by omega,qAh _ _ _ _,mRf _ _⟩
 obtain⟨i,rfl,hi,j2,j8⟩:=hrel;have jf:=hid (Q19 (B:=1001) i (by omega));have jw:((xs.take i).filter fun x=>Q0x x.ln).length<=1000:=by
  have:=qCc (fun x:LV=>Q0x x.ln) (xs.take i);have:=List.length_take_le i xs;omega
 have jq:Hid (∀j7:i<xs.length,(xs.take (i+1)).filter (fun x=>Q0x x.ln)=(xs.take i).filter (fun x=>Q0x x.ln)++(if Q0x xs[i].ln then [xs[i]] else [])):=by
  intro j7;rw[qCu,qBx,qE j7];cases h:Q0x xs[i].ln<;>simp[qAq,h]
 have jp:Hid (i=xs.length->(xs.take i)=xs):=fun h=>by rw[h,qAw]
 generalize hy:(xs.take i).filter (fun x=>Q0x x.ln)=ys at *;have HY:=hid hy;have HO:=hid j2;have jc:=hid j2.lt;obtain⟨ro,rc,jy⟩:=z0c j2;clear j2 hy;subst jy;by_cases j7:i<xs.length
 ·obtain⟨g,js,ji⟩:=Joins.ownsRow_form HL.own (by omega);rw[qI]at ji;obtain⟨rfl,_,rfl⟩:=ji;have jb:=hid (HL.fresh j8);have jh:=jb.row.range i j7;have hA:=jb.each xs[i] (by simp);have jg:=jm.out xs[i] (by simp);have j0:=hid (jq.out j7);have j9:=fun w1 (hf:Q0a wr w1)=>(jb.fresh hf).row.range i j7;generalize hX:xs[i]=x at *;clear hX;have jd:=fun w=>z2l x w hA.front jg;have jx:Hid (Q0x x.ln=!Q16 x.ln.front):=rfl;rw[← jx.out]at jd;have jl:=hid hA.one;obtain⟨⟨⟨pp,ls⟩,sk,j3,j4,j1,sy⟩,vn,vs⟩:=x;obtain⟨a1,a2,a3,a4,a5,a6,a7,a8,e8⟩:=Q59 hA.front;dsimp only at e8;subst e8;obtain⟨no,nc,jj⟩:=z0c hA.nodes.own;obtain⟨so,sc,jk⟩:=z0c hA.syms.own;dsimp only at jj jk;subst jj;subst jk;have RU:=hid jd;have RG:Hid (wr.rangeAt g (i*14) (Q5m pp a1 a2 a3 a4 a5 a6 a7 a8 sk (.slice no j3.length nc) j4 j1 (.slice so sy.length sc))):=jh;have jr:Hid (∀w1,Q0a wr w1->w1.rangeAt g (i*14) (Q5m pp a1 a2 a3 a4 a5 a6 a7 a8 sk (.slice no j3.length nc) j4 j1 (.slice so sy.length sc))):=j9;have ja:Hid (∀w,Calls Tryz.prog 30 #[.agg (lnArr pp a1 a2 a3 a4 a5 a6 a7 a8 sk (.slice no j3.length nc) j4 j1 (.slice so sy.length sc))] w fun e w'=>e=.returned (.bool (Q0x ⟨⟨pp,[a1,a2,a3,a4,a5,a6,a7,a8]⟩,sk,j3,j4,j1,sy⟩))/\Q0a w w'):=RU.out;clear jd RU jh j9 hA jg;cases hr:Q0x ⟨⟨pp,[a1,a2,a3,a4,a5,a6,a7,a8]⟩,sk,j3,j4,j1,sy⟩
  ·rw[hr]at ja j0;simp only[qF,qAz,qBd]at j0;go_wp2_with (first
    |(go_at_call 30;refine(ja.out _).mono ?_;rintro e w1⟨rfl,hf⟩)
    |(refine qAe rfl 81 _ rfl g (i*14) rfl (Q5m pp a1 a2 a3 a4 a5 a6 a7 a8 sk (.slice no j3.length nc) j4 j1 (.slice so sy.length sc)) _ RG.out qAm rfl Q1e ?_))
   go_roundw
   case rel =>
    refine⟨i+1,by go_num,by omega,?_,j8.trans hf⟩;rw[j0.out];exact z0d HO.out (fun g hg=>hf.block g (jc.out g hg).2 id)
   exact jf.out
  rw[hr]at ja j0;simp only[qBn]at j0;go_wp2_with (first
   |(go_at_call 30;refine(ja.out _).mono ?_;rintro e w1⟨rfl,hf⟩;have hz:wr.heap.size<=w1.heap.size:=hf.size;have jn:=hid (z0d HO.out (fun g hg=>hf.block g (jc.out g hg).2 id)))
   |(refine qAe rfl 81 _ rfl g (i*14) rfl (Q5m pp a1 a2 a3 a4 a5 a6 a7 a8 sk (.slice no j3.length nc) j4 j1 (.slice so sy.length sc)) _ RG.out qAm rfl Q1e ?_)
   |(refine qAe rfl 81 _ rfl g (i*14) rfl (Q5m pp a1 a2 a3 a4 a5 a6 a7 a8 sk (.slice no j3.length nc) j4 j1 (.slice so sy.length sc)) _ (jr.out _ hf) qAm rfl Q1e ?_)
   |(at_builtin;refine z0f _ rfl _ _ 37 rfl w.heap.size 81 i0 _ 14 88 Tryz.underlying37 ju k0 k1 k2 rfl (by decide) _ _ _ rfl (jn.alloc _) ⟨w1.heap.size,0,none⟩ 1 1 (Q5m pp a1 a2 a3 a4 a5 a6 a7 a8 sk (.slice no j3.length nc) j4 j1 (.slice so sy.length sc)) rfl rfl ?c1 ?c2 ?c3 ?c4 ?c5 ?_))
  case c1=>exact z0m rfl
  case c2=>intro u hu;exact(qCn.1 jl.out) u (by simpa [LV.cells,Wd.cells]using hu)
  case c3=>unfold maxLen;omega
  case c4=>omega
  case c5=>have:=j8.size;simp;omega
  intro v' w2 j6 j5 je;have jt:Q0a w w2:=Mod.grown (S:=fun _=>False) ((j8.trans hf).alloc _) j5 (fun k hk j7=>by have:=(jc.out k hk).1;omega);have jo:=hid j6;clear j6 j5 je;go_wp2;go_roundw
  case rel =>
   refine⟨i+1,by go_num,by omega,?_,jt⟩;rw[j0.out,z0v,qP,qAj];exact jo.out
  exact jf.out
 have jv:i=xs.length:=by omega
 have jz:=jp.out jv;go_wp2;go_ret;refine⟨_,rfl,⟨?_,?_⟩,j8⟩
 ·rw[← jz,HY.out];exact z0g HO.out (qBq _)
 intro x hx;exact(HL.each x (qDi.1 hx).1).fresh j8
end Go.Proofs.YtbdpfmalabgmbaaGreat
