import Derived.Test.YtcpceafmlgaodaaGreatCk3
namespace Go.Proofs.YtcpceafmlgaodaaGreat
open Go.RowKit
set_option maxRecDepth 99999
set_option maxHeartbeats 0
set_option linter.all false
def Q60(lns:List Ln)(syms:List Wd):Nat->Nat->Option Int
 |0,_=>none
 |f+1,j=>match syms[j]? with|some d=>if Q92 lns d then Q60 lns syms f (j+1) else some d.place|none=>none
def Q7r(lns:List Ln)(syms:List Wd):Option Int:=Q60 lns syms (syms.length+1) 0
def Q6u(lns:List Ln):Nat->Nat->Int
 |0,_=>-1
 |f+1,i=>match lns[i]? with
  |some x=>if Q07 x&&Q24 lns i then x.front.place else(match Q7r lns x.syms with|some p=>p|none=>Q6u lns f (i+1))
  |none=>-1
def Q16(lns:List Ln):Int:=Q6u lns (lns.length+1) 0
theorem Q3u.range{w:World}{g n cap:Nat}{ds:List Wd}(h:Q3u w (.slice (some ⟨g,0,none⟩) n cap) ds)(i:Nat)(hi:i<ds.length):w.rangeAt g (i*9) (ds[i]).cells:=Q2e.range h i hi
def SB(x:LV):Prop:=x.ln.syms.length<=1000
theorem z3f(w:World)(v:Value)(xs:List LV)(hL:Q1s w v xs)(hn:xs.length<=1000)(hfb:∀x∈xs,FB x)(hsb:∀x∈xs,SB x) :
  Calls Tryz.prog 43 #[v] w fun e w'=>e=.returned (.int .i64 (Q16 (xs.map LV.ln)))/\Q0a w w':=by
 obtain⟨ao,cap,hv⟩:=z0d hL.own;subst hv;have HL:=hid hL;have jj:=hid hfb;have jn:=hid hsb;generalize hR:Q16 (xs.map LV.ln)=R;have HR:Hid (Q6u (xs.map LV.ln) ((xs.map LV.ln).length+1) 0=R):=hR;clear hL hfb hR hsb;go_enter Tryz.func43,Tryz.ntmps43
 go_wp2;go_loopw [9] (fun x9 wr=>∃(f i:Nat),x9=.int .i64 i/\Q6u (xs.map LV.ln) f i=R/\xs.length+1<=f+i/\i<=xs.length/\Q0a w wr)
   (fun x _=>1001-(intOf x).toNat)
 case atStart=>exact⟨_,0,rfl,HR.out,by simp,by omega,mRf _ _⟩
 obtain⟨f,i,rfl,hR,hfu,hi,hfr⟩:=hrel;obtain⟨f,rfl⟩:∃g,f=g+1:=⟨f-1,by omega⟩;unfold Q6u at hR;have jl:=hid (Q15 (B:=1001) i (by omega));by_cases hlt:i<xs.length
 ·have jb:i<(xs.map LV.ln).length:=by simpa using hlt
  rw[qE jb]at hR;simp only[qBt]at hR;obtain⟨g,cap',hv'⟩:=Joins.ownsRow_form HL.own (by omega);rw[qI]at hv';obtain⟨rfl,_,rfl⟩:=hv';have j6:=hid (HL.fresh hfr);have RG:=hid (j6.row.range i hlt);have hA:=j6.each xs[i] (by simp);have HA:=hid hA;have j0:=hid hA.front;have jk:=hid (jj.out xs[i] (by simp));have hsb:=jn.out xs[i] (by simp);obtain⟨so,sc,hvs⟩:=z0d hA.syms.own;have jd:=hid (fun w hL=>y3d w (.slice (some ⟨g,0,none⟩) xs.length cap) xs i hL (by omega) hlt);have jp:=LV.at13 hA.front;have k0:=LV.at0 xs[i];rw[hvs]at jp;have jf:=hid hvs;generalize hX:xs[i]=x at *;clear hA hX hvs;unfold SB at hsb;have jo:Hid (Q07 x.ln=!Q14 x.ln.front):=rfl;have RU:=hid (fun w=>z2p x w j0.out jk.out);rw[← jo.out]at RU;cases hra:(Q07 x.ln&&Q24 (xs.map LV.ln) i)
  ·rw[hra]at hR;simp only[qF,qAp]at hR;have j2:=hid hR;clear hR;have j4:(Q07 x.ln=false)∨(Q07 x.ln=true/\Q24 (xs.map LV.ln) i=false):=by
    cases h:Q07 x.ln
    ·exact .inl rfl
    rw[h]at hra;simpa using hra
   clear hra;rcases j4 with hr|⟨hr,hah⟩;all_goals
    rw[hr]at RU;go_wp2_with (first
     |(go_at_call 48;refine(RU.out _).mono ?_;rintro e w1⟨rfl,hf⟩;have j3:=hid ((j6.fresh ((mRf _ wr).alloc (.cells x.cells.toArray 116 (0,0)))).fresh hf);have kc:=Q0b (hf.at (z0a _ _) (fun x=>x));have j5:=hid (hf.at (z0a _ _) (fun x=>x));have j7:=(hfr.alloc (.cells x.cells.toArray 116 (0,0))).trans hf;have j8:Q0a wr w1:=(Mod.alloc (mRf _ wr) (.cells x.cells.toArray 116 (0,0))).trans hf)
     |(go_at_call 78;refine(jd.out _ j3.out).mono ?_;rw[hah];rintro e w2⟨rfl,hf2⟩;replace j3:=hid (j3.fresh hf2);clear kc;have kc:=Q0b (hf2.at j5.out (fun x=>x));replace j5:=hid (hf2.at j5.out (fun x=>x));replace j7:=j7.trans hf2;replace j8:=j8.trans hf2)
     |(refine wpList_load_mid rfl 116 _ rfl g (i*14) rfl x.cells _ RG.out Tryz.underlying116 rfl (by rw[LV.cells_len j0.out];exact Q1j) ?_)
     |(refine z0e rfl 116 _ _ rfl wr _ _ _ rfl rfl rfl (Q09 j0.out) (Q0k rfl (LV.size j0.out)) HA.one ?_)
     |(refine wpList_load_row rfl 116 _ rfl wr.heap.size rfl _ _ _ _ (z0a _ _) Tryz.underlying116 rfl (Q09 j0.out) ?_))
    have jh:=hid j7;have ji:=hid j8;clear kc j7 j8 j5;generalize hS:Q7r (xs.map LV.ln) x.ln.syms=S at j2;have HS:Hid (Q60 (xs.map LV.ln) x.ln.syms (x.ln.syms.length+1) 0=S):=hS;clear hS;obtain⟨wo,hwo⟩:∃wo,wo=wr:=⟨_,rfl⟩;subst hwo;go_loopw [29] (fun y wi=>∃(ff j:Nat),y=.int .i64 j/\Q60 (xs.map LV.ln) x.ln.syms ff j=S/\x.ln.syms.length+1<=ff+j/\j<=x.ln.syms.length/\Q0a w wi/\Q0a wo wi)
     (fun y _=>1001-(intOf y).toNat)
    case atStart=>exact⟨_,0,rfl,HS.out,by omega,by omega,jh.out,ji.out⟩
    obtain⟨ff,j,rfl,hS,hfj,hj,hwi,hri⟩:=hrel;obtain⟨ff,rfl⟩:∃g,ff=g+1:=⟨ff-1,by omega⟩;unfold Q60 at hS;have jm:=hid (Q15 (B:=1001) j (by omega));by_cases hlj:j<x.ln.syms.length
    ·rw[qE hlj]at hS;simp only[]at hS;obtain⟨sg,sc',hv'⟩:=Joins.ownsRow_form HA.syms.own (by omega);rw[jf.out,qI]at hv';obtain⟨rfl,_,rfl⟩:=hv';have j9:=HA.syms;rw[jf.out]at j9;have jg:=hid (Q3u.range (Q2e.fresh j9 hri) j hlj);have jc:=j9.wf _ (qG hlj);have j1:Hid (x.ln.syms[j].ls.length=8):=by unfold Hid;simp[Wd.cells]at jc;exact jc
     have IS:=hid (fun w hL=>y36 w (.slice (some ⟨g,0,none⟩) xs.length cap) xs x.ln.syms[j] hL (by omega) j1.out);have je:=hid (HL.fresh hwi);have kp:x.ln.syms[j].cells.toArray[0]? = some (.int .i64 x.ln.syms[j].place):=by simp[Wd.cells]
     generalize x.ln.syms[j]=dj at *;clear j9 jc;cases hsb2:Q92 (xs.map LV.ln) dj
     ·rw[hsb2]at hS;simp only[qF,qAp]at hS;have ja:=hid hS;clear hS;go_wp2_with (first
       |(go_at_call 79;refine(IS.out _ (je.fresh ((mRf _ wr).alloc _))).mono ?_;rw[hsb2];rintro e w5⟨rfl,hf5⟩;have kq:=Q0b (hf5.at (z0a _ _) (fun x=>x)))
       |(refine wpList_load_mid rfl 111 _ rfl sg (j*9) rfl dj.cells _ jg.out Tryz.underlying111 rfl (by rw[Wd.cells_len j1.out];exact Q2o) ?_)
       |(refine z0e rfl 111 _ _ rfl wr _ _ _ rfl rfl rfl (Q1u j1.out) (Q0k rfl (Wd.size j1.out)) (Wd.one _) ?_)
       |(refine wpList_load_row rfl 111 _ rfl wr.heap.size rfl _ _ _ _ (z0a _ _) Tryz.underlying111 rfl (Q1u j1.out) ?_))
      go_ret;have e1:=j2.out;rw[← ja.out]at e1;exact⟨z1h e1,(hwi.alloc _).trans hf5⟩
     rw[hsb2]at hS;simp only[qBb]at hS;have ja:=hid hS;clear hS;go_wp2_with (first
      |(go_at_call 79;refine(IS.out _ (je.fresh ((mRf _ wr).alloc _))).mono ?_;rw[hsb2];rintro e w5⟨rfl,hf5⟩)
      |(refine wpList_load_mid rfl 111 _ rfl sg (j*9) rfl dj.cells _ jg.out Tryz.underlying111 rfl (by rw[Wd.cells_len j1.out];exact Q2o) ?_)
      |(refine z0e rfl 111 _ _ rfl wr _ _ _ rfl rfl rfl (Q1u j1.out) (Q0k rfl (Wd.size j1.out)) (Wd.one _) ?_)
      |(refine wpList_load_row rfl 111 _ rfl wr.heap.size rfl _ _ _ _ (z0a _ _) Tryz.underlying111 rfl (Q1u j1.out) ?_))
     go_roundw
     case rel=>exact⟨ff,j+1,by go_num,ja.out,by omega,by omega,(hwi.alloc _).trans hf5,(hri.alloc _).trans hf5⟩
     exact jm.out
    rw[qN (by omega)]at hS;simp only[]at hS;have e1:=j2.out;rw[← hS]at e1;simp only[]at e1;have E1:=hid e1;clear hS e1;go_wp2;go_roundw
    case rel=>exact⟨f,i+1,by go_num,E1.out,by omega,by omega,hwi⟩
    exact jl.out
  rw[hra]at hR;simp only[qBb]at hR;have j2:=hid hR;simp only[qAc]at hra;obtain⟨hr,hah⟩:=hra;rw[hr]at RU;clear hR;go_wp2_with (first
   |(go_at_call 48;refine(RU.out _).mono ?_;rintro e w1⟨rfl,hf⟩;have j3:=hid ((j6.fresh ((mRf _ wr).alloc (.cells x.cells.toArray 116 (0,0)))).fresh hf))
   |(go_at_call 78;refine(jd.out _ j3.out).mono ?_;rw[hah];rintro e w2⟨rfl,hf2⟩;have kc:=Q0b (hf2.at (hf.at (z0a _ _) (fun x=>x)) (fun x=>x)))
   |(refine wpList_load_mid rfl 116 _ rfl g (i*14) rfl x.cells _ RG.out Tryz.underlying116 rfl (by rw[LV.cells_len j0.out];exact Q1j) ?_)
   |(refine z0e rfl 116 _ _ rfl wr _ _ _ rfl rfl rfl (Q09 j0.out) (Q0k rfl (LV.size j0.out)) HA.one ?_)
   |(refine wpList_load_row rfl 116 _ rfl wr.heap.size rfl _ _ _ _ (z0a _ _) Tryz.underlying116 rfl (Q09 j0.out) ?_))
  go_ret;exact⟨z1h j2.out,((hfr.alloc _).trans hf).trans hf2⟩
 rw[qN (by simp;omega)]at hR;have j2:=hid hR;clear hR;go_wp2;go_ret;exact⟨z1h j2.out,hfr⟩
def emptyB(x:Ln):Bool:=Q07 x&&(Q72 x.ns x.st x.en ByteArray.empty 0==0)
def Q7e(lns:List Ln):Nat->Nat->Int
 |0,_=>-1
 |f+1,i=>match lns[i]? with|some x=>if emptyB x then x.front.place else Q7e lns f (i+1)|none=>-1
def Q6m(lns:List Ln):Int:=Q7e lns (lns.length+1) 0
theorem y4g(w:World)(v:Value)(st en:Int)(ns:List Q0o)(hN:Q12 w v ns)(hn:ns.length<=100000) :
  Calls Tryz.prog 80 #[patV v st en,.string ⟨#[]⟩,.int .i64 0] w fun e w'=>e=.returned (.int .i64 (Q72 ns st en ByteArray.empty 0))/\Q0a w w':=by
 have:=y6m w v st en ns ByteArray.empty 0 hN hn (by simp) (by omega);exact this
theorem z6v(w:World)(v:Value)(xs:List LV)(hL:Q1s w v xs)(hn:xs.length<=1000)(hfb:∀x∈xs,FB x) :
  Calls Tryz.prog 44 #[v] w fun e w'=>e=.returned (.int .i64 (Q6m (xs.map LV.ln)))/\Q0a w w':=by
 obtain⟨ao,cap,hv⟩:=z0d hL.own;subst hv;have HL:=hid hL;have j6:=hid hfb;generalize hR:Q6m (xs.map LV.ln)=R;have HR:Hid (Q7e (xs.map LV.ln) ((xs.map LV.ln).length+1) 0=R):=hR;clear hL hfb hR;go_enter Tryz.func44,Tryz.ntmps44
 go_wp2;go_loopw [7] (fun x9 wr=>∃(f i:Nat),x9=.int .i64 i/\Q7e (xs.map LV.ln) f i=R/\xs.length+1<=f+i/\i<=xs.length/\Q0a w wr)
   (fun x _=>1001-(intOf x).toNat)
 case atStart=>exact⟨_,0,rfl,HR.out,by simp,by omega,mRf _ _⟩
 obtain⟨f,i,rfl,hR,hfu,hi,hfr⟩:=hrel;obtain⟨f,rfl⟩:∃g,f=g+1:=⟨f-1,by omega⟩;unfold Q7e at hR;have j4:=hid (Q15 (B:=1001) i (by omega));by_cases hlt:i<xs.length
 ·have j2:i<(xs.map LV.ln).length:=by simpa using hlt
  rw[qE j2]at hR;simp only[qBt]at hR;obtain⟨g,cap',hv'⟩:=Joins.ownsRow_form HL.own (by omega);rw[qI]at hv';obtain⟨rfl,_,rfl⟩:=hv';have j3:=hid (HL.fresh hfr);have RG:=hid (j3.row.range i hlt);have hA:=j3.each xs[i] (by simp);have HA:=hid hA;have j0:=hid hA.front;have j7:=hid (j6.out xs[i] (by simp));have k0:=LV.at0 xs[i];obtain⟨k10,k11,k12⟩:=LV.at10 hA.front;generalize hX:xs[i]=x at *;clear hA hX;have j9:Hid (Q07 x.ln=!Q14 x.ln.front):=rfl;have RU:=hid (fun w=>z2p x w j0.out j7.out);rw[← j9.out]at RU;have LG:=hid (fun w hN=>y4g w x.vn x.ln.st x.ln.en x.ln.ns hN (by have:=HA.small;omega));unfold emptyB at hR;generalize Q72 x.ln.ns x.ln.st x.ln.en ByteArray.empty 0=lg at hR LG;cases hr:Q07 x.ln
  ·rw[hr]at hR RU;simp only[qCi,qF,qAp]at hR;have j1:=hid hR;clear hR;go_wp2_with (first
    |(go_at_call 48;refine(RU.out _).mono ?_;rintro e w1⟨rfl,hf⟩)
    |(refine wpList_load_mid rfl 116 _ rfl g (i*14) rfl x.cells _ RG.out Tryz.underlying116 rfl (by rw[LV.cells_len j0.out];exact Q1j) ?_)
    |(refine z0e rfl 116 _ _ rfl wr _ _ _ rfl rfl rfl (Q09 j0.out) (Q0k rfl (LV.size j0.out)) HA.one ?_)
    |(refine wpList_load_row rfl 116 _ rfl wr.heap.size rfl _ _ _ _ (z0a _ _) Tryz.underlying116 rfl (Q09 j0.out) ?_))
   go_roundw
   case rel=>exact⟨f,i+1,by go_num,j1.out,by omega,by omega,(hfr.alloc _).trans hf⟩
   exact j4.out
  rw[hr]at hR RU;simp only[qBa]at hR;cases hlg:(lg==0);all_goals
   rw[hlg]at hR;simp only[qF,qAp,qBb]at hR;have j1:=hid hR;clear hR;go_wp2_with (first
    |(go_at_call 48;refine(RU.out _).mono ?_;rintro e w1⟨rfl,hf⟩;have kc:=Q0b (hf.at (z0a _ _) (fun x=>x));have j5:=hid (hf.at (z0a _ _) (fun x=>x));have j8:=hid ((HA.nodes.fresh ((mRf _ wr).alloc (.cells x.cells.toArray 116 (0,0)))).fresh hf))
    |(go_at_call 80;refine(LG.out _ j8.out).mono ?_;rintro e w2⟨rfl,hf2⟩;clear kc;have kc:=Q0b (hf2.at j5.out (fun x=>x)))
    |(refine wpList_load_mid rfl 116 _ rfl g (i*14) rfl x.cells _ RG.out Tryz.underlying116 rfl (by rw[LV.cells_len j0.out];exact Q1j) ?_)
    |(refine z0e rfl 116 _ _ rfl wr _ _ _ rfl rfl rfl (Q09 j0.out) (Q0k rfl (LV.size j0.out)) HA.one ?_)
    |(refine wpList_load_row rfl 116 _ rfl wr.heap.size rfl _ _ _ _ (z0a _ _) Tryz.underlying116 rfl (Q09 j0.out) ?_))
  ·go_roundw
   case rel=>exact⟨f,i+1,by go_num,j1.out,by omega,by omega,((hfr.alloc _).trans hf).trans hf2⟩
   exact j4.out
  go_ret;exact⟨z1h j1.out,((hfr.alloc _).trans hf).trans hf2⟩
 rw[qN (by simp;omega)]at hR;have j1:=hid hR;clear hR;go_wp2;go_ret;exact⟨z1h j1.out,hfr⟩
def Q33(lns:List Ln):Bool:=lns.any (fun x=>!Q07 x)
theorem z85(w:World)(v:Value)(xs:List LV)(hL:Q1s w v xs)(hn:xs.length<=1000)(hfb:∀x∈xs,FB x) :
  Calls Tryz.prog 45 #[v] w fun e w'=>e=.returned (.bool (Q33 (xs.map LV.ln)))/\Q0a w w':=by
 obtain⟨ao,cap,hv⟩:=z0d hL.own;subst hv;have HL:=hid hL;have j4:=hid hfb;clear hL hfb;go_enter Tryz.func45,Tryz.ntmps45
 go_wp2;go_loopw [6] (fun x9 wr=>∃(i:Nat),x9=.int .i64 i/\(∀j (hj:j<xs.length),j<i->Q07 xs[j].ln=true)/\i<=xs.length/\Q0a w wr)
   (fun x _=>1001-(intOf x).toNat)
 case atStart=>exact⟨0,rfl,fun j _ h=>by omega,by omega,mRf _ _⟩
 obtain⟨i,rfl,hall,hi,hfr⟩:=hrel;have j6:=hid (Q15 (B:=1001) i (by omega));have j0:=hid hall;clear hall;by_cases hlt:i<xs.length
 ·obtain⟨g,cap',hv'⟩:=Joins.ownsRow_form HL.own (by omega);rw[qI]at hv';obtain⟨rfl,_,rfl⟩:=hv';have j2:=hid (HL.fresh hfr);have RG:=hid (j2.row.range i hlt);have j1:=hid (j2.each xs[i] (by simp)).front;have j5:=hid (j4.out xs[i] (by simp));have j8:Hid (Q07 xs[i].ln=!Q14 xs[i].ln.front):=rfl;have RU:=hid (fun w=>z2p xs[i] w j1.out j5.out);rw[← j8.out]at RU;cases hr:Q07 xs[i].ln;all_goals
   rw[hr]at RU;have j3:=hid hr;clear hr;go_wp2_with (first
    |(go_at_call 48;refine(RU.out _).mono ?_;rintro e w1⟨rfl,hf⟩)
    |(refine wpList_load_mid rfl 116 _ rfl g (i*14) rfl xs[i].cells _ RG.out Tryz.underlying116 rfl (by rw[LV.cells_len j1.out];exact Q1j) ?_))
  ·go_ret;refine⟨z0s ?_,hfr.trans hf⟩;symm;unfold Q33;rw[qAq];exact⟨xs[i].ln,qBp.2 ⟨xs[i],qG hlt,rfl⟩,by rw[j3.out];rfl⟩
  go_roundw
  case rel =>
   refine⟨i+1,by go_num,?_,by omega,hfr.trans hf⟩;intro j hj hji;by_cases e:j=i
   ·subst e;exact j3.out
   exact j0.out j hj (by omega)
  exact j6.out
 have j7:i=xs.length:=by omega
 subst j7;go_wp2;go_ret;refine⟨z0s ?_,hfr⟩;symm;unfold Q33;rw[List.any_eq_false];intro x hx;simp only[qBp]at hx;obtain⟨y,hy,rfl⟩:=hx;obtain⟨j,hj,rfl⟩:=qAv hy;simp[j0.out j hj hj]
abbrev Q7k(p a b c d e f g k:Int)(sk:Bool)(vn:Value)(st en:Int)(vs:Value):List Value:=[.int .i64 p,.int .u8 a,.int .u8 b,.int .u8 c,.int .u8 d,.int .u8 e,.int .u8 f,.int .u8 g,.int .u8 k,.bool sk,vn,.int .i64 st,.int .i64 en,vs]
end Go.Proofs.YtcpceafmlgaodaaGreat
