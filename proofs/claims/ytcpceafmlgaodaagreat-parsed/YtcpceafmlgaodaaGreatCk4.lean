import Derived.Test.YtcpceafmlgaodaaGreatCk3
namespace Go.Proofs.YtcpceafmlgaodaaGreat
open Go.RowKit
set_option maxRecDepth 99999
set_option maxHeartbeats 0
set_option linter.all false
def Q60(lns:List Ln)(syms:List Wd):Nat->Nat->Option Int
 |0,_=>none
 |f+1,j=>match syms[j]? with|some d=>if Q92 lns d then Q60 lns syms f (j+1) else some d.place|none=>none
def Q7r(lns:List Ln)(syms:List Wd):Option Int:=Q60 lns syms (syms.length+1) 0
def Q6u(lns:List Ln):Nat->Nat->Int
 |0,_=>-1
 |f+1,i=>match lns[i]? with
  |some x=>if Q07 x&&Q24 lns i then x.front.place else(match Q7r lns x.syms with|some p=>p|none=>Q6u lns f (i+1))
  |none=>-1
def Q16(lns:List Ln):Int:=Q6u lns (lns.length+1) 0
theorem Q3u.range{w:World}{g n cap:Nat}{ds:List Wd}(h:Q3u w (.slice (some ⟨g,0,none⟩) n cap) ds)(i:Nat)(hi:i<ds.length):w.rangeAt g (i*9) (ds[i]).cells:=Q2e.range h i hi
def SB(x:LV):Prop:=x.ln.syms.length<=1000
theorem z3f(w:World)(v:Value)(xs:List LV)(hL:Q1s w v xs)(hn:xs.length<=1000)(hfb:∀x∈xs,FB x)(hsb:∀x∈xs,SB x) :
  Calls Tryz.prog 43 #[v] w fun e w'=>e=.returned (.int .i64 (Q16 (xs.map LV.ln)))/\Q0a w w':=by
 obtain⟨ao,cap,hv⟩:=z0d hL.own;subst hv;have HL:=hid hL;have jj:=hid hfb;have jn:=hid hsb;generalize hR:Q16 (xs.map LV.ln)=R;have HR:Hid (Q6u (xs.map LV.ln) ((xs.map LV.ln).length+1) 0=R):=hR;clear hL hfb hR hsb;go_enter Tryz.func43,Tryz.ntmps43
 go_wp2;go_loopw [9] (fun x9 wr=>∃(f i:Nat),x9=.int .i64 i/\Q6u (xs.map LV.ln) f i=R/\xs.length+1<=f+i/\i<=xs.length/\Q0a w wr)
   (fun x _=>1001-(intOf x).toNat)
 case atStart=>exact⟨_,0,rfl,HR.out,by simp,by omega,mRf _ _⟩
 obtain⟨f,i,rfl,hR,hfu,hi,hfr⟩:=hrel;obtain⟨f,rfl⟩:∃g,f=g+1:=⟨f-1,by omega⟩;unfold Q6u at hR;have jl:=hid (Q15 (B:=1001) i (by omega));by_cases hlt:i<xs.length
 ·have jb:i<(xs.map LV.ln).length:=by simpa using hlt
  rw[qE jb]at hR;simp only[qBt]at hR;obtain⟨g,cap',hv'⟩:=Joins.ownsRow_form HL.own (by omega);rw[qI]at hv';obtain⟨rfl,_,rfl⟩:=hv';have j6:=hid (HL.fresh hfr);have RG:=hid (j6.row.range i hlt);have hA:=j6.each xs[i] (by simp);have HA:=hid hA;have j0:=hid hA.front;have jk:=hid (jj.out xs[i] (by simp));have hsb:=jn.out xs[i] (by simp);obtain⟨so,sc,hvs⟩:=z0d hA.syms.own;have jd:=hid (fun w hL=>y3d w (.slice (some ⟨g,0,none⟩) xs.length cap) xs i hL (by omega) hlt);have jp:=LV.at13 hA.front;have k0:=LV.at0 xs[i];rw[hvs]at jp;have jf:=hid hvs;generalize hX:xs[i]=x at *;clear hA hX hvs;unfold SB at hsb;have jo:Hid (Q07 x.ln=!Q14 x.ln.front):=rfl;have RU:=hid (fun w=>z2p x w j0.out jk.out);rw[← jo.out]at RU;cases hra:(Q07 x.ln&&Q24 (xs.map LV.ln) i)
  ·rw[hra]at hR;simp only[qF,qAp]at hR;have j2:=hid hR;clear hR;have j4:(Q07 x.ln=false)∨(Q07 x.ln=true/\Q24 (xs.map LV.ln) i=false):=by
    cases h:Q07 x.ln
    ·exact .inl rfl
    rw[h]at hra;simpa using hra
   clear hra;rcases j4 with hr|⟨hr,hah⟩;all_goals
    rw[hr]at RU;go_wp2_with (first
     |(go_at_call 48;refine(RU.out _).mono ?_;rintro e w1⟨rfl,hf⟩;have j3:=hid ((j6.fresh ((mRf _ wr).alloc (.cells x.cells.toArray 116 (0,0)))).fresh hf);have kc:=Q0b (hf.at (z0a _ _) (fun x=>x));have j5:=hid (hf.at (z0a _ _) (fun x=>x));have j7:=(hfr.alloc (.cells x.cells.toArray 116 (0,0))).trans hf;have j8:Q0a wr w1:=(Mod.alloc (mRf _ wr) (.cells x.cells.toArray 116 (0,0))).trans hf)
     |(go_at_call 78;refine(jd.out _ j3.out).mono ?_;rw[hah];rintro e w2⟨rfl,hf2⟩;replace j3:=hid (j3.fresh hf2);clear kc;have kc:=Q0b (hf2.at j5.out (fun x=>x));replace j5:=hid (hf2.at j5.out (fun x=>x));replace j7:=j7.trans hf2;replace j8:=j8.trans hf2)
     |(refine wpList_load_mid rfl 116 _ rfl g (i*14) rfl x.cells _ RG.out Tryz.underlying116 rfl (by rw[LV.cells_len j0.out];exact Q1j) ?_)
     |(refine z0e rfl 116 _ _ rfl wr _ _ _ rfl rfl rfl (Q09 j0.out) (Q0k rfl (LV.size j0.out)) HA.one ?_)
     |(refine wpList_load_row rfl 116 _ rfl wr.heap.size rfl _ _ _ _ (z0a _ _) Tryz.underlying116 rfl (Q09 j0.out) ?_))
    have jh:=hid j7;have ji:=hid j8;clear kc j7 j8 j5;generalize hS:Q7r (xs.map LV.ln) x.ln.syms=S at j2;have HS:Hid (Q60 (xs.map LV.ln) x.ln.syms (x.ln.syms.length+1) 0=S):=hS;clear hS;obtain⟨wo,hwo⟩:∃wo,wo=wr:=⟨_,rfl⟩;subst hwo;go_loopw [29] (fun y wi=>∃(ff j:Nat),y=.int .i64 j/\Q60 (xs.map LV.ln) x.ln.syms ff j=S/\x.ln.syms.length+1<=ff+j/\j<=x.ln.syms.length/\Q0a w wi/\Q0a wo wi)
     (fun y _=>1001-(intOf y).toNat)
    case atStart=>exact⟨_,0,rfl,HS.out,by omega,by omega,jh.out,ji.out⟩
    obtain⟨ff,j,rfl,hS,hfj,hj,hwi,hri⟩:=hrel;obtain⟨ff,rfl⟩:∃g,ff=g+1:=⟨ff-1,by omega⟩;unfold Q60 at hS;have jm:=hid (Q15 (B:=1001) j (by omega));by_cases hlj:j<x.ln.syms.length
    ·rw[qE hlj]at hS;simp only[]at hS;obtain⟨sg,sc',hv'⟩:=Joins.ownsRow_form HA.syms.own (by omega);rw[jf.out,qI]at hv';obtain⟨rfl,_,rfl⟩:=hv';have j9:=HA.syms;rw[jf.out]at j9;have jg:=hid (Q3u.range (Q2e.fresh j9 hri) j hlj);have jc:=j9.wf _ (qG hlj);have j1:Hid (x.ln.syms[j].ls.length=8):=by unfold Hid;simp[Wd.cells]at jc;exact jc
     have IS:=hid (fun w hL=>y36 w (.slice (some ⟨g,0,none⟩) xs.length cap) xs x.ln.syms[j] hL (by omega) j1.out);have je:=hid (HL.fresh hwi);have kp:x.ln.syms[j].cells.toArray[0]? = some (.int .i64 x.ln.syms[j].place):=by simp[Wd.cells]
     generalize x.ln.syms[j]=dj at *;clear j9 jc;cases hsb2:Q92 (xs.map LV.ln) dj
     ·rw[hsb2]at hS;simp only[qF,qAp]at hS;have ja:=hid hS;clear hS;go_wp2_with (first
       |(go_at_call 79;refine(IS.out _ (je.fresh ((mRf _ wr).alloc _))).mono ?_;rw[hsb2];rintro e w5⟨rfl,hf5⟩;have kq:=Q0b (hf5.at (z0a _ _) (fun x=>x)))
       |(refine wpList_load_mid rfl 111 _ rfl sg (j*9) rfl dj.cells _ jg.out Tryz.underlying111 rfl (by rw[Wd.cells_len j1.out];exact Q2o) ?_)
       |(refine z0e rfl 111 _ _ rfl wr _ _ _ rfl rfl rfl (Q1u j1.out) (Q0k rfl (Wd.size j1.out)) (Wd.one _) ?_)
       |(refine wpList_load_row rfl 111 _ rfl wr.heap.size rfl _ _ _ _ (z0a _ _) Tryz.underlying111 rfl (Q1u j1.out) ?_))
      go_ret;have e1:=j2.out;rw[← ja.out]at e1;exact⟨z1h e1,(hwi.alloc _).trans hf5⟩
     rw[hsb2]at hS;simp only[qBb]at hS;have ja:=hid hS;clear hS;go_wp2_with (first
      |(go_at_call 79;refine(IS.out _ (je.fresh ((mRf _ wr).alloc _))).mono ?_;rw[hsb2];rintro e w5⟨rfl,hf5⟩)
      |(refine wpList_load_mid rfl 111 _ rfl sg (j*9) rfl dj.cells _ jg.out Tryz.underlying111 rfl (by rw[Wd.cells_len j1.out];exact Q2o) ?_)
      |(refine z0e rfl 111 _ _ rfl wr _ _ _ rfl rfl rfl (Q1u j1.out) (Q0k rfl (Wd.size j1.out)) (Wd.one _) ?_)
      |(refine wpList_load_row rfl 111 _ rfl wr.heap.size rfl _ _ _ _ (z0a _ _) Tryz.underlying111 rfl (Q1u j1.out) ?_))
     go_roundw
     case rel=>exact⟨ff,j+1,by go_num,ja.out,by omega,by omega,(hwi.alloc _).trans hf5,(hri.alloc _).trans hf5⟩
     exact jm.out
    rw[qN (by omega)]at hS;simp only[]at hS;have e1:=j2.out;rw[← hS]at e1;simp only[]at e1;have E1:=hid e1;clear hS e1;go_wp2;go_roundw
    case rel=>exact⟨f,i+1,by go_num,E1.out,by omega,by omega,hwi⟩
    exact jl.out
  rw[hra]at hR;simp only[qBb]at hR;have j2:=hid hR;simp only[qAc]at hra;obtain⟨hr,hah⟩:=hra;rw[hr]at RU;clear hR;go_wp2_with (first
   |(go_at_call 48;refine(RU.out _).mono ?_;rintro e w1⟨rfl,hf⟩;have j3:=hid ((j6.fresh ((mRf _ wr).alloc (.cells x.cells.toArray 116 (0,0)))).fresh hf))
   |(go_at_call 78;refine(jd.out _ j3.out).mono ?_;rw[hah];rintro e w2⟨rfl,hf2⟩;have kc:=Q0b (hf2.at (hf.at (z0a _ _) (fun x=>x)) (fun x=>x)))
   |(refine wpList_load_mid rfl 116 _ rfl g (i*14) rfl x.cells _ RG.out Tryz.underlying116 rfl (by rw[LV.cells_len j0.out];exact Q1j) ?_)
   |(refine z0e rfl 116 _ _ rfl wr _ _ _ rfl rfl rfl (Q09 j0.out) (Q0k rfl (LV.size j0.out)) HA.one ?_)
   |(refine wpList_load_row rfl 116 _ rfl wr.heap.size rfl _ _ _ _ (z0a _ _) Tryz.underlying116 rfl (Q09 j0.out) ?_))
  go_ret;exact⟨z1h j2.out,((hfr.alloc _).trans hf).trans hf2⟩
 rw[qN (by simp;omega)]at hR;have j2:=hid hR;clear hR;go_wp2;go_ret;exact⟨z1h j2.out,hfr⟩
def emptyB(x:Ln):Bool:=Q07 x&&(Q72 x.ns x.st x.en ByteArray.empty 0==0)
def Q7e(lns:List Ln):Nat->Nat->Int
 |0,_=>-1
 |f+1,i=>match lns[i]? with|some x=>if emptyB x then x.front.place else Q7e lns f (i+1)|none=>-1
def Q6m(lns:List Ln):Int:=Q7e lns (lns.length+1) 0
theorem y4g(w:World)(v:Value)(st en:Int)(ns:List Q0o)(hN:Q12 w v ns)(hn:ns.length<=100000) :
  Calls Tryz.prog 80 #[patV v st en,.string ⟨#[]⟩,.int .i64 0] w fun e w'=>e=.returned (.int .i64 (Q72 ns st en ByteArray.empty 0))/\Q0a w w':=by
 have:=y6m w v st en ns ByteArray.empty 0 hN hn (by simp) (by omega);exact this
theorem z6v(w:World)(v:Value)(xs:List LV)(hL:Q1s w v xs)(hn:xs.length<=1000)(hfb:∀x∈xs,FB x) :
  Calls Tryz.prog 44 #[v] w fun e w'=>e=.returned (.int .i64 (Q6m (xs.map LV.ln)))/\Q0a w w':=by
 obtain⟨ao,cap,hv⟩:=z0d hL.own;subst hv;have HL:=hid hL;have j6:=hid hfb;generalize hR:Q6m (xs.map LV.ln)=R;have HR:Hid (Q7e (xs.map LV.ln) ((xs.map LV.ln).length+1) 0=R):=hR;clear hL hfb hR;go_enter Tryz.func44,Tryz.ntmps44
 go_wp2;go_loopw [7] (fun x9 wr=>∃(f i:Nat),x9=.int .i64 i/\Q7e (xs.map LV.ln) f i=R/\xs.length+1<=f+i/\i<=xs.length/\Q0a w wr)
   (fun x _=>1001-(intOf x).toNat)
 case atStart=>exact⟨_,0,rfl,HR.out,by simp,by omega,mRf _ _⟩
 obtain⟨f,i,rfl,hR,hfu,hi,hfr⟩:=hrel;obtain⟨f,rfl⟩:∃g,f=g+1:=⟨f-1,by omega⟩;unfold Q7e at hR;have j4:=hid (Q15 (B:=1001) i (by omega));by_cases hlt:i<xs.length
 ·have j2:i<(xs.map LV.ln).length:=by simpa using hlt
  rw[qE j2]at hR;simp only[qBt]at hR;obtain⟨g,cap',hv'⟩:=Joins.ownsRow_form HL.own (by omega);rw[qI]at hv';obtain⟨rfl,_,rfl⟩:=hv';have j3:=hid (HL.fresh hfr);have RG:=hid (j3.row.range i hlt);have hA:=j3.each xs[i] (by simp);have HA:=hid hA;have j0:=hid hA.front;have j7:=hid (j6.out xs[i] (by simp));have k0:=LV.at0 xs[i];obtain⟨k10,k11,k12⟩:=LV.at10 hA.front;generalize hX:xs[i]=x at *;clear hA hX;have j9:Hid (Q07 x.ln=!Q14 x.ln.front):=rfl;have RU:=hid (fun w=>z2p x w j0.out j7.out);rw[← j9.out]at RU;have LG:=hid (fun w hN=>y4g w x.vn x.ln.st x.ln.en x.ln.ns hN (by have:=HA.small;omega));unfold emptyB at hR;generalize Q72 x.ln.ns x.ln.st x.ln.en ByteArray.empty 0=lg at hR LG;cases hr:Q07 x.ln
  ·rw[hr]at hR RU;simp only[qCi,qF,qAp]at hR;have j1:=hid hR;clear hR;go_wp2_with (first
    |(go_at_call 48;refine(RU.out _).mono ?_;rintro e w1⟨rfl,hf⟩)
    |(refine wpList_load_mid rfl 116 _ rfl g (i*14) rfl x.cells _ RG.out Tryz.underlying116 rfl (by rw[LV.cells_len j0.out];exact Q1j) ?_)
    |(refine z0e rfl 116 _ _ rfl wr _ _ _ rfl rfl rfl (Q09 j0.out) (Q0k rfl (LV.size j0.out)) HA.one ?_)
    |(refine wpList_load_row rfl 116 _ rfl wr.heap.size rfl _ _ _ _ (z0a _ _) Tryz.underlying116 rfl (Q09 j0.out) ?_))
   go_roundw
   case rel=>exact⟨f,i+1,by go_num,j1.out,by omega,by omega,(hfr.alloc _).trans hf⟩
   exact j4.out
  rw[hr]at hR RU;simp only[qBa]at hR;cases hlg:(lg==0);all_goals
   rw[hlg]at hR;simp only[qF,qAp,qBb]at hR;have j1:=hid hR;clear hR;go_wp2_with (first
    |(go_at_call 48;refine(RU.out _).mono ?_;rintro e w1⟨rfl,hf⟩;have kc:=Q0b (hf.at (z0a _ _) (fun x=>x));have j5:=hid (hf.at (z0a _ _) (fun x=>x));have j8:=hid ((HA.nodes.fresh ((mRf _ wr).alloc (.cells x.cells.toArray 116 (0,0)))).fresh hf))
    |(go_at_call 80;refine(LG.out _ j8.out).mono ?_;rintro e w2⟨rfl,hf2⟩;clear kc;have kc:=Q0b (hf2.at j5.out (fun x=>x)))
    |(refine wpList_load_mid rfl 116 _ rfl g (i*14) rfl x.cells _ RG.out Tryz.underlying116 rfl (by rw[LV.cells_len j0.out];exact Q1j) ?_)
    |(refine z0e rfl 116 _ _ rfl wr _ _ _ rfl rfl rfl (Q09 j0.out) (Q0k rfl (LV.size j0.out)) HA.one ?_)
    |(refine wpList_load_row rfl 116 _ rfl wr.heap.size rfl _ _ _ _ (z0a _ _) Tryz.underlying116 rfl (Q09 j0.out) ?_))
  ·go_roundw
   case rel=>exact⟨f,i+1,by go_num,j1.out,by omega,by omega,((hfr.alloc _).trans hf).trans hf2⟩
   exact j4.out
  go_ret;exact⟨z1h j1.out,((hfr.alloc _).trans hf).trans hf2⟩
 rw[qN (by simp;omega)]at hR;have j1:=hid hR;clear hR;go_wp2;go_ret;exact⟨z1h j1.out,hfr⟩
def Q33(lns:List Ln):Bool:=lns.any (fun x=>!Q07 x)
theorem z85(w:World)(v:Value)(xs:List LV)(hL:Q1s w v xs)(hn:xs.length<=1000)(hfb:∀x∈xs,FB x) :
  Calls Tryz.prog 45 #[v] w fun e w'=>e=.returned (.bool (Q33 (xs.map LV.ln)))/\Q0a w w':=by
 obtain⟨ao,cap,hv⟩:=z0d hL.own;subst hv;have HL:=hid hL;have j4:=hid hfb;clear hL hfb;go_enter Tryz.func45,Tryz.ntmps45
 go_wp2;go_loopw [6] (fun x9 wr=>∃(i:Nat),x9=.int .i64 i/\(∀j (hj:j<xs.length),j<i->Q07 xs[j].ln=true)/\i<=xs.length/\Q0a w wr)
   (fun x _=>1001-(intOf x).toNat)
 case atStart=>exact⟨0,rfl,fun j _ h=>by omega,by omega,mRf _ _⟩
 obtain⟨i,rfl,hall,hi,hfr⟩:=hrel;have j6:=hid (Q15 (B:=1001) i (by omega));have j0:=hid hall;clear hall;by_cases hlt:i<xs.length
 ·obtain⟨g,cap',hv'⟩:=Joins.ownsRow_form HL.own (by omega);rw[qI]at hv';obtain⟨rfl,_,rfl⟩:=hv';have j2:=hid (HL.fresh hfr);have RG:=hid (j2.row.range i hlt);have j1:=hid (j2.each xs[i] (by simp)).front;have j5:=hid (j4.out xs[i] (by simp));have j8:Hid (Q07 xs[i].ln=!Q14 xs[i].ln.front):=rfl;have RU:=hid (fun w=>z2p xs[i] w j1.out j5.out);rw[← j8.out]at RU;cases hr:Q07 xs[i].ln;all_goals
   rw[hr]at RU;have j3:=hid hr;clear hr;go_wp2_with (first
    |(go_at_call 48;refine(RU.out _).mono ?_;rintro e w1⟨rfl,hf⟩)
    |(refine wpList_load_mid rfl 116 _ rfl g (i*14) rfl xs[i].cells _ RG.out Tryz.underlying116 rfl (by rw[LV.cells_len j1.out];exact Q1j) ?_))
  ·go_ret;refine⟨z0s ?_,hfr.trans hf⟩;symm;unfold Q33;rw[qAq];exact⟨xs[i].ln,qBp.2 ⟨xs[i],qG hlt,rfl⟩,by rw[j3.out];rfl⟩
  go_roundw
  case rel =>
   refine⟨i+1,by go_num,?_,by omega,hfr.trans hf⟩;intro j hj hji;by_cases e:j=i
   ·subst e;exact j3.out
   exact j0.out j hj (by omega)
  exact j6.out
 have j7:i=xs.length:=by omega
 subst j7;go_wp2;go_ret;refine⟨z0s ?_,hfr⟩;symm;unfold Q33;rw[List.any_eq_false];intro x hx;simp only[qBp]at hx;obtain⟨y,hy,rfl⟩:=hx;obtain⟨j,hj,rfl⟩:=qAv hy;simp[j0.out j hj hj]
abbrev Q7k(p a b c d e f g k:Int)(sk:Bool)(vn:Value)(st en:Int)(vs:Value):List Value:=[.int .i64 p,.int .u8 a,.int .u8 b,.int .u8 c,.int .u8 d,.int .u8 e,.int .u8 f,.int .u8 g,.int .u8 k,.bool sk,vn,.int .i64 st,.int .i64 en,vs]
structure LnOk(s:ByteArray)(x:Ln):Prop where
 fb:0<=x.front.ls.getD 0 0/\x.front.ls.getD 0 0<=255
 sb:(x.syms.length:Int)<=s.size
theorem z29(s:ByteArray):LnOk s Q4c:=⟨by simp[Q4c,zero8],by simp[Q4c]⟩
theorem y4s(s:ByteArray)(d:Wd)(hd:0<=d.ls.getD 0 0/\d.ls.getD 0 0<=255):∀(f:Nat) (next:Int) (syms:List Wd),0<=next->next<=s.size->(syms.length:Int)<=next->LnOk s (Q2w s d f next syms).1
 |0,_,_,_,_,_=>z29 s
 |f+1,next,syms,h0,h1,h2=>by
  obtain⟨b1,b2,b3⟩:=z5j s (next+1) (by omega);unfold Q2w;split
  ·split
   ·exact z29 s
   rename_i h3;have b4:=b3 (by simpa using h3);exact y4s s d hd f _ _ (by omega) (by omega) (by simp;omega)
  split
  ·exact z29 s
  exact⟨hd,by dsimp only;omega⟩
theorem x66(s:ByteArray)(i:Int)(h0:0<=i)(h1:i<=s.size):LnOk s (Q2s s i).1:=by
 obtain⟨b1,b2,b3⟩:=z5j s i h0;have hz:=z65 s i;unfold Q2s;split
 ·exact z29 s
 rename_i h3;have b4:=b3 (by simpa using h3);split
 ·unfold Q6e;split
  ·exact z29 s
  have:=z0q (s:=s) (i:=(Q06 s i).2.1) (by omega);exact y4s s _ hz _ _ _ (by omega) (by omega) (by simp;omega)
 unfold Q6f;split
 ·exact z29 s
 split
 ·exact z29 s
 split
 ·exact z29 s
 exact⟨hz,by simp⟩
theorem y1b(s:ByteArray):∀(f:Nat) (i:Int) (acc:List Ln),0<=i->i<=s.size->(acc.length:Int)<=i->(∀x∈acc,LnOk s x)->((Q1k s f i acc).1.length:Int)<=s.size/\∀x∈(Q1k s f i acc).1,LnOk s x
 |0,i,acc,h0,h1,h2,h3=>by simp[Q1k]
 |f+1,i,acc,h0,h1,h2,h3=>by
  obtain⟨b1,b2,b3⟩:=y8p s i h0 h1;unfold Q1k;split
  ·split
   ·simp
   rename_i h5;have b4:=b3 (by simpa using h5);refine y1b s f _ _ (by omega) (by omega) (by simp;omega) ?_;intro x hx;rcases qBj.1 hx with h|h
   ·exact h3 x h
   simp at h;subst h;exact x66 s i h0 h1
  exact⟨by dsimp only;omega,h3⟩
theorem z47(s:ByteArray):((Q0c s).1.length:Int)<=s.size/\∀x∈(Q0c s).1,LnOk s x:=y1b s _ 0 [] (by omega) (by omega) (by simp) (by simp)
def Q0t(s:ByteArray):Int × Int :=
 if 800<s.size then(1,0)
 else if(Q0c s).2.2=false then(2,(Q0c s).2.1)
 else if Q3q (Q0c s).1≠-1 then(3,Q3q (Q0c s).1)
 else if Q16 (Q0c s).1≠-1 then(4,Q16 (Q0c s).1)
 else if Q6m (Q0c s).1≠-1 then(5,Q6m (Q0c s).1)
 else if Q33 (Q0c s).1=false then(6,s.size)
 else(0,0)
theorem z8m(s:ByteArray):Q0t s=(if 800<s.size then(1,0)
 else if(Q0c s).2.2=false then(2,(Q0c s).2.1)
 else if Q3q (Q0c s).1≠-1 then(3,Q3q (Q0c s).1)
 else if Q16 (Q0c s).1≠-1 then(4,Q16 (Q0c s).1)
 else if Q6m (Q0c s).1≠-1 then(5,Q6m (Q0c s).1)
 else if Q33 (Q0c s).1=false then(6,s.size)
 else(0,0)):=rfl
def Q7c(s:ByteArray)(w:World)(e:Ending)(w':World):Prop :=
 ∃v,e=.returned (.tuple #[v,.int .i64 (Q0t s).1,.int .i64 (Q0t s).2])/\Q0a w w'/\(∃xs,Q1s w' v xs/\((Q0t s).1≠0/\xs=[]/\v=.slice none 0 0∨(Q0t s).1=0/\xs.map LV.ln=(Q0c s).1))
theorem nilLines(w:World):Q1s w (.slice none 0 0) []:=⟨World.ownsRow_nil _ _ _ _,fun _ h=>by cases h⟩
theorem z2e{s:ByteArray}{w w':World}{e:Ending}{a b:Int}(h:Q0t s=(a,b))(ha:a≠0)(he:e=.returned (.tuple #[.slice none 0 0,.int .i64 a,.int .i64 b]))(hf:Q0a w w'):Q7c s w e w' :=
 ⟨_,by rw[h];exact he,hf,[],nilLines _,.inl ⟨by rw[h];exact ha,rfl,rfl⟩⟩
theorem y9l(s:ByteArray)(w:World)(hs:s.size<=maxLen)(hl:800<s.size) :
  Calls Tryz.prog 19 #[.string s] w fun e w'=>Q7c s w e w':=by
 have hc:Q0t s=(1,0):=by unfold Q0t;rw[qAb hl]
 have HC:=hid hc;unfold maxLen at hs;clear hc;go_enter Tryz.func19,Tryz.ntmps19
 go_wp2;go_ret3
 exact z2e HC.out (by decide) rfl (mRf _ _)
theorem y56(s:ByteArray)(w:World)(hl:¬800<s.size) :
  Calls Tryz.prog 19 #[.string s] w fun e w'=>Q7c s w e w':=by
 obtain⟨hlen,hok⟩:=z47 s;have j1:=hid hok;have hc:=z8m s;rw[qAa hl]at hc;have RL:=hid (fun w=>y2n s w (by omega));have j3:Hid ((Q0c s).1=(Q0c s).1):=rfl;cases hok1:(Q0c s).2.2
 ·rw[qAb hok1]at hc;have HC:=hid hc;rw[hok1]at RL;clear hc hok;go_enter Tryz.func19,Tryz.ntmps19
  go_wp2_with (first
   |(go_at_call 41;refine(RL.out _).mono ?_;rintro e w1⟨v,xs,hx,rfl,hf1,hL⟩;obtain⟨ao,cap,hv⟩:=z0d hL.own;subst hv;have HX:=hid hx;clear hx))
  go_ret3
  exact z2e HC.out (by decide) rfl hf1
 rw[qAa (by simp[hok1])]at hc;rw[hok1]at RL;have j2:∀xs:List LV,xs.map LV.ln=(Q0c s).1->xs.length<=1000/\(∀x∈xs,FB x)/\(∀x∈xs,SB x):=by
  intro xs hx;have h1:xs.length=(Q0c s).1.length:=by rw[← hx];simp
  refine⟨by omega,?_,?_⟩
  ·intro x hxx;exact(j1.out x.ln (by rw[← hx];exact qBp.2 ⟨x,hxx,rfl⟩)).fb
  intro x hxx;have:=(j1.out x.ln (by rw[← hx];exact qBp.2 ⟨x,hxx,rfl⟩)).sb;unfold SB;omega
 have j0:=hid j2;clear j2 hok;by_cases t1:Q3q (Q0c s).1=-1
 ·rw[qAa (by simp[t1])]at hc;by_cases t2:Q16 (Q0c s).1=-1
  ·rw[qAa (by simp[t2])]at hc;by_cases t3:Q6m (Q0c s).1=-1
   ·rw[qAa (by simp[t3])]at hc;have T1:=hid t1;have T2:=hid t2;have T3:=hid t3;clear t1 t2 t3;cases t4:Q33 (Q0c s).1
    ·rw[qAb t4]at hc;have HC:=hid hc;have T4:=hid t4;clear hc t4;go_enter Tryz.func19,Tryz.ntmps19
     go_wp2_with (first
      |(go_at_call 41;refine(RL.out _).mono ?_;rintro e w1⟨v,xs,hx,rfl,hf1,hL⟩;obtain⟨ao,cap,hv⟩:=z0d hL.own;subst hv;have HX:=hid hx;obtain⟨q1,q2,q3⟩:=j0.out xs hx;have HL:=hid hL;clear hL hx)
      |(go_at_call 42;refine(z3p _ _ xs HL.out q1 q2).mono ?_;rw[HX.out,T1.out];rintro e w2⟨rfl,hf2⟩;replace HL:=hid (HL.fresh hf2);replace hf1:=hf1.trans hf2)
      |(go_at_call 43;refine(z3f _ _ xs HL.out q1 q2 q3).mono ?_;rw[HX.out,T2.out];rintro e w2⟨rfl,hf2⟩;replace HL:=hid (HL.fresh hf2);replace hf1:=hf1.trans hf2)
      |(go_at_call 44;refine(z6v _ _ xs HL.out q1 q2).mono ?_;rw[HX.out,T3.out];rintro e w2⟨rfl,hf2⟩;replace HL:=hid (HL.fresh hf2);replace hf1:=hf1.trans hf2)
      |(go_at_call 45;refine(z85 _ _ xs HL.out q1 q2).mono ?_;rw[HX.out,T4.out];rintro e w2⟨rfl,hf2⟩;replace HL:=hid (HL.fresh hf2);replace hf1:=hf1.trans hf2))
     go_ret3
     exact z2e HC.out (by decide) rfl hf1
    rw[qAa (by simp[t4])]at hc;have HC:=hid hc;have T4:=hid t4;clear hc t4;go_enter Tryz.func19,Tryz.ntmps19
    go_wp2_with (first
     |(go_at_call 41;refine(RL.out _).mono ?_;rintro e w1⟨v,xs,hx,rfl,hf1,hL⟩;obtain⟨ao,cap,hv⟩:=z0d hL.own;subst hv;have HX:=hid hx;obtain⟨q1,q2,q3⟩:=j0.out xs hx;have HL:=hid hL;clear hL hx)
     |(go_at_call 42;refine(z3p _ _ xs HL.out q1 q2).mono ?_;rw[HX.out,T1.out];rintro e w2⟨rfl,hf2⟩;replace HL:=hid (HL.fresh hf2);replace hf1:=hf1.trans hf2)
     |(go_at_call 43;refine(z3f _ _ xs HL.out q1 q2 q3).mono ?_;rw[HX.out,T2.out];rintro e w2⟨rfl,hf2⟩;replace HL:=hid (HL.fresh hf2);replace hf1:=hf1.trans hf2)
     |(go_at_call 44;refine(z6v _ _ xs HL.out q1 q2).mono ?_;rw[HX.out,T3.out];rintro e w2⟨rfl,hf2⟩;replace HL:=hid (HL.fresh hf2);replace hf1:=hf1.trans hf2)
     |(go_at_call 45;refine(z85 _ _ xs HL.out q1 q2).mono ?_;rw[HX.out,T4.out];rintro e w2⟨rfl,hf2⟩;replace HL:=hid (HL.fresh hf2);replace hf1:=hf1.trans hf2))
    go_ret3
    exact⟨_,by rw[HC.out];rfl,hf1,xs,HL.out,.inr ⟨by rw[HC.out],HX.out⟩⟩
   rw[qAb t3]at hc;have HC:=hid hc;have T1:=hid t1;have T2:=hid t2;have c3:(Q6m (Q0c s).1 != -1)=true:=by simpa using t3
   clear hc t1 t2 t3;go_enter Tryz.func19,Tryz.ntmps19
   go_wp2_with (first
    |(go_at_call 41;refine(RL.out _).mono ?_;rintro e w1⟨v,xs,hx,rfl,hf1,hL⟩;obtain⟨ao,cap,hv⟩:=z0d hL.own;subst hv;have HX:=hid hx;obtain⟨q1,q2,q3⟩:=j0.out xs hx;have HL:=hid hL;clear hL hx)
    |(go_at_call 42;refine(z3p _ _ xs HL.out q1 q2).mono ?_;rw[HX.out,T1.out];rintro e w2⟨rfl,hf2⟩;replace HL:=hid (HL.fresh hf2);replace hf1:=hf1.trans hf2)
    |(go_at_call 43;refine(z3f _ _ xs HL.out q1 q2 q3).mono ?_;rw[HX.out,T2.out];rintro e w2⟨rfl,hf2⟩;replace HL:=hid (HL.fresh hf2);replace hf1:=hf1.trans hf2)
    |(go_at_call 44;refine(z6v _ _ xs HL.out q1 q2).mono ?_;rw[HX.out];rintro e w2⟨rfl,hf2⟩;replace HL:=hid (HL.fresh hf2);replace hf1:=hf1.trans hf2))
   go_ret3
   exact z2e HC.out (by decide) rfl hf1
  rw[qAb t2]at hc;have HC:=hid hc;have T1:=hid t1;have c3:(Q16 (Q0c s).1 != -1)=true:=by simpa using t2
  clear hc t1 t2;go_enter Tryz.func19,Tryz.ntmps19
  go_wp2_with (first
   |(go_at_call 41;refine(RL.out _).mono ?_;rintro e w1⟨v,xs,hx,rfl,hf1,hL⟩;obtain⟨ao,cap,hv⟩:=z0d hL.own;subst hv;have HX:=hid hx;obtain⟨q1,q2,q3⟩:=j0.out xs hx;have HL:=hid hL;clear hL hx)
   |(go_at_call 42;refine(z3p _ _ xs HL.out q1 q2).mono ?_;rw[HX.out,T1.out];rintro e w2⟨rfl,hf2⟩;replace HL:=hid (HL.fresh hf2);replace hf1:=hf1.trans hf2)
   |(go_at_call 43;refine(z3f _ _ xs HL.out q1 q2 q3).mono ?_;rw[HX.out];rintro e w2⟨rfl,hf2⟩;replace HL:=hid (HL.fresh hf2);replace hf1:=hf1.trans hf2))
  go_ret3
  exact z2e HC.out (by decide) rfl hf1
 rw[qAb t1]at hc;have HC:=hid hc;have c3:(Q3q (Q0c s).1 != -1)=true:=by simpa using t1
 clear hc t1;go_enter Tryz.func19,Tryz.ntmps19
 go_wp2_with (first
  |(go_at_call 41;refine(RL.out _).mono ?_;rintro e w1⟨v,xs,hx,rfl,hf1,hL⟩;obtain⟨ao,cap,hv⟩:=z0d hL.own;subst hv;have HX:=hid hx;obtain⟨q1,q2,q3⟩:=j0.out xs hx;have HL:=hid hL;clear hL hx)
  |(go_at_call 42;refine(z3p _ _ xs HL.out q1 q2).mono ?_;rw[HX.out];rintro e w2⟨rfl,hf2⟩;replace HL:=hid (HL.fresh hf2);replace hf1:=hf1.trans hf2))
 go_ret3
 exact z2e HC.out (by decide) rfl hf1
theorem z5o(s:ByteArray)(w:World)(hs:s.size<=maxLen) :
  Calls Tryz.prog 19 #[.string s] w fun e w'=>Q7c s w e w':=by
 by_cases hl:800<s.size
 ·exact y9l s w hs hl
 exact y56 s w hl
def Q1l(ds:List Wd)(ls:List Int):Nat:=ds.findIdx (fun x=>x.ls==ls)
theorem z4w(w:World)(v:Value)(xs:List Wd)(dd:Wd)(hL:Q3u w v xs)(hx8:∀x∈xs,x.ls.length=8)(hn:xs.length<=100000)(hl:dd.ls.length=8) :
  Calls Tryz.prog 81 #[v,.agg dd.cells.toArray] w fun e w'=>e=.returned (.int .i64 (Q1l xs dd.ls))/\Q0a w w':=by
 obtain⟨p,ls⟩:=dd;obtain⟨b1,b2,b3,b4,b5,b6,b7,b8,rfl⟩:=Q59 hl;have e1:(Wd.cells ⟨p,[b1,b2,b3,b4,b5,b6,b7,b8]⟩).toArray=Q61 p b1 b2 b3 b4 b5 b6 b7 b8:=rfl;rw[e1];obtain⟨ao,cap,hv⟩:=z0d hL.own;subst hv;have HL:=hid hL;have j4:=hid hx8;clear hL e1 hl hx8;go_enter Tryz.func81,Tryz.ntmps81
 go_wp2;go_loopw [8] (fun x8 wr=>∃(k:Nat),x8=.int .i64 k/\k<=xs.length/\(∀j (hj:j<k) (hx:j<xs.length),xs[j].ls≠[b1,b2,b3,b4,b5,b6,b7,b8])/\Q0a w wr/\wr.heap[w.heap.size]? = some (.cells (Q61 p b1 b2 b3 b4 b5 b6 b7 b8) 111 (0,0)))
   (fun x _=>100001-(intOf x).toNat)
 case atStart=>exact⟨0,rfl,by omega,fun j hj=>by omega,(mRf _ w).alloc _,z0a _ _⟩
 obtain⟨k,rfl,hk,hall,hfr,hb⟩:=hrel;have HA:=hid hall;have j3:=hid (Q15 (B:=100001) k (by omega));have HB:=hid hb;have c1:=Q0b hb;clear hall hb;by_cases hlt:k<xs.length
 ·obtain⟨g,cap',hv'⟩:=Joins.ownsRow_form HL.own (by omega);rw[qI]at hv';obtain⟨rfl,_,rfl⟩:=hv';have j2:=hid (HL.fresh hfr);have j0:=fun j hj=>j2.cell k j hlt hj;have hA:=j4.out xs[k] (by simp);obtain⟨a1,a2,a3,a4,a5,a6,a7,a8,hls⟩:=Q59 hA;have j1:=hid hls;have d1:wr.cell? ⟨g,k*9+1,none⟩=some (.int .u8 a1):=by rw[j0 1 (by omega)];simp[Wd.cells,hls]
  have d2:wr.cell? ⟨g,k*9+2,none⟩=some (.int .u8 a2):=by rw[j0 2 (by omega)];simp[Wd.cells,hls]
  have d3:wr.cell? ⟨g,k*9+3,none⟩=some (.int .u8 a3):=by rw[j0 3 (by omega)];simp[Wd.cells,hls]
  have d4:wr.cell? ⟨g,k*9+4,none⟩=some (.int .u8 a4):=by rw[j0 4 (by omega)];simp[Wd.cells,hls]
  have d5:wr.cell? ⟨g,k*9+5,none⟩=some (.int .u8 a5):=by rw[j0 5 (by omega)];simp[Wd.cells,hls]
  have d6:wr.cell? ⟨g,k*9+6,none⟩=some (.int .u8 a6):=by rw[j0 6 (by omega)];simp[Wd.cells,hls]
  have d7:wr.cell? ⟨g,k*9+7,none⟩=some (.int .u8 a7):=by rw[j0 7 (by omega)];simp[Wd.cells,hls]
  have d8:wr.cell? ⟨g,k*9+8,none⟩=some (.int .u8 a8):=by rw[j0 8 (by omega)];simp[Wd.cells,hls]
  obtain⟨qq,hqq,q8⟩:∃qq,qq=([a1,a2,a3,a4,a5,a6,a7,a8]==[b1,b2,b3,b4,b5,b6,b7,b8])/\∀w,(Op.equalIn 10000 109 (.agg #[.int .u8 a1,.int .u8 a2,.int .u8 a3,.int .u8 a4,.int .u8 a5,.int .u8 a6,.int .u8 a7,.int .u8 a8]) (.agg #[.int .u8 b1,.int .u8 b2,.int .u8 b3,.int .u8 b4,.int .u8 b5,.int .u8 b6,.int .u8 b7,.int .u8 b8])).run Tryz.prog w=.ok qq w:=⟨_,rfl,fun w=>arr8 9998 w a1 a2 a3 a4 a5 a6 a7 a8 b1 b2 b3 b4 b5 b6 b7 b8⟩;have HQ:=hid hqq;clear hqq;have g8:=guard8;clear j0 hA hls;go_wp2;go_quiet (fail);cases qq
  ·clear q8 g8;go_wp2;go_roundw
   case rel =>
    refine⟨k+1,by go_num,by omega,?_,Mod.of_heap hfr rfl rfl rfl rfl,HB.out⟩;intro j hj hx;by_cases e:j=k
    ·subst e;rw[j1.out];intro e2;have:=HQ.out;rw[e2]at this;simp at this
    exact HA.out j (by omega) hx
   exact j3.out
  clear q8 g8;go_wp2;go_ret;refine⟨z1h ?_,Mod.of_heap hfr rfl rfl rfl rfl⟩;have:Q1l xs [b1,b2,b3,b4,b5,b6,b7,b8]=k:=by
   unfold Q1l;rw[List.findIdx_eq hlt];refine⟨?_,?_⟩
   ·rw[j1.out];exact HQ.symm
   intro j hj;simpa using HA.out j hj (by omega)
  rw[this]
 have j5:k=xs.length:=by omega
 subst j5;go_wp2;go_ret;refine⟨z1h ?_,hfr⟩;have:Q1l xs [b1,b2,b3,b4,b5,b6,b7,b8]=xs.length:=by
  unfold Q1l;apply qCv;intro x hx;obtain⟨j,hj,rfl⟩:=qAv hx;simpa using HA.out j hj hj
 rw[this]
theorem infoWd:(Tryz.prog.info? 111).map (fun i=>(i.zero,i.size,i.bytes))=some (some (.agg (Wd.cells ⟨0,zero8⟩).toArray),9,16):=by kernel_rfl
theorem infoWd':∃i,Tryz.prog.info? 111=some i/\i.zero=some (.agg (Wd.cells ⟨0,zero8⟩).toArray)/\i.size=9/\i.bytes=16:=nfoE infoWd
abbrev Q5v(p a b c d e f g k:Int):List Value:=[.int .i64 p,.int .u8 a,.int .u8 b,.int .u8 c,.int .u8 d,.int .u8 e,.int .u8 f,.int .u8 g,.int .u8 k]
theorem Q6g{α:Type}{xs:List α}{i:Nat}(h:i<xs.length):xs.take (i+1)=xs.take i++[xs[i]]:=by rw[qCc,qE h];rfl
def Q0f(lns:List Ln):List Wd:=(lns.filter Q07).map Ln.front
theorem y9t(w:World)(v:Value)(xs:List LV)(hL:Q1s w v xs)(hn:xs.length<=1000)(hfb:∀x∈xs,FB x) :
  Calls Tryz.prog 46 #[v] w fun e w'=>∃v',e=.returned v'/\w'.ownsRow w.heap.size 111 9 v' (Q0f (xs.map LV.ln)).length (Q00 Wd.cells (Q0f (xs.map LV.ln)))/\Q0a w w':=by
 obtain⟨ao,cap,hv⟩:=z0d hL.own;subst hv;have HL:=hid hL;have j9:=hid hfb;obtain⟨i0,hi0,hz0,hz1,hz2⟩:=infoWd';clear hL hfb;go_enter Tryz.func46,Tryz.ntmps46
 go_wp2;go_loopw [3,4,7] (fun x3 _ x7 wr=>∃(i:Nat),x7=.int .i64 i/\i<=xs.length/\wr.ownsRow w.heap.size 111 9 x3 (Q0f ((xs.take i).map LV.ln)).length (Q00 Wd.cells (Q0f ((xs.take i).map LV.ln)))/\Q0a w wr)
   (fun _ _ x _=>1001-(intOf x).toNat)
 case atStart=>exact⟨0,rfl,by omega,World.ownsRow_nil _ _ _ _,mRf _ _⟩
 obtain⟨i,rfl,hi,hown,hfr⟩:=hrel;have j6:=hid (Q15 (B:=1001) i (by omega));have jh:(Q0f ((xs.take i).map LV.ln)).length<=1000:=by
  have:=qCw Q07 ((xs.take i).map LV.ln);simp only[Q0f,qAo,qBo]at *;omega
 have jd:Hid (∀hlt:i<xs.length,Q0f ((xs.take (i+1)).map LV.ln)=Q0f ((xs.take i).map LV.ln)++(if Q07 xs[i].ln then [xs[i].ln.front] else [])):=by
  intro hlt;rw[Q6g hlt,qBf,qCf];unfold Q0f;rw[qBu,qBf];cases h:Q07 xs[i].ln<;>simp only[qAj,h,qBb,qAp,qF,List.filter_nil,List.map_nil,qCl,qAt]
 have jc:Hid (i=xs.length->(xs.take i)=xs):=fun h=>by rw[h,qAr]
 generalize hy:Q0f ((xs.take i).map LV.ln)=ys at *;have HY:=hid hy;have HO:=hid hown;have j4:=hid hown.lt;obtain⟨ro,rc,hro⟩:=z0d hown;clear hown hy;subst hro;by_cases hlt:i<xs.length
 ·obtain⟨g,cap',hv'⟩:=Joins.ownsRow_form HL.own (by omega);rw[qI]at hv';obtain⟨rfl,_,rfl⟩:=hv';have j3:=hid (HL.fresh hfr);have j8:=j3.row.range i hlt;have hA:=j3.each xs[i] (by simp);have j7:=j9.out xs[i] (by simp);have j0:=hid (jd.out hlt);have j1:=fun w1 (hf:Q0a wr w1)=>(j3.fresh hf).frontRange i hlt;generalize hX:xs[i]=x at *;clear hX;have j5:=fun w=>z2p x w hA.front j7;have ji:Hid (Q07 x.ln=!Q14 x.ln.front):=rfl;rw[← ji.out]at j5;have jk:=hid hA.one;obtain⟨⟨⟨pp,ls⟩,sk,nsx,stx,enx,sy⟩,vn,vs⟩:=x;obtain⟨a1,a2,a3,a4,a5,a6,a7,a8,e8⟩:=Q59 hA.front;dsimp only at e8;subst e8;obtain⟨no,nc,hvn⟩:=z0d hA.nodes.own;obtain⟨so,sc,hvs⟩:=z0d hA.syms.own;dsimp only at hvn hvs;subst hvn;subst hvs;have RU:=hid j5;have RG:Hid (wr.rangeAt g (i*14) (Q7k pp a1 a2 a3 a4 a5 a6 a7 a8 sk (.slice no nsx.length nc) stx enx (.slice so sy.length sc))):=j8;have je:Hid (∀w1,Q0a wr w1->w1.rangeAt g (i*14) (Q5v pp a1 a2 a3 a4 a5 a6 a7 a8)):=j1;have j2:Hid (∀w,Calls Tryz.prog 48 #[.agg (lnArr pp a1 a2 a3 a4 a5 a6 a7 a8 sk (.slice no nsx.length nc) stx enx (.slice so sy.length sc))] w fun e w'=>e=.returned (.bool (Q07 ⟨⟨pp,[a1,a2,a3,a4,a5,a6,a7,a8]⟩,sk,nsx,stx,enx,sy⟩))/\Q0a w w'):=RU.out;clear j5 RU j8 j1 hA j7;cases hr:Q07 ⟨⟨pp,[a1,a2,a3,a4,a5,a6,a7,a8]⟩,sk,nsx,stx,enx,sy⟩
  ·rw[hr]at j2 j0;simp only[qF,qAp,qAt]at j0;go_wp2_with (first
    |(go_at_call 48;refine(j2.out _).mono ?_;rintro e w1⟨rfl,hf⟩)
    |(refine wpList_load_mid rfl 116 _ rfl g (i*14) rfl (Q7k pp a1 a2 a3 a4 a5 a6 a7 a8 sk (.slice no nsx.length nc) stx enx (.slice so sy.length sc)) _ RG.out Tryz.underlying116 rfl Q1j ?_))
   go_roundw
   case rel =>
    refine⟨i+1,by go_num,by omega,?_,hfr.trans hf⟩;rw[j0.out];exact z0c HO.out (fun g hg=>hf.block g (j4.out g hg).2 (fun x=>x))
   exact j6.out
  rw[hr]at j2 j0;simp only[qBb]at j0;go_wp2_with (first
   |(at_builtin;refine z0g _ rfl _ _ 107 rfl w.heap.size 111 i0 _ 9 16 Tryz.underlying107 hi0 hz0 hz1 hz2 rfl (by decide) _ _ _ rfl (ja.alloc _) ⟨w1.heap.size,0,none⟩ 1 1 (Q5v pp a1 a2 a3 a4 a5 a6 a7 a8) rfl rfl (z0l rfl) (by intro u hu;simp at hu;rcases hu with rfl|rfl|rfl|rfl|rfl|rfl|rfl|rfl|rfl<;>rfl) (by unfold maxLen;omega) (by omega) (by have:=hfr.size;simp;omega) ?_)
   |(refine wpList_load_mid rfl 111 _ rfl g (i*14) rfl (Q5v pp a1 a2 a3 a4 a5 a6 a7 a8) _ (je.out _ hf) Tryz.underlying111 rfl Q2o ?_)
   |(go_at_call 48;refine(j2.out _).mono ?_;rintro e w1⟨rfl,hf⟩;have hz:wr.heap.size<=w1.heap.size:=hf.size;have ja:=hid (z0c HO.out (fun g hg=>hf.block g (j4.out g hg).2 (fun x=>x))))
   |(refine wpList_load_mid rfl 116 _ rfl g (i*14) rfl (Q7k pp a1 a2 a3 a4 a5 a6 a7 a8 sk (.slice no nsx.length nc) stx enx (.slice so sy.length sc)) _ RG.out Tryz.underlying116 rfl Q1j ?_))
  intro v' w2 hown2 hgrow hblk;have jf:Q0a w w2:=Mod.grown (S:=fun _=>False) ((hfr.trans hf).alloc _) hgrow (fun k hk hlt=>by have:=(j4.out k hk).1;omega);have jb:=hid hown2;clear hown2 hgrow hblk;go_wp2;go_roundw
  case rel =>
   refine⟨i+1,by go_num,by omega,?_,jf⟩;rw[j0.out,z0y,qP,qAf];exact jb.out
  exact j6.out
 have jg:i=xs.length:=by omega
 have jj:=jc.out jg;go_wp2;go_ret;refine⟨_,rfl,?_,hfr⟩;rw[← jj,HY.out];exact HO.out
def Q11:List Ln->List Wd->List Wd
 | [],hs=>hs
 |x::l,hs=>if Q07 x then Q11 l hs else if Q1l hs x.front.ls<hs.length then Q11 l hs else Q11 l (hs++[x.front])
def Q0h(lns:List Ln):List Wd:=Q11 lns []
theorem y25(ds:List Wd)(ls:List Int):Q1l ds ls<=ds.length:=by unfold Q1l;exact List.findIdx_le_length
theorem x2q(w:World)(v:Value)(xs:List LV)(hL:Q1s w v xs)(hn:xs.length<=1000)(hfb:∀x∈xs,FB x) :
  Calls Tryz.prog 47 #[v] w fun e w'=>∃v',e=.returned v'/\w'.ownsRow w.heap.size 111 9 v' (Q0h (xs.map LV.ln)).length (Q00 Wd.cells (Q0h (xs.map LV.ln)))/\Q0a w w'/\(∀d∈Q0h (xs.map LV.ln),d.ls.length=8)/\(Q0h (xs.map LV.ln)).length<=xs.length:=by
 obtain⟨ao,cap,hv⟩:=z0d hL.own;subst hv;have HL:=hid hL;have jd:=hid hfb;obtain⟨i0,hi0,hz0,hz1,hz2⟩:=infoWd';generalize hRES:Q0h (xs.map LV.ln)=RES;have HR:=hid hRES;clear hL hfb hRES;go_enter Tryz.func47,Tryz.ntmps47
 go_wp2;go_loopw [3,4,5,8] (fun x3 _ _ x8 wr=>∃(i:Nat) (acc:List Wd),x8=.int .i64 i/\i<=xs.length/\acc.length<=i/\(∀d∈acc,d.ls.length=8)/\Q11 ((xs.drop i).map LV.ln) acc=RES/\wr.ownsRow w.heap.size 111 9 x3 acc.length (Q00 Wd.cells acc)/\Q0a w wr)
   (fun _ _ _ x _=>1001-(intOf x).toNat)
 case atStart=>exact⟨0,[],rfl,by omega,by simp,by simp,HR.out,World.ownsRow_nil _ _ _ _,mRf _ _⟩
 obtain⟨i,ys,rfl,hi,hlen,h8,hres,hown,hfr⟩:=hrel;have j6:=hid (Q15 (B:=1001) i (by omega));have HO:=hid hown;have j2:=hid hown.lt;have H8:=hid h8;obtain⟨ro,rc,hro⟩:=z0d hown;clear hown h8;subst hro;by_cases hlt:i<xs.length
 ·rw[qC hlt,qCl]at hres;unfold Q11 at hres;obtain⟨g,cap',hv'⟩:=Joins.ownsRow_form HL.own (by omega);rw[qI]at hv';obtain⟨rfl,_,rfl⟩:=hv';have j5:=hid (HL.fresh hfr);have ja:=j5.row.range i hlt;have hA:=j5.each xs[i] (by simp);have j9:=jd.out xs[i] (by simp);have j1:=fun w1 (hf:Q0a wr w1)=>(j5.fresh hf).frontRange i hlt;generalize hX:xs[i]=x at hres ja hA j9 j1;clear hX;have j8:=fun w=>z2p x w hA.front j9;have ji:Hid (Q07 x.ln=!Q14 x.ln.front):=rfl;rw[← ji.out]at j8;have jb:=fun(w:World) (v:Value) (h:Q3u w v ys)=>z4w w v ys x.ln.front h H8.out (by omega) hA.front;have jl:=hid hA.one;obtain⟨⟨⟨pp,ls⟩,sk,nsx,stx,enx,sy⟩,vn,vs⟩:=x;obtain⟨a1,a2,a3,a4,a5,a6,a7,a8,e8⟩:=Q59 hA.front;dsimp only at e8;subst e8;obtain⟨no,nc,hvn⟩:=z0d hA.nodes.own;obtain⟨so,sc,hvs⟩:=z0d hA.syms.own;dsimp only at hvn hvs;subst hvn;subst hvs;have RU:=hid j8;have RG:Hid (wr.rangeAt g (i*14) (Q7k pp a1 a2 a3 a4 a5 a6 a7 a8 sk (.slice no nsx.length nc) stx enx (.slice so sy.length sc))):=ja;have j7:Hid (∀w1,Q0a wr w1->w1.rangeAt g (i*14) (Q5v pp a1 a2 a3 a4 a5 a6 a7 a8)):=j1;have j3:Hid (∀w,Calls Tryz.prog 48 #[.agg (lnArr pp a1 a2 a3 a4 a5 a6 a7 a8 sk (.slice no nsx.length nc) stx enx (.slice so sy.length sc))] w fun e w'=>e=.returned (.bool (Q07 ⟨⟨pp,[a1,a2,a3,a4,a5,a6,a7,a8]⟩,sk,nsx,stx,enx,sy⟩))/\Q0a w w'):=RU.out;have FW:Hid (∀(w:World) (v:Value),Q3u w v ys->Calls Tryz.prog 81 #[v,.agg (Q61 pp a1 a2 a3 a4 a5 a6 a7 a8)] w fun e w'=>e=.returned (.int .i64 (Q1l ys [a1,a2,a3,a4,a5,a6,a7,a8]))/\Q0a w w'):=jb;clear j8 RU ja j1 hA j9 jb;dsimp only at hres;cases hr:Q07 ⟨⟨pp,[a1,a2,a3,a4,a5,a6,a7,a8]⟩,sk,nsx,stx,enx,sy⟩
  ·rw[hr]at j3 hres;simp only[qF,qAp]at hres;have jk:=y25 ys [a1,a2,a3,a4,a5,a6,a7,a8];generalize Q1l ys [a1,a2,a3,a4,a5,a6,a7,a8]=wf at hres FW jk;have jc:Hid (∀w1,Q0a wr w1->Q3u w1 (.slice ro ys.length rc) ys):=fun w1 hf=>⟨z0f (z0c HO.out (fun g hg=>hf.block g (j2.out g hg).2 (fun x=>x))) (qBg _),fun x hx=>Wd.cells_len (H8.out x hx)⟩;by_cases hwf:wf<ys.length
   ·rw[qAb hwf]at hres;have j0:=hid hres;have jm:((wf:Int)==(ys.length:Int))=false:=by simp;omega
    clear hres;go_wp2_with (first
     |(go_at_call 81;refine(FW.out _ _ (jc.out _ hf)).mono ?_;rintro e w2⟨rfl,hf2⟩)
     |(refine wpList_load_mid rfl 111 _ rfl g (i*14) rfl (Q5v pp a1 a2 a3 a4 a5 a6 a7 a8) _ (j7.out _ hf) Tryz.underlying111 rfl Q2o ?_)
     |(go_at_call 48;refine(j3.out _).mono ?_;rintro e w1⟨rfl,hf⟩)
     |(refine wpList_load_mid rfl 116 _ rfl g (i*14) rfl (Q7k pp a1 a2 a3 a4 a5 a6 a7 a8 sk (.slice no nsx.length nc) stx enx (.slice so sy.length sc)) _ RG.out Tryz.underlying116 rfl Q1j ?_))
    go_roundw
    case rel =>
     refine⟨i+1,ys,by go_num,by omega,by omega,H8.out,j0.out,?_,(hfr.trans hf).trans hf2⟩;exact z0c HO.out (fun g hg=>(hf.trans hf2).block g (j2.out g hg).2 (fun x=>x))
    exact j6.out
   rw[qAa hwf]at hres;have j0:=hid hres;have jj:wf=ys.length:=by omega
   subst jj;clear hres;go_wp2_with (first
    |(at_builtin;refine z0g _ rfl _ _ 107 rfl w.heap.size 111 i0 _ 9 16 Tryz.underlying107 hi0 hz0 hz1 hz2 rfl (by decide) _ _ _ rfl (je.alloc _) ⟨w2.heap.size,0,none⟩ 1 1 (Q5v pp a1 a2 a3 a4 a5 a6 a7 a8) rfl rfl (z0l rfl) (by intro u hu;simp at hu;rcases hu with rfl|rfl|rfl|rfl|rfl|rfl|rfl|rfl|rfl<;>rfl) (by unfold maxLen;omega) (by omega) (by have:=hfr.size;have:=hf.size;have:=hf2.size;simp;omega) ?_)
    |(refine wpList_load_mid rfl 111 _ rfl g (i*14) rfl (Q5v pp a1 a2 a3 a4 a5 a6 a7 a8) _ (j7.out _ (hf.trans hf2)) Tryz.underlying111 rfl Q2o ?_)
    |(go_at_call 81;refine(FW.out _ _ (jc.out _ hf)).mono ?_;rintro e w2⟨rfl,hf2⟩;have je:=hid (z0c HO.out (fun g hg=>(hf.trans hf2).block g (j2.out g hg).2 (fun x=>x))))
    |(refine wpList_load_mid rfl 111 _ rfl g (i*14) rfl (Q5v pp a1 a2 a3 a4 a5 a6 a7 a8) _ (j7.out _ hf) Tryz.underlying111 rfl Q2o ?_)
    |(go_at_call 48;refine(j3.out _).mono ?_;rintro e w1⟨rfl,hf⟩)
    |(refine wpList_load_mid rfl 116 _ rfl g (i*14) rfl (Q7k pp a1 a2 a3 a4 a5 a6 a7 a8 sk (.slice no nsx.length nc) stx enx (.slice so sy.length sc)) _ RG.out Tryz.underlying116 rfl Q1j ?_))
   intro v' w3 hown2 hgrow hblk;have jg:Q0a w w3:=Mod.grown (S:=fun _=>False) (((hfr.trans hf).trans hf2).alloc _) hgrow (fun k hk hlt=>by have:=(j2.out k hk).1;omega);have jf:=hid hown2;clear hown2 hgrow hblk;go_wp2;go_roundw
   case rel =>
    refine⟨i+1,ys++[⟨pp,[a1,a2,a3,a4,a5,a6,a7,a8]⟩],by go_num,by omega,by simp;omega,?_,j0.out,?_,jg⟩
    ·intro d hd;simp only[qU,qM]at hd;rcases hd with hd|rfl
     ·exact H8.out d hd
     rfl
    rw[z0y,qP,qAf];exact jf.out
   exact j6.out
  rw[hr]at j3 hres;simp only[qBb]at hres;have j0:=hid hres;clear hres;go_wp2_with (first
   |(go_at_call 48;refine(j3.out _).mono ?_;rintro e w1⟨rfl,hf⟩)
   |(refine wpList_load_mid rfl 116 _ rfl g (i*14) rfl (Q7k pp a1 a2 a3 a4 a5 a6 a7 a8 sk (.slice no nsx.length nc) stx enx (.slice so sy.length sc)) _ RG.out Tryz.underlying116 rfl Q1j ?_))
  go_roundw
  case rel =>
   refine⟨i+1,ys,by go_num,by omega,by omega,H8.out,j0.out,?_,hfr.trans hf⟩;exact z0c HO.out (fun g hg=>hf.block g (j2.out g hg).2 (fun x=>x))
  exact j6.out
 have jh:i=xs.length:=by omega
 rw[jh,qBw]at hres;have j4:ys=RES:=hres;subst j4;clear hres;go_wp2;go_ret;exact⟨_,rfl,HO.out,hfr,H8.out,by omega⟩
end Go.Proofs.YtcpceafmlgaodaaGreat
