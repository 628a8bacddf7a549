import Derived.Test.YtcpceafmlgaodaaGreatCk3
namespace Go.Proofs.YtcpceafmlgaodaaGreat
open Go.RowKit
set_option maxRecDepth 100000
set_option maxHeartbeats 16000000
set_option linter.unusedVariables false
set_option linter.unusedSimpArgs false
def Q7b(lns:List Ln)(syms:List Wd):Nat->Nat->Option Int
 |0,_=>none
 |f+1,j=>match syms[j]? with|some d=>if Q97 lns d then Q7b lns syms f(j+1)else some d.place|none=>none
def Q7q(lns:List Ln)(syms:List Wd):Option Int:=Q7b lns syms(syms.length+1)0
def Q6w(lns:List Ln):Nat->Nat->Int
 |0,_=>-1
 |f+1,i=>match lns[i]? with
  |some x=>if Q1g x&&Q3d lns i then x.front.place else(match Q7q lns x.syms with|some p=>p|none=>Q6w lns f(i+1))
  |none=>-1
def Q2b(lns:List Ln):Int:=Q6w lns(lns.length+1)0
theorem Q33.range{w:World}{g n cap:Nat}{ds:List Wd}(h:Q33 w(.slice(some⟨g,0,none⟩)n cap)ds)(i:Nat)(hi:i<ds.length):w.rangeAt g(i*9)(ds[i]).cells:=Q2k.range h i hi
def SB(x:LV):Prop:=x.ln.syms.length<=1000
theorem z3f(w:World)(v:Value)(xs:List LV)(hL:Q1x w v xs)(hn:xs.length<=1000)(hfb:∀x∈xs,FB x)(hsb:∀x∈xs,SB x) :
  Calls Tryz.prog 43#[v]w fun e w'=>e=.returned(.int .i64(Q2b(xs.map LV.ln)))/\Q0a w w':=by
 obtain⟨ao,cap,hv⟩:=z0d hL.own;subst hv;have HL:=hid hL;have jj:=hid hfb;have jk:=hid hsb;generalize hR:Q2b(xs.map LV.ln)=R;have HR:Hid(Q6w(xs.map LV.ln)((xs.map LV.ln).length+1)0=R):=hR;clear hL hfb hR hsb;go_enter Tryz.func43,Tryz.ntmps43
 go_wp2;go_loopw [9](fun x9 wr=>∃(f i:Nat),x9=.int .i64 i/\Q6w(xs.map LV.ln)f i=R/\xs.length+1<=f+i/\i<=xs.length/\Q0a w wr)
   (fun x _=>1001-(intOf x).toNat)
 case atStart=>exact⟨_,0,rfl,HR.out,by simp,by omega,mRf _ _⟩
 obtain⟨f,i,rfl,hR,hfu,hi,hfr⟩:=hrel;obtain⟨f,rfl⟩:∃g,f=g+1:=⟨f-1,by omega⟩;unfold Q6w at hR;have jp:=hid(Q2a(B:=1001)i(by omega));by_cases hlt:i<xs.length
 ·have jb:i<(xs.map LV.ln).length:=by simpa using hlt
  rw[qE jb]at hR;simp only[List.getElem_map]at hR;obtain⟨g,cap',hv'⟩:=Q1d.ownsRow_form HL.out.own(by omega);rw[qI]at hv';obtain⟨rfl,_,rfl⟩:=hv';have j7:=hid(HL.out.fresh hfr);have RG:=hid(j7.out.row.range i hlt);have hA:=j7.out.each xs[i](by simp);have HA:=hid hA;have j0:=hid hA.front;have ji:=hid(jj.out xs[i](by simp));have hsb:=jk.out xs[i](by simp);obtain⟨so,sc,hvs⟩:=z0d hA.syms.own;have jd:=hid(fun w hL=>y4n w(.slice(some⟨g,0,none⟩)xs.length cap)xs i hL(by omega)hlt);have jo:=LV.at13 hA.front;have k0:=LV.at0 xs[i];rw[hvs]at jo;have jg:=hid hvs;generalize hX:xs[i]=x at *;clear hA hX hvs;unfold SB at hsb;have jh:Hid(Q1g x.ln=!headB x.ln.front):=rfl;have RU:=hid(fun w=>z2v x w j0.out ji.out);rw[← jh.out]at RU;cases hra:(Q1g x.ln&&Q3d(xs.map LV.ln)i)
  ·rw[hra]at hR;simp only[Bool.false_eq_true,if_false]at hR;have j2:=hid hR;clear hR;have j3:(Q1g x.ln=false)∨(Q1g x.ln=true/\Q3d(xs.map LV.ln)i=false):=by
    cases h:Q1g x.ln
    ·exact .inl rfl
    rw[h]at hra;simpa using hra
   clear hra;rcases j3 with hr|⟨hr,hah⟩;all_goals
    rw[hr]at RU;go_wp2_with(first
     |(go_at_call 48;refine(RU.out _).mono ?_;rintro e w1⟨rfl,hf⟩;have j4:=hid((j7.out.fresh((mRf _ wr).alloc(.cells x.cells.toArray 116(0,0)))).fresh hf);have kc:=Q0b(hf.at(z0a _ _)(fun x=>x));have j5:=hid(hf.at(z0a _ _)(fun x=>x));have j8:=(hfr.alloc(.cells x.cells.toArray 116(0,0))).trans hf;have j6:Q0a wr w1:=(Mod.alloc(mRf _ wr)(.cells x.cells.toArray 116(0,0))).trans hf)
     |(go_at_call 78;refine(jd.out _ j4.out).mono ?_;rw[hah];rintro e w2⟨rfl,hf2⟩;replace j4:=hid(j4.out.fresh hf2);clear kc;have kc:=Q0b(hf2.at j5.out(fun x=>x));replace j5:=hid(hf2.at j5.out(fun x=>x));replace j8:=j8.trans hf2;replace j6:=j6.trans hf2)
     |(refine wpList_load_mid rfl 116 _ rfl g(i*14)rfl x.cells _ RG.out Tryz.underlying116 rfl(by rw[LV.cells_len j0.out];exact Q1m)?_)
     |(refine z0e rfl 116 _ _ rfl wr _ _ _ rfl rfl rfl(Q1b j0.out)(Q0l rfl(LV.size j0.out))HA.out.one ?_)
     |(refine wpList_load_row rfl 116 _ rfl wr.heap.size rfl _ _ _ _(z0a _ _)Tryz.underlying116 rfl(Q1b j0.out)?_))
    have jn:=hid j8;have jl:=hid j6;clear kc j8 j6 j5;generalize hS:Q7q(xs.map LV.ln)x.ln.syms=S at j2;have HS:Hid(Q7b(xs.map LV.ln)x.ln.syms(x.ln.syms.length+1)0=S):=hS;clear hS;obtain⟨wo,hwo⟩:∃wo,wo=wr:=⟨_,rfl⟩;subst hwo;go_loopw [29](fun y wi=>∃(ff j:Nat),y=.int .i64 j/\Q7b(xs.map LV.ln)x.ln.syms ff j=S/\x.ln.syms.length+1<=ff+j/\j<=x.ln.syms.length/\Q0a w wi/\Q0a wo wi)
     (fun y _=>1001-(intOf y).toNat)
    case atStart=>exact⟨_,0,rfl,HS.out,by omega,by omega,jn.out,jl.out⟩
    obtain⟨ff,j,rfl,hS,hfj,hj,hwi,hri⟩:=hrel;obtain⟨ff,rfl⟩:∃g,ff=g+1:=⟨ff-1,by omega⟩;unfold Q7b at hS;have jm:=hid(Q2a(B:=1001)j(by omega));by_cases hlj:j<x.ln.syms.length
    ·rw[qE hlj]at hS;simp only[]at hS;obtain⟨sg,sc',hv'⟩:=Q1d.ownsRow_form HA.out.syms.own(by omega);rw[jg.out,qI]at hv';obtain⟨rfl,_,rfl⟩:=hv';have j9:=HA.out.syms;rw[jg.out]at j9;have jf:=hid(Q33.range(Q2k.fresh j9 hri)j hlj);have ja:=j9.wf _(List.getElem_mem hlj);have j1:Hid(x.ln.syms[j].ls.length=8):=by unfold Hid;simp[Wd.cells]at ja;exact ja
     have IS:=hid(fun w hL=>y3u w(.slice(some⟨g,0,none⟩)xs.length cap)xs x.ln.syms[j]hL(by omega)j1.out);have je:=hid(HL.out.fresh hwi);have kp:x.ln.syms[j].cells.toArray[0]? = some(.int .i64 x.ln.syms[j].place):=by simp[Wd.cells]
     generalize x.ln.syms[j]=dj at *;clear j9 ja;cases hsb2:Q97(xs.map LV.ln)dj
     ·rw[hsb2]at hS;simp only[Bool.false_eq_true,if_false]at hS;have jc:=hid hS;clear hS;go_wp2_with(first
       |(go_at_call 79;refine(IS.out _(je.out.fresh((mRf _ wr).alloc _))).mono ?_;rw[hsb2];rintro e w5⟨rfl,hf5⟩;have kq:=Q0b(hf5.at(z0a _ _)(fun x=>x)))
       |(refine wpList_load_mid rfl 111 _ rfl sg(j*9)rfl dj.cells _ jf.out Tryz.underlying111 rfl(by rw[Wd.cells_len j1.out];exact Q2v)?_)
       |(refine z0e rfl 111 _ _ rfl wr _ _ _ rfl rfl rfl(Q1w j1.out)(Q0l rfl(Wd.size j1.out))(Wd.one _)?_)
       |(refine wpList_load_row rfl 111 _ rfl wr.heap.size rfl _ _ _ _(z0a _ _)Tryz.underlying111 rfl(Q1w j1.out)?_))
      go_ret;have e1:=j2.out;rw[← jc.out]at e1;exact⟨z1h e1,(hwi.alloc _).trans hf5⟩
     rw[hsb2]at hS;simp only[if_true]at hS;have jc:=hid hS;clear hS;go_wp2_with(first
      |(go_at_call 79;refine(IS.out _(je.out.fresh((mRf _ wr).alloc _))).mono ?_;rw[hsb2];rintro e w5⟨rfl,hf5⟩)
      |(refine wpList_load_mid rfl 111 _ rfl sg(j*9)rfl dj.cells _ jf.out Tryz.underlying111 rfl(by rw[Wd.cells_len j1.out];exact Q2v)?_)
      |(refine z0e rfl 111 _ _ rfl wr _ _ _ rfl rfl rfl(Q1w j1.out)(Q0l rfl(Wd.size j1.out))(Wd.one _)?_)
      |(refine wpList_load_row rfl 111 _ rfl wr.heap.size rfl _ _ _ _(z0a _ _)Tryz.underlying111 rfl(Q1w j1.out)?_))
     go_roundw
     case rel=>exact⟨ff,j+1,by go_num,jc.out,by omega,by omega,(hwi.alloc _).trans hf5,(hri.alloc _).trans hf5⟩
     exact jm.out
    rw[qN(by omega)]at hS;simp only[]at hS;have e1:=j2.out;rw[← hS]at e1;simp only[]at e1;have E1:=hid e1;clear hS e1;go_wp2;go_roundw
    case rel=>exact⟨f,i+1,by go_num,E1.out,by omega,by omega,hwi⟩
    exact jp.out
  rw[hra]at hR;simp only[if_true]at hR;have j2:=hid hR;simp only[Bool.and_eq_true]at hra;obtain⟨hr,hah⟩:=hra;rw[hr]at RU;clear hR;go_wp2_with(first
   |(go_at_call 48;refine(RU.out _).mono ?_;rintro e w1⟨rfl,hf⟩;have j4:=hid((j7.out.fresh((mRf _ wr).alloc(.cells x.cells.toArray 116(0,0)))).fresh hf))
   |(go_at_call 78;refine(jd.out _ j4.out).mono ?_;rw[hah];rintro e w2⟨rfl,hf2⟩;have kc:=Q0b(hf2.at(hf.at(z0a _ _)(fun x=>x))(fun x=>x)))
   |(refine wpList_load_mid rfl 116 _ rfl g(i*14)rfl x.cells _ RG.out Tryz.underlying116 rfl(by rw[LV.cells_len j0.out];exact Q1m)?_)
   |(refine z0e rfl 116 _ _ rfl wr _ _ _ rfl rfl rfl(Q1b j0.out)(Q0l rfl(LV.size j0.out))HA.out.one ?_)
   |(refine wpList_load_row rfl 116 _ rfl wr.heap.size rfl _ _ _ _(z0a _ _)Tryz.underlying116 rfl(Q1b j0.out)?_))
  go_ret;exact⟨z1h j2.out,((hfr.alloc _).trans hf).trans hf2⟩
 rw[qN(by simp;omega)]at hR;have j2:=hid hR;clear hR;go_wp2;go_ret;exact⟨z1h j2.out,hfr⟩
def emptyB(x:Ln):Bool:=Q1g x&&(Q8h x.ns x.st x.en ByteArray.empty 0==0)
def Q71(lns:List Ln):Nat->Nat->Int
 |0,_=>-1
 |f+1,i=>match lns[i]? with|some x=>if emptyB x then x.front.place else Q71 lns f(i+1)|none=>-1
def Q62(lns:List Ln):Int:=Q71 lns(lns.length+1)0
theorem y49(w:World)(v:Value)(st en:Int)(ns:List Q0p)(hN:Q18 w v ns)(hn:ns.length<=100000) :
  Calls Tryz.prog 80#[patV v st en,.string⟨#[]⟩,.int .i64 0]w fun e w'=>e=.returned(.int .i64(Q8h ns st en ByteArray.empty 0))/\Q0a w w':=by
 have:=y63 w v st en ns ByteArray.empty 0 hN hn(by simp)(by omega);exact this
theorem z61(w:World)(v:Value)(xs:List LV)(hL:Q1x w v xs)(hn:xs.length<=1000)(hfb:∀x∈xs,FB x) :
  Calls Tryz.prog 44#[v]w fun e w'=>e=.returned(.int .i64(Q62(xs.map LV.ln)))/\Q0a w w':=by
 obtain⟨ao,cap,hv⟩:=z0d hL.own;subst hv;have HL:=hid hL;have j7:=hid hfb;generalize hR:Q62(xs.map LV.ln)=R;have HR:Hid(Q71(xs.map LV.ln)((xs.map LV.ln).length+1)0=R):=hR;clear hL hfb hR;go_enter Tryz.func44,Tryz.ntmps44
 go_wp2;go_loopw [7](fun x9 wr=>∃(f i:Nat),x9=.int .i64 i/\Q71(xs.map LV.ln)f i=R/\xs.length+1<=f+i/\i<=xs.length/\Q0a w wr)
   (fun x _=>1001-(intOf x).toNat)
 case atStart=>exact⟨_,0,rfl,HR.out,by simp,by omega,mRf _ _⟩
 obtain⟨f,i,rfl,hR,hfu,hi,hfr⟩:=hrel;obtain⟨f,rfl⟩:∃g,f=g+1:=⟨f-1,by omega⟩;unfold Q71 at hR;have j4:=hid(Q2a(B:=1001)i(by omega));by_cases hlt:i<xs.length
 ·have j2:i<(xs.map LV.ln).length:=by simpa using hlt
  rw[qE j2]at hR;simp only[List.getElem_map]at hR;obtain⟨g,cap',hv'⟩:=Q1d.ownsRow_form HL.out.own(by omega);rw[qI]at hv';obtain⟨rfl,_,rfl⟩:=hv';have j3:=hid(HL.out.fresh hfr);have RG:=hid(j3.out.row.range i hlt);have hA:=j3.out.each xs[i](by simp);have HA:=hid hA;have j0:=hid hA.front;have j6:=hid(j7.out xs[i](by simp));have k0:=LV.at0 xs[i];obtain⟨k10,k11,k12⟩:=LV.at10 hA.front;generalize hX:xs[i]=x at *;clear hA hX;have j5:Hid(Q1g x.ln=!headB x.ln.front):=rfl;have RU:=hid(fun w=>z2v x w j0.out j6.out);rw[← j5.out]at RU;have LG:=hid(fun w hN=>y49 w x.vn x.ln.st x.ln.en x.ln.ns hN(by have:=HA.out.small;omega));unfold emptyB at hR;generalize Q8h x.ln.ns x.ln.st x.ln.en ByteArray.empty 0=lg at hR LG;cases hr:Q1g x.ln
  ·rw[hr]at hR RU;simp only[Bool.false_and,Bool.false_eq_true,if_false]at hR;have j1:=hid hR;clear hR;go_wp2_with(first
    |(go_at_call 48;refine(RU.out _).mono ?_;rintro e w1⟨rfl,hf⟩)
    |(refine wpList_load_mid rfl 116 _ rfl g(i*14)rfl x.cells _ RG.out Tryz.underlying116 rfl(by rw[LV.cells_len j0.out];exact Q1m)?_)
    |(refine z0e rfl 116 _ _ rfl wr _ _ _ rfl rfl rfl(Q1b j0.out)(Q0l rfl(LV.size j0.out))HA.out.one ?_)
    |(refine wpList_load_row rfl 116 _ rfl wr.heap.size rfl _ _ _ _(z0a _ _)Tryz.underlying116 rfl(Q1b j0.out)?_))
   go_roundw
   case rel=>exact⟨f,i+1,by go_num,j1.out,by omega,by omega,(hfr.alloc _).trans hf⟩
   exact j4.out
  rw[hr]at hR RU;simp only[Bool.true_and]at hR;cases hlg:(lg==0);all_goals
   rw[hlg]at hR;simp only[Bool.false_eq_true,if_false,if_true]at hR;have j1:=hid hR;clear hR;go_wp2_with(first
    |(go_at_call 48;refine(RU.out _).mono ?_;rintro e w1⟨rfl,hf⟩;have kc:=Q0b(hf.at(z0a _ _)(fun x=>x));have j9:=hid(hf.at(z0a _ _)(fun x=>x));have j8:=hid((HA.out.nodes.fresh((mRf _ wr).alloc(.cells x.cells.toArray 116(0,0)))).fresh hf))
    |(go_at_call 80;refine(LG.out _ j8.out).mono ?_;rintro e w2⟨rfl,hf2⟩;clear kc;have kc:=Q0b(hf2.at j9.out(fun x=>x)))
    |(refine wpList_load_mid rfl 116 _ rfl g(i*14)rfl x.cells _ RG.out Tryz.underlying116 rfl(by rw[LV.cells_len j0.out];exact Q1m)?_)
    |(refine z0e rfl 116 _ _ rfl wr _ _ _ rfl rfl rfl(Q1b j0.out)(Q0l rfl(LV.size j0.out))HA.out.one ?_)
    |(refine wpList_load_row rfl 116 _ rfl wr.heap.size rfl _ _ _ _(z0a _ _)Tryz.underlying116 rfl(Q1b j0.out)?_))
  ·go_roundw
   case rel=>exact⟨f,i+1,by go_num,j1.out,by omega,by omega,((hfr.alloc _).trans hf).trans hf2⟩
   exact j4.out
  go_ret;exact⟨z1h j1.out,((hfr.alloc _).trans hf).trans hf2⟩
 rw[qN(by simp;omega)]at hR;have j1:=hid hR;clear hR;go_wp2;go_ret;exact⟨z1h j1.out,hfr⟩
def Q4f(lns:List Ln):Bool:=lns.any(fun x=>!ruleB x)
theorem z8x(w:World)(v:Value)(xs:List LV)(hL:Q1x w v xs)(hn:xs.length<=1000)(hfb:∀x∈xs,FB x) :
  Calls Tryz.prog 45#[v]w fun e w'=>e=.returned(.bool(Q4f(xs.map LV.ln)))/\Q0a w w':=by
 obtain⟨ao,cap,hv⟩:=z0d hL.own;subst hv;have HL:=hid hL;have j7:=hid hfb;clear hL hfb;go_enter Tryz.func45,Tryz.ntmps45
 go_wp2;go_loopw [6](fun x9 wr=>∃(i:Nat),x9=.int .i64 i/\(∀j(hj:j<xs.length),j<i->Q1g xs[j].ln=true)/\i<=xs.length/\Q0a w wr)
   (fun x _=>1001-(intOf x).toNat)
 case atStart=>exact⟨0,rfl,fun j _ h=>by omega,by omega,mRf _ _⟩
 obtain⟨i,rfl,hall,hi,hfr⟩:=hrel;have j8:=hid(Q2a(B:=1001)i(by omega));have j1:=hid hall;clear hall;by_cases hlt:i<xs.length
 ·obtain⟨g,cap',hv'⟩:=Q1d.ownsRow_form HL.out.own(by omega);rw[qI]at hv';obtain⟨rfl,_,rfl⟩:=hv';have j2:=hid(HL.out.fresh hfr);have RG:=hid(j2.out.row.range i hlt);have j0:=hid(j2.out.each xs[i](by simp)).front;have j6:=hid(j7.out xs[i](by simp));have j5:Hid(Q1g xs[i].ln=!headB xs[i].ln.front):=rfl;have RU:=hid(fun w=>z2v xs[i]w j0.out j6.out);rw[← j5.out]at RU;cases hr:Q1g xs[i].ln;all_goals
   rw[hr]at RU;have j3:=hid hr;clear hr;go_wp2_with(first
    |(go_at_call 48;refine(RU.out _).mono ?_;rintro e w1⟨rfl,hf⟩)
    |(refine wpList_load_mid rfl 116 _ rfl g(i*14)rfl xs[i].cells _ RG.out Tryz.underlying116 rfl(by rw[LV.cells_len j0.out];exact Q1m)?_))
  ·go_ret;refine⟨z0s ?_,hfr.trans hf⟩;symm;unfold Q4f;rw[List.any_eq_true];exact⟨xs[i].ln,List.mem_map.2⟨xs[i],List.getElem_mem hlt,rfl⟩,by rw[j3.out];rfl⟩
  go_roundw
  case rel =>
   refine⟨i+1,by go_num,?_,by omega,hfr.trans hf⟩;intro j hj hji;by_cases e:j=i
   ·subst e;exact j3.out
   exact j1.out j hj(by omega)
  exact j8.out
 have j4:i=xs.length:=by omega
 subst j4;go_wp2;go_ret;refine⟨z0s ?_,hfr⟩;symm;unfold Q4f;rw[List.any_eq_false];intro x hx;simp only[List.mem_map]at hx;obtain⟨y,hy,rfl⟩:=hx;obtain⟨j,hj,rfl⟩:=List.getElem_of_mem hy;simp[j1.out j hj hj]
abbrev Q7n(p a b c d e f g k:Int)(sk:Bool)(vn:Value)(st en:Int)(vs:Value):List Value:=[.int .i64 p,.int .u8 a,.int .u8 b,.int .u8 c,.int .u8 d,.int .u8 e,.int .u8 f,.int .u8 g,.int .u8 k,.bool sk,vn,.int .i64 st,.int .i64 en,vs]
structure LnOk(s:ByteArray)(x:Ln):Prop where
 fb:0<=x.front.ls.getD 0 0/\x.front.ls.getD 0 0<=255
 sb:(x.syms.length:Int)<=s.size
theorem z28(s:ByteArray):LnOk s Q4h:=⟨by simp[Q4h,Q5l],by simp[Q4h]⟩
theorem y3s(s:ByteArray)(d:Wd)(hd:0<=d.ls.getD 0 0/\d.ls.getD 0 0<=255):∀(f:Nat)(next:Int)(syms:List Wd),0<=next->next<=s.size->(syms.length:Int)<=next->LnOk s(Q21 s d f next syms).1
 |0,_,_,_,_,_=>z28 s
 |f+1,next,syms,h0,h1,h2=>by
  obtain⟨b1,b2,b3⟩:=z5c s(next+1)(by omega);unfold Q21;split
  ·split
   ·exact z28 s
   rename_i h3;have b4:=b3(by simpa using h3);exact y3s s d hd f _ _(by omega)(by omega)(by simp;omega)
  split
  ·exact z28 s
  exact⟨hd,by dsimp only;omega⟩
theorem x5x(s:ByteArray)(i:Int)(h0:0<=i)(h1:i<=s.size):LnOk s(Q2x s i).1:=by
 obtain⟨b1,b2,b3⟩:=z5c s i h0;have hz:=z60 s i;unfold Q2x;split
 ·exact z28 s
 rename_i h3;have b4:=b3(by simpa using h3);split
 ·unfold Q6h;split
  ·exact z28 s
  have:=z0q(s:=s)(i:=(Q09 s i).2.1)(by omega);exact y3s s _ hz _ _ _(by omega)(by omega)(by simp;omega)
 unfold Q6r;split
 ·exact z28 s
 split
 ·exact z28 s
 split
 ·exact z28 s
 exact⟨hz,by simp⟩
theorem y09(s:ByteArray):∀(f:Nat)(i:Int)(acc:List Ln),0<=i->i<=s.size->(acc.length:Int)<=i->(∀x∈acc,LnOk s x)->((Q1o s f i acc).1.length:Int)<=s.size/\∀x∈(Q1o s f i acc).1,LnOk s x
 |0,i,acc,h0,h1,h2,h3=>by simp[Q1o]
 |f+1,i,acc,h0,h1,h2,h3=>by
  obtain⟨b1,b2,b3⟩:=y9a s i h0 h1;unfold Q1o;split
  ·split
   ·simp
   rename_i h5;have b4:=b3(by simpa using h5);refine y09 s f _ _(by omega)(by omega)(by simp;omega)?_;intro x hx;rcases List.mem_append.1 hx with h|h
   ·exact h3 x h
   simp at h;subst h;exact x5x s i h0 h1
  exact⟨by dsimp only;omega,h3⟩
theorem z48(s:ByteArray):((Q0c s).1.length:Int)<=s.size/\∀x∈(Q0c s).1,LnOk s x:=y09 s _ 0 [](by omega)(by omega)(by simp)(by simp)
def Q0u(s:ByteArray):Int × Int :=
 if 800<s.size then(1,0)
 else if(Q0c s).2.2=false then(2,(Q0c s).2.1)
 else if Q3s(Q0c s).1≠-1 then(3,Q3s(Q0c s).1)
 else if Q2b(Q0c s).1≠-1 then(4,Q2b(Q0c s).1)
 else if Q62(Q0c s).1≠-1 then(5,Q62(Q0c s).1)
 else if Q4f(Q0c s).1=false then(6,s.size)
 else(0,0)
theorem y0d(s:ByteArray):Q0u s=(if 800<s.size then(1,0)
 else if(Q0c s).2.2=false then(2,(Q0c s).2.1)
 else if Q3s(Q0c s).1≠-1 then(3,Q3s(Q0c s).1)
 else if Q2b(Q0c s).1≠-1 then(4,Q2b(Q0c s).1)
 else if Q62(Q0c s).1≠-1 then(5,Q62(Q0c s).1)
 else if Q4f(Q0c s).1=false then(6,s.size)
 else(0,0)):=rfl
def Q7l(s:ByteArray)(w:World)(e:Ending)(w':World):Prop :=
 ∃v,e=.returned(.tuple#[v,.int .i64(Q0u s).1,.int .i64(Q0u s).2])/\Q0a w w'/\(∃xs,Q1x w' v xs/\((Q0u s).1≠0/\xs=[]/\v=.slice none 0 0∨(Q0u s).1=0/\xs.map LV.ln=(Q0c s).1))
theorem nilLines(w:World):Q1x w(.slice none 0 0) []:=⟨World.ownsRow_nil _ _ _ _,fun _ h=>by cases h⟩
theorem z2e{s:ByteArray}{w w':World}{e:Ending}{a b:Int}(h:Q0u s=(a,b))(ha:a≠0)(he:e=.returned(.tuple#[.slice none 0 0,.int .i64 a,.int .i64 b]))(hf:Q0a w w'):Q7l s w e w' :=
 ⟨_,by rw[h];exact he,hf,[],nilLines _,.inl⟨by rw[h];exact ha,rfl,rfl⟩⟩
theorem x00(s:ByteArray)(w:World)(hs:s.size<=maxLen)(hl:800<s.size) :
  Calls Tryz.prog 19#[.string s]w fun e w'=>Q7l s w e w':=by
 have hc:Q0u s=(1,0):=by unfold Q0u;rw[if_pos hl]
 have HC:=hid hc;unfold maxLen at hs;clear hc;go_enter Tryz.func19,Tryz.ntmps19
 go_wp2;go_ret3
 exact z2e HC.out(by decide)rfl(mRf _ _)
theorem y7m(s:ByteArray)(w:World)(hl:¬800<s.size) :
  Calls Tryz.prog 19#[.string s]w fun e w'=>Q7l s w e w':=by
 obtain⟨hlen,hok⟩:=z48 s;have j1:=hid hok;have hc:=y0d s;rw[if_neg hl]at hc;have RL:=hid(fun w=>y2o s w(by omega));have j3:Hid((Q0c s).1=(Q0c s).1):=rfl;cases hok1:(Q0c s).2.2
 ·rw[if_pos hok1]at hc;have HC:=hid hc;rw[hok1]at RL;clear hc hok;go_enter Tryz.func19,Tryz.ntmps19
  go_wp2_with(first
   |(go_at_call 41;refine(RL.out _).mono ?_;rintro e w1⟨v,xs,hx,rfl,hf1,hL⟩;obtain⟨ao,cap,hv⟩:=z0d hL.own;subst hv;have HX:=hid hx;clear hx))
  go_ret3
  exact z2e HC.out(by decide)rfl hf1
 rw[if_neg(by simp[hok1])]at hc;rw[hok1]at RL;have j2:∀xs:List LV,xs.map LV.ln=(Q0c s).1->xs.length<=1000/\(∀x∈xs,FB x)/\(∀x∈xs,SB x):=by
  intro xs hx;have h1:xs.length=(Q0c s).1.length:=by rw[← hx];simp
  refine⟨by omega,?_,?_⟩
  ·intro x hxx;exact(j1.out x.ln(by rw[← hx];exact List.mem_map.2⟨x,hxx,rfl⟩)).fb
  intro x hxx;have:=(j1.out x.ln(by rw[← hx];exact List.mem_map.2⟨x,hxx,rfl⟩)).sb;unfold SB;omega
 have j0:=hid j2;clear j2 hok;by_cases t1:Q3s(Q0c s).1=-1
 ·rw[if_neg(by simp[t1])]at hc;by_cases t2:Q2b(Q0c s).1=-1
  ·rw[if_neg(by simp[t2])]at hc;by_cases t3:Q62(Q0c s).1=-1
   ·rw[if_neg(by simp[t3])]at hc;have T1:=hid t1;have T2:=hid t2;have T3:=hid t3;clear t1 t2 t3;cases t4:Q4f(Q0c s).1
    ·rw[if_pos t4]at hc;have HC:=hid hc;have T4:=hid t4;clear hc t4;go_enter Tryz.func19,Tryz.ntmps19
     go_wp2_with(first
      |(go_at_call 41;refine(RL.out _).mono ?_;rintro e w1⟨v,xs,hx,rfl,hf1,hL⟩;obtain⟨ao,cap,hv⟩:=z0d hL.own;subst hv;have HX:=hid hx;obtain⟨q1,q2,q3⟩:=j0.out xs hx;have HL:=hid hL;clear hL hx)
      |(go_at_call 42;refine(z3l _ _ xs HL.out q1 q2).mono ?_;rw[HX.out,T1.out];rintro e w2⟨rfl,hf2⟩;replace HL:=hid(HL.out.fresh hf2);replace hf1:=hf1.trans hf2)
      |(go_at_call 43;refine(z3f _ _ xs HL.out q1 q2 q3).mono ?_;rw[HX.out,T2.out];rintro e w2⟨rfl,hf2⟩;replace HL:=hid(HL.out.fresh hf2);replace hf1:=hf1.trans hf2)
      |(go_at_call 44;refine(z61 _ _ xs HL.out q1 q2).mono ?_;rw[HX.out,T3.out];rintro e w2⟨rfl,hf2⟩;replace HL:=hid(HL.out.fresh hf2);replace hf1:=hf1.trans hf2)
      |(go_at_call 45;refine(z8x _ _ xs HL.out q1 q2).mono ?_;rw[HX.out,T4.out];rintro e w2⟨rfl,hf2⟩;replace HL:=hid(HL.out.fresh hf2);replace hf1:=hf1.trans hf2))
     go_ret3
     exact z2e HC.out(by decide)rfl hf1
    rw[if_neg(by simp[t4])]at hc;have HC:=hid hc;have T4:=hid t4;clear hc t4;go_enter Tryz.func19,Tryz.ntmps19
    go_wp2_with(first
     |(go_at_call 41;refine(RL.out _).mono ?_;rintro e w1⟨v,xs,hx,rfl,hf1,hL⟩;obtain⟨ao,cap,hv⟩:=z0d hL.own;subst hv;have HX:=hid hx;obtain⟨q1,q2,q3⟩:=j0.out xs hx;have HL:=hid hL;clear hL hx)
     |(go_at_call 42;refine(z3l _ _ xs HL.out q1 q2).mono ?_;rw[HX.out,T1.out];rintro e w2⟨rfl,hf2⟩;replace HL:=hid(HL.out.fresh hf2);replace hf1:=hf1.trans hf2)
     |(go_at_call 43;refine(z3f _ _ xs HL.out q1 q2 q3).mono ?_;rw[HX.out,T2.out];rintro e w2⟨rfl,hf2⟩;replace HL:=hid(HL.out.fresh hf2);replace hf1:=hf1.trans hf2)
     |(go_at_call 44;refine(z61 _ _ xs HL.out q1 q2).mono ?_;rw[HX.out,T3.out];rintro e w2⟨rfl,hf2⟩;replace HL:=hid(HL.out.fresh hf2);replace hf1:=hf1.trans hf2)
     |(go_at_call 45;refine(z8x _ _ xs HL.out q1 q2).mono ?_;rw[HX.out,T4.out];rintro e w2⟨rfl,hf2⟩;replace HL:=hid(HL.out.fresh hf2);replace hf1:=hf1.trans hf2))
    go_ret3
    exact⟨_,by rw[HC.out];rfl,hf1,xs,HL.out,.inr⟨by rw[HC.out],HX.out⟩⟩
   rw[if_pos t3]at hc;have HC:=hid hc;have T1:=hid t1;have T2:=hid t2;have c3:(Q62(Q0c s).1 != -1)=true:=by simpa using t3
   clear hc t1 t2 t3;go_enter Tryz.func19,Tryz.ntmps19
   go_wp2_with(first
    |(go_at_call 41;refine(RL.out _).mono ?_;rintro e w1⟨v,xs,hx,rfl,hf1,hL⟩;obtain⟨ao,cap,hv⟩:=z0d hL.own;subst hv;have HX:=hid hx;obtain⟨q1,q2,q3⟩:=j0.out xs hx;have HL:=hid hL;clear hL hx)
    |(go_at_call 42;refine(z3l _ _ xs HL.out q1 q2).mono ?_;rw[HX.out,T1.out];rintro e w2⟨rfl,hf2⟩;replace HL:=hid(HL.out.fresh hf2);replace hf1:=hf1.trans hf2)
    |(go_at_call 43;refine(z3f _ _ xs HL.out q1 q2 q3).mono ?_;rw[HX.out,T2.out];rintro e w2⟨rfl,hf2⟩;replace HL:=hid(HL.out.fresh hf2);replace hf1:=hf1.trans hf2)
    |(go_at_call 44;refine(z61 _ _ xs HL.out q1 q2).mono ?_;rw[HX.out];rintro e w2⟨rfl,hf2⟩;replace HL:=hid(HL.out.fresh hf2);replace hf1:=hf1.trans hf2))
   go_ret3
   exact z2e HC.out(by decide)rfl hf1
  rw[if_pos t2]at hc;have HC:=hid hc;have T1:=hid t1;have c3:(Q2b(Q0c s).1 != -1)=true:=by simpa using t2
  clear hc t1 t2;go_enter Tryz.func19,Tryz.ntmps19
  go_wp2_with(first
   |(go_at_call 41;refine(RL.out _).mono ?_;rintro e w1⟨v,xs,hx,rfl,hf1,hL⟩;obtain⟨ao,cap,hv⟩:=z0d hL.own;subst hv;have HX:=hid hx;obtain⟨q1,q2,q3⟩:=j0.out xs hx;have HL:=hid hL;clear hL hx)
   |(go_at_call 42;refine(z3l _ _ xs HL.out q1 q2).mono ?_;rw[HX.out,T1.out];rintro e w2⟨rfl,hf2⟩;replace HL:=hid(HL.out.fresh hf2);replace hf1:=hf1.trans hf2)
   |(go_at_call 43;refine(z3f _ _ xs HL.out q1 q2 q3).mono ?_;rw[HX.out];rintro e w2⟨rfl,hf2⟩;replace HL:=hid(HL.out.fresh hf2);replace hf1:=hf1.trans hf2))
  go_ret3
  exact z2e HC.out(by decide)rfl hf1
 rw[if_pos t1]at hc;have HC:=hid hc;have c3:(Q3s(Q0c s).1 != -1)=true:=by simpa using t1
 clear hc t1;go_enter Tryz.func19,Tryz.ntmps19
 go_wp2_with(first
  |(go_at_call 41;refine(RL.out _).mono ?_;rintro e w1⟨v,xs,hx,rfl,hf1,hL⟩;obtain⟨ao,cap,hv⟩:=z0d hL.own;subst hv;have HX:=hid hx;obtain⟨q1,q2,q3⟩:=j0.out xs hx;have HL:=hid hL;clear hL hx)
  |(go_at_call 42;refine(z3l _ _ xs HL.out q1 q2).mono ?_;rw[HX.out];rintro e w2⟨rfl,hf2⟩;replace HL:=hid(HL.out.fresh hf2);replace hf1:=hf1.trans hf2))
 go_ret3
 exact z2e HC.out(by decide)rfl hf1
theorem z5p(s:ByteArray)(w:World)(hs:s.size<=maxLen) :
  Calls Tryz.prog 19#[.string s]w fun e w'=>Q7l s w e w':=by
 by_cases hl:800<s.size
 ·exact x00 s w hs hl
 exact y7m s w hl
def Q1p(ds:List Wd)(ls:List Int):Nat:=ds.findIdx(fun x=>x.ls==ls)
theorem z4z(w:World)(v:Value)(xs:List Wd)(dd:Wd)(hL:Q33 w v xs)(hx8:∀x∈xs,x.ls.length=8)(hn:xs.length<=100000)(hl:dd.ls.length=8) :
  Calls Tryz.prog 81#[v,.agg dd.cells.toArray]w fun e w'=>e=.returned(.int .i64(Q1p xs dd.ls))/\Q0a w w':=by
 obtain⟨p,ls⟩:=dd;obtain⟨b1,b2,b3,b4,b5,b6,b7,b8,rfl⟩:=Q6m hl;have e1:(Wd.cells⟨p,[b1,b2,b3,b4,b5,b6,b7,b8]⟩).toArray=Q68 p b1 b2 b3 b4 b5 b6 b7 b8:=rfl;rw[e1];obtain⟨ao,cap,hv⟩:=z0d hL.own;subst hv;have HL:=hid hL;have j2:=hid hx8;clear hL e1 hl hx8;go_enter Tryz.func81,Tryz.ntmps81
 go_wp2;go_loopw [8](fun x8 wr=>∃(k:Nat),x8=.int .i64 k/\k<=xs.length/\(∀j(hj:j<k)(hx:j<xs.length),xs[j].ls≠[b1,b2,b3,b4,b5,b6,b7,b8])/\Q0a w wr/\wr.heap[w.heap.size]? = some(.cells(Q68 p b1 b2 b3 b4 b5 b6 b7 b8)111(0,0)))
   (fun x _=>100001-(intOf x).toNat)
 case atStart=>exact⟨0,rfl,by omega,fun j hj=>by omega,(mRf _ w).alloc _,z0a _ _⟩
 obtain⟨k,rfl,hk,hall,hfr,hb⟩:=hrel;have HA:=hid hall;have j5:=hid(Q2a(B:=100001)k(by omega));have HB:=hid hb;have c1:=Q0b hb;clear hall hb;by_cases hlt:k<xs.length
 ·obtain⟨g,cap',hv'⟩:=Q1d.ownsRow_form HL.out.own(by omega);rw[qI]at hv';obtain⟨rfl,_,rfl⟩:=hv';have j3:=hid(HL.out.fresh hfr);have j0:=fun j hj=>j3.out.cell k j hlt hj;have hA:=j2.out xs[k](by simp);obtain⟨a1,a2,a3,a4,a5,a6,a7,a8,hls⟩:=Q6m hA;have j1:=hid hls;have d1:wr.cell?⟨g,k*9+1,none⟩=some(.int .u8 a1):=by rw[j0 1(by omega)];simp[Wd.cells,hls]
  have d2:wr.cell?⟨g,k*9+2,none⟩=some(.int .u8 a2):=by rw[j0 2(by omega)];simp[Wd.cells,hls]
  have d3:wr.cell?⟨g,k*9+3,none⟩=some(.int .u8 a3):=by rw[j0 3(by omega)];simp[Wd.cells,hls]
  have d4:wr.cell?⟨g,k*9+4,none⟩=some(.int .u8 a4):=by rw[j0 4(by omega)];simp[Wd.cells,hls]
  have d5:wr.cell?⟨g,k*9+5,none⟩=some(.int .u8 a5):=by rw[j0 5(by omega)];simp[Wd.cells,hls]
  have d6:wr.cell?⟨g,k*9+6,none⟩=some(.int .u8 a6):=by rw[j0 6(by omega)];simp[Wd.cells,hls]
  have d7:wr.cell?⟨g,k*9+7,none⟩=some(.int .u8 a7):=by rw[j0 7(by omega)];simp[Wd.cells,hls]
  have d8:wr.cell?⟨g,k*9+8,none⟩=some(.int .u8 a8):=by rw[j0 8(by omega)];simp[Wd.cells,hls]
  obtain⟨qq,hqq,q8⟩:∃qq,qq=([a1,a2,a3,a4,a5,a6,a7,a8]==[b1,b2,b3,b4,b5,b6,b7,b8])/\∀w,(Op.equalIn 10000 109(.agg#[.int .u8 a1,.int .u8 a2,.int .u8 a3,.int .u8 a4,.int .u8 a5,.int .u8 a6,.int .u8 a7,.int .u8 a8])(.agg#[.int .u8 b1,.int .u8 b2,.int .u8 b3,.int .u8 b4,.int .u8 b5,.int .u8 b6,.int .u8 b7,.int .u8 b8])).run Tryz.prog w=.ok qq w:=⟨_,rfl,fun w=>arr8 9998 w a1 a2 a3 a4 a5 a6 a7 a8 b1 b2 b3 b4 b5 b6 b7 b8⟩;have HQ:=hid hqq;clear hqq;have g8:=guard8;clear j0 hA hls;go_wp2;go_quiet(fail);cases qq
  ·clear q8 g8;go_wp2;go_roundw
   case rel =>
    refine⟨k+1,by go_num,by omega,?_,Mod.of_heap hfr rfl rfl rfl rfl,HB.out⟩;intro j hj hx;by_cases e:j=k
    ·subst e;rw[j1.out];intro e2;have:=HQ.out;rw[e2]at this;simp at this
    exact HA.out j(by omega)hx
   exact j5.out
  clear q8 g8;go_wp2;go_ret;refine⟨z1h ?_,Mod.of_heap hfr rfl rfl rfl rfl⟩;have:Q1p xs [b1,b2,b3,b4,b5,b6,b7,b8]=k:=by
   unfold Q1p;rw[List.findIdx_eq hlt];refine⟨?_,?_⟩
   ·rw[j1.out];exact HQ.out.symm
   intro j hj;simpa using HA.out j hj(by omega)
  rw[this]
 have j4:k=xs.length:=by omega
 subst j4;go_wp2;go_ret;refine⟨z1h ?_,hfr⟩;have:Q1p xs [b1,b2,b3,b4,b5,b6,b7,b8]=xs.length:=by
  unfold Q1p;apply List.findIdx_eq_length_of_false;intro x hx;obtain⟨j,hj,rfl⟩:=List.getElem_of_mem hx;simpa using HA.out j hj hj
 rw[this]
end Go.Proofs.YtcpceafmlgaodaaGreat
