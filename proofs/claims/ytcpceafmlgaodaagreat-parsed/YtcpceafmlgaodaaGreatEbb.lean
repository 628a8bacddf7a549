import Derived.Test.YtcpceafmlgaodaaGreatTwc
namespace Go.Proofs.YtcpceafmlgaodaaGreat
open Go.RowKit
set_option maxRecDepth 99999
set_option maxHeartbeats 0
set_option linter.all false
def RowD(w:World)(n:Nat)(da:Option Addr)(h i:Nat)(r:List Bool):Prop :=
 ∃gd gh ch g,da=some ⟨gd,0,none⟩/\w.cell? ⟨gd,h,none⟩=some (.slice (some ⟨gh,0,none⟩) n ch)/\w.cell? ⟨gh,i,none⟩=some (bsl g n)/\Q1y w g r/\r.length=n
theorem RowD.fresh{w w':World}{n:Nat}{da:Option Addr}{h i:Nat}{r:List Bool}(hr:RowD w n da h i r)(hf:Q0a w w'):RowD w' n da h i r:=by
 obtain⟨gd,gh,ch,g,h1,h2,h3,h4,h5⟩:=hr;exact⟨gd,gh,ch,g,h1,Q0i hf h2,Q0i hf h3,h4.fresh hf,h5⟩
structure SpR(w:World)(sb b R H:Nat)(q:List Q1)(ka:Option Addr)(kc:Nat)(l:List Int)(da:Option Addr)(dc:Nat)(D:List Mat):Prop where
 c0:w.cell? ⟨sb,0,none⟩=some (.pointer (some ⟨b,0,none⟩))
 c1:w.cell? ⟨sb,1,none⟩=some (.slice ka l.length kc)
 c2:w.cell? ⟨sb,2,none⟩=some (.slice da H dc)
 s:Q3x w b R H q
 k:Q0z w (.slice ka l.length kc) l
 rows:∀h i:Nat,h<H->i<=l.length->RowD w (l.length+1) da h i ((D.getD h []).getD i [])
theorem SpR.fresh{w w':World}{sb b R H:Nat}{q:List Q1}{ka:Option Addr}{kc:Nat}{l:List Int}{da:Option Addr}{dc:Nat}{D:List Mat}(h:SpR w sb b R H q ka kc l da dc D)(hf:Q0a w w'):SpR w' sb b R H q ka kc l da dc D :=
 ⟨Q0i hf h.c0,Q0i hf h.c1,Q0i hf h.c2,h.s.fresh hf,h.k.fresh hf,fun a i h1 h2=>(h.rows a i h1 h2).fresh hf⟩
theorem v2f(base:Int)(l:List Int)(D:List Mat)(c:Int)(frm:List Bool)(n i:Nat)(out:List Bool)(h:i<n):spJ base l D c frm n (n-i) i out=spJ base l D c frm n (n-(i+1)) (i+1) (if frm.getD i false=true then(if c<base then(if l[i]? = some c then out.set (i+1) true else out) else orI out ((D.getD (c-base).toNat []).getD i []) n n) else out):=by
 rw[show n-i=(n-(i+1))+1 by omega];rfl
def BRet(w:World)(n:Nat)(l:List Bool)(e:Ending)(w':World):Prop:=∃g,e=.returned (bsl g n)/\Q1y w' g l/\Q0a w w'
theorem x4w(w:World)(sb b R H:Nat)(q:List Q1)(ka:Option Addr)(kc:Nat)(l:List Int)(da:Option Addr)(dc:Nat)(D:List Mat)(hS:SpR w sb b R H q ka kc l da dc D)(hQ:QOk R H q)(hl:l.length<=60)(gf:Nat)(frm:List Bool)(hB:Q1y w gf frm)(hfl:frm.length=l.length+1)(c:Int)(hc:0<=c/\c<(R:Int)+1+H) :
  Calls Tryz.prog 97 #[.pointer (some ⟨sb,0,none⟩),.int .i64 c,bsl gf (l.length+1)] w fun e w'=>BRet w (l.length+1) (spF (bs R) l D c frm (l.length+1)) e w':=by
 have jg:=hQ.r8;have jf:=hQ.h8;obtain⟨a0,c0,a1,c1,a2,c2,v3,v4,sv,hN⟩:=hS.s;have HS:=hid hS;have j5:=hid hN.k0;have HB:=hid hB;have j4:=hid hfl;have HC:=hid hc;have mk:=fun w=>run_make_row' (P:=Tryz.prog) 90 4 (.bool false) 1 Tryz.underlying90 (by kernel_rfl) rfl .i64 .i64 (l.length+1) (by omega) (by omega) w;have UN:=hid (fun(W:World) (ga gb:Nat) (xs ys:List Bool) (h1:Q1y W ga xs) (h2:Q1y W gb ys) (h3:xs.length=l.length+1) (h4:ys.length=l.length+1)=>z2x W ga gb (l.length+1) xs ys h1 h2 h3 h4 (by omega));unfold spF;generalize hV:spJ (bs R) l D c frm (l.length+1) (l.length+1) 0 (List.replicate (l.length+1) false)=V;have HV:=hid hV;have je:=hB.lt;generalize hn:l.length+1=n at mk UN HV j4 ⊢;have j6:n=l.length+1:=hn.symm;have j3:=hid j6;have jb:n<=61:=by omega
 clear hS hN hB hfl hc hV hn j6;go_enter Tryz.func97,Tryz.ntmps97
 go_wp2;go_loopw [7,8] (fun x7 x8 wr=>∃(i g:Nat) (out:List Bool),x8=.int .i64 i/\x7=bsl g n/\i<=n/\w.heap.size<=g/\Q1y wr g out/\out.length=n/\Q0a w wr/\spJ (bs R) l D c frm n (n-i) i out=V)
   (fun _ x _=>1001-(intOf x).toNat)
 case atStart =>
  refine⟨0,w.heap.size,List.replicate n false,rfl,rfl,by omega,qR _,?_,by simp,(mRf _ w).alloc _,HV.out⟩;rw[z03];exact z0a _ _
 obtain⟨i,g,out,rfl,rfl,hi,hg,hO,hol,hfr,hrec⟩:=hrel;have j2:=hid (Q15 (B:=1001) i (by omega));have HO:=hid hO;have j1:=hid hol;have HF:=hid hfr;clear hO hol mk HV;by_cases hlt:i<n
 ·have s1:(i:Int)<(n:Int):=by omega
  rw[v2f _ _ _ _ _ _ _ _ hlt]at hrec;have f1:=(HB.fresh hfr).cell (j:=i) (by rw[j4.out];exact hlt);have hS:=HS.fresh hfr;have d0:=hS.c0;have d1:=hS.c1;have d2:=hS.c2;have BA:=hid (z1i wr b R a0 c0 (Q0i hfr j5.out) (by omega));generalize frm.getD i false=fb at hrec f1;cases fb
  ·rw[qAa (by simp)]at hrec;have j0:=hid hrec;clear hrec hS hfr;go_wp2;go_roundw
   case rel=>exact⟨i+1,g,out,by go_num,rfl,by omega,hg,HO.out,j1.out,HF.out,j0.out⟩
   exact j2.out
  rw[qAb rfl]at hrec;by_cases hcb:c<bs R
  ·rw[qAb hcb]at hrec;by_cases hil:i<l.length
   ·have s2:(i:Int)<(l.length:Int):=by omega
    obtain⟨ak,ck,ek,hck,cellk⟩:=hS.k;rw[qI]at ek;obtain⟨rfl,_,rfl⟩:=ek;obtain⟨gk,ok,rfl,y1⟩:=cellk i hil;rw[qE hil]at hrec;generalize l[i]=x at hrec y1;by_cases hxc:x=c
    ·subst hxc;rw[qAb rfl]at hrec;have j0:=hid hrec;have jc:=j3.out;have o1:=HO.cell (j:=i+1) (by rw[j1.out];omega);have o2:=HO.frozen (i+1);have s3:((i+1:Nat):Int)<(n:Int):=by omega
     have s4:(i:Int)+1<(n:Int):=by omega
     have jd:IntKind.i64.wrap ((i:Int)+1)=((i+1:Nat):Int):=by rw[IntKind.wrap_i64];omega
     have HP:=hid (HO.put (i+1) true);clear hrec hS cellk jc;go_wp2_with (first
      |(go_at_call 34;refine csm BA.out ?_))
     go_roundw
     case rel=>exact⟨i+1,g,_,by go_num,rfl,by omega,hg,HP.out,by simp[j1.out],HF.setCell (fun h=>absurd h (by dsimp only;omega)) _,j0.out⟩
     exact j2.out
    rw[qAa (by simp[hxc])]at hrec;have j0:=hid hrec;clear hrec hS cellk;go_wp2_with (first
     |(go_at_call 34;refine csm BA.out ?_))
    go_roundw
    case rel=>exact⟨i+1,g,out,by go_num,rfl,by omega,hg,HO.out,j1.out,HF.out,j0.out⟩
    exact j2.out
   have s2:¬(i:Int)<(l.length:Int):=by omega
   rw[qN (by omega),qAa (by simp)]at hrec;have j0:=hid hrec;clear hrec hS;go_wp2_with (first
    |(go_at_call 34;refine csm BA.out ?_))
   go_roundw
   case rel=>exact⟨i+1,g,out,by go_num,rfl,by omega,hg,HO.out,j1.out,HF.out,j0.out⟩
   exact j2.out
  rw[qAa hcb]at hrec;have j9:=HC.out;obtain⟨j,hj⟩:∃j:Nat,c-bs R=j:=⟨(c-bs R).toNat,by omega⟩;have ja:j<H:=by unfold bs at hj;omega
  rw[hj,qAl]at hrec;obtain⟨gd,gh,ch,g2,e1,e2,e3,hB2,hl2⟩:=hS.rows j i ja (by have:=j3.out;omega);subst e1;generalize(D.getD j []).getD i []=dr at hrec hB2 hl2;rw[← j3.out]at e2 e3 hl2;have s3:(j:Int)<(H:Int):=by omega
  have jd:IntKind.i64.wrap (c-bs R)=(j:Int):=by rw[IntKind.wrap_i64];unfold bs at hj ⊢;omega
  have j0:=hid hrec;have UX:=hid (fun(W:World) (hW:Q0a wr W)=>UN.out W g g2 out dr (HO.fresh hW) (hB2.fresh hW) j1.out hl2);have BQ:=hid (fun(W:World) (hW:Q0a wr W)=>z1i W b R a0 c0 (Q0i (HF.trans hW) j5.out) (by omega));clear hrec hS hB2 hl2 hj j9;go_upto_region 9 with(first
   |(go_at_call 34;refine csm BA.out ?_))
  go_region_with (first
   |(go_at_call 34;refine(BQ.out _ (by first|exact(mRf _ wr).drew|exact mRf _ wr)).mono ?_;rintro e w'⟨rfl,hw⟩;rw[hw];clear hw)
   |(go_at_call 70;refine(UX.out _ (by first|exact(mRf _ wr).drew|exact mRf _ wr)).mono ?_;rintro e w3⟨rfl,hf3,hB3⟩;have j7:=hid hB3;have j8:=hid (((mRf _ wr).drew).trans hf3);clear hB3 hf3))
  all_goals
   go_wp2;go_roundw
   case rel=>exact⟨i+1,_,_,by go_num,rfl,by omega,HF.size,j7.out,z2l _ _ _ _,HF.trans j8.out,j0.out⟩
   exact j2.out
 have s1:¬(i:Int)<(n:Int):=by omega
 have hz:n-i=0:=by omega
 rw[hz]at hrec;have j0:=hid hrec;clear hrec hz;go_wp2;go_ret;refine⟨g,rfl,?_,HF.out⟩;have:=j0.out;unfold spJ at this;rw[← this];exact HO.out
theorem x1h(l:List Bool)(i:Nat)(b:Bool):(Q3y l).toArray.setIfInBounds i (.bool b)=(Q3y (l.set i b)).toArray:=by simp[Q3y,qDy]
theorem x7f(base:Int)(l:List Int)(D:List Mat)(n:Nat)(cs:List Int)(k:Nat)(s:List Bool)(h:k<cs.length):rhF base l D n (cs.drop k) s=rhF base l D n (cs.drop (k+1)) (spF base l D cs[k] s n):=by
 rw[qC h];rfl
theorem y2v(base:Int)(l:List Int)(D:List Mat)(c:Int)(frm:List Bool):(spF base l D c frm (l.length+1)).length=l.length+1:=(x8n base l D c frm rfl).1
theorem z9r(w:World)(sb b R H:Nat)(q:List Q1)(ka:Option Addr)(kc:Nat)(l:List Int)(da:Option Addr)(dc:Nat)(D:List Mat)(hS:SpR w sb b R H q ka kc l da dc D)(hQ:QOk R H q)(hl:l.length<=60)(v:Value)(cs:List Int)(hv:Q0z w v cs)(hcl:cs.length<=1000)(hcs:∀c∈cs,0<=c/\c<(R:Int)+1+H)(i:Nat)(hi:i<=l.length) :
  Calls Tryz.prog 75 #[.pointer (some ⟨sb,0,none⟩),v,.int .i64 i] w fun e w'=>BRet w (l.length+1) (rcF (bs R) l D cs i) e w':=by
 obtain⟨ao,cap,rfl,hcap,hcell⟩:=hv;have ST:=hid (fun(W:World) (hW:Q0a w W) (gf:Nat) (frm:List Bool) (h1:Q1y W gf frm) (h2:frm.length=l.length+1) (c:Int) (h3:0<=c/\c<(R:Int)+1+H)=>x4w W sb b R H q ka kc l da dc D (hS.fresh hW) hQ hl gf frm h1 h2 c h3);have HC:=hid hcell;have j4:=hid hcs;have d1:=hS.c1;have mk:=fun w=>run_make_row' (P:=Tryz.prog) 90 4 (.bool false) 1 Tryz.underlying90 (by kernel_rfl) rfl .i64 .i64 (l.length+1) (by omega) (by omega) w;have SL:=hid (fun c s=>y2v (bs R) l D c s);unfold rcF;generalize hV:rhF (bs R) l D (l.length+1) cs ((List.replicate (l.length+1) false).set i true)=V;have HV:=hid hV;have jb:IntKind.i64.wrap ((l.length:Int)+1)=((l.length+1:Nat):Int):=by rw[IntKind.wrap_i64];omega
 have j1:Q1y (w.alloc (.cells (madeCells #[.bool false] (l.length+1)) 4)) w.heap.size (List.replicate (l.length+1) false):=by rw[z03];exact z0a _ _
 have b1:=j1.cell (j:=i) (by simp;omega);have b2:=j1.frozen i;generalize hn:l.length+1=n at mk ST SL HV jb b1 b2 ⊢;have s0:(i:Int)<(n:Int):=by omega
 have ja:n<=61:=by omega
 clear hcell hcs hV hS hQ j1 hn;go_enter Tryz.func75,Tryz.ntmps75
 go_wp2;go_loopw [7,8] (fun x7 x8 wr=>∃(k g:Nat) (s:List Bool),x8=.int .i64 k/\x7=bsl g n/\k<=cs.length/\Q1y wr g s/\s.length=n/\Q0a w wr/\rhF (bs R) l D n (cs.drop k) s=V)
   (fun _ x _=>1001-(intOf x).toNat)
 case atStart=>exact⟨0,w.heap.size,_,rfl,rfl,by omega,by rw[z03,x1h];exact z0a _ _,by simp,(mRf _ w).alloc _,HV.out⟩
 obtain⟨k,g,s,rfl,rfl,hk,hB,hsl,hfr,hrec⟩:=hrel;have j6:=hid (Q15 (B:=1001) k (by omega));have HB:=hid hB;have HF:=hid hfr;have j7:=hid hsl;clear hB hsl mk HV b1 b2;by_cases hlt:k<cs.length
 ·have s1:(k:Int)<(cs.length:Int):=by omega
  rw[x7f _ _ _ _ _ _ _ hlt]at hrec;obtain⟨g1,o1,rfl,y1⟩:=HC.out k hlt;have y2:=Q0i hfr y1;have j2:=j4.out cs[k] (qG hlt);generalize cs[k]=c at hrec y1 y2 j2;have j0:=hid hrec;have j9:=hid (ST.out wr hfr g s HB.out j7.out c j2);have j8:=hid (SL.out c s);clear hrec y1;go_wp2_with (first
   |(go_at_call 97;refine(j9.out).mono ?_;rintro e w3⟨g3,rfl,hB3,hf3⟩;have j3:=hid hB3;have j5:=hid hf3;clear hB3 hf3))
  go_roundw
  case rel=>exact⟨k+1,g3,_,by go_num,rfl,by omega,j3.out,j8.out,HF.trans j5.out,j0.out⟩
  exact j6.out
 have s1:¬(k:Int)<(cs.length:Int):=by omega
 rw[qAi (by omega)]at hrec;have j0:=hid hrec;clear hrec;go_wp2;go_ret;refine⟨g,rfl,?_,HF.out⟩;have:=j0.out;unfold rhF at this;rw[← this];exact HB.out
end Go.Proofs.YtcpceafmlgaodaaGreat
