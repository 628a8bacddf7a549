import Derived.Test.YtbdpfmalabgmbaaGreatTwc
import Derived.Test.YtbdpfmalabgmbaaGreatRb5
namespace Go.Proofs.YtbdpfmalabgmbaaGreat
open Go.RowKit
set_option maxRecDepth 99999
set_option maxHeartbeats 0
set_option linter.all false
def RowD(w:World)(n:Nat)(da:Option Addr)(h i:Nat)(r:List Bool):Prop :=
 ∃gd gh ch g,da=some ⟨gd,0,none⟩/\w.cell? ⟨gd,h,none⟩=some (.slice (some ⟨gh,0,none⟩) n ch)/\w.cell? ⟨gh,i,none⟩=some (bsl g n)/\Q1x w g r/\r.length=n
theorem RowD.fresh{w w':World}{n:Nat}{da:Option Addr}{h i:Nat}{r:List Bool}(hr:RowD w n da h i r)(hf:Q0a w w'):RowD w' n da h i r:=by
 obtain⟨gd,gh,ch,g,h1,h2,h3,h4,h5⟩:=hr;exact⟨gd,gh,ch,g,h1,Q0h hf h2,Q0h hf h3,h4.fresh hf,h5⟩
structure SpR(w:World)(sb b R H:Nat)(q:List Q1)(ka:Option Addr)(kc:Nat)(l:List Int)(da:Option Addr)(dc:Nat)(D:List Mat):Prop where
 c0:w.cell? ⟨sb,0,none⟩=some (.pointer (some ⟨b,0,none⟩))
 c1:w.cell? ⟨sb,1,none⟩=some (.slice ka l.length kc)
 c2:w.cell? ⟨sb,2,none⟩=some (.slice da H dc)
 s:Q3q w b R H q
 k:Q1c w (.slice ka l.length kc) l
 rows:∀h i:Nat,h<H->i<=l.length->RowD w (l.length+1) da h i ((D.getD h []).getD i [])
theorem SpR.fresh{w w':World}{sb b R H:Nat}{q:List Q1}{ka:Option Addr}{kc:Nat}{l:List Int}{da:Option Addr}{dc:Nat}{D:List Mat}(h:SpR w sb b R H q ka kc l da dc D)(hf:Q0a w w'):SpR w' sb b R H q ka kc l da dc D :=
 ⟨Q0h hf h.c0,Q0h hf h.c1,Q0h hf h.c2,h.s.fresh hf,h.k.fresh hf,fun a i h1 h2=>(h.rows a i h1 h2).fresh hf⟩
theorem v3c(base:Int)(l:List Int)(D:List Mat)(c:Int)(frm:List Bool)(n i:Nat)(out:List Bool)(h:i<n):spJ base l D c frm n (n-i) i out=spJ base l D c frm n (n-(i+1)) (i+1) (if frm.getD i false=true then(if c<base then(if l[i]? = some c then out.set (i+1) true else out) else orI out ((D.getD (c-base).toNat []).getD i []) n n) else out):=by
 rw[show n-i=(n-(i+1))+1 by omega];rfl
def BRet(w:World)(n:Nat)(l:List Bool)(e:Ending)(w':World):Prop:=∃g,e=.returned (bsl g n)/\Q1x w' g l/\Q0a w w'
theorem x5d(w:World)(sb b R H:Nat)(q:List Q1)(ka:Option Addr)(kc:Nat)(l:List Int)(da:Option Addr)(dc:Nat)(D:List Mat)(hS:SpR w sb b R H q ka kc l da dc D)(hQ:QOk R H q)(hl:l.length<=60)(gf:Nat)(frm:List Bool)(hB:Q1x w gf frm)(hfl:frm.length=l.length+1)(c:Int)(hc:0<=c/\c<(R:Int)+1+H) :
  Calls Tryz.prog 115 #[.pointer (some ⟨sb,0,none⟩),.int .i64 c,bsl gf (l.length+1)] w fun e w'=>BRet w (l.length+1) (spF (bs R) l D c frm (l.length+1)) e w':=by
 have jt:=hQ.r8;have js:=hQ.h8;obtain⟨a0,c0,a1,c1,a2,c2,v3,v4,sv,hN⟩:=hS.s;have HS:=hid hS;have ja:=hid hN.k0;have HB:=hid hB;have j9:=hid hfl;have HC:=hid hc;have mk:=fun w=>run_make_row' (P:=Tryz.prog) 118 4 (.bool false) 1 qCw (by kernel_rfl) rfl .i64 .i64 (l.length+1) (by omega) (by omega) w;have UN:=hid (fun(W:World) (ga gb:Nat) (xs ys:List Bool) (h1:Q1x W ga xs) (h2:Q1x W gb ys) (h3:xs.length=l.length+1) (h4:ys.length=l.length+1)=>z23 W ga gb (l.length+1) xs ys h1 h2 h3 h4 (by omega));unfold spF;generalize hV:spJ (bs R) l D c frm (l.length+1) (l.length+1) 0 (List.replicate (l.length+1) false)=V;have HV:=hid hV;have jr:=hB.lt;generalize hn:l.length+1=n at mk UN HV j9 ⊢;have jg:n=l.length+1:=hn.symm;have j7:=hid jg;have jn:n<=61:=by omega
 clear hS hN hB hfl hc hV hn jg;go_enter Tryz.func115,Tryz.ntmps115
 go_wp2;go_loopw [7,8] (fun x7 x8 wr=>∃(i g:Nat) (out:List Bool),x8=.int .i64 i/\x7=bsl g n/\i<=n/\w.heap.size<=g/\Q1x wr g out/\out.length=n/\Q0a w wr/\spJ (bs R) l D c frm n (n-i) i out=V)
   (fun _ x _=>1001-(intOf x).toNat)
 case atStart =>
  refine⟨0,w.heap.size,List.replicate n false,rfl,rfl,by omega,qR _,?_,by simp,(mRf _ w).alloc _,HV.out⟩;rw[z03];exact z0a _ _
 obtain⟨i,g,out,rfl,rfl,hi,hg,hO,jh,j5,j0⟩:=hrel;have j4:=hid (Q19 (B:=1001) i (by omega));have HO:=hid hO;have j3:=hid jh;have HF:=hid j5;clear hO jh mk HV;by_cases jf:i<n
 ·have s1:(i:Int)<(n:Int):=by omega
  rw[v3c _ _ _ _ _ _ _ _ jf]at j0;have f1:=(HB.fresh j5).cell (j:=i) (by rw[j9.out];exact jf);have hS:=HS.fresh j5;have d0:=hS.c0;have d1:=hS.c1;have d2:=hS.c2;have BA:=hid (z1j wr b R a0 c0 (Q0h j5 ja.out) (by omega));generalize frm.getD i false=fb at j0 f1;cases fb
  ·rw[qAa (by simp)]at j0;have j1:=hid j0;clear j0 hS j5;go_wp2;go_roundw
   case rel=>exact⟨i+1,g,out,by go_num,rfl,by omega,hg,HO.out,j3.out,HF.out,j1.out⟩
   exact j4.out
  rw[qAb rfl]at j0;by_cases jc:c<bs R
  ·rw[qAb jc]at j0;by_cases je:i<l.length
   ·have s2:(i:Int)<(l.length:Int):=by omega
    obtain⟨ak,ck,ek,jq,j2⟩:=hS.k;rw[qI]at ek;obtain⟨rfl,_,rfl⟩:=ek;obtain⟨gk,ok,rfl,y1⟩:=j2 i je;rw[qE je]at j0;generalize l[i]=x at j0 y1;by_cases ji:x=c
    ·subst ji;rw[qAb rfl]at j0;have j1:=hid j0;have jo:=j7.out;have o1:=HO.cell (j:=i+1) (by rw[j3.out];omega);have o2:=HO.frozen (i+1);have s3:((i+1:Nat):Int)<(n:Int):=by omega
     have s4:(i:Int)+1<(n:Int):=by omega
     have jp:IntKind.i64.wrap ((i:Int)+1)=((i+1:Nat):Int):=by rw[qBv];omega
     have HP:=hid (HO.put (i+1) true);clear j0 hS j2 jo;go_wp2_with (first
      |(go_at_call 47;refine csm BA.out ?_))
     go_roundw
     case rel=>exact⟨i+1,g,_,by go_num,rfl,by omega,hg,HP.out,by simp[j3.out],HF.setCell (fun h=>absurd h (by dsimp only;omega)) _,j1.out⟩
     exact j4.out
    rw[qAa (by simp[ji])]at j0;have j1:=hid j0;clear j0 hS j2;go_wp2_with (first
     |(go_at_call 47;refine csm BA.out ?_))
    go_roundw
    case rel=>exact⟨i+1,g,out,by go_num,rfl,by omega,hg,HO.out,j3.out,HF.out,j1.out⟩
    exact j4.out
   have s2:¬(i:Int)<(l.length:Int):=by omega
   rw[qN (by omega),qAa (by simp)]at j0;have j1:=hid j0;clear j0 hS;go_wp2_with (first
    |(go_at_call 47;refine csm BA.out ?_))
   go_roundw
   case rel=>exact⟨i+1,g,out,by go_num,rfl,by omega,hg,HO.out,j3.out,HF.out,j1.out⟩
   exact j4.out
  rw[qAa jc]at j0;have jl:=HC.out;obtain⟨j,hj⟩:∃j:Nat,c-bs R=j:=⟨(c-bs R).toNat,by omega⟩;have jm:j<H:=by unfold bs at hj;omega
  rw[hj,qAo]at j0;obtain⟨gd,gh,ch,g2,e1,e2,e3,j8,j6⟩:=hS.rows j i jm (by have:=j7.out;omega);subst e1;generalize(D.getD j []).getD i []=dr at j0 j8 j6;rw[← j7.out]at e2 e3 j6;have s3:(j:Int)<(H:Int):=by omega
  have jp:IntKind.i64.wrap (c-bs R)=(j:Int):=by rw[qBv];unfold bs at hj ⊢;omega
  have j1:=hid j0;have UX:=hid (fun(W:World) (hW:Q0a wr W)=>UN.out W g g2 out dr (HO.fresh hW) (j8.fresh hW) j3.out j6);have BQ:=hid (fun(W:World) (hW:Q0a wr W)=>z1j W b R a0 c0 (Q0h (HF.trans hW) ja.out) (by omega));clear j0 hS j8 j6 hj jl;go_upto_region 9 with(first
   |(go_at_call 47;refine csm BA.out ?_))
  go_region_with (first
   |(go_at_call 47;refine(BQ.out _ (by first|exact(mRf _ wr).drew|exact mRf _ wr)).mono ?_;rintro e w'⟨rfl,hw⟩;rw[hw];clear hw)
   |(go_at_call 80;refine(UX.out _ (by first|exact(mRf _ wr).drew|exact mRf _ wr)).mono ?_;rintro e w3⟨rfl,jd,jb⟩;have jj:=hid jb;have jk:=hid (((mRf _ wr).drew).trans jd);clear jb jd))
  all_goals
   go_wp2;go_roundw
   case rel=>exact⟨i+1,_,_,by go_num,rfl,by omega,HF.size,jj.out,z2s _ _ _ _,HF.trans jk.out,j1.out⟩
   exact j4.out
 have s1:¬(i:Int)<(n:Int):=by omega
 have hz:n-i=0:=by omega
 rw[hz]at j0;have j1:=hid j0;clear j0 hz;go_wp2;go_ret;refine⟨g,rfl,?_,HF.out⟩;have:=j1.out;unfold spJ at this;rw[← this];exact HO.out
theorem x17(l:List Bool)(i:Nat)(b:Bool):(Q34 l).toArray.setIfInBounds i (.bool b)=(Q34 (l.set i b)).toArray:=by simp[Q34,qFr]
theorem x7w(base:Int)(l:List Int)(D:List Mat)(n:Nat)(cs:List Int)(k:Nat)(s:List Bool)(h:k<cs.length):rhF base l D n (cs.drop k) s=rhF base l D n (cs.drop (k+1)) (spF base l D cs[k] s n):=by
 rw[qC h];rfl
theorem y3d(base:Int)(l:List Int)(D:List Mat)(c:Int)(frm:List Bool):(spF base l D c frm (l.length+1)).length=l.length+1:=(x9a base l D c frm rfl).1
theorem z95(w:World)(sb b R H:Nat)(q:List Q1)(ka:Option Addr)(kc:Nat)(l:List Int)(da:Option Addr)(dc:Nat)(D:List Mat)(hS:SpR w sb b R H q ka kc l da dc D)(hQ:QOk R H q)(hl:l.length<=60)(v:Value)(cs:List Int)(hv:Q1c w v cs)(hcl:cs.length<=1000)(hcs:∀c∈cs,0<=c/\c<(R:Int)+1+H)(i:Nat)(hi:i<=l.length) :
  Calls Tryz.prog 86 #[.pointer (some ⟨sb,0,none⟩),v,.int .i64 i] w fun e w'=>BRet w (l.length+1) (rcF (bs R) l D cs i) e w':=by
 obtain⟨ao,cap,rfl,jh,j1⟩:=hv;have ST:=hid (fun(W:World) (hW:Q0a w W) (gf:Nat) (frm:List Bool) (h1:Q1x W gf frm) (h2:frm.length=l.length+1) (c:Int) (h3:0<=c/\c<(R:Int)+1+H)=>x5d W sb b R H q ka kc l da dc D (hS.fresh hW) hQ hl gf frm h1 h2 c h3);have HC:=hid j1;have jb:=hid hcs;have d1:=hS.c1;have mk:=fun w=>run_make_row' (P:=Tryz.prog) 118 4 (.bool false) 1 qCw (by kernel_rfl) rfl .i64 .i64 (l.length+1) (by omega) (by omega) w;have SL:=hid (fun c s=>y3d (bs R) l D c s);unfold rcF;generalize hV:rhF (bs R) l D (l.length+1) cs ((List.replicate (l.length+1) false).set i true)=V;have HV:=hid hV;have jj:IntKind.i64.wrap ((l.length:Int)+1)=((l.length+1:Nat):Int):=by rw[qBv];omega
 have j3:Q1x (w.alloc (.cells (madeCells #[.bool false] (l.length+1)) 4)) w.heap.size (List.replicate (l.length+1) false):=by rw[z03];exact z0a _ _
 have b1:=j3.cell (j:=i) (by simp;omega);have b2:=j3.frozen i;generalize hn:l.length+1=n at mk ST SL HV jj b1 b2 ⊢;have s0:(i:Int)<(n:Int):=by omega
 have ji:n<=61:=by omega
 clear j1 hcs hV hS hQ j3 hn;go_enter Tryz.func86,Tryz.ntmps86
 go_wp2;go_loopw [7,8] (fun x7 x8 wr=>∃(k g:Nat) (s:List Bool),x8=.int .i64 k/\x7=bsl g n/\k<=cs.length/\Q1x wr g s/\s.length=n/\Q0a w wr/\rhF (bs R) l D n (cs.drop k) s=V)
   (fun _ x _=>1001-(intOf x).toNat)
 case atStart=>exact⟨0,w.heap.size,_,rfl,rfl,by omega,by rw[z03,x17];exact z0a _ _,by simp,(mRf _ w).alloc _,HV.out⟩
 obtain⟨k,g,s,rfl,rfl,hk,hB,j9,j4,j0⟩:=hrel;have jd:=hid (Q19 (B:=1001) k (by omega));have HB:=hid hB;have HF:=hid j4;have je:=hid j9;clear hB j9 mk HV b1 b2;by_cases j5:k<cs.length
 ·have s1:(k:Int)<(cs.length:Int):=by omega
  rw[x7w _ _ _ _ _ _ _ j5]at j0;obtain⟨g1,o1,rfl,y1⟩:=HC.out k j5;have y2:=Q0h j4 y1;have j7:=jb.out cs[k] (qG j5);generalize cs[k]=c at j0 y1 y2 j7;have j2:=hid j0;have jg:=hid (ST.out wr j4 g s HB.out je.out c j7);have jf:=hid (SL.out c s);clear j0 y1;go_wp2_with (first
   |(go_at_call 115;refine(jg.out).mono ?_;rintro e w3⟨g3,rfl,j6,j8⟩;have ja:=hid j6;have jc:=hid j8;clear j6 j8))
  go_roundw
  case rel=>exact⟨k+1,g3,_,by go_num,rfl,by omega,ja.out,jf.out,HF.trans jc.out,j2.out⟩
  exact jd.out
 have s1:¬(k:Int)<(cs.length:Int):=by omega
 rw[qAp (by omega)]at j0;have j2:=hid j0;clear j0;go_wp2;go_ret;refine⟨g,rfl,?_,HF.out⟩;have:=j2.out;unfold rhF at this;rw[← this];exact HB.out
end Go.Proofs.YtbdpfmalabgmbaaGreat
