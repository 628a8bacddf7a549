import Derived.Test.YtcpceafmlgaodaaGreatEa3
namespace Go.Proofs.YtcpceafmlgaodaaGreat
open Go.RowKit
set_option maxRecDepth 99999
set_option maxHeartbeats 0
set_option linter.all false
def RowD(w:World)(n:Nat)(da:Option Addr)(h i:Nat)(r:List Bool):Prop :=
 ∃gd gh ch g,da=some ⟨gd,0,none⟩/\w.cell? ⟨gd,h,none⟩=some (.slice (some ⟨gh,0,none⟩) n ch)/\w.cell? ⟨gh,i,none⟩=some (bsl g n)/\Q1y w g r/\r.length=n
theorem RowD.fresh{w w':World}{n:Nat}{da:Option Addr}{h i:Nat}{r:List Bool}(hr:RowD w n da h i r)(hf:Q0a w w'):RowD w' n da h i r:=by
 obtain⟨gd,gh,ch,g,h1,h2,h3,h4,h5⟩:=hr;exact⟨gd,gh,ch,g,h1,Q0i hf h2,Q0i hf h3,h4.fresh hf,h5⟩
structure SpR(w:World)(sb b R H:Nat)(q:List Q1)(ka:Option Addr)(kc:Nat)(l:List Int)(da:Option Addr)(dc:Nat)(D:List Mat):Prop where
 c0:w.cell? ⟨sb,0,none⟩=some (.pointer (some ⟨b,0,none⟩))
 c1:w.cell? ⟨sb,1,none⟩=some (.slice ka l.length kc)
 c2:w.cell? ⟨sb,2,none⟩=some (.slice da H dc)
 s:Q3x w b R H q
 k:Q0z w (.slice ka l.length kc) l
 rows:∀h i:Nat,h<H->i<=l.length->RowD w (l.length+1) da h i ((D.getD h []).getD i [])
theorem SpR.fresh{w w':World}{sb b R H:Nat}{q:List Q1}{ka:Option Addr}{kc:Nat}{l:List Int}{da:Option Addr}{dc:Nat}{D:List Mat}(h:SpR w sb b R H q ka kc l da dc D)(hf:Q0a w w'):SpR w' sb b R H q ka kc l da dc D :=
 ⟨Q0i hf h.c0,Q0i hf h.c1,Q0i hf h.c2,h.s.fresh hf,h.k.fresh hf,fun a i h1 h2=>(h.rows a i h1 h2).fresh hf⟩
theorem v2f(base:Int)(l:List Int)(D:List Mat)(c:Int)(frm:List Bool)(n i:Nat)(out:List Bool)(h:i<n):spJ base l D c frm n (n-i) i out=spJ base l D c frm n (n-(i+1)) (i+1) (if frm.getD i false=true then(if c<base then(if l[i]? = some c then out.set (i+1) true else out) else orI out ((D.getD (c-base).toNat []).getD i []) n n) else out):=by
 rw[show n-i=(n-(i+1))+1 by omega];rfl
def BRet(w:World)(n:Nat)(l:List Bool)(e:Ending)(w':World):Prop:=∃g,e=.returned (bsl g n)/\Q1y w' g l/\Q0a w w'
theorem x4w(w:World)(sb b R H:Nat)(q:List Q1)(ka:Option Addr)(kc:Nat)(l:List Int)(da:Option Addr)(dc:Nat)(D:List Mat)(hS:SpR w sb b R H q ka kc l da dc D)(hQ:QOk R H q)(hl:l.length<=60)(gf:Nat)(frm:List Bool)(hB:Q1y w gf frm)(hfl:frm.length=l.length+1)(c:Int)(hc:0<=c/\c<(R:Int)+1+H) :
  Calls Tryz.prog 97 #[.pointer (some ⟨sb,0,none⟩),.int .i64 c,bsl gf (l.length+1)] w fun e w'=>BRet w (l.length+1) (spF (bs R) l D c frm (l.length+1)) e w':=by
 have jg:=hQ.r8;have jf:=hQ.h8;obtain⟨a0,c0,a1,c1,a2,c2,v3,v4,sv,hN⟩:=hS.s;have HS:=hid hS;have j5:=hid hN.k0;have HB:=hid hB;have j4:=hid hfl;have HC:=hid hc;have mk:=fun w=>run_make_row' (P:=Tryz.prog) 90 4 (.bool false) 1 Tryz.underlying90 (by kernel_rfl) rfl .i64 .i64 (l.length+1) (by omega) (by omega) w;have UN:=hid (fun(W:World) (ga gb:Nat) (xs ys:List Bool) (h1:Q1y W ga xs) (h2:Q1y W gb ys) (h3:xs.length=l.length+1) (h4:ys.length=l.length+1)=>z2x W ga gb (l.length+1) xs ys h1 h2 h3 h4 (by omega));unfold spF;generalize hV:spJ (bs R) l D c frm (l.length+1) (l.length+1) 0 (List.replicate (l.length+1) false)=V;have HV:=hid hV;have je:=hB.lt;generalize hn:l.length+1=n at mk UN HV j4 ⊢;have j6:n=l.length+1:=hn.symm;have j3:=hid j6;have jb:n<=61:=by omega
 clear hS hN hB hfl hc hV hn j6;go_enter Tryz.func97,Tryz.ntmps97
 go_wp2;go_loopw [7,8] (fun x7 x8 wr=>∃(i g:Nat) (out:List Bool),x8=.int .i64 i/\x7=bsl g n/\i<=n/\w.heap.size<=g/\Q1y wr g out/\out.length=n/\Q0a w wr/\spJ (bs R) l D c frm n (n-i) i out=V)
   (fun _ x _=>1001-(intOf x).toNat)
 case atStart =>
  refine⟨0,w.heap.size,List.replicate n false,rfl,rfl,by omega,qR _,?_,by simp,(mRf _ w).alloc _,HV.out⟩;rw[z03];exact z0a _ _
 obtain⟨i,g,out,rfl,rfl,hi,hg,hO,hol,hfr,hrec⟩:=hrel;have j2:=hid (Q15 (B:=1001) i (by omega));have HO:=hid hO;have j1:=hid hol;have HF:=hid hfr;clear hO hol mk HV;by_cases hlt:i<n
 ·have s1:(i:Int)<(n:Int):=by omega
  rw[v2f _ _ _ _ _ _ _ _ hlt]at hrec;have f1:=(HB.fresh hfr).cell (j:=i) (by rw[j4.out];exact hlt);have hS:=HS.fresh hfr;have d0:=hS.c0;have d1:=hS.c1;have d2:=hS.c2;have BA:=hid (z1i wr b R a0 c0 (Q0i hfr j5.out) (by omega));generalize frm.getD i false=fb at hrec f1;cases fb
  ·rw[qAa (by simp)]at hrec;have j0:=hid hrec;clear hrec hS hfr;go_wp2;go_roundw
   case rel=>exact⟨i+1,g,out,by go_num,rfl,by omega,hg,HO.out,j1.out,HF.out,j0.out⟩
   exact j2.out
  rw[qAb rfl]at hrec;by_cases hcb:c<bs R
  ·rw[qAb hcb]at hrec;by_cases hil:i<l.length
   ·have s2:(i:Int)<(l.length:Int):=by omega
    obtain⟨ak,ck,ek,hck,cellk⟩:=hS.k;rw[qI]at ek;obtain⟨rfl,_,rfl⟩:=ek;obtain⟨gk,ok,rfl,y1⟩:=cellk i hil;rw[qE hil]at hrec;generalize l[i]=x at hrec y1;by_cases hxc:x=c
    ·subst hxc;rw[qAb rfl]at hrec;have j0:=hid hrec;have jc:=j3.out;have o1:=HO.cell (j:=i+1) (by rw[j1.out];omega);have o2:=HO.frozen (i+1);have s3:((i+1:Nat):Int)<(n:Int):=by omega
     have s4:(i:Int)+1<(n:Int):=by omega
     have jd:IntKind.i64.wrap ((i:Int)+1)=((i+1:Nat):Int):=by rw[IntKind.wrap_i64];omega
     have HP:=hid (HO.put (i+1) true);clear hrec hS cellk jc;go_wp2_with (first
      |(go_at_call 34;refine csm BA.out ?_))
     go_roundw
     case rel=>exact⟨i+1,g,_,by go_num,rfl,by omega,hg,HP.out,by simp[j1.out],HF.setCell (fun h=>absurd h (by dsimp only;omega)) _,j0.out⟩
     exact j2.out
    rw[qAa (by simp[hxc])]at hrec;have j0:=hid hrec;clear hrec hS cellk;go_wp2_with (first
     |(go_at_call 34;refine csm BA.out ?_))
    go_roundw
    case rel=>exact⟨i+1,g,out,by go_num,rfl,by omega,hg,HO.out,j1.out,HF.out,j0.out⟩
    exact j2.out
   have s2:¬(i:Int)<(l.length:Int):=by omega
   rw[qN (by omega),qAa (by simp)]at hrec;have j0:=hid hrec;clear hrec hS;go_wp2_with (first
    |(go_at_call 34;refine csm BA.out ?_))
   go_roundw
   case rel=>exact⟨i+1,g,out,by go_num,rfl,by omega,hg,HO.out,j1.out,HF.out,j0.out⟩
   exact j2.out
  rw[qAa hcb]at hrec;have j9:=HC.out;obtain⟨j,hj⟩:∃j:Nat,c-bs R=j:=⟨(c-bs R).toNat,by omega⟩;have ja:j<H:=by unfold bs at hj;omega
  rw[hj,qAl]at hrec;obtain⟨gd,gh,ch,g2,e1,e2,e3,hB2,hl2⟩:=hS.rows j i ja (by have:=j3.out;omega);subst e1;generalize(D.getD j []).getD i []=dr at hrec hB2 hl2;rw[← j3.out]at e2 e3 hl2;have s3:(j:Int)<(H:Int):=by omega
  have jd:IntKind.i64.wrap (c-bs R)=(j:Int):=by rw[IntKind.wrap_i64];unfold bs at hj ⊢;omega
  have j0:=hid hrec;have UX:=hid (fun(W:World) (hW:Q0a wr W)=>UN.out W g g2 out dr (HO.fresh hW) (hB2.fresh hW) j1.out hl2);have BQ:=hid (fun(W:World) (hW:Q0a wr W)=>z1i W b R a0 c0 (Q0i (HF.trans hW) j5.out) (by omega));clear hrec hS hB2 hl2 hj j9;go_upto_region 9 with(first
   |(go_at_call 34;refine csm BA.out ?_))
  go_region_with (first
   |(go_at_call 34;refine(BQ.out _ (by first|exact(mRf _ wr).drew|exact mRf _ wr)).mono ?_;rintro e w'⟨rfl,hw⟩;rw[hw];clear hw)
   |(go_at_call 70;refine(UX.out _ (by first|exact(mRf _ wr).drew|exact mRf _ wr)).mono ?_;rintro e w3⟨rfl,hf3,hB3⟩;have j7:=hid hB3;have j8:=hid (((mRf _ wr).drew).trans hf3);clear hB3 hf3))
  all_goals
   go_wp2;go_roundw
   case rel=>exact⟨i+1,_,_,by go_num,rfl,by omega,HF.size,j7.out,z2l _ _ _ _,HF.trans j8.out,j0.out⟩
   exact j2.out
 have s1:¬(i:Int)<(n:Int):=by omega
 have hz:n-i=0:=by omega
 rw[hz]at hrec;have j0:=hid hrec;clear hrec hz;go_wp2;go_ret;refine⟨g,rfl,?_,HF.out⟩;have:=j0.out;unfold spJ at this;rw[← this];exact HO.out
theorem x1h(l:List Bool)(i:Nat)(b:Bool):(Q3y l).toArray.setIfInBounds i (.bool b)=(Q3y (l.set i b)).toArray:=by simp[Q3y,qDy]
theorem x7f(base:Int)(l:List Int)(D:List Mat)(n:Nat)(cs:List Int)(k:Nat)(s:List Bool)(h:k<cs.length):rhF base l D n (cs.drop k) s=rhF base l D n (cs.drop (k+1)) (spF base l D cs[k] s n):=by
 rw[qC h];rfl
theorem y2v(base:Int)(l:List Int)(D:List Mat)(c:Int)(frm:List Bool):(spF base l D c frm (l.length+1)).length=l.length+1:=(x8n base l D c frm rfl).1
theorem z9r(w:World)(sb b R H:Nat)(q:List Q1)(ka:Option Addr)(kc:Nat)(l:List Int)(da:Option Addr)(dc:Nat)(D:List Mat)(hS:SpR w sb b R H q ka kc l da dc D)(hQ:QOk R H q)(hl:l.length<=60)(v:Value)(cs:List Int)(hv:Q0z w v cs)(hcl:cs.length<=1000)(hcs:∀c∈cs,0<=c/\c<(R:Int)+1+H)(i:Nat)(hi:i<=l.length) :
  Calls Tryz.prog 75 #[.pointer (some ⟨sb,0,none⟩),v,.int .i64 i] w fun e w'=>BRet w (l.length+1) (rcF (bs R) l D cs i) e w':=by
 obtain⟨ao,cap,rfl,hcap,hcell⟩:=hv;have ST:=hid (fun(W:World) (hW:Q0a w W) (gf:Nat) (frm:List Bool) (h1:Q1y W gf frm) (h2:frm.length=l.length+1) (c:Int) (h3:0<=c/\c<(R:Int)+1+H)=>x4w W sb b R H q ka kc l da dc D (hS.fresh hW) hQ hl gf frm h1 h2 c h3);have HC:=hid hcell;have j4:=hid hcs;have d1:=hS.c1;have mk:=fun w=>run_make_row' (P:=Tryz.prog) 90 4 (.bool false) 1 Tryz.underlying90 (by kernel_rfl) rfl .i64 .i64 (l.length+1) (by omega) (by omega) w;have SL:=hid (fun c s=>y2v (bs R) l D c s);unfold rcF;generalize hV:rhF (bs R) l D (l.length+1) cs ((List.replicate (l.length+1) false).set i true)=V;have HV:=hid hV;have jb:IntKind.i64.wrap ((l.length:Int)+1)=((l.length+1:Nat):Int):=by rw[IntKind.wrap_i64];omega
 have j1:Q1y (w.alloc (.cells (madeCells #[.bool false] (l.length+1)) 4)) w.heap.size (List.replicate (l.length+1) false):=by rw[z03];exact z0a _ _
 have b1:=j1.cell (j:=i) (by simp;omega);have b2:=j1.frozen i;generalize hn:l.length+1=n at mk ST SL HV jb b1 b2 ⊢;have s0:(i:Int)<(n:Int):=by omega
 have ja:n<=61:=by omega
 clear hcell hcs hV hS hQ j1 hn;go_enter Tryz.func75,Tryz.ntmps75
 go_wp2;go_loopw [7,8] (fun x7 x8 wr=>∃(k g:Nat) (s:List Bool),x8=.int .i64 k/\x7=bsl g n/\k<=cs.length/\Q1y wr g s/\s.length=n/\Q0a w wr/\rhF (bs R) l D n (cs.drop k) s=V)
   (fun _ x _=>1001-(intOf x).toNat)
 case atStart=>exact⟨0,w.heap.size,_,rfl,rfl,by omega,by rw[z03,x1h];exact z0a _ _,by simp,(mRf _ w).alloc _,HV.out⟩
 obtain⟨k,g,s,rfl,rfl,hk,hB,hsl,hfr,hrec⟩:=hrel;have j6:=hid (Q15 (B:=1001) k (by omega));have HB:=hid hB;have HF:=hid hfr;have j7:=hid hsl;clear hB hsl mk HV b1 b2;by_cases hlt:k<cs.length
 ·have s1:(k:Int)<(cs.length:Int):=by omega
  rw[x7f _ _ _ _ _ _ _ hlt]at hrec;obtain⟨g1,o1,rfl,y1⟩:=HC.out k hlt;have y2:=Q0i hfr y1;have j2:=j4.out cs[k] (qG hlt);generalize cs[k]=c at hrec y1 y2 j2;have j0:=hid hrec;have j9:=hid (ST.out wr hfr g s HB.out j7.out c j2);have j8:=hid (SL.out c s);clear hrec y1;go_wp2_with (first
   |(go_at_call 97;refine(j9.out).mono ?_;rintro e w3⟨g3,rfl,hB3,hf3⟩;have j3:=hid hB3;have j5:=hid hf3;clear hB3 hf3))
  go_roundw
  case rel=>exact⟨k+1,g3,_,by go_num,rfl,by omega,j3.out,j8.out,HF.trans j5.out,j0.out⟩
  exact j6.out
 have s1:¬(k:Int)<(cs.length:Int):=by omega
 rw[qAi (by omega)]at hrec;have j0:=hid hrec;clear hrec;go_wp2;go_ret;refine⟨g,rfl,?_,HF.out⟩;have:=j0.out;unfold rhF at this;rw[← this];exact HB.out
def Q83(f:Nat->Nat):Nat->Nat
 |0=>0
 |n+1=>Q83 f n+f n
theorem z3v{f g:Nat->Nat}:∀{n:Nat},(∀i,i<n->f i<=g i)->Q83 f n<=Q83 g n
 |0,_=>qR _
 |n+1,h=>Nat.add_le_add (z3v fun i hi=>h i (by omega)) (h n (by omega))
theorem y67{f g:Nat->Nat}{n:Nat}(h:∀i,i<n->f i=g i):Q83 f n=Q83 g n :=
 Nat.le_antisymm (z3v fun i hi=>by rw[h i hi];exact qR _) (z3v fun i hi=>by rw[h i hi];exact qR _)
theorem y2x{f g:Nat->Nat}:∀{n:Nat},(∀i,i<n->f i<=g i)->(∃i,i<n/\f i<g i)->Q83 f n<Q83 g n
 |0,_,⟨i,h,_⟩=>absurd h (by omega)
 |n+1,h,⟨i,hi,hl⟩=>by
  have h1:=z3v fun i (hi:i<n)=>h i (by omega);have h2:=h n (by omega);unfold Q83;by_cases e:i=n
  ·subst e;omega
  have:=y2x (n:=n) (fun i hi=>h i (by omega)) ⟨i,by omega,hl⟩;omega
theorem y2w{f:Nat->Nat}{B:Nat}:∀{n:Nat},(∀i,i<n->f i<=B)->Q83 f n<=n*B
 |0,_=>by simp[Q83]
 |n+1,h=>by
  have h1:=y2w fun i (hi:i<n)=>h i (by omega);have h2:=h n (by omega);unfold Q83;rw[Nat.succ_mul];omega
def Q87(H n:Nat)(D:List Mat):Nat:=Q83 (fun h=>Q83 (fun i=>Q83 (fun j=>(atM (D.getD h []) i j).toNat) n) n) H
def cntW(us:List Nat)(n:Nat)(w:World):Nat:=Q83 (fun h=>Q83 (fun i=>Q83 (fun j=>match w.cell? ⟨us.getD h 0,i,none⟩with
 |some (.slice (some a) _ _)=>(match w.cell? ⟨a.block,j,none⟩with
  |some (.bool true)=>1
  |_=>0)
 |_=>0) n) n) us.length
def Q9s(D:List Mat)(h i:Nat)(r:List Bool):List Mat:=D.set h ((D.getD h []).set i r)
theorem z11{α:Type}(l:List α)(i j:Nat)(a d:α)(h:i<l.length):(l.set i a).getD j d=if j=i then a else l.getD j d:=by
 rw[qD,qBy,qD];by_cases e:i=j
 ·subst e;simp[h]
 rw[qAa e,qAa (fun x=>e x.symm)]
theorem x37{D:List Mat}{h i:Nat}{r:List Bool}(hh:h<D.length)(hi:i<(D.getD h []).length)(h' i':Nat):((Q9s D h i r).getD h' []).getD i' []=if h'=h/\i'=i then r else(D.getD h' []).getD i' []:=by
 unfold Q9s;rw[z11 _ _ _ _ _ hh];by_cases e:h'=h
 ·subst e;rw[qAb rfl,z11 _ _ _ _ _ hi];simp
 rw[qAa e,qAa (fun x=>e x.1)]
theorem x38{D:List Mat}{h i:Nat}(hh:h<D.length)(hi:i<(D.getD h []).length):Q9s D h i ((D.getD h []).getD i [])=D:=by
 unfold Q9s;have e:(D.getD h []).set i ((D.getD h []).getD i [])=D.getD h []:=by
  apply qDf;intro k;rw[qBy];by_cases e:i=k
  ·subst e;rw[qAb rfl,qAb hi,qD,qE hi];rfl
  rw[qAa e]
 rw[e];apply qDf;intro k;rw[qBy];by_cases e:h=k
 ·subst e;rw[qAb rfl,qAb hh,qD,qE hh];rfl
 rw[qAa e]
theorem y6n{xs ys:List Bool}{n:Nat}:moI xs ys n=true↔∃j,j<n/\ys.getD j false=true/\xs.getD j false=false:=by
 unfold moI;rw[qAq];constructor
 ·rintro⟨j,h1,h2⟩;rw[List.mem_range]at h1;simp at h2;exact⟨j,h1,by simpa using h2.1,by simpa using h2.2⟩
 rintro⟨j,h1,h2,h3⟩;exact⟨j,List.mem_range.2 h1,by rw[h2,h3];rfl⟩
theorem x6t{xs ys:List Bool}{n:Nat}(hl:xs.length=n)(h:moI xs ys n=false):orI xs ys n n=xs:=by
 apply qDu
 ·rw[z2l,hl]
 intro j h1 h2;have hj:j<n:=by rw[z2l]at h1;exact h1
 have e1:(orI xs ys n n).getD j false=xs.getD j false:=by
  rw[z9k hj];cases hx:xs.getD j false
  ·cases hy:ys.getD j false
   ·rfl
   have:=y6n.2 ⟨j,hj,hy,hx⟩;rw[h]at this;cases this
  rfl
 rw[qD,qE h1,qD,qE h2]at e1;exact e1
section
variable {D:List Mat}{H n h i:Nat}{ys:List Bool}
theorem x9c(hD:D.length=H)(hh:h<H)(hi:i<n)(hr:(D.getD h []).length=n):Q87 H n D<=Q87 H n (Q9s D h i (orI ((D.getD h []).getD i []) ys n n))/\(moI ((D.getD h []).getD i []) ys n=true->Q87 H n D<Q87 H n (Q9s D h i (orI ((D.getD h []).getD i []) ys n n))):=by
 have j0:∀h' i' j,j<n->(atM (D.getD h' []) i' j).toNat<=(atM ((Q9s D h i (orI ((D.getD h []).getD i []) ys n n)).getD h' []) i' j).toNat:=fun h' i' j hj=>by
  unfold atM;rw[x37 (by omega) (by omega)];split
  ·rename_i e;rw[e.1,e.2,z9k hj];cases ((D.getD h []).getD i []).getD j false<;>simp
  exact qR _
 refine⟨z3v fun h' _=>z3v fun i' _=>z3v fun j hj=>j0 h' i' j hj,fun hm=>?_⟩;obtain⟨j,hj,h1,h2⟩:=y6n.1 hm;refine y2x (fun h' _=>z3v fun i' _=>z3v fun j hj=>j0 h' i' j hj) ⟨h,hh,y2x (fun i' _=>z3v fun j hj=>j0 h i' j hj) ⟨i,hi,y2x (fun j hj=>j0 h i j hj) ⟨j,hj,?_⟩⟩⟩;unfold atM;rw[x37 (by omega) (by omega),qAb ⟨rfl,rfl⟩,z9k hj,h1,h2];decide
theorem v07:Q87 H n D<=H*(n*(n*1)):=y2w fun _ _=>y2w fun _ _=>y2w fun j _=>by cases atM _ _ j<;>simp
end
def Q96(w:World)(n u:Nat)(M:Mat):Prop:=M.length=n/\∃cur,w.heap[u]? = some (.cells cur 90 (0,0))/\∀i,i<n->∃g,cur[i]? = some (bsl g n)/\Q1y w g (M.getD i [])/\(M.getD i []).length=n
theorem Q96.fresh{w w':World}{n u:Nat}{M:Mat}(h:Q96 w n u M)(hf:Q0a w w'):Q96 w' n u M:=by
 obtain⟨h0,cur,h1,h2⟩:=h;refine⟨h0,cur,hf.at h1 (fun x=>x),fun i hi=>?_⟩;obtain⟨g,g1,g2,g3⟩:=h2 i hi;exact⟨g,g1,g2.fresh hf,g3⟩
theorem x5a{w:World}{a b:Nat}{c1 c2:Array Value}{e1 e2:TypeId}{f1 f2:Nat × Nat}(h1:w.heap[a]? = some (.cells c1 e1 f1))(h2:w.heap[b]? = some (.cells c2 e2 f2))(he:e1≠e2):a≠b:=fun e=>by
 subst e;rw[h1]at h2;injection h2 with h2;injection h2 with _ h3;exact he h3
theorem z3i{w:World}{B k n:Nat}{e:TypeId}{v:Value}{xs:List Value}(h:w.ownsRow B e k v n xs){g:Nat}(hg:v.ownBlock=some g):∃cur,w.heap[g]? = some (.cells cur e (0,0)):=by
 obtain⟨h1,h2⟩:=h;rcases h2 with⟨q,_⟩|⟨g',cp,cur,q,_,hg',_⟩
 ·subst q;cases hg
 subst q;cases hg;exact⟨cur,hg'⟩
theorem Q96.kept{w w':World}{n u:Nat}{M:Mat}(h:Q96 w n u M)(hu:w'.heap[u]? = w.heap[u]?)(hb:∀(g:Nat) (c:Array Value),w.heap[g]? = some (.cells c 4 (0,0))->w'.heap[g]? = w.heap[g]?):Q96 w' n u M:=by
 obtain⟨h0,cur,h1,h2⟩:=h;refine⟨h0,cur,by rw[hu];exact h1,fun i hi=>?_⟩;obtain⟨g,g1,g2,g3⟩:=h2 i hi;refine⟨g,g1,?_,g3⟩;unfold Q1y at g2 ⊢;rw[hb g _ g2];exact g2
structure DAt(w0 w:World)(sb b:Nat)(vk dv:Value)(n:Nat)(us:List (Nat × Nat))(D:List Mat):Prop where
 fr:Q0a w0 w
 c:w.heap[sb]? = some (.cells #[.pointer (some ⟨b,0,none⟩),vk,dv] 168 (0,0))
 sB:w0.heap.size<=sb
 own:w.ownsRow w0.heap.size 89 1 dv us.length (us.map fun u=>.slice (some ⟨u.1,0,none⟩) n u.2)
 len:us.length=D.length
 rows:∀(k:Nat) (u:Nat × Nat),us[k]? = some u->w0.heap.size<=u.1/\Q96 w n u.1 (D.getD k [])
 inj:∀(j k:Nat) (u v:Nat × Nat),us[j]? = some u->us[k]? = some v->u.1=v.1->j=k
section
variable {w0 w w' W w2:World}{sb b n:Nat}{vk dv dv':Value}{us:List (Nat × Nat)}{D:List Mat}
theorem DAt.fresh(h:DAt w0 w sb b vk dv n us D)(hf:Q0a w w'):DAt w0 w' sb b vk dv n us D :=
 ⟨h.fr.trans hf,hf.at h.c (fun x=>x),h.sB,z0c h.own (fun g hg=>hf.block g (h.own.lt g hg).2 (fun x=>x)),h.len,fun k u hu=>⟨(h.rows k u hu).1,(h.rows k u hu).2.fresh hf⟩,h.inj⟩
theorem DAt.push{u cap:Nat}{M:Mat}(h:DAt w0 w sb b vk dv n us D)(hf:Q0a w W)(hu:w.heap.size<=u)(hR:Q96 W n u M) (ho:w2.ownsRow w0.heap.size 89 1 dv' (us.length+1) ((us.map fun u=>.slice (some ⟨u.1,0,none⟩) n u.2)++[.slice (some ⟨u,0,none⟩) n cap])) (hg:W.grownBy w2 dv.ownBlock) (hb:∀k,dv'.ownBlock=some k->dv.ownBlock=some k∨W.heap.size<=k) :
  DAt w0 (w2.setCell ⟨sb,2,none⟩ dv') sb b vk dv' n (us++[(u,cap)]) (D++[M]):=by
 have hW:=h.fresh hf;have keep:∀(x:Nat) (c:Array Value) (e:TypeId) (f:Nat × Nat),W.heap[x]? = some (.cells c e f)->e≠89->w2.heap[x]? = W.heap[x]? := fun x c e f hx he=>hg.block x (z0j hx) (fun q=>by
  obtain⟨cur,hc⟩:=z3i hW.own q.symm;exact x5a hx hc he rfl)
 have j0:w2.heap[sb]? = some (.cells #[.pointer (some ⟨b,0,none⟩),vk,dv] 168 (0,0)):=by rw[keep sb _ _ _ hW.c (by decide)];exact hW.c
 have j1:∀(x:Nat) (c:Array Value) (e:TypeId) (f:Nat × Nat),W.heap[x]? = some (.cells c e f)->e≠89->e≠168->(w2.setCell ⟨sb,2,none⟩ dv').heap[x]? = W.heap[x]? := fun x c e f hx h1 h2=>by
  rw[heap_setCell_other _ (show x≠sb from x5a hx hW.c h2)];exact keep x c e f hx h1
 have kr:∀(u:Nat) (M:Mat),Q96 W n u M->Q96 (w2.setCell ⟨sb,2,none⟩ dv') n u M:=fun u M hr=>by
  obtain⟨h0,cur,h1,h2⟩:=id hr;exact hr.kept (j1 u _ _ _ h1 (by decide) (by decide)) (fun g c hg=>j1 g _ _ _ hg (by decide) (by decide))
 have j2:=h.fr.size;have j3:=hf.size;have F:Q0a w0 w2:=Mod.grown (S:=fun _=>False) (h.fr.trans hf) hg (fun k hk hlt=>by have:=(h.own.lt k hk).1;omega);have lt:∀(k:Nat) (x:Nat × Nat),us[k]? = some x->x.1<w.heap.size:=fun k x hx=>by
  obtain⟨_,_,cur,h1,_⟩:=h.rows k x hx;exact z0j h1
 refine⟨F.setCell (p:=⟨sb,2,none⟩) (fun hlt=>absurd hlt (by have:=h.sB;dsimp only;omega)) _,?_,h.sB,?_,by simp[h.len],fun k x hx=>?_,fun j k x y hx hy e=>?_⟩
 ·rw[zhs j0 2];rfl
 ·rw[qP,qBf];exact z0c ho (fun g e=>by
   refine heap_setCell_other _ (show g≠sb from ?_);obtain⟨cur,hc⟩:=z3i ho e;exact x5a hc j0 (by decide))
 ·rcases qBn k us.length with q|q
  ·rw[qAe q]at hx;have hr:=hW.rows k x hx;refine⟨hr.1,?_⟩;rw[qD,qAe (by rw[← h.len];exact q),← qD];exact kr _ _ hr.2
  rw[qAg q]at hx;have e:k=us.length:=by
   have:=(qS hx).1;simp at this;omega
  subst e;simp at hx;subst hx;refine⟨by dsimp only;omega,?_⟩;rw[qD,h.len,qAg (qR _)];simp;exact kr _ _ hR
 rcases qBn j us.length with q|q<;>rcases qBn k us.length with r|r
 ·rw[qAe q]at hx;rw[qAe r]at hy;exact h.inj j k x y hx hy e
 ·rw[qAe q]at hx;rw[qAg r]at hy;have:=lt j x hx;have hk:=(qS hy).1;simp at hk;rw[show k-us.length=0 by omega]at hy;simp at hy;subst hy;dsimp only at e;omega
 ·rw[qAg q]at hx;rw[qAe r]at hy;have:=lt k y hy;have hk:=(qS hx).1;simp at hk;rw[show j-us.length=0 by omega]at hx;simp at hx;subst hx;dsimp only at e;omega
 have h1:=(qS hx).1;have h2:=(qS hy).1;simp at h1 h2;omega
theorem DAt.set(h:DAt w0 w sb b vk dv n us D){k i g:Nat}{u:Nat × Nat}{r:List Bool}(hu:us[k]? = some u)(hi:i<n)(hg:Q1y w g r)(hr:r.length=n):DAt w0 (w.setCell ⟨u.1,i,none⟩ (bsl g n)) sb b vk dv n us (Q9s D k i r):=by
 obtain⟨hB,h0,cur,h1,h2⟩:=h.rows k u hu;have j0:k<D.length:=by rw[← h.len];exact(qS hu).1
 have keep:∀(x:Nat) (c:Array Value) (e:TypeId) (f:Nat × Nat),w.heap[x]? = some (.cells c e f)->e≠90->(w.setCell ⟨u.1,i,none⟩ (bsl g n)).heap[x]? = w.heap[x]? := fun x c e f hx he=>heap_setCell_other _ (show x≠u.1 from x5a hx h1 he);refine⟨h.fr.setCell (p:=⟨u.1,i,none⟩) (fun hlt=>absurd hlt (by dsimp only;omega)) _,?_,h.sB,?_,by unfold Q9s;rw[qBd];exact h.len,fun k' u' hu'=>?_,h.inj⟩
 ·rw[keep sb _ _ _ h.c (by decide)];exact h.c
 ·refine z0c h.own (fun x e=>?_);obtain⟨c,hc⟩:=z3i h.own e;exact keep x _ _ _ hc (by decide)
 obtain⟨hB',hr'⟩:=h.rows k' u' hu';refine⟨hB',?_⟩;by_cases e:k'=k
 ·subst e;rw[hu]at hu';injection hu' with hu';subst hu';unfold Q9s;rw[z11 _ _ _ _ _ j0,qAb rfl];refine⟨by rw[qBd];exact h0,_,zhs h1 i (bsl g n),fun i' hi'=>?_⟩;obtain⟨g',g1,g2,g3⟩:=h2 i' hi';by_cases e:i'=i
  ·subst e;have j1:=(Array.getElem?_eq_some_iff.1 g1).1;refine⟨g,by simp[j1],?_,?_⟩
   ·rw[z11 _ _ _ _ _ (by omega),qAb rfl];unfold Q1y at hg ⊢;rw[keep g _ _ _ hg (by decide)];exact hg
   rw[z11 _ _ _ _ _ (by omega),qAb rfl];exact hr
  refine⟨g',by rw[Array.getElem?_setIfInBounds_ne (fun x=>e x.symm)];exact g1,?_,?_⟩
  ·rw[z11 _ _ _ _ _ (by omega),qAa e];unfold Q1y at g2 ⊢;rw[keep g' _ _ _ g2 (by decide)];exact g2
  rw[z11 _ _ _ _ _ (by omega),qAa e];exact g3
 unfold Q9s;rw[z11 _ _ _ _ _ j0,qAa e];exact hr'.kept (heap_setCell_other _ (fun x=>e (h.inj k' k u' u hu' hu x))) (fun g c hg=>keep g _ _ _ hg (by decide))
theorem DAt.rowD{da:Option Addr}{m dc:Nat}(h:DAt w0 w sb b vk (.slice da m dc) n us D){k i:Nat}(hk:k<us.length)(hi:i<n):RowD w n da k i ((D.getD k []).getD i [])/\∃gd u g,da=some ⟨gd,0,none⟩/\us[k]? = some u/\w.cell? ⟨gd,k,none⟩=some (.slice (some ⟨u.1,0,none⟩) n u.2)/\w.cell? ⟨u.1,i,none⟩=some (bsl g n)/\w.frozen? ⟨u.1,i,none⟩=false/\Q1y w g ((D.getD k []).getD i []):=by
 obtain⟨gd,c',hv⟩:=Joins.ownsRow_form h.own (by omega);rw[qI]at hv;obtain⟨rfl,_,rfl⟩:=hv;have hu:us[k]? = some us[k]:=qE hk;obtain⟨hB,h0,cur,h1,h2⟩:=h.rows k _ hu;obtain⟨g,g1,g2,g3⟩:=h2 i hi;have e1:=h.own.cells (g:=gd) rfl k (.slice (some ⟨us[k].1,0,none⟩) n us[k].2) (by rw[qBe,hu];rfl);rw[Addr.add_mid,qBi]at e1;have e2:w.cell? ⟨us[k].1,i,none⟩=some (bsl g n):=by rw[Q0b h1 i];exact g1
 exact⟨⟨gd,_,_,g,rfl,e1,e2,g2,g3⟩,gd,us[k],g,rfl,hu,e1,e2,Q0g h1 i,g2⟩
theorem DAt.cnt(h:DAt w0 w sb b vk dv n us D):cntW (us.map Prod.fst) n w=Q87 us.length n D:=by
 unfold cntW Q87;rw[qAo];refine y67 fun k hk=>y67 fun i hi=>y67 fun j hj=>?_;have hu:us[k]? = some us[k]:=qE hk;obtain⟨hB,h0,cur,h1,h2⟩:=h.rows k _ hu;obtain⟨g,g1,g2,g3⟩:=h2 i hi;have eu:(us.map Prod.fst).getD k 0=us[k].1:=by rw[qD,qBe,hu];rfl
 rw[eu,Q0b h1 i,g1];show(match w.cell? ⟨g,j,none⟩with
  |some (.bool true)=>1
  |_=>0)=_
 rw[g2.cell (j:=j) (by omega)];unfold atM;cases ((D.getD k []).getD i []).getD j false<;>rfl
end
theorem Q1t.rowB{w:World}{B n:Nat}{v:Value}{gs:List Nat}{M:Mat}(h:Q1t w B n v gs M)(hs:Sq n M)(hn:0<n):∃u cap,v=.slice (some ⟨u,0,none⟩) n cap/\B<=u/\Q96 w n u M:=by
 have j0:gs.length=n:=by rw[h.len,hs.len]
 obtain⟨u,cap,hv⟩:=Joins.ownsRow_form h.own (by omega);rw[j0]at hv;subst hv;obtain⟨cur,hc⟩:=z3i h.own (g:=u) rfl;refine⟨u,cap,rfl,(h.own.lt u rfl).1,hs.len,cur,hc,fun i hi=>?_⟩;have hg:gs[i]? = some gs[i]:=qE (by omega);refine⟨gs[i],?_,(h.blk i _ hg).2,hs.row i hi⟩;rw[← Q0b hc i];exact h.row hg
theorem infoBB:(Tryz.prog.info? 89).map (fun i=>(i.zero,i.size,i.bytes))=some (some (.slice none 0 0),1,24):=by kernel_rfl
theorem infoBB':∃i,Tryz.prog.info? 89=some i/\i.zero=some (.slice none 0 0)/\i.size=1/\i.bytes=24:=nfoE infoBB
def addR(R:Nat)(l:List Int)(D:List Mat)(x:Q1)(i:Nat):List Mat:=Q9s D x.1.toNat i (orI ((D.getD x.1.toNat []).getD i []) (rcF (bs R) l D x.2 i) (l.length+1) (l.length+1))
def CloD(R:Nat)(q:List Q1)(l:List Int)(D:List Mat):Prop:=∀(p:Nat) (x:Q1) (i:Nat),q[p]? = some x->i<=l.length->moI ((D.getD x.1.toNat []).getD i []) (rcF (bs R) l D x.2 i) (l.length+1)=false
def SpnRet(w:World)(b R H:Nat)(q:List Q1)(ka:Option Addr)(kc:Nat)(l:List Int)(S:List Mat->Prop)(e:Ending)(w':World):Prop :=
 ∃sb da dc D,e=.returned (.pointer (some ⟨sb,0,none⟩))/\SpR w' sb b R H q ka kc l da dc D/\Q0a w w'/\S D/\CloD R q l D
theorem v0k(base:Int)(l:List Int)(D:List Mat)(cs:List Int)(i:Nat):(rcF base l D cs i).length=l.length+1:=by
 unfold rcF;have:∀(cs:List Int) (s:List Bool),s.length=l.length+1->(rhF base l D (l.length+1) cs s).length=l.length+1:=by
  intro cs;induction cs with
  |nil=>intro s hs;exact hs
  |cons c cs ih=>intro s hs;exact ih _ (y2v base l D c s)
 exact this cs _ (by simp)
structure Swp(R H:Nat)(q:List Q1)(l:List Int)(S:List Mat->Prop)(D0 D:List Mat)(mo:Bool)(p i:Nat):Prop where
 s:S D
 le:Q87 H (l.length+1) D0<=Q87 H (l.length+1) D
 lt:mo=true->Q87 H (l.length+1) D0<Q87 H (l.length+1) D
 no:mo=false->D=D0/\∀(p':Nat) (x:Q1) (i':Nat),q[p']? = some x->i'<=l.length->(p'<p∨(p'=p/\i'<i))->moI ((D0.getD x.1.toNat []).getD i' []) (rcF (bs R) l D0 x.2 i') (l.length+1)=false
theorem Swp.next{R H:Nat}{q:List Q1}{l:List Int}{S:List Mat->Prop}{D0 D:List Mat}{mo:Bool}{p i:Nat}{x:Q1}(h:Swp R H q l S D0 D mo p i)(hx:q[p]? = some x)(hi:i<=l.length)(hS:S (addR R l D x i))(hD:D.length=H)(hh:x.1.toNat<H)(hr:(D.getD x.1.toNat []).length=l.length+1)(hrow:((D.getD x.1.toNat []).getD i []).length=l.length+1) :
  Swp R H q l S D0 (addR R l D x i) (mo||moI ((D.getD x.1.toNat []).getD i []) (rcF (bs R) l D x.2 i) (l.length+1)) p (i+1):=by
 have hc:=x9c (ys:=rcF (bs R) l D x.2 i) hD hh (show i<l.length+1 by omega) hr;refine⟨hS,qCd h.le hc.1,fun e=>?_,fun e=>?_⟩
 ·rw[qAk]at e;rcases e with e|e
  ·exact qCr (h.lt e) hc.1
  exact Nat.lt_of_le_of_lt h.le (hc.2 e)
 rw[qBm]at e;obtain⟨e1,e2⟩:=e;obtain⟨rfl,h2⟩:=h.no e1;refine⟨?_,fun p' x' i' hx' hi' ho=>?_⟩
 ·unfold addR;rw[x6t hrow e2];exact x38 (by omega) (by omega)
 rcases ho with ho|⟨rfl,ho⟩
 ·exact h2 p' x' i' hx' hi' (.inl ho)
 rw[hx]at hx';injection hx' with hx';subst hx';rcases qBn i' i with z|z
 ·exact h2 p' x i' hx hi' (.inr ⟨rfl,z⟩)
 obtain rfl:i'=i:=by omega
 exact e2
theorem Swp.row{R H:Nat}{q:List Q1}{l:List Int}{S:List Mat->Prop}{D0 D:List Mat}{mo:Bool}{p i:Nat}(h:Swp R H q l S D0 D mo p i)(hi:l.length+1<=i):Swp R H q l S D0 D mo (p+1) 0 :=
 ⟨h.s,h.le,h.lt,fun e=>⟨(h.no e).1,fun p' x i' hx hi' ho=>(h.no e).2 p' x i' hx hi' (by
  rcases ho with ho|ho
  ·rcases qBn p' p with z|z
   ·exact .inl z
   exact .inr ⟨by omega,by omega⟩
  omega)⟩⟩
theorem x4u(w:World)(b R H:Nat)(q:List Q1)(ka:Option Addr)(kc:Nat)(l:List Int)(S:List Mat->Prop)(hS:Q3x w b R H q)(hQ:QOk R H q)(hk:Q0z w (.slice ka l.length kc) l)(hl:l.length<=60) (hS0:S (List.replicate H (sqF (l.length+1)))) (hSs:∀(D:List Mat) (p:Nat) (x:Q1) (i:Nat),S D->D.length=H->q[p]? = some x->i<=l.length->S (addR R l D x i)) :
  Calls Tryz.prog 39 #[.pointer (some ⟨b,0,none⟩),.slice ka l.length kc] w fun e w'=>SpnRet w b R H q ka kc l S e w':=by
 obtain⟨i0,hi0,hz0,hz1,hz2⟩:=infoBB';have x5:=hQ.r8;have kp:=hQ.h8;have ks:=hQ.p20;have x3:0<H:=by
  have h1:=hQ.pos;have h2:=hQ.hd q[0] (qG h1);omega
 have HS:=hid hS;have HQ:=hid hQ;have HK:=hid hk;have kh:=hid hS0;have ki:=hid hSs;obtain⟨a0,c0,a1,c1,a2,c2,v3,v4,sv,hN⟩:=hS;have HN:=hid hN;have SQ:=hid (fun W=>z68 W (l.length+1) (by omega));have UN:=hid (fun(W:World) (ga gb:Nat) (xs ys:List Bool) (h1:Q1y W ga xs) (h2:Q1y W gb ys) (h3:xs.length=l.length+1) (h4:ys.length=l.length+1)=>z2x W ga gb (l.length+1) xs ys h1 h2 h3 h4 (by omega));have js:=hid (fun D cs i=>v0k (bs R) l D cs i);have RE:=hid (fun(W:World) (hW:Q0a w W) (sb:Nat) (da:Option Addr) (dc:Nat) (D:List Mat) (h:SpR W sb b R H q ka kc l da dc D) (v:Value) (cs:List Int) (hv:Q0z W v cs) (h1:cs.length<=1000) (h2:∀c∈cs,0<=c/\c<(R:Int)+1+H) (i:Nat) (h3:i<=l.length)=>z9r W sb b R H q ka kc l da dc D h HQ.out hl v cs hv h1 h2 i h3);have ky:IntKind.i64.wrap ((l.length:Int)+1)=((l.length+1:Nat):Int):=by rw[IntKind.wrap_i64];omega
 generalize hn:l.length+1=n at SQ UN js ky;have j0:=hid hn;have j8:n<=61:=by omega
 have kr:0<n:=by omega
 clear hQ hk hS0 hSs hN hn;go_enter Tryz.func39,Tryz.ntmps39
 go_wp2;go_loopw [7,8] (fun x7 _ wr=>∃(h:Nat) (dv:Value) (us:List (Nat × Nat)),x7=.int .i64 h/\h<=H/\us.length=h/\DAt w wr w.heap.size b (.slice ka l.length kc) dv n us (List.replicate h (sqF n)))
   (fun x _ _=>1001-(intOf x).toNat)
 case atStart=>exact⟨0,.slice none 0 0,[],rfl,by omega,rfl,(mRf _ w).alloc _,z0a _ _,qR _,World.ownsRow_nil _ _ _ _,rfl,fun k u hu=>by simp at hu,fun j k u v hu=>by simp at hu⟩
 obtain⟨h,dv,us,rfl,hh,hul,hD⟩:=hrel;have kb:=hid (Q15 (B:=1001) h (by omega));have HD:=hid hD;have k2:=(HN.fresh hD.fr).k2;have kt:w.heap.size<wr.heap.size:=z0j hD.c;have j1:=hid hul;have kv:us.length<=8:=by omega
 clear hD hul;by_cases hlt:h<H
 ·have s1:(h:Int)<(H:Int):=by omega
  obtain⟨da,dc,hdv⟩:=z0d HD.own;subst hdv;have PU:Hid (∀(W:World) (u cap:Nat) (o:Obj) (v':Value) (w2:World),Q0a wr W->wr.heap.size<=u->Q96 W n u (sqF n)->w2.ownsRow w.heap.size 89 1 v' (us.length+1) ((us.map fun u=>.slice (some ⟨u.1,0,none⟩) n u.2)++[.slice (some ⟨u,0,none⟩) n cap])->(W.alloc o).grownBy w2 (Value.ownBlock (.slice da us.length dc))->(∀k,v'.ownBlock=some k->Value.ownBlock (.slice da us.length dc)=some k∨(W.alloc o).heap.size<=k) ->
    DAt w (w2.setCell ⟨w.heap.size,2,none⟩ v') w.heap.size b (.slice ka l.length kc) v' n (us++[(u,cap)]) (List.replicate (h+1) (sqF n))/\w2.heap[w.heap.size]? = some (.cells #[.pointer (some ⟨b,0,none⟩),.slice ka l.length kc,.slice da us.length dc] 168 (0,0))):=hid (fun W u cap o v' w2 hW hu hR h1 h2 h3=>by
   have jl:Q0a wr (W.alloc o):=hW.alloc _;constructor
   ·rw[List.replicate_succ'];exact HD.push jl hu (hR.fresh ((mRf _ W).alloc _)) h1 h2 h3
   have hc:=jl.at HD.c (fun x=>x);rw[h2.block _ (z0j hc) (fun e=>by
    obtain⟨cur,hz⟩:=z3i (HD.fresh jl).own e.symm;exact x5a hc hz (by decide) rfl)]
   exact hc)
  have km:Hid (∀(W:World) (o:Obj),Q0a wr W->(W.alloc o).ownsRow w.heap.size 89 1 (.slice da us.length dc) us.length (us.map fun u=>.slice (some ⟨u.1,0,none⟩) n u.2)):=hid (fun W o hW=>(z0c HD.own (fun g hg=>hW.block g (HD.own.lt g hg).2 (fun x=>x))).alloc o);have k7:Hid (∀W,Q0a wr W->W.cell? ⟨w.heap.size,2,none⟩=some (.slice da us.length dc)):=hid (fun W hW=>by rw[Q0b (hW.at HD.c (fun x=>x)) 2];rfl);go_upto_region 7 with(first
   |(go_at_call 74;refine(SQ.out _).mono ?_;rintro e W⟨v,gs,rfl,hm,hf⟩;obtain⟨u,cap,rfl,hu,hR⟩:=hm.rowB (y1k n) kr;have HR:=hid hR;have HU:=hid hu;have HF:=hid hf;have x4:=hf.size;have kk:=k7.out W hf;clear hm hf hR hu))
  go_wp2_with (first
   |(at_builtin;refine z0g _ rfl _ _ 166 rfl w.heap.size 89 i0 _ 1 24 Tryz.underlying166 hi0 hz0 hz1 hz2 rfl (by decide) (.slice da us.length dc) us.length _ rfl (km.out _ _ HF.out) ⟨W.heap.size,0,none⟩ 1 1 [.slice (some ⟨u,0,none⟩) n cap] rfl rfl (z0l rfl) (by intro u hu;simp at hu;subst hu;rfl) (by unfold maxLen;omega) (by omega) (by simp;omega) ?_;intro v9 w4 hown2 hgrow hblk;obtain⟨hpu,hb9⟩:=PU.out _ u cap _ _ _ HF.out HU.out HR.out hown2 hgrow hblk;have kg:=hid hpu;have kw:=Q0b hb9 2;have kf:=Q0g hb9 2;simp at kw;obtain⟨a9,c9,hv9⟩:=z0d hown2;clear hown2 hgrow hblk hpu hb9;subst hv9))
  go_roundw
  case rel=>exact⟨h+1,_,_,by go_num,by omega,by simp[j1.out],kg.out⟩
  exact kb.out
 have s1:¬(h:Int)<(H:Int):=by omega
 obtain rfl:h=H:=by omega
 obtain⟨da,dc,hdv⟩:=z0d HD.own;rw[j1.out]at hdv;subst hdv;clear SQ kt;go_wp2;go_loopw [9,10,11,12,13,14] (fun x9 _ _ _ _ _ wr=>∃(mo:Bool) (D:List Mat),x9=.bool mo/\DAt w wr w.heap.size b (.slice ka l.length kc) (.slice da h dc) n us D/\S D/\(mo=false->CloD R q l D))
   (fun x9 _ _ _ _ _ wr=>2*(40000-cntW (us.map Prod.fst) n wr)+Q7z x9)
 case atStart=>exact⟨true,_,rfl,HD.out,by have:=kh.out;rw[j0.out]at this;exact this,fun e=>by cases e⟩
 obtain⟨mo,D0,rfl,hD,hS,hc⟩:=hrel;have j2:=hid hD;have ju:=hid hS;have jp:=hid hc;clear hD hS hc HD;cases mo
 ·go_wp2;go_ret;refine⟨w.heap.size,da,dc,D0,rfl,⟨?_,?_,?_,HS.fresh j2.fr,HK.fresh j2.fr,fun k i hk hi=>?_⟩,j2.fr,ju.out,jp.out (by first|rfl|trivial)⟩
  ·rw[Q0b j2.c 0];rfl
  ·rw[Q0b j2.c 1];rfl
  ·rw[Q0b j2.c 2];rfl
  have:=(j2.rowD (k:=k) (i:=i) (by rw[j1.out];exact hk) (by have:=j0.out;omega)).1;rw[j0.out];exact this
 clear jp;have jq:=hid j2.cnt;rw[j1.out]at jq;go_wp2;go_loopw [9,10,11,12,13,14] (fun x9 x10 _ _ _ _ wr=>∃(mo:Bool) (p:Nat) (D:List Mat),x9=.bool mo/\x10=.int .i64 p/\p<=q.length/\DAt w wr w.heap.size b (.slice ka l.length kc) (.slice da h dc) n us D/\Swp R h q l S D0 D mo p 0)
   (fun _ x _ _ _ _ _=>1001-(intOf x).toNat)
 case atStart=>exact⟨false,0,D0,rfl,rfl,by omega,j2.out,⟨ju.out,qR _,(fun e=>by cases e),fun _=>⟨rfl,fun p' x i' _ _ ho=>by omega⟩⟩⟩
 obtain⟨mo,p,D,rfl,rfl,hp,hD,hW⟩:=hrel;have ke:=hid (Q15 (B:=1001) p (by omega));have ja:=hid hD;have j6:=hid hW;have k1:=(HN.fresh hD.fr).k1;clear hD hW;by_cases hlp:p<q.length
 ·have s2:(p:Int)<(q.length:Int):=by omega
  have hx:q[p]? = some q[p]:=qE hlp;obtain⟨x,hxe⟩:∃x,x=q[p]:=⟨_,rfl⟩;rw[← hxe]at hx;have HX:=hid hx;have kl:=hid hxe;clear hx hxe;go_wp2;go_loopw [9,11,12,13,14] (fun x9 x11 _ _ _ wr=>∃(mo:Bool) (i:Nat) (D:List Mat),x9=.bool mo/\x11=.int .i64 i/\i<=n/\DAt w wr w.heap.size b (.slice ka l.length kc) (.slice da h dc) n us D/\Swp R h q l S D0 D mo p i)
    (fun _ x _ _ _ _=>1001-(intOf x).toNat)
  case atStart=>exact⟨_,0,D,rfl,rfl,by omega,ja.out,j6.out⟩
  obtain⟨mo2,i,D1,rfl,rfl,hi,hD,hW⟩:=hrel;have kd:=hid (Q15 (B:=1001) i (by omega));have jr:=hid hD;have jb:=hid hW;by_cases hli:i<n
  ·have s3:(i:Int)<(n:Int):=by omega
   have jm:i<=l.length:=by have:=j0.out;omega
   have k0:=HN.fresh hD.fr;obtain⟨g3,o3,c3,g4,o4,n4,c4,al,cl,hPr⟩:=k0.pr hlp;rw[← kl.out]at hPr;have jg:=hid hPr;have q4:=hPr.q4;have y4:=hPr.y4;have s4:(p:Int)<(n4:Int):=by have:=hPr.n4;omega
   have jn:x∈q:=qAd HX.out;have kq:=HQ.hd x jn;have k5:=HQ.sy x jn;obtain⟨hx1,hhx⟩:∃a:Nat,x.1=a:=⟨x.1.toNat,by omega⟩;have j9:hx1<h:=by omega
   have je:x.1.toNat=hx1:=by omega
   have j5:D1.length=h:=by rw[← hD.len,j1.out]
   have k3:SpR wr w.heap.size b R h q ka kc l da dc D1:=⟨by rw[Q0b hD.c 0];rfl,by rw[Q0b hD.c 1];rfl,by rw[Q0b hD.c 2];rfl,HS.fresh hD.fr,HK.fresh hD.fr,fun k i hk hi=>by
    have:=(hD.rowD (k:=k) (i:=i) (by rw[j1.out];exact hk) (by have:=j0.out;omega)).1;rw[j0.out];exact this⟩
   have jc:=hid (RE.out wr hD.fr w.heap.size da dc D1 k3 _ x.2 hPr.l (by omega) k5.2 i jm);rw[j0.out]at jc;have jz:=jb.next HX.out jm (ki.out D1 p x i jb.s j5 HX.out jm) j5 (by rw[je];exact j9) (by
    obtain⟨_,h0,_⟩:=hD.rows hx1 _ (qE (by rw[j1.out];exact j9));rw[je,h0,j0.out]) (by
    obtain⟨_,_,_,_,_,_,_,_,h5⟩:=(hD.rowD (k:=hx1) (i:=i) (by rw[j1.out];exact j9) hli).1;rw[je,h5,j0.out])
   have j4:=hid jz;obtain⟨gd,u,g,hda,hu,e1,e2,e3,hB⟩:=(hD.rowD (k:=hx1) (i:=i) (by rw[j1.out];exact j9) hli).2;have k4:((D1.getD hx1 []).getD i []).length=n:=by
    obtain⟨_,_,_,_,_,_,_,_,h5⟩:=(hD.rowD (k:=hx1) (i:=i) (by rw[j1.out];exact j9) hli).1;exact h5
   subst hda;have HB:=hid hB;have jt:=hid k4;have jw:=hid hu;have ku:w.heap.size<wr.heap.size:=z0j hD.c;unfold addR at j4;rw[j0.out,je]at j4;have j7:=hid (js.out D1 x.2 i);generalize hSET:rcF (bs R) l D1 x.2 i=SET at jc j4 j7;generalize hROW:(D1.getD hx1 []).getD i []=ROW at HB jt j4;clear hD hW k0 hPr k3 jz hu hB k4 hSET hROW jb ja j6 kq k5 j5 jn;go_upto_region 18 with(first
    |(go_at_call 75;refine(jc.out).mono ?_;rintro e W⟨gS,rfl,hBS,hfS⟩;have jo:=hid hBS;have j3:=hid hfS;clear hBS hfS))
   have ji:=jr.fresh j3.out;have d2:W.cell? ⟨w.heap.size,2,none⟩=some (.slice (some ⟨gd,0,none⟩) h dc):=by rw[Q0b ji.c 2];rfl
   have jh:=jg.fresh j3.out;have p3:=jh.q3;have r3:=jh.y3;rw[hhx]at r3;have jx:=Q0i j3.out e1;have jy:=Q0i j3.out e2;have s5:(hx1:Int)<(h:Int):=by omega
   have UX:=hid (fun(W2:World) (hW2:Q0a W W2)=>UN.out W2 g gS ROW SET ((HB.fresh j3.out).fresh hW2) (jo.fresh hW2) jt.out j7.out);have jv:=hid (z2l ROW SET n n);generalize moI ROW SET n=gr at UX j4;generalize orI ROW SET n n=ou at UX j4 jv;clear q4 y4 e1 e2 e3 jh jc;go_cut [13,14] (fun s13 s14 wx=>∃g',s13=bsl g' n/\s14=.bool gr/\Q1y wx g' ou/\Q0a W wx)
   case first =>
    go_region_with (first
     |(go_at_call 70;refine(UX.out _ (by first|exact(mRf _ W).drew|exact mRf _ W)).mono ?_;rintro e w3⟨rfl,hf3,hB3⟩))
    all_goals
     go_wp2_with fail
     go_meet;exact⟨_,rfl,rfl,hB3,((mRf _ W).drew).trans hf3⟩
   obtain⟨g',rfl,rfl,hB3,hf3⟩:=hcut;have jd:=ji.fresh hf3;have jj:=(jg.fresh j3.out).fresh hf3;have x6:=jj.q3;have kx:=jj.y3;rw[hhx]at kx;have kz:wc.cell? ⟨w.heap.size,2,none⟩=some (.slice (some ⟨gd,0,none⟩) h dc):=by rw[Q0b jd.c 2];rfl
   have x0:=Q0i hf3 jx;have x1:=Q0i hf3 jy;have x2:wc.frozen? ⟨u.1,i,none⟩=false:=by
    obtain⟨_,_,cur,h1,_⟩:=jd.rows hx1 u jw.out;exact Q0g h1 i
   have k6:=hid ((jd.set jw.out hli hB3 jv.out).fresh ⟨rfl,rfl,rfl,qR _,fun _ _ _=>rfl⟩:DAt w ((wc.setCell ⟨u.1,i,none⟩ (bsl g' n)).drew) w.heap.size b (.slice ka l.length kc) (.slice (some ⟨gd,0,none⟩) h dc) n us (Q9s D1 hx1 i ou));clear ji d2 p3 r3 jx jy UX hB3 hf3 jd jj jg j3 jo HB;cases mo2;all_goals
    go_wp2_with fail
    go_region;all_goals
     go_wp2;go_roundw
     case rel=>exact⟨_,i+1,_,rfl,by go_num,by omega,k6.out,j4.out⟩
     exact kd.out
  have s3:¬(i:Int)<(n:Int):=by omega
  have kj:=hid (jb.row (by have:=j0.out;omega));clear hD hW;go_wp2;go_roundw
  case rel=>exact⟨_,p+1,D1,rfl,by go_num,by omega,jr.out,kj.out⟩
  exact ke.out
 have s2:¬(p:Int)<(q.length:Int):=by omega
 have k9:Hid (mo=false->CloD R q l D):=hid (fun e p' x i hx hi=>by
  obtain⟨rfl,h2⟩:=j6.no e;exact h2 p' x i hx hi (.inl (by have:=(qS hx).1;omega)))
 have jk:=ja.cnt;rw[j1.out]at jk;have jf:=hid jk;have ko:=v07 (H:=h) (n:=n) (D:=D);have kn:h*(n*(n*1))<=8*(61*(61*1)):=Nat.mul_le_mul kp (Nat.mul_le_mul j8 (Nat.mul_le_mul j8 (qR _)));have k8:Hid (Q87 h n D<=29768):=hid (by omega);clear jk ko kn;go_wp2;go_roundw
 case rel=>exact⟨mo,D,rfl,ja.out,j6.s,k9.out⟩
 rw[jf.out,jq.out];have h1:=j6.le;have h2:=j6.lt;have h3:=k8.out;rw[j0.out]at h1 h2;cases mo
 ·show 2*(40000-Q87 h n D)+0<2*(40000-Q87 h n D0)+1;omega
 have:=h2 rfl;show 2*(40000-Q87 h n D)+1<2*(40000-Q87 h n D0)+1;omega
end Go.Proofs.YtcpceafmlgaodaaGreat
