import Derived.Test.YtcpceafmlgaodaaGreatEbb
import Derived.Laws.OwnMore
import Derived.Deep.CutBlock
namespace Go.Proofs.YtcpceafmlgaodaaGreat
open Go.RowKit
set_option maxRecDepth 99999
set_option maxHeartbeats 0
set_option linter.all false
theorem x1d{P:Program}(w:World)(base:Nat)(t ty e:TypeId)(i:TypeInfo)(z:Value)(size bytes:Nat)(ht:P.underlying t=some (.slice e))(hi:P.info? e=some i)(hz:i.zero=some z)(hsize:i.size=size)(hby:i.bytes=bytes)(hzs:z.cells.size=size)(hsz:0<size)
  (v:Value) (n:Nat) (xs:List Value) (hown:w.ownsRow base e size v n xs) (u:Value) (m:Nat) (news:List Value) (hu:w.ownsRow 0 e size u m news) (h1:∀u∈news,u.oneCell'=true)
  (h63:n+m<=maxLen) (hbytes:(n+m)*bytes<=140737488355328) (hbase:base<=w.heap.size) :
  ∃v' w',(apS #[t,t] ty #[v,u]).run P w=.ok v' w'/\w'.ownsRow base e size v' (n+m) (xs++news)/\w.grownBy w' v.ownBlock/\(∀k,v'.ownBlock=some k->v.ownBlock=some k∨w.heap.size<=k):=by
 obtain⟨hl,h2⟩:=id hu;rcases h2 with⟨rfl,rfl⟩|⟨g,cap,cur,rfl,_⟩
 ·have hx:news=[]:=qBs (by simpa using hl);subst hx;exact⟨v,w,run_append_owned_none (P:=P) (w:=w) base t ty e i size ht hi v n xs hown,by simpa using hown,⟨rfl,rfl,rfl,qR _,fun _ _ _=>rfl⟩,fun k hk=>.inl hk⟩
 exact z2y (P:=P) w base t ty e i z size bytes ht hi hz hsize hby hzs hsz v n xs hown ⟨g,0,none⟩ m cap news hl (hu.cells (g:=g) rfl) h1 h63 hbytes hbase
theorem x3j(l:List Nd):∀u∈Q00 Nd.cells l,u.oneCell'=true:=by
 intro u hu;unfold Q00 at hu;rw[List.mem_flatMap]at hu;obtain⟨x,_,hx⟩:=hu;simp only[Nd.cells,qBc,qCt,or_false]at hx;rcases hx with rfl|rfl|rfl|rfl<;>rfl
def toC(rb:List Int->Nat->Nat->Bool)(c:Int)(cs:List Int)(i j:Nat):Nat:=toL (fun t=>rb [c] i t&&rb cs t j) (j-i) i
def Q9e(base:Int)(rb:List Int->Nat->Nat->Bool)(T:Int->Nat->Nat->List Nd):List Int->Nat->Nat->List Nd
 | [],_,_=>[]
 |c::cs,i,j=>(if c<base then [⟨-1,c,i,1⟩] else T (c-base) i (toC rb c cs i j))++Q9e base rb T cs (toC rb c cs i j) j
def Q8v(q:List Q1)(rb:List Int->Nat->Nat->Bool)(h:Int)(i j:Nat):Nat:=q.findIdx fun x=>x.1==h&&rb x.2 i j
def Q5c(base:Int)(q:List Q1)(rb:List Int->Nat->Nat->Bool):Nat->Int->Nat->Nat->List Nd
 |0,_,_,_=>[]
 |f+1,h,i,j=>match q[Q8v q rb h i j]? with
  |some x=>⟨(Q8v q rb h i j:Int),-1,i,((Q9e base rb (Q5c base q rb f) x.2 i j).length:Int)+1⟩::Q9e base rb (Q5c base q rb f) x.2 i j
  |none=>[]
theorem x8t(g:Nat->Bool):∀f t,t<=toL g f t/\toL g f t<=t+f
 |0,t=>by unfold toL;omega
 |f+1,t=>by
  unfold toL;split
  ·omega
  have:=x8t g f (t+1);omega
def NdRet(w:World)(L:List Nd)(e:Ending)(w':World):Prop:=∃v,e=.returned v/\Q3l w' w.heap.size v L/\Q0a w w'
theorem v2g(g:Nat->Bool)(j t:Nat)(h:t<j):toL g (j-t) t=if g t=true then t else toL g (j-(t+1)) (t+1):=by
 rw[show j-t=(j-(t+1))+1 by omega];rfl
section
variable (w0:World) (sb b R H:Nat) (q:List Q1) (ka:Option Addr) (kc:Nat) (l:List Int) (da:Option Addr) (dc:Nat) (D:List Mat)
def rcB(R:Nat)(l:List Int)(D:List Mat)(cs:List Int)(i j:Nat):Bool:=(rcF (bs R) l D cs i).getD j false
def Q8t(f:Nat):Prop:=∀(w:World) (h:Int) (i j:Nat),SpR w sb b R H q ka kc l da dc D->i<=j->j<=l.length->(Q5c (bs R) q (rcB R l D) f h i j).length<=1000000000000 ->
 Calls Tryz.prog 40 #[.pointer (some ⟨sb,0,none⟩),.int .i64 h,.int .i64 i,.int .i64 j,.int .i64 f] w fun e w'=>NdRet w (Q5c (bs R) q (rcB R l D) f h i j) e w'
end
attribute [local go_sem ↓] z13
theorem v0o(w:World)(sb b R H:Nat)(q:List Q1)(ka:Option Addr)(kc:Nat)(l:List Int)(da:Option Addr)(dc:Nat)(D:List Mat)(f:Nat)(hf:f<=2000)(hT:Q8t sb b R H q ka kc l da dc D f)(hS:SpR w sb b R H q ka kc l da dc D)(hQ:QOk R H q)(hl:l.length<=60)
  (v:Value) (cs:List Int) (hv:Q0z w v cs) (hcl:cs.length<=6) (hcs:∀c∈cs,0<=c/\c<(R:Int)+1+H) (i j:Nat) (hij:i<=j) (hj:j<=l.length) (hB:(Q9e (bs R) (rcB R l D) (Q5c (bs R) q (rcB R l D) f) cs i j).length<=1000000000000) :
  Calls Tryz.prog 76 #[.pointer (some ⟨sb,0,none⟩),v,.int .i64 i,.int .i64 j,.int .i64 f] w fun e w'=>NdRet w (Q9e (bs R) (rcB R l D) (Q5c (bs R) q (rcB R l D) f) cs i j) e w':=by
 obtain⟨i0,hi0,iz0,iz1,iz2⟩:=Q9c;have kj:=hQ.r8;have kg:=hQ.h8;have HV:=hid hv;obtain⟨ao,cap,rfl,hcap,hcell⟩:=hv;obtain⟨a0,c0,a1,c1,a2,c2,v3,v4,sv,hN⟩:=hS.s;have jw:=hid hN.k0;have HS:=hid hS;have HC:=hid hcell;have jv:=hid hcs;have RE:=hid (fun(W:World) (hW:Q0a w W) (v:Value) (cs:List Int) (hv:Q0z W v cs) (h1:cs.length<=1000) (h2:∀c∈cs,0<=c/\c<(R:Int)+1+H) (i:Nat) (h3:i<=l.length)=>z9r W sb b R H q ka kc l da dc D (hS.fresh hW) hQ hl v cs hv h1 h2 i h3);have jk:Hid (∀cs i,(rcF (bs R) l D cs i).length=l.length+1):=hid (fun cs i=>by
  unfold rcF;have:∀(cs:List Int) (s:List Bool),s.length=l.length+1->(rhF (bs R) l D (l.length+1) cs s).length=l.length+1:=by
   intro cs;induction cs with
   |nil=>intro s hs;exact hs
   |cons c cs ih=>intro s hs;exact ih _ (y2v (bs R) l D c s)
  exact this cs _ (by simp))
 have HT:=hid hT;generalize hVV:Q9e (bs R) (rcB R l D) (Q5c (bs R) q (rcB R l D) f) cs i j=V at hB;have k1:=hid hVV;generalize hn:l.length+1=n at RE jk;have kd:=hid hn;have kh:(j:Int)<(n:Int):=by omega
 have k7:n<=61:=by omega
 clear hS hQ hcell hcs hN hT hVV hn;go_enter Tryz.func76,Tryz.ntmps76
 go_wp2;go_loopw [2,11,12,13,14,15,16] (fun x2 x11 x12 _ _ _ _ wr=>∃(k i':Nat) (N:List Nd),x12=.int .i64 k/\x2=.int .i64 i'/\i'<=j/\k<=cs.length/\Q3l wr w.heap.size x11 N/\Q0a w wr/\N++Q9e (bs R) (rcB R l D) (Q5c (bs R) q (rcB R l D) f) (cs.drop k) i' j=V)
   (fun _ _ x _ _ _ _ _=>1001-(intOf x).toNat)
 case atStart=>exact⟨0,i,[],rfl,rfl,hij,by omega,World.ownsRow_nil _ _ _ _,mRf _ _,k1.out⟩
 obtain⟨k,i',N,rfl,rfl,hi',hk,hown,hfr,hrec⟩:=hrel;have jx:=hid (Q15 (B:=1001) k (by omega));have HO:=hid hown;have HF:=hid hfr;unfold Q3l at hown;obtain⟨na,nc,hnv⟩:=z0d hown;subst hnv;have ke:N.length<=1000000000000:=by rw[← hrec,qP]at hB;omega
 clear hown k1;by_cases hlt:k<cs.length
 ·have s1:(k:Int)<(cs.length:Int):=by omega
  rw[qC hlt,Q9e]at hrec;obtain⟨g,o,rfl,y1⟩:=HC.out k hlt;have jp:=jv.out cs[k] (qG hlt);have j9:Q0z w (.slice (some ⟨g,o+k,none⟩) 1 (cap-k)) [cs[k]]:=by
   have h1:=Q0z.drop HV.out k (by omega);have h2:=Q0z.take h1 (by rw[qBx]) (j:=1) (by rw[qBx];omega);rw[qC hlt]at h2;exact h2
  have j7:Hid (cap=k+1->∀(ao:Option Addr) (n c:Nat),n=0->Q0z w (.slice ao n c) (cs.drop (k+1))):=hid (fun h ao n c hn=>Q0z.none (qAi (by omega)) hn);have j8:Hid (Q0z w (.slice (some ⟨g,o+(k+1),none⟩) (cs.length-(k+1)) (cap-(k+1))) (cs.drop (k+1))):=hid (Q0z.drop HV.out (k+1) (by omega));have jn:∀c∈cs.drop (k+1),0<=c/\c<(R:Int)+1+H:=fun c hc=>jv.out c (List.mem_of_mem_drop hc);have jo:(cs.drop (k+1)).length<=1000:=by rw[qBx];omega
  generalize hcsd:cs.drop (k+1)=cs' at hrec j7 j8 jn jo;generalize cs[k]=c at hrec y1 jp j9;have jb:=hid j9;have R1:=hid (fun(W:World) (hW:Q0a w W)=>RE.out W hW _ [c] (jb.fresh hW) (by simp) (fun x hx=>by rw[qM]at hx;subst hx;exact jp) i' (by omega));have R2:=hid (fun(W:World) (hW:Q0a w W) (v:Value) (hv:Q0z w v cs') (t:Nat) (ht:t<=l.length)=>RE.out W hW v cs' (hv.fresh hW) jo jn t ht);have s3:(k:Int)+1<=(cs.length:Int):=by omega
  have s4:(k:Int)+1<=(cap:Int):=by omega
  have s5:(k:Int)<=(k:Int)+1:=by omega
  have s6:(k:Int)<=(cap:Int):=by omega
  generalize hto:toC (rcB R l D) c cs' i' j=tz at hrec;have j3:=hto;unfold toC at j3;have jq:=x8t (fun t=>rcB R l D [c] i' t&&rcB R l D cs' t j) (j-i') i';rw[j3]at jq;have jz:=hid j3;have j1:=hid hrec;have ju:=hid hcsd;have ki:=jp;have k6:=hid y1;have jd:tz<=j:=by omega
  have k9:=jq.1;clear hto j3 hrec j9 hcsd jn jo jq y1;go_upto_block 2 with fail
  go_cut [13,14,15] (fun s13 _ _ wx=>s13=.int .i64 tz/\Q0a wr wx)
  case first =>
   go_wp2_with fail
   go_loopw [13,14,15] (fun x13 _ _ wz=>∃t:Nat,x13=.int .i64 t/\i'<=t/\t<=j/\Q0a wr wz/\toL (fun t=>rcB R l D [c] i' t&&rcB R l D cs' t j) (j-t) t=tz)
     (fun x _ _ _=>1001-(intOf x).toNat)
   case atStart=>exact⟨i',rfl,qR _,hi',mRf _ _,jz.out⟩
   obtain⟨t,rfl,ht1,ht2,hfz,hrz⟩:=hrel;have jy:=hid (Q15 (B:=1001) t (by omega));have ji:=hid hfz;by_cases jd:t<j
   ·have s7:(t:Int)<(j:Int):=by omega
    have s8:(t:Int)<(n:Int):=by omega
    rw[v2g _ _ _ jd]at hrz;have RA:Hid (∀(a:Option Addr) (nn cc:Nat),a=some ⟨g,o+k,none⟩->nn=1->cc=cap-k->Calls Tryz.prog 75 #[.pointer (some ⟨sb,0,none⟩),.slice a nn cc,.int .i64 i'] wr fun e w'=>BRet wr n (rcF (bs R) l D [c] i') e w'):=hid (fun a nn cc h1 h2 h3=>by
     subst h1 h2 h3;exact R1.out _ (HF.trans hfz))
    have e1:rcB R l D [c] i' t=(rcF (bs R) l D [c] i').getD t false:=rfl;have e2:rcB R l D cs' t j=(rcF (bs R) l D cs' t).getD j false:=rfl;rw[e1,e2]at hrz;have L1:=hid (jk.out [c] i');have L2:=hid (jk.out cs' t);have j2:=hid hrz;have RB:Hid (∀(W:World),Q0a w W->∀(ao:Option Addr) (nn cc:Nat),nn=cs.length-(k+1)->((nn=0/\cap=k+1)∨(ao=some ⟨g,o+(k+1),none⟩/\cc=cap-(k+1)))->Calls Tryz.prog 75 #[.pointer (some ⟨sb,0,none⟩),.slice ao nn cc,.int .i64 t] W fun e w'=>BRet W n (rcF (bs R) l D cs' t) e w'):=hid (fun W hW ao nn cc hnn ho=>by
     have:=R2.out W hW (.slice ao nn cc) (by
      rcases ho with⟨z1,z2⟩|⟨z1,z2⟩
      ·exact j7.out z2 _ _ _ z1
      subst z1 z2 hnn;exact j8.out) t (by omega)
     exact this)
    clear hrz e1 e2;generalize rcF (bs R) l D [c] i'=S1 at RA L1 j2;generalize rcF (bs R) l D cs' t=S2 at RB L2 j2;rcases(show cap=k+1∨¬cap=k+1 by omega)with hc1|hc1;all_goals
     have k5:cap=k+1->cs.length=k+1:=fun _=>by omega
     have kb:=hid k5;clear k5;try subst hc1
     go_upto_region 8 with(first
      |(go_at_call 75;refine(RA.out _ _ _ (by rfl) (by omega) (by omega)).mono ?_;rintro e W1⟨g1,rfl,hB1,hf1⟩;have js:=hid hB1;have je:=hid hf1;clear hB1 hf1))
     go_upto_region 9 with(first
      |(go_at_call 75;refine(RB.out _ ((HF.trans ji.out).trans je.out) _ _ _ (by first|rfl|omega) (by first|exact .inr ⟨rfl,rfl⟩|exact .inl ⟨by omega,by first|rfl|trivial⟩|(left;omega))).mono ?_;rintro e W2⟨g2,rfl,hB2,hf2⟩;have jt:=hid hB2;have jf:=hid hf2;clear hB2 hf2))
     have c1:=(js.fresh jf.out).cell (j:=t) (by rw[L1.out];omega);have c2:=jt.cell (j:=j) (by rw[L2.out];omega);have jh:=hid ((ji.trans je.out).trans jf.out);clear js jt je jf RA RB;generalize S1.getD t false=b1 at c1 j2;generalize S2.getD j false=b2 at c2 j2;cases b1
     ·have j5:=hid j2.out;rw[qCi,qAa (by simp)]at j5;go_wp2_with fail
      go_roundw
      case rel=>exact⟨t+1,by go_num,by omega,by omega,jh.out,j5.out⟩
      exact jy.out
     cases b2
     ·have j5:=hid j2.out;rw[Bool.and_false,qAa (by simp)]at j5;go_wp2_with fail
      go_roundw
      case rel=>exact⟨t+1,by go_num,by omega,by omega,jh.out,j5.out⟩
      exact jy.out
     have j5:=hid j2.out;rw[Bool.and_true,qAb rfl]at j5;go_wp2_with fail
     go_meet;exact⟨by rw[j5.out],jh.out⟩
   have s7:¬(t:Int)<(j:Int):=by omega
   have hz:j-t=0:=by omega
   rw[hz]at hrz;have j2:=hid hrz;clear hrz hz;go_wp2_with fail
   go_meet;exact⟨by have:=j2.out;unfold toL at this;rw[this],ji.out⟩
  obtain⟨rfl,hfx⟩:=hcut;have k4:=HS.fresh (HF.trans hfx);have d0:=k4.c0;have y1:=Q0i (HF.trans hfx) k6.out;have BQ:=hid (fun n=>z1i (wc.drewN n) b R a0 c0 (Q0i ((HF.trans hfx).trans (Q0r wc n)) jw.out) (by omega));have ja:=hid hfx;have jm:=hB;rw[← j1.out,qP,qP]at jm;have jc:=hid jm;clear hfx k4 jm R1 R2 j7 j8 jb jz;by_cases hcr:c<bs R
  ·have j0:=hid j1.out;rw[qAb hcr]at j0;go_wp2_with fail
   go_quiet (first|(go_at_call 34;refine Calls.quiet_of_same (BQ.out _)));have y2:=Q0i (Q0r wc nq) y1;have j4:=hid (z0c HO.out (fun g hg=>(ja.trans (Q0r wc nq)).block g (HO.lt g hg).2 (fun x=>x)));have j6:=hid ((HF.trans ja.out).trans (Q0r wc nq));generalize wc.drewN nq=W4 at j4 j6 y2 ⊢;have k8:w.heap.size<=W4.heap.size:=j6.size;clear y1 d0 BQ;go_wp2_with (first
    |(at_builtin;refine z0g _ rfl _ _ 23 rfl w.heap.size 59 i0 _ 4 32 Tryz.underlying23 hi0 iz0 iz1 iz2 rfl (by decide) (.slice na N.length nc) N.length (Q00 Nd.cells N) rfl (World.ownsRow.alloc j4.out _) ⟨W4.heap.size,0,none⟩ 1 1 [.int .i64 (-1),.int .i64 c,.int .i64 i',.int .i64 1] rfl rfl (z0l rfl) (by intro u hu;simp at hu;rcases hu with rfl|rfl|rfl|rfl<;>rfl) (by unfold maxLen;omega) (by omega) (by simp;omega) ?_;intro v9 w6 hown2 hgrow hblk;have jj:=hid hown2;have jg:=hid (Mod.grown (S:=fun _=>False) (j6.alloc _) hgrow (fun k hk hlt=>by have:=(j4.lt k hk).1;omega));clear hown2 hgrow hblk))
   go_roundw
   case rel=>exact⟨k+1,tz,N++[⟨-1,c,i',1⟩],by go_num,rfl,jd,by omega,by unfold Q3l;rw[qP,z0y];exact jj.out,jg.out,by rw[ju.out,qAh];exact j0.out⟩
   exact jx.out
  have j0:=hid j1.out;rw[qAa hcr]at j0 jc;have kl:IntKind.i64.wrap (c-bs R)=c-bs R:=by rw[IntKind.wrap_i64];unfold bs at hcr ⊢;omega
  have jl:=hid (fun(W:World) (hW:Q0a wc W)=>HT.out W (c-bs R) i' tz (HS.fresh ((HF.trans ja.out).trans hW)) k9 (by omega) (by have:=jc.out;omega));generalize Q5c (bs R) q (rcB R l D) f (c-bs R) i' tz=TT at jl j0 jc;have kf:N.length+TT.length<=1000000000000:=by have:=jc.out;omega
  go_wp2_with fail
  go_quiet (first|(go_at_call 34;refine Calls.quiet_of_same (BQ.out _)));have y2:=Q0i (Q0r wc nq) y1;have d2:=Q0i (Q0r wc nq) d0;have j4:=hid (z0c HO.out (fun g hg=>(ja.trans (Q0r wc nq)).block g (HO.lt g hg).2 (fun x=>x)));have j6:=hid ((HF.trans ja.out).trans (Q0r wc nq));have k2:=hid (fun(W:World) (hW:Q0a (wc.drewN nq) W)=>jl.out W ((Q0r wc nq).trans hW));have jr:=hid (fun(W:World) (hW:Q0a (wc.drewN nq) W)=>z1i W b R a0 c0 (Q0i (((HF.trans ja.out).trans (Q0r wc nq)).trans hW) jw.out) (by omega));generalize wc.drewN nq=W4 at j4 j6 y2 d2 k2 jr ⊢;have k8:w.heap.size<=W4.heap.size:=j6.size;clear y1 d0 BQ jl;go_upto_region 13 with fail
  go_cut [16] (fun s16 wx=>∃ta tc,s16=.slice ta TT.length tc/\Q3l wx 0 (.slice ta TT.length tc) TT/\Q0a W4 wx)
  case first =>
   go_region_with (first
    |(go_at_call 34;refine(jr.out _ (by first|exact(mRf _ W4).drew|exact mRf _ W4)).mono ?_;rintro e w'⟨rfl,hw⟩;rw[hw];clear hw)
    |(go_at_call 40;refine(k2.out _ (by first|exact(mRf _ W4).drew|exact mRf _ W4)).mono ?_;rintro e w3⟨v3,rfl,ho3,hf3⟩))
   all_goals
    go_wp2_with fail
    go_meet;obtain⟨ta,tc,hv3⟩:=z0d ho3;subst hv3;exact⟨ta,tc,rfl,z0f ho3 (qBg _),((mRf _ W4).drew).trans hf3⟩
  obtain⟨ta,tc,rfl,hT4,hf5⟩:=hcut;have k3:Q3l wc w.heap.size (.slice na N.length nc) N:=z0c j4.out (fun g hg=>hf5.block g (j4.lt g hg).2 (fun x=>x));have kk:=hf5.size;obtain⟨v',w2,hrun,hown,hgrow,hblk⟩:=x1d (P:=Tryz.prog) wc w.heap.size 23 23 59 i0 _ 4 32 Tryz.underlying23 hi0 iz0 iz1 iz2 rfl (by decide) (.slice na N.length nc) N.length (Q00 Nd.cells N) k3 (.slice ta TT.length tc) TT.length (Q00 Nd.cells TT) hT4 (x3j TT) (by unfold maxLen;omega) (by omega) (by omega);obtain⟨a',cap',hv'⟩:=z0d hown;have jj:=hid hown;have jg:=hid (Mod.grown (S:=fun _=>False) (j6.trans hf5) hgrow (fun k hk hlt=>by have:=(j4.lt k hk).1;omega));clear hown hgrow hblk k3 hT4 hf5;subst hv';go_wp2;go_roundw
  case rel=>exact⟨k+1,tz,N++TT,by go_num,rfl,jd,by omega,by unfold Q3l;rw[qP,show Q00 Nd.cells (N++TT)=Q00 Nd.cells N++Q00 Nd.cells TT by simp[Q00]];exact jj.out,jg.out,by rw[ju.out,qAh];exact j0.out⟩
  exact jx.out
 have s1:¬(k:Int)<(cs.length:Int):=by omega
 rw[qAi (by omega),Q9e,qAt]at hrec;have j1:=hid hrec;clear hrec;go_wp2;go_ret;exact⟨_,rfl,by rw[← j1.out];exact HO.out,HF.out⟩
end Go.Proofs.YtcpceafmlgaodaaGreat
