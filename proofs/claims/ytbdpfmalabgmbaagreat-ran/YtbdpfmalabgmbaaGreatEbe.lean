import Derived.Test.YtbdpfmalabgmbaaGreatEbb
import Derived.Laws.OwnMore
import Derived.Deep.CutBlock
namespace Go.Proofs.YtbdpfmalabgmbaaGreat
open Go.RowKit
set_option maxRecDepth 99999
set_option maxHeartbeats 0
set_option linter.all false
theorem x1w{P:Program}(w:World)(base:Nat)(t ty e:TypeId)(i:TypeInfo)(z:Value)(size bytes:Nat)(ht:P.underlying t=some (.slice e))(hi:P.info? e=some i)(hz:i.zero=some z)(hsize:i.size=size)(hby:i.bytes=bytes)(hzs:z.cells.size=size)(hsz:0<size)
  (v:Value) (n:Nat) (xs:List Value) (hown:w.ownsRow base e size v n xs) (u:Value) (m:Nat) (news:List Value) (hu:w.ownsRow 0 e size u m news) (h1:∀u∈news,u.oneCell'=true)
  (h63:n+m<=maxLen) (hbytes:(n+m)*bytes<=140737488355328) (hbase:base<=w.heap.size) :
  ∃v' w',(apS #[t,t] ty #[v,u]).run P w=.ok v' w'/\w'.ownsRow base e size v' (n+m) (xs++news)/\w.grownBy w' v.ownBlock/\(∀k,v'.ownBlock=some k->v.ownBlock=some k∨w.heap.size<=k):=by
 obtain⟨hl,h2⟩:=id hu;rcases h2 with⟨rfl,rfl⟩|⟨g,cap,j0,rfl,_⟩
 ·have hx:news=[]:=qCm (by simpa using hl);subst hx;exact⟨v,w,run_append_owned_none (P:=P) (w:=w) base t ty e i size ht hi v n xs hown,by simpa using hown,⟨rfl,rfl,rfl,qR _,fun _ _ _=>rfl⟩,fun k hk=>.inl hk⟩
 exact z24 (P:=P) w base t ty e i z size bytes ht hi hz hsize hby hzs hsz v n xs hown ⟨g,0,none⟩ m cap news hl (hu.cells (g:=g) rfl) h1 h63 hbytes hbase
theorem x3z(l:List Nd):∀u∈Q0y Nd.cells l,u.oneCell'=true:=by
 intro u hu;unfold Q0y at hu;rw[List.mem_flatMap]at hu;obtain⟨x,_,hx⟩:=hu;simp only[Nd.cells,qBu,qEi,or_false]at hx;rcases hx with rfl|rfl|rfl|rfl<;>rfl
def toC(rb:List Int->Nat->Nat->Bool)(c:Int)(cs:List Int)(i j:Nat):Nat:=toL (fun t=>rb [c] i t&&rb cs t j) (j-i) i
def Q9u(base:Int)(rb:List Int->Nat->Nat->Bool)(T:Int->Nat->Nat->List Nd):List Int->Nat->Nat->List Nd
 | [],_,_=>[]
 |c::cs,i,j=>(if c<base then [⟨-1,c,i,1⟩] else T (c-base) i (toC rb c cs i j))++Q9u base rb T cs (toC rb c cs i j) j
def Q9b(q:List Q1)(rb:List Int->Nat->Nat->Bool)(h:Int)(i j:Nat):Nat:=q.findIdx fun x=>x.1==h&&rb x.2 i j
def Q5n(base:Int)(q:List Q1)(rb:List Int->Nat->Nat->Bool):Nat->Int->Nat->Nat->List Nd
 |0,_,_,_=>[]
 |f+1,h,i,j=>match q[Q9b q rb h i j]? with
  |some x=>⟨(Q9b q rb h i j:Int),-1,i,((Q9u base rb (Q5n base q rb f) x.2 i j).length:Int)+1⟩::Q9u base rb (Q5n base q rb f) x.2 i j
  |none=>[]
theorem x9g(g:Nat->Bool):∀f t,t<=toL g f t/\toL g f t<=t+f
 |0,t=>by unfold toL;omega
 |f+1,t=>by
  unfold toL;split
  ·omega
  have:=x9g g f (t+1);omega
def NdRet(w:World)(L:List Nd)(e:Ending)(w':World):Prop:=∃v,e=.returned v/\Q2x w' w.heap.size v L/\Q0a w w'
theorem v3d(g:Nat->Bool)(j t:Nat)(h:t<j):toL g (j-t) t=if g t=true then t else toL g (j-(t+1)) (t+1):=by
 rw[show j-t=(j-(t+1))+1 by omega];rfl
section
variable (w0:World) (sb b R H:Nat) (q:List Q1) (ka:Option Addr) (kc:Nat) (l:List Int) (da:Option Addr) (dc:Nat) (D:List Mat)
def rcB(R:Nat)(l:List Int)(D:List Mat)(cs:List Int)(i j:Nat):Bool:=(rcF (bs R) l D cs i).getD j false
def Q9a(f:Nat):Prop:=∀(w:World) (h:Int) (i j:Nat),SpR w sb b R H q ka kc l da dc D->i<=j->j<=l.length->(Q5n (bs R) q (rcB R l D) f h i j).length<=1000000000000 ->
 Calls Tryz.prog 54 #[.pointer (some ⟨sb,0,none⟩),.int .i64 h,.int .i64 i,.int .i64 j,.int .i64 f] w fun e w'=>NdRet w (Q5n (bs R) q (rcB R l D) f h i j) e w'
end
attribute [local go_sem ↓] z17
theorem v1f(w:World)(sb b R H:Nat)(q:List Q1)(ka:Option Addr)(kc:Nat)(l:List Int)(da:Option Addr)(dc:Nat)(D:List Mat)(f:Nat)(hf:f<=2000)(hT:Q9a sb b R H q ka kc l da dc D f)(hS:SpR w sb b R H q ka kc l da dc D)(hQ:QOk R H q)(hl:l.length<=60)
  (v:Value) (cs:List Int) (hv:Q1c w v cs) (hcl:cs.length<=6) (hcs:∀c∈cs,0<=c/\c<(R:Int)+1+H) (i j:Nat) (hij:i<=j) (hj:j<=l.length) (hB:(Q9u (bs R) (rcB R l D) (Q5n (bs R) q (rcB R l D) f) cs i j).length<=1000000000000) :
  Calls Tryz.prog 87 #[.pointer (some ⟨sb,0,none⟩),v,.int .i64 i,.int .i64 j,.int .i64 f] w fun e w'=>NdRet w (Q9u (bs R) (rcB R l D) (Q5n (bs R) q (rcB R l D) f) cs i j) e w':=by
 obtain⟨i0,kp,kr,ks,kt⟩:=Q9s;have xf:=hQ.r8;have xc:=hQ.h8;have HV:=hid hv;obtain⟨ao,cap,rfl,kw,j9⟩:=hv;obtain⟨a0,c0,a1,c1,a2,c2,v3,v4,sv,hN⟩:=hS.s;have k8:=hid hN.k0;have HS:=hid hS;have HC:=hid j9;have k7:=hid hcs;have RE:=hid (fun(W:World) (hW:Q0a w W) (v:Value) (cs:List Int) (hv:Q1c W v cs) (h1:cs.length<=1000) (h2:∀c∈cs,0<=c/\c<(R:Int)+1+H) (i:Nat) (h3:i<=l.length)=>z95 W sb b R H q ka kc l da dc D (hS.fresh hW) hQ hl v cs hv h1 h2 i h3);have ju:Hid (∀cs i,(rcF (bs R) l D cs i).length=l.length+1):=hid (fun cs i=>by
  unfold rcF;have:∀(cs:List Int) (s:List Bool),s.length=l.length+1->(rhF (bs R) l D (l.length+1) cs s).length=l.length+1:=by
   intro cs;induction cs with
   |nil=>intro s hs;exact hs
   |cons c cs ih=>intro s hs;exact ih _ (y3d (bs R) l D c s)
  exact this cs _ (by simp))
 have HT:=hid hT;generalize hVV:Q9u (bs R) (rcB R l D) (Q5n (bs R) q (rcB R l D) f) cs i j=V at hB;have ke:=hid hVV;generalize hn:l.length+1=n at RE ju;have x9:=hid hn;have xd:(j:Int)<(n:Int):=by omega
 have x0:n<=61:=by omega
 clear hS hQ j9 hcs hN hT hVV hn;go_enter Tryz.func87,Tryz.ntmps87
 go_wp2;go_loopw [2,11,12,13,14,15,16] (fun x2 x11 x12 _ _ _ _ wr=>∃(k i':Nat) (N:List Nd),x12=.int .i64 k/\x2=.int .i64 i'/\i'<=j/\k<=cs.length/\Q2x wr w.heap.size x11 N/\Q0a w wr/\N++Q9u (bs R) (rcB R l D) (Q5n (bs R) q (rcB R l D) f) (cs.drop k) i' j=V)
   (fun _ _ x _ _ _ _ _=>1001-(intOf x).toNat)
 case atStart=>exact⟨0,i,[],rfl,rfl,hij,by omega,qAh _ _ _ _,mRf _ _,ke.out⟩
 obtain⟨k,i',N,rfl,rfl,kz,hk,j3,ky,j0⟩:=hrel;have k9:=hid (Q19 (B:=1001) k (by omega));have HO:=hid j3;have HF:=hid ky;unfold Q2x at j3;obtain⟨na,nc,x1⟩:=z0c j3;subst x1;have xa:N.length<=1000000000000:=by rw[← j0,qP]at hB;omega
 clear j3 ke;by_cases ji:k<cs.length
 ·have s1:(k:Int)<(cs.length:Int):=by omega
  rw[qC ji,Q9u]at j0;obtain⟨g,o,rfl,y1⟩:=HC.out k ji;have jz:=k7.out cs[k] (qG ji);have je:Q1c w (.slice (some ⟨g,o+k,none⟩) 1 (cap-k)) [cs[k]]:=by
   have h1:=Q1c.drop HV.out k (by omega);have h2:=Q1c.take h1 (by rw[qCt]) (j:=1) (by rw[qCt];omega);rw[qC ji]at h2;exact h2
  have jc:Hid (cap=k+1->∀(ao:Option Addr) (n c:Nat),n=0->Q1c w (.slice ao n c) (cs.drop (k+1))):=hid (fun h ao n c hn=>Q1c.none (qAp (by omega)) hn);have jd:Hid (Q1c w (.slice (some ⟨g,o+(k+1),none⟩) (cs.length-(k+1)) (cap-(k+1))) (cs.drop (k+1))):=hid (Q1c.drop HV.out (k+1) (by omega));have jx:∀c∈cs.drop (k+1),0<=c/\c<(R:Int)+1+H:=fun c hc=>k7.out c (List.mem_of_mem_drop hc);have jy:(cs.drop (k+1)).length<=1000:=by rw[qCt];omega
  generalize hcsd:cs.drop (k+1)=cs' at j0 jc jd jx jy;generalize cs[k]=c at j0 y1 jz je;have jj:=hid je;have R1:=hid (fun(W:World) (hW:Q0a w W)=>RE.out W hW _ [c] (jj.fresh hW) (by simp) (fun x hx=>by rw[qM]at hx;subst hx;exact jz) i' (by omega));have R2:=hid (fun(W:World) (hW:Q0a w W) (v:Value) (hv:Q1c w v cs') (t:Nat) (ht:t<=l.length)=>RE.out W hW v cs' (hv.fresh hW) jy jx t ht);have s3:(k:Int)+1<=(cs.length:Int):=by omega
  have s4:(k:Int)+1<=(cap:Int):=by omega
  have s5:(k:Int)<=(k:Int)+1:=by omega
  have s6:(k:Int)<=(cap:Int):=by omega
  generalize hto:toC (rcB R l D) c cs' i' j=tz at j0;have j6:=hto;unfold toC at j6;have k2:=x9g (fun t=>rcB R l D [c] i' t&&rcB R l D cs' t j) (j-i') i';rw[j6]at k2;have kd:=hid j6;have j4:=hid j0;have k6:=hid hcsd;have xe:=jz;have ku:=hid y1;have jn:tz<=j:=by omega
  have x5:=k2.1;clear hto j6 j0 je hcsd jx jy k2 y1;go_upto_block 2 with fail
  go_cut [13,14,15] (fun s13 _ _ wx=>s13=.int .i64 tz/\Q0a wr wx)
  case first =>
   go_wp2_with fail
   go_loopw [13,14,15] (fun x13 _ _ wz=>∃t:Nat,x13=.int .i64 t/\i'<=t/\t<=j/\Q0a wr wz/\toL (fun t=>rcB R l D [c] i' t&&rcB R l D cs' t j) (j-t) t=tz)
     (fun x _ _ _=>1001-(intOf x).toNat)
   case atStart=>exact⟨i',rfl,qR _,kz,mRf _ _,kd.out⟩
   obtain⟨t,rfl,xh,xi,ko,jg⟩:=hrel;have kb:=hid (Q19 (B:=1001) t (by omega));have js:=hid ko;by_cases jn:t<j
   ·have s7:(t:Int)<(j:Int):=by omega
    have s8:(t:Int)<(n:Int):=by omega
    rw[v3d _ _ _ jn]at jg;have RA:Hid (∀(a:Option Addr) (nn cc:Nat),a=some ⟨g,o+k,none⟩->nn=1->cc=cap-k->Calls Tryz.prog 86 #[.pointer (some ⟨sb,0,none⟩),.slice a nn cc,.int .i64 i'] wr fun e w'=>BRet wr n (rcF (bs R) l D [c] i') e w'):=hid (fun a nn cc h1 h2 h3=>by
     subst h1 h2 h3;exact R1.out _ (HF.trans ko))
    have e1:rcB R l D [c] i' t=(rcF (bs R) l D [c] i').getD t false:=rfl;have e2:rcB R l D cs' t j=(rcF (bs R) l D cs' t).getD j false:=rfl;rw[e1,e2]at jg;have L1:=hid (ju.out [c] i');have L2:=hid (ju.out cs' t);have j5:=hid jg;have RB:Hid (∀(W:World),Q0a w W->∀(ao:Option Addr) (nn cc:Nat),nn=cs.length-(k+1)->((nn=0/\cap=k+1)∨(ao=some ⟨g,o+(k+1),none⟩/\cc=cap-(k+1)))->Calls Tryz.prog 86 #[.pointer (some ⟨sb,0,none⟩),.slice ao nn cc,.int .i64 t] W fun e w'=>BRet W n (rcF (bs R) l D cs' t) e w'):=hid (fun W hW ao nn cc hnn ho=>by
     have:=R2.out W hW (.slice ao nn cc) (by
      rcases ho with⟨z1,z2⟩|⟨z1,z2⟩
      ·exact jc.out z2 _ _ _ z1
      subst z1 z2 hnn;exact jd.out) t (by omega)
     exact this)
    clear jg e1 e2;generalize rcF (bs R) l D [c] i'=S1 at RA L1 j5;generalize rcF (bs R) l D cs' t=S2 at RB L2 j5;rcases(show cap=k+1∨¬cap=k+1 by omega)with hc1|hc1;all_goals
     have kl:cap=k+1->cs.length=k+1:=fun _=>by omega
     have x8:=hid kl;clear kl;try subst hc1
     go_upto_region 8 with(first
      |(go_at_call 86;refine(RA.out _ _ _ (by rfl) (by omega) (by omega)).mono ?_;rintro e W1⟨g1,rfl,kg,km⟩;have k4:=hid kg;have jo:=hid km;clear kg km))
     go_upto_region 9 with(first
      |(go_at_call 86;refine(RB.out _ ((HF.trans js.out).trans jo.out) _ _ _ (by first|rfl|omega) (by first|exact .inr ⟨rfl,rfl⟩|exact .inl ⟨by omega,by first|rfl|trivial⟩|(left;omega))).mono ?_;rintro e W2⟨g2,rfl,kh,kn⟩;have k5:=hid kh;have jp:=hid kn;clear kh kn))
     have c1:=(k4.fresh jp.out).cell (j:=t) (by rw[L1.out];omega);have c2:=k5.cell (j:=j) (by rw[L2.out];omega);have jr:=hid ((js.trans jo.out).trans jp.out);clear k4 k5 jo jp RA RB;generalize S1.getD t false=b1 at c1 j5;generalize S2.getD j false=b2 at c2 j5;cases b1
     ·have j8:=hid j5.out;rw[qDh,qAa (by simp)]at j8;go_wp2_with fail
      go_roundw
      case rel=>exact⟨t+1,by go_num,by omega,by omega,jr.out,j8.out⟩
      exact kb.out
     cases b2
     ·have j8:=hid j5.out;rw[Bool.and_false,qAa (by simp)]at j8;go_wp2_with fail
      go_roundw
      case rel=>exact⟨t+1,by go_num,by omega,by omega,jr.out,j8.out⟩
      exact kb.out
     have j8:=hid j5.out;rw[Bool.and_true,qAb rfl]at j8;go_wp2_with fail
     go_meet;exact⟨by rw[j8.out],jr.out⟩
   have s7:¬(t:Int)<(j:Int):=by omega
   have hz:j-t=0:=by omega
   rw[hz]at jg;have j5:=hid jg;clear jg hz;go_wp2_with fail
   go_meet;exact⟨by have:=j5.out;unfold toL at this;rw[this],js.out⟩
  obtain⟨rfl,jk⟩:=hcut;have kj:=HS.fresh (HF.trans jk);have d0:=kj.c0;have y1:=Q0h (HF.trans jk) ku.out;have BQ:=hid (fun n=>z1j (wc.drewN n) b R a0 c0 (Q0h ((HF.trans jk).trans (Q0v wc n)) k8.out) (by omega));have jh:=hid jk;have jw:=hB;rw[← j4.out,qP,qP]at jw;have jl:=hid jw;clear jk kj jw R1 R2 jc jd jj kd;by_cases k1:c<bs R
  ·have j1:=hid j4.out;rw[qAb k1]at j1;go_wp2_with fail
   go_quiet (first|(go_at_call 47;refine Calls.quiet_of_same (BQ.out _)));have y2:=Q0h (Q0v wc nq) y1;have j7:=hid (z0d HO.out (fun g hg=>(jh.trans (Q0v wc nq)).block g (HO.lt g hg).2 id));have jb:=hid ((HF.trans jh.out).trans (Q0v wc nq));generalize wc.drewN nq=W4 at j7 jb y2 ⊢;have x4:w.heap.size<=W4.heap.size:=jb.size;clear y1 d0 BQ;go_wp2_with (first
    |(at_builtin;refine z0f _ rfl _ _ 23 rfl w.heap.size 67 i0 _ 4 32 Tryz.underlying23 kp kr ks kt rfl (by decide) (.slice na N.length nc) N.length (Q0y Nd.cells N) rfl (qFq j7.out _) ⟨W4.heap.size,0,none⟩ 1 1 [.int .i64 (-1),.int .i64 c,.int .i64 i',.int .i64 1] rfl rfl (z0m rfl) (by intro u hu;simp at hu;rcases hu with rfl|rfl|rfl|rfl<;>rfl) (by unfold maxLen;omega) (by omega) (by simp;omega) ?_;intro v9 w6 ja j2 jf;have jt:=hid ja;have jq:=hid (Mod.grown (S:=fun _=>False) (jb.alloc _) j2 (fun k hk ji=>by have:=(j7.lt k hk).1;omega));clear ja j2 jf))
   go_roundw
   case rel=>exact⟨k+1,tz,N++[⟨-1,c,i',1⟩],by go_num,rfl,jn,by omega,by unfold Q2x;rw[qP,z0v];exact jt.out,jq.out,by rw[k6.out,qAs];exact j1.out⟩
   exact k9.out
  have j1:=hid j4.out;rw[qAa k1]at j1 jl;have xj:IntKind.i64.wrap (c-bs R)=c-bs R:=by rw[qBv];unfold bs at k1 ⊢;omega
  have jv:=hid (fun(W:World) (hW:Q0a wc W)=>HT.out W (c-bs R) i' tz (HS.fresh ((HF.trans jh.out).trans hW)) x5 (by omega) (by have:=jl.out;omega));generalize Q5n (bs R) q (rcB R l D) f (c-bs R) i' tz=TT at jv j1 jl;have xb:N.length+TT.length<=1000000000000:=by have:=jl.out;omega
  go_wp2_with fail
  go_quiet (first|(go_at_call 47;refine Calls.quiet_of_same (BQ.out _)));have y2:=Q0h (Q0v wc nq) y1;have d2:=Q0h (Q0v wc nq) d0;have j7:=hid (z0d HO.out (fun g hg=>(jh.trans (Q0v wc nq)).block g (HO.lt g hg).2 id));have jb:=hid ((HF.trans jh.out).trans (Q0v wc nq));have kf:=hid (fun(W:World) (hW:Q0a (wc.drewN nq) W)=>jv.out W ((Q0v wc nq).trans hW));have k3:=hid (fun(W:World) (hW:Q0a (wc.drewN nq) W)=>z1j W b R a0 c0 (Q0h (((HF.trans jh.out).trans (Q0v wc nq)).trans hW) k8.out) (by omega));generalize wc.drewN nq=W4 at j7 jb y2 d2 kf k3 ⊢;have x4:w.heap.size<=W4.heap.size:=jb.size;clear y1 d0 BQ jv;go_upto_region 13 with fail
  go_cut [16] (fun s16 wx=>∃ta tc,s16=.slice ta TT.length tc/\Q2x wx 0 (.slice ta TT.length tc) TT/\Q0a W4 wx)
  case first =>
   go_region_with (first
    |(go_at_call 47;refine(k3.out _ (by first|exact(mRf _ W4).drew|exact mRf _ W4)).mono ?_;rintro e w'⟨rfl,hw⟩;rw[hw];clear hw)
    |(go_at_call 54;refine(kf.out _ (by first|exact(mRf _ W4).drew|exact mRf _ W4)).mono ?_;rintro e w3⟨v3,rfl,kq,kx⟩))
   all_goals
    go_wp2_with fail
    go_meet;obtain⟨ta,tc,x7⟩:=z0c kq;subst x7;exact⟨ta,tc,rfl,z0g kq (qBq _),((mRf _ W4).drew).trans kx⟩
  obtain⟨ta,tc,rfl,kk,jm⟩:=hcut;have ki:Q2x wc w.heap.size (.slice na N.length nc) N:=z0d j7.out (fun g hg=>jm.block g (j7.lt g hg).2 id);have xg:=jm.size;obtain⟨v',w2,x3,j3,j2,jf⟩:=x1w (P:=Tryz.prog) wc w.heap.size 23 23 67 i0 _ 4 32 Tryz.underlying23 kp kr ks kt rfl (by decide) (.slice na N.length nc) N.length (Q0y Nd.cells N) ki (.slice ta TT.length tc) TT.length (Q0y Nd.cells TT) kk (x3z TT) (by unfold maxLen;omega) (by omega) (by omega);obtain⟨a',kv,x6⟩:=z0c j3;have jt:=hid j3;have jq:=hid (Mod.grown (S:=fun _=>False) (jb.trans jm) j2 (fun k hk ji=>by have:=(j7.lt k hk).1;omega));clear j3 j2 jf ki kk jm;subst x6;go_wp2;go_roundw
  case rel=>exact⟨k+1,tz,N++TT,by go_num,rfl,jn,by omega,by unfold Q2x;rw[qP,show Q0y Nd.cells (N++TT)=Q0y Nd.cells N++Q0y Nd.cells TT by simp[Q0y]];exact jt.out,jq.out,by rw[k6.out,qAs];exact j1.out⟩
  exact k9.out
 have s1:¬(k:Int)<(cs.length:Int):=by omega
 rw[qAp (by omega),Q9u,qBd]at j0;have j4:=hid j0;clear j0;go_wp2;go_ret;exact⟨_,rfl,by rw[← j4.out];exact HO.out,HF.out⟩
end Go.Proofs.YtbdpfmalabgmbaaGreat
