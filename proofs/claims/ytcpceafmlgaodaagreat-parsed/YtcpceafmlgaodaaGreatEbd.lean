import Derived.Test.YtcpceafmlgaodaaGreatEbc
namespace Go.Proofs.YtcpceafmlgaodaaGreat
open Go.RowKit
set_option maxRecDepth 99999
set_option maxHeartbeats 0
set_option linter.all false
theorem infoBB:(Tryz.prog.info? 89).map (fun i=>(i.zero,i.size,i.bytes))=some (some (.slice none 0 0),1,24):=by kernel_rfl
theorem infoBB':∃i,Tryz.prog.info? 89=some i/\i.zero=some (.slice none 0 0)/\i.size=1/\i.bytes=24:=nfoE infoBB
def addR(R:Nat)(l:List Int)(D:List Mat)(x:Q1)(i:Nat):List Mat:=Q9s D x.1.toNat i (orI ((D.getD x.1.toNat []).getD i []) (rcF (bs R) l D x.2 i) (l.length+1) (l.length+1))
def CloD(R:Nat)(q:List Q1)(l:List Int)(D:List Mat):Prop:=∀(p:Nat) (x:Q1) (i:Nat),q[p]? = some x->i<=l.length->moI ((D.getD x.1.toNat []).getD i []) (rcF (bs R) l D x.2 i) (l.length+1)=false
def SpnRet(w:World)(b R H:Nat)(q:List Q1)(ka:Option Addr)(kc:Nat)(l:List Int)(S:List Mat->Prop)(e:Ending)(w':World):Prop :=
 ∃sb da dc D,e=.returned (.pointer (some ⟨sb,0,none⟩))/\SpR w' sb b R H q ka kc l da dc D/\Q0a w w'/\S D/\CloD R q l D
theorem v0k(base:Int)(l:List Int)(D:List Mat)(cs:List Int)(i:Nat):(rcF base l D cs i).length=l.length+1:=by
 unfold rcF;have:∀(cs:List Int) (s:List Bool),s.length=l.length+1->(rhF base l D (l.length+1) cs s).length=l.length+1:=by
  intro cs;induction cs with
  |nil=>intro s hs;exact hs
  |cons c cs ih=>intro s hs;exact ih _ (y2v base l D c s)
 exact this cs _ (by simp)
structure Swp(R H:Nat)(q:List Q1)(l:List Int)(S:List Mat->Prop)(D0 D:List Mat)(mo:Bool)(p i:Nat):Prop where
 s:S D
 le:Q87 H (l.length+1) D0<=Q87 H (l.length+1) D
 lt:mo=true->Q87 H (l.length+1) D0<Q87 H (l.length+1) D
 no:mo=false->D=D0/\∀(p':Nat) (x:Q1) (i':Nat),q[p']? = some x->i'<=l.length->(p'<p∨(p'=p/\i'<i))->moI ((D0.getD x.1.toNat []).getD i' []) (rcF (bs R) l D0 x.2 i') (l.length+1)=false
theorem Swp.next{R H:Nat}{q:List Q1}{l:List Int}{S:List Mat->Prop}{D0 D:List Mat}{mo:Bool}{p i:Nat}{x:Q1}(h:Swp R H q l S D0 D mo p i)(hx:q[p]? = some x)(hi:i<=l.length)(hS:S (addR R l D x i))(hD:D.length=H)(hh:x.1.toNat<H)(hr:(D.getD x.1.toNat []).length=l.length+1)(hrow:((D.getD x.1.toNat []).getD i []).length=l.length+1) :
  Swp R H q l S D0 (addR R l D x i) (mo||moI ((D.getD x.1.toNat []).getD i []) (rcF (bs R) l D x.2 i) (l.length+1)) p (i+1):=by
 have hc:=x9c (ys:=rcF (bs R) l D x.2 i) hD hh (show i<l.length+1 by omega) hr;refine⟨hS,qCd h.le hc.1,fun e=>?_,fun e=>?_⟩
 ·rw[qAk]at e;rcases e with e|e
  ·exact qCr (h.lt e) hc.1
  exact Nat.lt_of_le_of_lt h.le (hc.2 e)
 rw[qBm]at e;obtain⟨e1,e2⟩:=e;obtain⟨rfl,h2⟩:=h.no e1;refine⟨?_,fun p' x' i' hx' hi' ho=>?_⟩
 ·unfold addR;rw[x6t hrow e2];exact x38 (by omega) (by omega)
 rcases ho with ho|⟨rfl,ho⟩
 ·exact h2 p' x' i' hx' hi' (.inl ho)
 rw[hx]at hx';injection hx' with hx';subst hx';rcases qBn i' i with z|z
 ·exact h2 p' x i' hx hi' (.inr ⟨rfl,z⟩)
 obtain rfl:i'=i:=by omega
 exact e2
theorem Swp.row{R H:Nat}{q:List Q1}{l:List Int}{S:List Mat->Prop}{D0 D:List Mat}{mo:Bool}{p i:Nat}(h:Swp R H q l S D0 D mo p i)(hi:l.length+1<=i):Swp R H q l S D0 D mo (p+1) 0 :=
 ⟨h.s,h.le,h.lt,fun e=>⟨(h.no e).1,fun p' x i' hx hi' ho=>(h.no e).2 p' x i' hx hi' (by
  rcases ho with ho|ho
  ·rcases qBn p' p with z|z
   ·exact .inl z
   exact .inr ⟨by omega,by omega⟩
  omega)⟩⟩
theorem x4u(w:World)(b R H:Nat)(q:List Q1)(ka:Option Addr)(kc:Nat)(l:List Int)(S:List Mat->Prop)(hS:Q3x w b R H q)(hQ:QOk R H q)(hk:Q0z w (.slice ka l.length kc) l)(hl:l.length<=60) (hS0:S (List.replicate H (sqF (l.length+1)))) (hSs:∀(D:List Mat) (p:Nat) (x:Q1) (i:Nat),S D->D.length=H->q[p]? = some x->i<=l.length->S (addR R l D x i)) :
  Calls Tryz.prog 39 #[.pointer (some ⟨b,0,none⟩),.slice ka l.length kc] w fun e w'=>SpnRet w b R H q ka kc l S e w':=by
 obtain⟨i0,hi0,hz0,hz1,hz2⟩:=infoBB';have x5:=hQ.r8;have kp:=hQ.h8;have ks:=hQ.p20;have x3:0<H:=by
  have h1:=hQ.pos;have h2:=hQ.hd q[0] (qG h1);omega
 have HS:=hid hS;have HQ:=hid hQ;have HK:=hid hk;have kh:=hid hS0;have ki:=hid hSs;obtain⟨a0,c0,a1,c1,a2,c2,v3,v4,sv,hN⟩:=hS;have HN:=hid hN;have SQ:=hid (fun W=>z68 W (l.length+1) (by omega));have UN:=hid (fun(W:World) (ga gb:Nat) (xs ys:List Bool) (h1:Q1y W ga xs) (h2:Q1y W gb ys) (h3:xs.length=l.length+1) (h4:ys.length=l.length+1)=>z2x W ga gb (l.length+1) xs ys h1 h2 h3 h4 (by omega));have js:=hid (fun D cs i=>v0k (bs R) l D cs i);have RE:=hid (fun(W:World) (hW:Q0a w W) (sb:Nat) (da:Option Addr) (dc:Nat) (D:List Mat) (h:SpR W sb b R H q ka kc l da dc D) (v:Value) (cs:List Int) (hv:Q0z W v cs) (h1:cs.length<=1000) (h2:∀c∈cs,0<=c/\c<(R:Int)+1+H) (i:Nat) (h3:i<=l.length)=>z9r W sb b R H q ka kc l da dc D h HQ.out hl v cs hv h1 h2 i h3);have ky:IntKind.i64.wrap ((l.length:Int)+1)=((l.length+1:Nat):Int):=by rw[IntKind.wrap_i64];omega
 generalize hn:l.length+1=n at SQ UN js ky;have j0:=hid hn;have j8:n<=61:=by omega
 have kr:0<n:=by omega
 clear hQ hk hS0 hSs hN hn;go_enter Tryz.func39,Tryz.ntmps39
 go_wp2;go_loopw [7,8] (fun x7 _ wr=>∃(h:Nat) (dv:Value) (us:List (Nat × Nat)),x7=.int .i64 h/\h<=H/\us.length=h/\DAt w wr w.heap.size b (.slice ka l.length kc) dv n us (List.replicate h (sqF n)))
   (fun x _ _=>1001-(intOf x).toNat)
 case atStart=>exact⟨0,.slice none 0 0,[],rfl,by omega,rfl,(mRf _ w).alloc _,z0a _ _,qR _,World.ownsRow_nil _ _ _ _,rfl,fun k u hu=>by simp at hu,fun j k u v hu=>by simp at hu⟩
 obtain⟨h,dv,us,rfl,hh,hul,hD⟩:=hrel;have kb:=hid (Q15 (B:=1001) h (by omega));have HD:=hid hD;have k2:=(HN.fresh hD.fr).k2;have kt:w.heap.size<wr.heap.size:=z0j hD.c;have j1:=hid hul;have kv:us.length<=8:=by omega
 clear hD hul;by_cases hlt:h<H
 ·have s1:(h:Int)<(H:Int):=by omega
  obtain⟨da,dc,hdv⟩:=z0d HD.own;subst hdv;have PU:Hid (∀(W:World) (u cap:Nat) (o:Obj) (v':Value) (w2:World),Q0a wr W->wr.heap.size<=u->Q96 W n u (sqF n)->w2.ownsRow w.heap.size 89 1 v' (us.length+1) ((us.map fun u=>.slice (some ⟨u.1,0,none⟩) n u.2)++[.slice (some ⟨u,0,none⟩) n cap])->(W.alloc o).grownBy w2 (Value.ownBlock (.slice da us.length dc))->(∀k,v'.ownBlock=some k->Value.ownBlock (.slice da us.length dc)=some k∨(W.alloc o).heap.size<=k) ->
    DAt w (w2.setCell ⟨w.heap.size,2,none⟩ v') w.heap.size b (.slice ka l.length kc) v' n (us++[(u,cap)]) (List.replicate (h+1) (sqF n))/\w2.heap[w.heap.size]? = some (.cells #[.pointer (some ⟨b,0,none⟩),.slice ka l.length kc,.slice da us.length dc] 168 (0,0))):=hid (fun W u cap o v' w2 hW hu hR h1 h2 h3=>by
   have jl:Q0a wr (W.alloc o):=hW.alloc _;constructor
   ·rw[List.replicate_succ'];exact HD.push jl hu (hR.fresh ((mRf _ W).alloc _)) h1 h2 h3
   have hc:=jl.at HD.c (fun x=>x);rw[h2.block _ (z0j hc) (fun e=>by
    obtain⟨cur,hz⟩:=z3i (HD.fresh jl).own e.symm;exact x5a hc hz (by decide) rfl)]
   exact hc)
  have km:Hid (∀(W:World) (o:Obj),Q0a wr W->(W.alloc o).ownsRow w.heap.size 89 1 (.slice da us.length dc) us.length (us.map fun u=>.slice (some ⟨u.1,0,none⟩) n u.2)):=hid (fun W o hW=>(z0c HD.own (fun g hg=>hW.block g (HD.own.lt g hg).2 (fun x=>x))).alloc o);have k7:Hid (∀W,Q0a wr W->W.cell? ⟨w.heap.size,2,none⟩=some (.slice da us.length dc)):=hid (fun W hW=>by rw[Q0b (hW.at HD.c (fun x=>x)) 2];rfl);go_upto_region 7 with(first
   |(go_at_call 74;refine(SQ.out _).mono ?_;rintro e W⟨v,gs,rfl,hm,hf⟩;obtain⟨u,cap,rfl,hu,hR⟩:=hm.rowB (y1k n) kr;have HR:=hid hR;have HU:=hid hu;have HF:=hid hf;have x4:=hf.size;have kk:=k7.out W hf;clear hm hf hR hu))
  go_wp2_with (first
   |(at_builtin;refine z0g _ rfl _ _ 166 rfl w.heap.size 89 i0 _ 1 24 Tryz.underlying166 hi0 hz0 hz1 hz2 rfl (by decide) (.slice da us.length dc) us.length _ rfl (km.out _ _ HF.out) ⟨W.heap.size,0,none⟩ 1 1 [.slice (some ⟨u,0,none⟩) n cap] rfl rfl (z0l rfl) (by intro u hu;simp at hu;subst hu;rfl) (by unfold maxLen;omega) (by omega) (by simp;omega) ?_;intro v9 w4 hown2 hgrow hblk;obtain⟨hpu,hb9⟩:=PU.out _ u cap _ _ _ HF.out HU.out HR.out hown2 hgrow hblk;have kg:=hid hpu;have kw:=Q0b hb9 2;have kf:=Q0g hb9 2;simp at kw;obtain⟨a9,c9,hv9⟩:=z0d hown2;clear hown2 hgrow hblk hpu hb9;subst hv9))
  go_roundw
  case rel=>exact⟨h+1,_,_,by go_num,by omega,by simp[j1.out],kg.out⟩
  exact kb.out
 have s1:¬(h:Int)<(H:Int):=by omega
 obtain rfl:h=H:=by omega
 obtain⟨da,dc,hdv⟩:=z0d HD.own;rw[j1.out]at hdv;subst hdv;clear SQ kt;go_wp2;go_loopw [9,10,11,12,13,14] (fun x9 _ _ _ _ _ wr=>∃(mo:Bool) (D:List Mat),x9=.bool mo/\DAt w wr w.heap.size b (.slice ka l.length kc) (.slice da h dc) n us D/\S D/\(mo=false->CloD R q l D))
   (fun x9 _ _ _ _ _ wr=>2*(40000-cntW (us.map Prod.fst) n wr)+Q7z x9)
 case atStart=>exact⟨true,_,rfl,HD.out,by have:=kh.out;rw[j0.out]at this;exact this,fun e=>by cases e⟩
 obtain⟨mo,D0,rfl,hD,hS,hc⟩:=hrel;have j2:=hid hD;have ju:=hid hS;have jp:=hid hc;clear hD hS hc HD;cases mo
 ·go_wp2;go_ret;refine⟨w.heap.size,da,dc,D0,rfl,⟨?_,?_,?_,HS.fresh j2.fr,HK.fresh j2.fr,fun k i hk hi=>?_⟩,j2.fr,ju.out,jp.out (by first|rfl|trivial)⟩
  ·rw[Q0b j2.c 0];rfl
  ·rw[Q0b j2.c 1];rfl
  ·rw[Q0b j2.c 2];rfl
  have:=(j2.rowD (k:=k) (i:=i) (by rw[j1.out];exact hk) (by have:=j0.out;omega)).1;rw[j0.out];exact this
 clear jp;have jq:=hid j2.cnt;rw[j1.out]at jq;go_wp2;go_loopw [9,10,11,12,13,14] (fun x9 x10 _ _ _ _ wr=>∃(mo:Bool) (p:Nat) (D:List Mat),x9=.bool mo/\x10=.int .i64 p/\p<=q.length/\DAt w wr w.heap.size b (.slice ka l.length kc) (.slice da h dc) n us D/\Swp R h q l S D0 D mo p 0)
   (fun _ x _ _ _ _ _=>1001-(intOf x).toNat)
 case atStart=>exact⟨false,0,D0,rfl,rfl,by omega,j2.out,⟨ju.out,qR _,(fun e=>by cases e),fun _=>⟨rfl,fun p' x i' _ _ ho=>by omega⟩⟩⟩
 obtain⟨mo,p,D,rfl,rfl,hp,hD,hW⟩:=hrel;have ke:=hid (Q15 (B:=1001) p (by omega));have ja:=hid hD;have j6:=hid hW;have k1:=(HN.fresh hD.fr).k1;clear hD hW;by_cases hlp:p<q.length
 ·have s2:(p:Int)<(q.length:Int):=by omega
  have hx:q[p]? = some q[p]:=qE hlp;obtain⟨x,hxe⟩:∃x,x=q[p]:=⟨_,rfl⟩;rw[← hxe]at hx;have HX:=hid hx;have kl:=hid hxe;clear hx hxe;go_wp2;go_loopw [9,11,12,13,14] (fun x9 x11 _ _ _ wr=>∃(mo:Bool) (i:Nat) (D:List Mat),x9=.bool mo/\x11=.int .i64 i/\i<=n/\DAt w wr w.heap.size b (.slice ka l.length kc) (.slice da h dc) n us D/\Swp R h q l S D0 D mo p i)
    (fun _ x _ _ _ _=>1001-(intOf x).toNat)
  case atStart=>exact⟨_,0,D,rfl,rfl,by omega,ja.out,j6.out⟩
  obtain⟨mo2,i,D1,rfl,rfl,hi,hD,hW⟩:=hrel;have kd:=hid (Q15 (B:=1001) i (by omega));have jr:=hid hD;have jb:=hid hW;by_cases hli:i<n
  ·have s3:(i:Int)<(n:Int):=by omega
   have jm:i<=l.length:=by have:=j0.out;omega
   have k0:=HN.fresh hD.fr;obtain⟨g3,o3,c3,g4,o4,n4,c4,al,cl,hPr⟩:=k0.pr hlp;rw[← kl.out]at hPr;have jg:=hid hPr;have q4:=hPr.q4;have y4:=hPr.y4;have s4:(p:Int)<(n4:Int):=by have:=hPr.n4;omega
   have jn:x∈q:=qAd HX.out;have kq:=HQ.hd x jn;have k5:=HQ.sy x jn;obtain⟨hx1,hhx⟩:∃a:Nat,x.1=a:=⟨x.1.toNat,by omega⟩;have j9:hx1<h:=by omega
   have je:x.1.toNat=hx1:=by omega
   have j5:D1.length=h:=by rw[← hD.len,j1.out]
   have k3:SpR wr w.heap.size b R h q ka kc l da dc D1:=⟨by rw[Q0b hD.c 0];rfl,by rw[Q0b hD.c 1];rfl,by rw[Q0b hD.c 2];rfl,HS.fresh hD.fr,HK.fresh hD.fr,fun k i hk hi=>by
    have:=(hD.rowD (k:=k) (i:=i) (by rw[j1.out];exact hk) (by have:=j0.out;omega)).1;rw[j0.out];exact this⟩
   have jc:=hid (RE.out wr hD.fr w.heap.size da dc D1 k3 _ x.2 hPr.l (by omega) k5.2 i jm);rw[j0.out]at jc;have jz:=jb.next HX.out jm (ki.out D1 p x i jb.s j5 HX.out jm) j5 (by rw[je];exact j9) (by
    obtain⟨_,h0,_⟩:=hD.rows hx1 _ (qE (by rw[j1.out];exact j9));rw[je,h0,j0.out]) (by
    obtain⟨_,_,_,_,_,_,_,_,h5⟩:=(hD.rowD (k:=hx1) (i:=i) (by rw[j1.out];exact j9) hli).1;rw[je,h5,j0.out])
   have j4:=hid jz;obtain⟨gd,u,g,hda,hu,e1,e2,e3,hB⟩:=(hD.rowD (k:=hx1) (i:=i) (by rw[j1.out];exact j9) hli).2;have k4:((D1.getD hx1 []).getD i []).length=n:=by
    obtain⟨_,_,_,_,_,_,_,_,h5⟩:=(hD.rowD (k:=hx1) (i:=i) (by rw[j1.out];exact j9) hli).1;exact h5
   subst hda;have HB:=hid hB;have jt:=hid k4;have jw:=hid hu;have ku:w.heap.size<wr.heap.size:=z0j hD.c;unfold addR at j4;rw[j0.out,je]at j4;have j7:=hid (js.out D1 x.2 i);generalize hSET:rcF (bs R) l D1 x.2 i=SET at jc j4 j7;generalize hROW:(D1.getD hx1 []).getD i []=ROW at HB jt j4;clear hD hW k0 hPr k3 jz hu hB k4 hSET hROW jb ja j6 kq k5 j5 jn;go_upto_region 18 with(first
    |(go_at_call 75;refine(jc.out).mono ?_;rintro e W⟨gS,rfl,hBS,hfS⟩;have jo:=hid hBS;have j3:=hid hfS;clear hBS hfS))
   have ji:=jr.fresh j3.out;have d2:W.cell? ⟨w.heap.size,2,none⟩=some (.slice (some ⟨gd,0,none⟩) h dc):=by rw[Q0b ji.c 2];rfl
   have jh:=jg.fresh j3.out;have p3:=jh.q3;have r3:=jh.y3;rw[hhx]at r3;have jx:=Q0i j3.out e1;have jy:=Q0i j3.out e2;have s5:(hx1:Int)<(h:Int):=by omega
   have UX:=hid (fun(W2:World) (hW2:Q0a W W2)=>UN.out W2 g gS ROW SET ((HB.fresh j3.out).fresh hW2) (jo.fresh hW2) jt.out j7.out);have jv:=hid (z2l ROW SET n n);generalize moI ROW SET n=gr at UX j4;generalize orI ROW SET n n=ou at UX j4 jv;clear q4 y4 e1 e2 e3 jh jc;go_cut [13,14] (fun s13 s14 wx=>∃g',s13=bsl g' n/\s14=.bool gr/\Q1y wx g' ou/\Q0a W wx)
   case first =>
    go_region_with (first
     |(go_at_call 70;refine(UX.out _ (by first|exact(mRf _ W).drew|exact mRf _ W)).mono ?_;rintro e w3⟨rfl,hf3,hB3⟩))
    all_goals
     go_wp2_with fail
     go_meet;exact⟨_,rfl,rfl,hB3,((mRf _ W).drew).trans hf3⟩
   obtain⟨g',rfl,rfl,hB3,hf3⟩:=hcut;have jd:=ji.fresh hf3;have jj:=(jg.fresh j3.out).fresh hf3;have x6:=jj.q3;have kx:=jj.y3;rw[hhx]at kx;have kz:wc.cell? ⟨w.heap.size,2,none⟩=some (.slice (some ⟨gd,0,none⟩) h dc):=by rw[Q0b jd.c 2];rfl
   have x0:=Q0i hf3 jx;have x1:=Q0i hf3 jy;have x2:wc.frozen? ⟨u.1,i,none⟩=false:=by
    obtain⟨_,_,cur,h1,_⟩:=jd.rows hx1 u jw.out;exact Q0g h1 i
   have k6:=hid ((jd.set jw.out hli hB3 jv.out).fresh ⟨rfl,rfl,rfl,qR _,fun _ _ _=>rfl⟩:DAt w ((wc.setCell ⟨u.1,i,none⟩ (bsl g' n)).drew) w.heap.size b (.slice ka l.length kc) (.slice (some ⟨gd,0,none⟩) h dc) n us (Q9s D1 hx1 i ou));clear ji d2 p3 r3 jx jy UX hB3 hf3 jd jj jg j3 jo HB;cases mo2;all_goals
    go_wp2_with fail
    go_region;all_goals
     go_wp2;go_roundw
     case rel=>exact⟨_,i+1,_,rfl,by go_num,by omega,k6.out,j4.out⟩
     exact kd.out
  have s3:¬(i:Int)<(n:Int):=by omega
  have kj:=hid (jb.row (by have:=j0.out;omega));clear hD hW;go_wp2;go_roundw
  case rel=>exact⟨_,p+1,D1,rfl,by go_num,by omega,jr.out,kj.out⟩
  exact ke.out
 have s2:¬(p:Int)<(q.length:Int):=by omega
 have k9:Hid (mo=false->CloD R q l D):=hid (fun e p' x i hx hi=>by
  obtain⟨rfl,h2⟩:=j6.no e;exact h2 p' x i hx hi (.inl (by have:=(qS hx).1;omega)))
 have jk:=ja.cnt;rw[j1.out]at jk;have jf:=hid jk;have ko:=v07 (H:=h) (n:=n) (D:=D);have kn:h*(n*(n*1))<=8*(61*(61*1)):=Nat.mul_le_mul kp (Nat.mul_le_mul j8 (Nat.mul_le_mul j8 (qR _)));have k8:Hid (Q87 h n D<=29768):=hid (by omega);clear jk ko kn;go_wp2;go_roundw
 case rel=>exact⟨mo,D,rfl,ja.out,j6.s,k9.out⟩
 rw[jf.out,jq.out];have h1:=j6.le;have h2:=j6.lt;have h3:=k8.out;rw[j0.out]at h1 h2;cases mo
 ·show 2*(40000-Q87 h n D)+0<2*(40000-Q87 h n D0)+1;omega
 have:=h2 rfl;show 2*(40000-Q87 h n D)+1<2*(40000-Q87 h n D0)+1;omega
end Go.Proofs.YtcpceafmlgaodaaGreat
