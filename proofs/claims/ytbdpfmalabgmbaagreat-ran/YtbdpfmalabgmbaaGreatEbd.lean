import Derived.Test.YtbdpfmalabgmbaaGreatEa5
import Derived.Laws.OwnMore
import Derived.Deep.CutBlock
namespace Go.Proofs.YtbdpfmalabgmbaaGreat
open Go.RowKit
set_option maxRecDepth 99999
set_option maxHeartbeats 0
set_option linter.all false
theorem infoBB:(Tryz.prog.info? 117).map (fun i=>(i.zero,i.size,i.bytes))=some (some (.slice none 0 0),1,24):=by kernel_rfl
theorem infoBB':∃i,Tryz.prog.info? 117=some i/\i.zero=some (.slice none 0 0)/\i.size=1/\i.bytes=24:=nfoE infoBB
def addR(R:Nat)(l:List Int)(D:List Mat)(x:Q1)(i:Nat):List Mat:=Q97 D x.1.toNat i (orI ((D.getD x.1.toNat []).getD i []) (rcF (bs R) l D x.2 i) (l.length+1) (l.length+1))
def CloD(R:Nat)(q:List Q1)(l:List Int)(D:List Mat):Prop:=∀(p:Nat) (x:Q1) (i:Nat),q[p]? = some x->i<=l.length->moI ((D.getD x.1.toNat []).getD i []) (rcF (bs R) l D x.2 i) (l.length+1)=false
def SpnRet(w:World)(b R H:Nat)(q:List Q1)(ka:Option Addr)(kc:Nat)(l:List Int)(S:List Mat->Prop)(e:Ending)(w':World):Prop :=
 ∃sb da dc D,e=.returned (.pointer (some ⟨sb,0,none⟩))/\SpR w' sb b R H q ka kc l da dc D/\Q0a w w'/\S D/\CloD R q l D
theorem v1b(base:Int)(l:List Int)(D:List Mat)(cs:List Int)(i:Nat):(rcF base l D cs i).length=l.length+1:=by
 unfold rcF;have:∀(cs:List Int) (s:List Bool),s.length=l.length+1->(rhF base l D (l.length+1) cs s).length=l.length+1:=by
  intro cs;induction cs with
  |nil=>intro s hs;exact hs
  |cons c cs ih=>intro s hs;exact ih _ (y3d base l D c s)
 exact this cs _ (by simp)
structure Swp(R H:Nat)(q:List Q1)(l:List Int)(S:List Mat->Prop)(D0 D:List Mat)(mo:Bool)(p i:Nat):Prop where
 s:S D
 le:Q9o H (l.length+1) D0<=Q9o H (l.length+1) D
 lt:mo=true->Q9o H (l.length+1) D0<Q9o H (l.length+1) D
 no:mo=false->D=D0/\∀(p':Nat) (x:Q1) (i':Nat),q[p']? = some x->i'<=l.length->(p'<p∨(p'=p/\i'<i))->moI ((D0.getD x.1.toNat []).getD i' []) (rcF (bs R) l D0 x.2 i') (l.length+1)=false
theorem Swp.next{R H:Nat}{q:List Q1}{l:List Int}{S:List Mat->Prop}{D0 D:List Mat}{mo:Bool}{p i:Nat}{x:Q1}(h:Swp R H q l S D0 D mo p i)(hx:q[p]? = some x)(hi:i<=l.length)(hS:S (addR R l D x i))(hD:D.length=H)(hh:x.1.toNat<H)(hr:(D.getD x.1.toNat []).length=l.length+1)(hrow:((D.getD x.1.toNat []).getD i []).length=l.length+1) :
  Swp R H q l S D0 (addR R l D x i) (mo||moI ((D.getD x.1.toNat []).getD i []) (rcF (bs R) l D x.2 i) (l.length+1)) p (i+1):=by
 have hc:=x91 (ys:=rcF (bs R) l D x.2 i) hD hh (show i<l.length+1 by omega) hr;refine⟨hS,qDa h.le hc.1,fun e=>?_,fun e=>?_⟩
 ·rw[qAt]at e;rcases e with e|e
  ·exact qDr (h.lt e) hc.1
  exact Nat.lt_of_le_of_lt h.le (hc.2 e)
 rw[qCb]at e;obtain⟨e1,e2⟩:=e;obtain⟨rfl,h2⟩:=h.no e1;refine⟨?_,fun p' x' i' hx' hi' ho=>?_⟩
 ·unfold addR;rw[x69 hrow e2];exact x4l (by omega) (by omega)
 rcases ho with ho|⟨rfl,ho⟩
 ·exact h2 p' x' i' hx' hi' (.inl ho)
 rw[hx]at hx';injection hx' with hx';subst hx';rcases qCk i' i with z|z
 ·exact h2 p' x i' hx hi' (.inr ⟨rfl,z⟩)
 obtain rfl:i'=i:=by omega
 exact e2
theorem Swp.row{R H:Nat}{q:List Q1}{l:List Int}{S:List Mat->Prop}{D0 D:List Mat}{mo:Bool}{p i:Nat}(h:Swp R H q l S D0 D mo p i)(hi:l.length+1<=i):Swp R H q l S D0 D mo (p+1) 0 :=
 ⟨h.s,h.le,h.lt,fun e=>⟨(h.no e).1,fun p' x i' hx hi' ho=>(h.no e).2 p' x i' hx hi' (by
  rcases ho with ho|ho
  ·rcases qCk p' p with z|z
   ·exact .inl z
   exact .inr ⟨by omega,by omega⟩
  omega)⟩⟩
theorem x5b(w:World)(b R H:Nat)(q:List Q1)(ka:Option Addr)(kc:Nat)(l:List Int)(S:List Mat->Prop)(hS:Q3q w b R H q)(hQ:QOk R H q)(hk:Q1c w (.slice ka l.length kc) l)(hl:l.length<=60) (hS0:S (List.replicate H (sqF (l.length+1)))) (hSs:∀(D:List Mat) (p:Nat) (x:Q1) (i:Nat),S D->D.length=H->q[p]? = some x->i<=l.length->S (addR R l D x i)) :
  Calls Tryz.prog 53 #[.pointer (some ⟨b,0,none⟩),.slice ka l.length kc] w fun e w'=>SpnRet w b R H q ka kc l S e w':=by
 obtain⟨i0,xc,xj,xk,xl⟩:=infoBB';have xy:=hQ.r8;have xa:=hQ.h8;have xe:=hQ.p20;have xv:0<H:=by
  have h1:=hQ.pos;have h2:=hQ.hd q[0] (qG h1);omega
 have HS:=hid hS;have HQ:=hid hQ;have HK:=hid hk;have kz:=hid hS0;have x0:=hid hSs;obtain⟨a0,c0,a1,c1,a2,c2,v3,v4,sv,hN⟩:=hS;have HN:=hid hN;have SQ:=hid (fun W=>z7h W (l.length+1) (by omega));have UN:=hid (fun(W:World) (ga gb:Nat) (xs ys:List Bool) (h1:Q1x W ga xs) (h2:Q1x W gb ys) (h3:xs.length=l.length+1) (h4:ys.length=l.length+1)=>z23 W ga gb (l.length+1) xs ys h1 h2 h3 h4 (by omega));have k5:=hid (fun D cs i=>v1b (bs R) l D cs i);have RE:=hid (fun(W:World) (hW:Q0a w W) (sb:Nat) (da:Option Addr) (dc:Nat) (D:List Mat) (h:SpR W sb b R H q ka kc l da dc D) (v:Value) (cs:List Int) (hv:Q1c W v cs) (h1:cs.length<=1000) (h2:∀c∈cs,0<=c/\c<(R:Int)+1+H) (i:Nat) (h3:i<=l.length)=>z95 W sb b R H q ka kc l da dc D h HQ.out hl v cs hv h1 h2 i h3);have xp:IntKind.i64.wrap ((l.length:Int)+1)=((l.length+1:Nat):Int):=by rw[qBv];omega
 generalize hn:l.length+1=n at SQ UN k5 xp;have j0:=hid hn;have je:n<=61:=by omega
 have xd:0<n:=by omega
 clear hQ hk hS0 hSs hN hn;go_enter Tryz.func53,Tryz.ntmps53
 go_wp2;go_loopw [7,8] (fun x7 _ wr=>∃(h:Nat) (dv:Value) (us:List (Nat × Nat)),x7=.int .i64 h/\h<=H/\us.length=h/\DAt w wr w.heap.size b (.slice ka l.length kc) dv n us (List.replicate h (sqF n)))
   (fun x _ _=>1001-(intOf x).toNat)
 case atStart=>exact⟨0,.slice none 0 0,[],rfl,by omega,rfl,(mRf _ w).alloc _,z0a _ _,qR _,qAh _ _ _ _,rfl,fun k u hu=>by simp at hu,fun j k u v hu=>by simp at hu⟩
 obtain⟨h,dv,us,rfl,hh,kq,hD⟩:=hrel;have kv:=hid (Q19 (B:=1001) h (by omega));have HD:=hid hD;have k2:=(HN.fresh hD.fr).k2;have xf:w.heap.size<wr.heap.size:=z0j hD.c;have j1:=hid kq;have xh:us.length<=8:=by omega
 clear hD kq;by_cases xx:h<H
 ·have s1:(h:Int)<(H:Int):=by omega
  obtain⟨da,dc,jl⟩:=z0c HD.own;subst jl;have PU:Hid (∀(W:World) (u cap:Nat) (o:Obj) (v':Value) (w2:World),Q0a wr W->wr.heap.size<=u->W0l W n u (sqF n)->w2.ownsRow w.heap.size 117 1 v' (us.length+1) ((us.map fun u=>.slice (some ⟨u.1,0,none⟩) n u.2)++[.slice (some ⟨u,0,none⟩) n cap])->(W.alloc o).grownBy w2 (Value.ownBlock (.slice da us.length dc))->(∀k,v'.ownBlock=some k->Value.ownBlock (.slice da us.length dc)=some k∨(W.alloc o).heap.size<=k) ->
    DAt w (w2.setCell ⟨w.heap.size,2,none⟩ v') w.heap.size b (.slice ka l.length kc) v' n (us++[(u,cap)]) (List.replicate (h+1) (sqF n))/\w2.heap[w.heap.size]? = some (.cells #[.pointer (some ⟨b,0,none⟩),.slice ka l.length kc,.slice da us.length dc] 185 (0,0))):=hid (fun W u cap o v' w2 hW hu hR h1 h2 h3=>by
   have jv:Q0a wr (W.alloc o):=hW.alloc _;constructor
   ·rw[List.replicate_succ'];exact HD.push jv hu (hR.fresh ((mRf _ W).alloc _)) h1 h2 h3
   have hc:=jv.at HD.c id;rw[h2.block _ (z0j hc) (fun e=>by
    obtain⟨x4,hz⟩:=z2z (HD.fresh jv).own e.symm;exact x1e hc hz (by decide) rfl)]
   exact hc)
  have x3:Hid (∀(W:World) (o:Obj),Q0a wr W->(W.alloc o).ownsRow w.heap.size 117 1 (.slice da us.length dc) us.length (us.map fun u=>.slice (some ⟨u.1,0,none⟩) n u.2)):=hid (fun W o hW=>(z0d HD.own (fun g hg=>hW.block g (HD.own.lt g hg).2 id)).alloc o);have ks:Hid (∀W,Q0a wr W->W.cell? ⟨w.heap.size,2,none⟩=some (.slice da us.length dc)):=hid (fun W hW=>by rw[Q0b (hW.at HD.c id) 2];rfl);go_upto_region 7 with(first
   |(go_at_call 85;refine(SQ.out _).mono ?_;rintro e W⟨v,gs,rfl,hm,hf⟩;obtain⟨u,cap,rfl,hu,hR⟩:=hm.rowB (y12 n) xd;have HR:=hid hR;have HU:=hid hu;have HF:=hid hf;have xw:=hf.size;have kk:=ks.out W hf;clear hm hf hR hu))
  go_wp2_with (first
   |(at_builtin;refine z0f _ rfl _ _ 183 rfl w.heap.size 117 i0 _ 1 24 Tryz.underlying183 xc xj xk xl rfl (by decide) (.slice da us.length dc) us.length _ rfl (x3.out _ _ HF.out) ⟨W.heap.size,0,none⟩ 1 1 [.slice (some ⟨u,0,none⟩) n cap] rfl rfl (z0m rfl) (by intro u hu;simp at hu;subst hu;rfl) (by unfold maxLen;omega) (by omega) (by simp;omega) ?_;intro v9 w4 j2 j5 jd;obtain⟨kn,jt⟩:=PU.out _ u cap _ _ _ HF.out HU.out HR.out j2 j5 jd;have ky:=hid kn;have xm:=Q0b jt 2;have kf:=Q0f jt 2;simp at xm;obtain⟨a9,c9,xi⟩:=z0c j2;clear j2 j5 jd kn jt;subst xi))
  go_roundw
  case rel=>exact⟨h+1,_,_,by go_num,by omega,by simp[j1.out],ky.out⟩
  exact kv.out
 have s1:¬(h:Int)<(H:Int):=by omega
 obtain rfl:h=H:=by omega
 obtain⟨da,dc,jl⟩:=z0c HD.own;rw[j1.out]at jl;subst jl;clear SQ xf;go_wp2;go_loopw [9,10,11,12,13,14] (fun x9 _ _ _ _ _ wr=>∃(mo:Bool) (D:List Mat),x9=.bool mo/\DAt w wr w.heap.size b (.slice ka l.length kc) (.slice da h dc) n us D/\S D/\(mo=false->CloD R q l D))
   (fun x9 _ _ _ _ _ wr=>2*(40000-cntW (us.map Prod.fst) n wr)+Q8d x9)
 case atStart=>exact⟨true,_,rfl,HD.out,by have:=kz.out;rw[j0.out]at this;exact this,fun e=>by cases e⟩
 obtain⟨mo,D0,rfl,hD,hS,hc⟩:=hrel;have j4:=hid hD;have k7:=hid hS;have k0:=hid hc;clear hD hS hc HD;cases mo
 ·go_wp2;go_ret;refine⟨w.heap.size,da,dc,D0,rfl,⟨?_,?_,?_,HS.fresh j4.fr,HK.fresh j4.fr,fun k i hk hi=>?_⟩,j4.fr,k7.out,k0.out (by first|rfl|trivial)⟩
  ·rw[Q0b j4.c 0];rfl
  ·rw[Q0b j4.c 1];rfl
  ·rw[Q0b j4.c 2];rfl
  have:=(j4.rowD (k:=k) (i:=i) (by rw[j1.out];exact hk) (by have:=j0.out;omega)).1;rw[j0.out];exact this
 clear k0;have k3:=hid j4.cnt;rw[j1.out]at k3;go_wp2;go_loopw [9,10,11,12,13,14] (fun x9 x10 _ _ _ _ wr=>∃(mo:Bool) (p:Nat) (D:List Mat),x9=.bool mo/\x10=.int .i64 p/\p<=q.length/\DAt w wr w.heap.size b (.slice ka l.length kc) (.slice da h dc) n us D/\Swp R h q l S D0 D mo p 0)
   (fun _ x _ _ _ _ _=>1001-(intOf x).toNat)
 case atStart=>exact⟨false,0,D0,rfl,rfl,by omega,j4.out,⟨k7.out,qR _,(fun e=>by cases e),fun _=>⟨rfl,fun p' x i' _ _ ho=>by omega⟩⟩⟩
 obtain⟨mo,p,D,rfl,rfl,hp,hD,hW⟩:=hrel;have kx:=hid (Q19 (B:=1001) p (by omega));have jg:=hid hD;have jb:=hid hW;have k1:=(HN.fresh hD.fr).k1;clear hD hW;by_cases km:p<q.length
 ·have s2:(p:Int)<(q.length:Int):=by omega
  have hx:q[p]? = some q[p]:=qE km;obtain⟨x,jx⟩:∃x,x=q[p]:=⟨_,rfl⟩;rw[← jx]at hx;have HX:=hid hx;have x2:=hid jx;clear hx jx;go_wp2;go_loopw [9,11,12,13,14] (fun x9 x11 _ _ _ wr=>∃(mo:Bool) (i:Nat) (D:List Mat),x9=.bool mo/\x11=.int .i64 i/\i<=n/\DAt w wr w.heap.size b (.slice ka l.length kc) (.slice da h dc) n us D/\Swp R h q l S D0 D mo p i)
    (fun _ x _ _ _ _=>1001-(intOf x).toNat)
  case atStart=>exact⟨_,0,D,rfl,rfl,by omega,jg.out,jb.out⟩
  obtain⟨xn,i,D1,rfl,rfl,hi,hD,hW⟩:=hrel;have kw:=hid (Q19 (B:=1001) i (by omega));have k4:=hid hD;have jh:=hid hW;by_cases jm:i<n
  ·have s3:(i:Int)<(n:Int):=by omega
   have jw:i<=l.length:=by have:=j0.out;omega
   have kh:=HN.fresh hD.fr;obtain⟨g3,o3,c3,g4,o4,n4,c4,al,cl,j8⟩:=kh.pr km;rw[← x2.out]at j8;have jp:=hid j8;have q4:=j8.q4;have y4:=j8.y4;have s4:(p:Int)<(n4:Int):=by have:=j8.n4;omega
   have jy:x∈q:=qAi HX.out;have xb:=HQ.hd x jy;have kp:=HQ.sy x jy;obtain⟨j3,kl⟩:∃a:Nat,x.1=a:=⟨x.1.toNat,by omega⟩;have jf:j3<h:=by omega
   have jn:x.1.toNat=j3:=by omega
   have ja:D1.length=h:=by rw[← hD.len,j1.out]
   have ki:SpR wr w.heap.size b R h q ka kc l da dc D1:=⟨by rw[Q0b hD.c 0];rfl,by rw[Q0b hD.c 1];rfl,by rw[Q0b hD.c 2];rfl,HS.fresh hD.fr,HK.fresh hD.fr,fun k i hk hi=>by
    have:=(hD.rowD (k:=k) (i:=i) (by rw[j1.out];exact hk) (by have:=j0.out;omega)).1;rw[j0.out];exact this⟩
   have ji:=hid (RE.out wr hD.fr w.heap.size da dc D1 ki _ x.2 j8.l (by omega) kp.2 i jw);rw[j0.out]at ji;have kg:=jh.next HX.out jw (x0.out D1 p x i jh.s ja HX.out jw) ja (by rw[jn];exact jf) (by
    obtain⟨_,h0,_⟩:=hD.rows j3 _ (qE (by rw[j1.out];exact jf));rw[jn,h0,j0.out]) (by
    obtain⟨_,_,_,_,_,_,_,_,h5⟩:=(hD.rowD (k:=j3) (i:=i) (by rw[j1.out];exact jf) jm).1;rw[jn,h5,j0.out])
   have j7:=hid kg;obtain⟨gd,u,g,x8,hu,e1,e2,e3,hB⟩:=(hD.rowD (k:=j3) (i:=i) (by rw[j1.out];exact jf) jm).2;have ko:((D1.getD j3 []).getD i []).length=n:=by
    obtain⟨_,_,_,_,_,_,_,_,h5⟩:=(hD.rowD (k:=j3) (i:=i) (by rw[j1.out];exact jf) jm).1;exact h5
   subst x8;have HB:=hid hB;have k6:=hid ko;have k9:=hid hu;have xg:w.heap.size<wr.heap.size:=z0j hD.c;unfold addR at j7;rw[j0.out,jn]at j7;have jc:=hid (k5.out D1 x.2 i);generalize hSET:rcF (bs R) l D1 x.2 i=SET at ji j7 jc;generalize hROW:(D1.getD j3 []).getD i []=ROW at HB k6 j7;clear hD hW kh j8 ki kg hu hB ko hSET hROW jh jg jb xb kp ja jy;go_upto_region 18 with(first
    |(go_at_call 86;refine(ji.out).mono ?_;rintro e W⟨gS,rfl,ke,kj⟩;have jz:=hid ke;have j6:=hid kj;clear ke kj))
   have jr:=k4.fresh j6.out;have d2:W.cell? ⟨w.heap.size,2,none⟩=some (.slice (some ⟨gd,0,none⟩) h dc):=by rw[Q0b jr.c 2];rfl
   have jq:=jp.fresh j6.out;have p3:=jq.q3;have r3:=jq.y3;rw[kl]at r3;have kb:=Q0h j6.out e1;have kd:=Q0h j6.out e2;have s5:(j3:Int)<(h:Int):=by omega
   have UX:=hid (fun(W2:World) (hW2:Q0a W W2)=>UN.out W2 g gS ROW SET ((HB.fresh j6.out).fresh hW2) (jz.fresh hW2) k6.out jc.out);have k8:=hid (z2s ROW SET n n);generalize moI ROW SET n=gr at UX j7;generalize orI ROW SET n n=ou at UX j7 k8;clear q4 y4 e1 e2 e3 jq ji;go_cut [13,14] (fun s13 s14 wx=>∃g',s13=bsl g' n/\s14=.bool gr/\Q1x wx g' ou/\Q0a W wx)
   case first =>
    go_region_with (first
     |(go_at_call 80;refine(UX.out _ (by first|exact(mRf _ W).drew|exact mRf _ W)).mono ?_;rintro e w3⟨rfl,j9,jj⟩))
    all_goals
     go_wp2_with fail
     go_meet;exact⟨_,rfl,rfl,jj,((mRf _ W).drew).trans j9⟩
   obtain⟨g',rfl,rfl,jj,j9⟩:=hcut;have jk:=jr.fresh j9;have js:=(jp.fresh j6.out).fresh j9;have xz:=js.q3;have xo:=js.y3;rw[kl]at xo;have xq:wc.cell? ⟨w.heap.size,2,none⟩=some (.slice (some ⟨gd,0,none⟩) h dc):=by rw[Q0b jk.c 2];rfl
   have xr:=Q0h j9 kb;have xt:=Q0h j9 kd;have xu:wc.frozen? ⟨u.1,i,none⟩=false:=by
    obtain⟨_,_,x4,h1,_⟩:=jk.rows j3 u k9.out;exact Q0f h1 i
   have kr:=hid ((jk.set k9.out jm jj k8.out).fresh ⟨rfl,rfl,rfl,qR _,fun _ _ _=>rfl⟩:DAt w ((wc.setCell ⟨u.1,i,none⟩ (bsl g' n)).drew) w.heap.size b (.slice ka l.length kc) (.slice (some ⟨gd,0,none⟩) h dc) n us (Q97 D1 j3 i ou));clear jr d2 p3 r3 kb kd UX jj j9 jk js jp j6 jz HB;cases xn;all_goals
    go_wp2_with fail
    go_region;all_goals
     go_wp2;go_roundw
     case rel=>exact⟨_,i+1,_,rfl,by go_num,by omega,kr.out,j7.out⟩
     exact kw.out
  have s3:¬(i:Int)<(n:Int):=by omega
  have x1:=hid (jh.row (by have:=j0.out;omega));clear hD hW;go_wp2;go_roundw
  case rel=>exact⟨_,p+1,D1,rfl,by go_num,by omega,k4.out,x1.out⟩
  exact kx.out
 have s2:¬(p:Int)<(q.length:Int):=by omega
 have ku:Hid (mo=false->CloD R q l D):=hid (fun e p' x i hx hi=>by
  obtain⟨rfl,h2⟩:=jb.no e;exact h2 p' x i hx hi (.inl (by have:=(qS hx).1;omega)))
 have ju:=jg.cnt;rw[j1.out]at ju;have jo:=hid ju;have x6:=v11 (H:=h) (n:=n) (D:=D);have x5:h*(n*(n*1))<=8*(61*(61*1)):=Nat.mul_le_mul xa (Nat.mul_le_mul je (Nat.mul_le_mul je (qR _)));have kt:Hid (Q9o h n D<=29768):=hid (by omega);clear ju x6 x5;go_wp2;go_roundw
 case rel=>exact⟨mo,D,rfl,jg.out,jb.s,ku.out⟩
 rw[jo.out,k3.out];have h1:=jb.le;have h2:=jb.lt;have h3:=kt.out;rw[j0.out]at h1 h2;cases mo
 ·show 2*(40000-Q9o h n D)+0<2*(40000-Q9o h n D0)+1;omega
 have:=h2 rfl;show 2*(40000-Q9o h n D)+1<2*(40000-Q9o h n D0)+1;omega
theorem x1w{P:Program}(w:World)(base:Nat)(t ty e:TypeId)(i:TypeInfo)(z:Value)(size bytes:Nat)(ht:P.underlying t=some (.slice e))(hi:P.info? e=some i)(hz:i.zero=some z)(hsize:i.size=size)(hby:i.bytes=bytes)(hzs:z.cells.size=size)(hsz:0<size)
  (v:Value) (n:Nat) (xs:List Value) (hown:w.ownsRow base e size v n xs) (u:Value) (m:Nat) (news:List Value) (hu:w.ownsRow 0 e size u m news) (h1:∀u∈news,u.oneCell'=true)
  (h63:n+m<=maxLen) (hbytes:(n+m)*bytes<=140737488355328) (hbase:base<=w.heap.size) :
  ∃v' w',(apS #[t,t] ty #[v,u]).run P w=.ok v' w'/\w'.ownsRow base e size v' (n+m) (xs++news)/\w.grownBy w' v.ownBlock/\(∀k,v'.ownBlock=some k->v.ownBlock=some k∨w.heap.size<=k):=by
 obtain⟨hl,h2⟩:=id hu;rcases h2 with⟨rfl,rfl⟩|⟨g,cap,j0,rfl,_⟩
 ·have hx:news=[]:=qCm (by simpa using hl);subst hx;exact⟨v,w,run_append_owned_none (P:=P) (w:=w) base t ty e i size ht hi v n xs hown,by simpa using hown,⟨rfl,rfl,rfl,qR _,fun _ _ _=>rfl⟩,fun k hk=>.inl hk⟩
 exact z24 (P:=P) w base t ty e i z size bytes ht hi hz hsize hby hzs hsz v n xs hown ⟨g,0,none⟩ m cap news hl (hu.cells (g:=g) rfl) h1 h63 hbytes hbase
theorem x3z(l:List Nd):∀u∈Q0y Nd.cells l,u.oneCell'=true:=by
 intro u hu;unfold Q0y at hu;rw[List.mem_flatMap]at hu;obtain⟨x,_,hx⟩:=hu;simp only[Nd.cells,qBu,qEi,or_false]at hx;rcases hx with rfl|rfl|rfl|rfl<;>rfl
def toC(rb:List Int->Nat->Nat->Bool)(c:Int)(cs:List Int)(i j:Nat):Nat:=toL (fun t=>rb [c] i t&&rb cs t j) (j-i) i
def Q9u(base:Int)(rb:List Int->Nat->Nat->Bool)(T:Int->Nat->Nat->List Nd):List Int->Nat->Nat->List Nd
 | [],_,_=>[]
 |c::cs,i,j=>(if c<base then [⟨-1,c,i,1⟩] else T (c-base) i (toC rb c cs i j))++Q9u base rb T cs (toC rb c cs i j) j
def Q9b(q:List Q1)(rb:List Int->Nat->Nat->Bool)(h:Int)(i j:Nat):Nat:=q.findIdx fun x=>x.1==h&&rb x.2 i j
def Q5n(base:Int)(q:List Q1)(rb:List Int->Nat->Nat->Bool):Nat->Int->Nat->Nat->List Nd
 |0,_,_,_=>[]
 |f+1,h,i,j=>match q[Q9b q rb h i j]? with
  |some x=>⟨(Q9b q rb h i j:Int),-1,i,((Q9u base rb (Q5n base q rb f) x.2 i j).length:Int)+1⟩::Q9u base rb (Q5n base q rb f) x.2 i j
  |none=>[]
theorem x9g(g:Nat->Bool):∀f t,t<=toL g f t/\toL g f t<=t+f
 |0,t=>by unfold toL;omega
 |f+1,t=>by
  unfold toL;split
  ·omega
  have:=x9g g f (t+1);omega
def NdRet(w:World)(L:List Nd)(e:Ending)(w':World):Prop:=∃v,e=.returned v/\Q2x w' w.heap.size v L/\Q0a w w'
theorem v3d(g:Nat->Bool)(j t:Nat)(h:t<j):toL g (j-t) t=if g t=true then t else toL g (j-(t+1)) (t+1):=by
 rw[show j-t=(j-(t+1))+1 by omega];rfl
section
variable (w0:World) (sb b R H:Nat) (q:List Q1) (ka:Option Addr) (kc:Nat) (l:List Int) (da:Option Addr) (dc:Nat) (D:List Mat)
def rcB(R:Nat)(l:List Int)(D:List Mat)(cs:List Int)(i j:Nat):Bool:=(rcF (bs R) l D cs i).getD j false
def Q9a(f:Nat):Prop:=∀(w:World) (h:Int) (i j:Nat),SpR w sb b R H q ka kc l da dc D->i<=j->j<=l.length->(Q5n (bs R) q (rcB R l D) f h i j).length<=1000000000000 ->
 Calls Tryz.prog 54 #[.pointer (some ⟨sb,0,none⟩),.int .i64 h,.int .i64 i,.int .i64 j,.int .i64 f] w fun e w'=>NdRet w (Q5n (bs R) q (rcB R l D) f h i j) e w'
end
attribute [local go_sem ↓] z17
theorem v1f(w:World)(sb b R H:Nat)(q:List Q1)(ka:Option Addr)(kc:Nat)(l:List Int)(da:Option Addr)(dc:Nat)(D:List Mat)(f:Nat)(hf:f<=2000)(hT:Q9a sb b R H q ka kc l da dc D f)(hS:SpR w sb b R H q ka kc l da dc D)(hQ:QOk R H q)(hl:l.length<=60)
  (v:Value) (cs:List Int) (hv:Q1c w v cs) (hcl:cs.length<=6) (hcs:∀c∈cs,0<=c/\c<(R:Int)+1+H) (i j:Nat) (hij:i<=j) (hj:j<=l.length) (hB:(Q9u (bs R) (rcB R l D) (Q5n (bs R) q (rcB R l D) f) cs i j).length<=1000000000000) :
  Calls Tryz.prog 87 #[.pointer (some ⟨sb,0,none⟩),v,.int .i64 i,.int .i64 j,.int .i64 f] w fun e w'=>NdRet w (Q9u (bs R) (rcB R l D) (Q5n (bs R) q (rcB R l D) f) cs i j) e w':=by
 obtain⟨i0,kp,kr,ks,kt⟩:=Q9s;have xf:=hQ.r8;have xc:=hQ.h8;have HV:=hid hv;obtain⟨ao,cap,rfl,kw,j9⟩:=hv;obtain⟨a0,c0,a1,c1,a2,c2,v3,v4,sv,hN⟩:=hS.s;have k8:=hid hN.k0;have HS:=hid hS;have HC:=hid j9;have k7:=hid hcs;have RE:=hid (fun(W:World) (hW:Q0a w W) (v:Value) (cs:List Int) (hv:Q1c W v cs) (h1:cs.length<=1000) (h2:∀c∈cs,0<=c/\c<(R:Int)+1+H) (i:Nat) (h3:i<=l.length)=>z95 W sb b R H q ka kc l da dc D (hS.fresh hW) hQ hl v cs hv h1 h2 i h3);have ju:Hid (∀cs i,(rcF (bs R) l D cs i).length=l.length+1):=hid (fun cs i=>by
  unfold rcF;have:∀(cs:List Int) (s:List Bool),s.length=l.length+1->(rhF (bs R) l D (l.length+1) cs s).length=l.length+1:=by
   intro cs;induction cs with
   |nil=>intro s hs;exact hs
   |cons c cs ih=>intro s hs;exact ih _ (y3d (bs R) l D c s)
  exact this cs _ (by simp))
 have HT:=hid hT;generalize hVV:Q9u (bs R) (rcB R l D) (Q5n (bs R) q (rcB R l D) f) cs i j=V at hB;have ke:=hid hVV;generalize hn:l.length+1=n at RE ju;have x9:=hid hn;have xd:(j:Int)<(n:Int):=by omega
 have x0:n<=61:=by omega
 clear hS hQ j9 hcs hN hT hVV hn;go_enter Tryz.func87,Tryz.ntmps87
 go_wp2;go_loopw [2,11,12,13,14,15,16] (fun x2 x11 x12 _ _ _ _ wr=>∃(k i':Nat) (N:List Nd),x12=.int .i64 k/\x2=.int .i64 i'/\i'<=j/\k<=cs.length/\Q2x wr w.heap.size x11 N/\Q0a w wr/\N++Q9u (bs R) (rcB R l D) (Q5n (bs R) q (rcB R l D) f) (cs.drop k) i' j=V)
   (fun _ _ x _ _ _ _ _=>1001-(intOf x).toNat)
 case atStart=>exact⟨0,i,[],rfl,rfl,hij,by omega,qAh _ _ _ _,mRf _ _,ke.out⟩
 obtain⟨k,i',N,rfl,rfl,kz,hk,j3,ky,j0⟩:=hrel;have k9:=hid (Q19 (B:=1001) k (by omega));have HO:=hid j3;have HF:=hid ky;unfold Q2x at j3;obtain⟨na,nc,x1⟩:=z0c j3;subst x1;have xa:N.length<=1000000000000:=by rw[← j0,qP]at hB;omega
 clear j3 ke;by_cases ji:k<cs.length
 ·have s1:(k:Int)<(cs.length:Int):=by omega
  rw[qC ji,Q9u]at j0;obtain⟨g,o,rfl,y1⟩:=HC.out k ji;have jz:=k7.out cs[k] (qG ji);have je:Q1c w (.slice (some ⟨g,o+k,none⟩) 1 (cap-k)) [cs[k]]:=by
   have h1:=Q1c.drop HV.out k (by omega);have h2:=Q1c.take h1 (by rw[qCt]) (j:=1) (by rw[qCt];omega);rw[qC ji]at h2;exact h2
  have jc:Hid (cap=k+1->∀(ao:Option Addr) (n c:Nat),n=0->Q1c w (.slice ao n c) (cs.drop (k+1))):=hid (fun h ao n c hn=>Q1c.none (qAp (by omega)) hn);have jd:Hid (Q1c w (.slice (some ⟨g,o+(k+1),none⟩) (cs.length-(k+1)) (cap-(k+1))) (cs.drop (k+1))):=hid (Q1c.drop HV.out (k+1) (by omega));have jx:∀c∈cs.drop (k+1),0<=c/\c<(R:Int)+1+H:=fun c hc=>k7.out c (List.mem_of_mem_drop hc);have jy:(cs.drop (k+1)).length<=1000:=by rw[qCt];omega
  generalize hcsd:cs.drop (k+1)=cs' at j0 jc jd jx jy;generalize cs[k]=c at j0 y1 jz je;have jj:=hid je;have R1:=hid (fun(W:World) (hW:Q0a w W)=>RE.out W hW _ [c] (jj.fresh hW) (by simp) (fun x hx=>by rw[qM]at hx;subst hx;exact jz) i' (by omega));have R2:=hid (fun(W:World) (hW:Q0a w W) (v:Value) (hv:Q1c w v cs') (t:Nat) (ht:t<=l.length)=>RE.out W hW v cs' (hv.fresh hW) jy jx t ht);have s3:(k:Int)+1<=(cs.length:Int):=by omega
  have s4:(k:Int)+1<=(cap:Int):=by omega
  have s5:(k:Int)<=(k:Int)+1:=by omega
  have s6:(k:Int)<=(cap:Int):=by omega
  generalize hto:toC (rcB R l D) c cs' i' j=tz at j0;have j6:=hto;unfold toC at j6;have k2:=x9g (fun t=>rcB R l D [c] i' t&&rcB R l D cs' t j) (j-i') i';rw[j6]at k2;have kd:=hid j6;have j4:=hid j0;have k6:=hid hcsd;have xe:=jz;have ku:=hid y1;have jn:tz<=j:=by omega
  have x5:=k2.1;clear hto j6 j0 je hcsd jx jy k2 y1;go_upto_block 2 with fail
  go_cut [13,14,15] (fun s13 _ _ wx=>s13=.int .i64 tz/\Q0a wr wx)
  case first =>
   go_wp2_with fail
   go_loopw [13,14,15] (fun x13 _ _ wz=>∃t:Nat,x13=.int .i64 t/\i'<=t/\t<=j/\Q0a wr wz/\toL (fun t=>rcB R l D [c] i' t&&rcB R l D cs' t j) (j-t) t=tz)
     (fun x _ _ _=>1001-(intOf x).toNat)
   case atStart=>exact⟨i',rfl,qR _,kz,mRf _ _,kd.out⟩
   obtain⟨t,rfl,xh,xi,ko,jg⟩:=hrel;have kb:=hid (Q19 (B:=1001) t (by omega));have js:=hid ko;by_cases jn:t<j
   ·have s7:(t:Int)<(j:Int):=by omega
    have s8:(t:Int)<(n:Int):=by omega
    rw[v3d _ _ _ jn]at jg;have RA:Hid (∀(a:Option Addr) (nn cc:Nat),a=some ⟨g,o+k,none⟩->nn=1->cc=cap-k->Calls Tryz.prog 86 #[.pointer (some ⟨sb,0,none⟩),.slice a nn cc,.int .i64 i'] wr fun e w'=>BRet wr n (rcF (bs R) l D [c] i') e w'):=hid (fun a nn cc h1 h2 h3=>by
     subst h1 h2 h3;exact R1.out _ (HF.trans ko))
    have e1:rcB R l D [c] i' t=(rcF (bs R) l D [c] i').getD t false:=rfl;have e2:rcB R l D cs' t j=(rcF (bs R) l D cs' t).getD j false:=rfl;rw[e1,e2]at jg;have L1:=hid (ju.out [c] i');have L2:=hid (ju.out cs' t);have j5:=hid jg;have RB:Hid (∀(W:World),Q0a w W->∀(ao:Option Addr) (nn cc:Nat),nn=cs.length-(k+1)->((nn=0/\cap=k+1)∨(ao=some ⟨g,o+(k+1),none⟩/\cc=cap-(k+1)))->Calls Tryz.prog 86 #[.pointer (some ⟨sb,0,none⟩),.slice ao nn cc,.int .i64 t] W fun e w'=>BRet W n (rcF (bs R) l D cs' t) e w'):=hid (fun W hW ao nn cc hnn ho=>by
     have:=R2.out W hW (.slice ao nn cc) (by
      rcases ho with⟨z1,z2⟩|⟨z1,z2⟩
      ·exact jc.out z2 _ _ _ z1
      subst z1 z2 hnn;exact jd.out) t (by omega)
     exact this)
    clear jg e1 e2;generalize rcF (bs R) l D [c] i'=S1 at RA L1 j5;generalize rcF (bs R) l D cs' t=S2 at RB L2 j5;rcases(show cap=k+1∨¬cap=k+1 by omega)with hc1|hc1;all_goals
     have kl:cap=k+1->cs.length=k+1:=fun _=>by omega
     have x8:=hid kl;clear kl;try subst hc1
     go_upto_region 8 with(first
      |(go_at_call 86;refine(RA.out _ _ _ (by rfl) (by omega) (by omega)).mono ?_;rintro e W1⟨g1,rfl,kg,km⟩;have k4:=hid kg;have jo:=hid km;clear kg km))
     go_upto_region 9 with(first
      |(go_at_call 86;refine(RB.out _ ((HF.trans js.out).trans jo.out) _ _ _ (by first|rfl|omega) (by first|exact .inr ⟨rfl,rfl⟩|exact .inl ⟨by omega,by first|rfl|trivial⟩|(left;omega))).mono ?_;rintro e W2⟨g2,rfl,kh,kn⟩;have k5:=hid kh;have jp:=hid kn;clear kh kn))
     have c1:=(k4.fresh jp.out).cell (j:=t) (by rw[L1.out];omega);have c2:=k5.cell (j:=j) (by rw[L2.out];omega);have jr:=hid ((js.trans jo.out).trans jp.out);clear k4 k5 jo jp RA RB;generalize S1.getD t false=b1 at c1 j5;generalize S2.getD j false=b2 at c2 j5;cases b1
     ·have j8:=hid j5.out;rw[qDh,qAa (by simp)]at j8;go_wp2_with fail
      go_roundw
      case rel=>exact⟨t+1,by go_num,by omega,by omega,jr.out,j8.out⟩
      exact kb.out
     cases b2
     ·have j8:=hid j5.out;rw[Bool.and_false,qAa (by simp)]at j8;go_wp2_with fail
      go_roundw
      case rel=>exact⟨t+1,by go_num,by omega,by omega,jr.out,j8.out⟩
      exact kb.out
     have j8:=hid j5.out;rw[Bool.and_true,qAb rfl]at j8;go_wp2_with fail
     go_meet;exact⟨by rw[j8.out],jr.out⟩
   have s7:¬(t:Int)<(j:Int):=by omega
   have hz:j-t=0:=by omega
   rw[hz]at jg;have j5:=hid jg;clear jg hz;go_wp2_with fail
   go_meet;exact⟨by have:=j5.out;unfold toL at this;rw[this],js.out⟩
  obtain⟨rfl,jk⟩:=hcut;have kj:=HS.fresh (HF.trans jk);have d0:=kj.c0;have y1:=Q0h (HF.trans jk) ku.out;have BQ:=hid (fun n=>z1j (wc.drewN n) b R a0 c0 (Q0h ((HF.trans jk).trans (Q0v wc n)) k8.out) (by omega));have jh:=hid jk;have jw:=hB;rw[← j4.out,qP,qP]at jw;have jl:=hid jw;clear jk kj jw R1 R2 jc jd jj kd;by_cases k1:c<bs R
  ·have j1:=hid j4.out;rw[qAb k1]at j1;go_wp2_with fail
   go_quiet (first|(go_at_call 47;refine Calls.quiet_of_same (BQ.out _)));have y2:=Q0h (Q0v wc nq) y1;have j7:=hid (z0d HO.out (fun g hg=>(jh.trans (Q0v wc nq)).block g (HO.lt g hg).2 id));have jb:=hid ((HF.trans jh.out).trans (Q0v wc nq));generalize wc.drewN nq=W4 at j7 jb y2 ⊢;have x4:w.heap.size<=W4.heap.size:=jb.size;clear y1 d0 BQ;go_wp2_with (first
    |(at_builtin;refine z0f _ rfl _ _ 23 rfl w.heap.size 67 i0 _ 4 32 Tryz.underlying23 kp kr ks kt rfl (by decide) (.slice na N.length nc) N.length (Q0y Nd.cells N) rfl (qFq j7.out _) ⟨W4.heap.size,0,none⟩ 1 1 [.int .i64 (-1),.int .i64 c,.int .i64 i',.int .i64 1] rfl rfl (z0m rfl) (by intro u hu;simp at hu;rcases hu with rfl|rfl|rfl|rfl<;>rfl) (by unfold maxLen;omega) (by omega) (by simp;omega) ?_;intro v9 w6 ja j2 jf;have jt:=hid ja;have jq:=hid (Mod.grown (S:=fun _=>False) (jb.alloc _) j2 (fun k hk ji=>by have:=(j7.lt k hk).1;omega));clear ja j2 jf))
   go_roundw
   case rel=>exact⟨k+1,tz,N++[⟨-1,c,i',1⟩],by go_num,rfl,jn,by omega,by unfold Q2x;rw[qP,z0v];exact jt.out,jq.out,by rw[k6.out,qAs];exact j1.out⟩
   exact k9.out
  have j1:=hid j4.out;rw[qAa k1]at j1 jl;have xj:IntKind.i64.wrap (c-bs R)=c-bs R:=by rw[qBv];unfold bs at k1 ⊢;omega
  have jv:=hid (fun(W:World) (hW:Q0a wc W)=>HT.out W (c-bs R) i' tz (HS.fresh ((HF.trans jh.out).trans hW)) x5 (by omega) (by have:=jl.out;omega));generalize Q5n (bs R) q (rcB R l D) f (c-bs R) i' tz=TT at jv j1 jl;have xb:N.length+TT.length<=1000000000000:=by have:=jl.out;omega
  go_wp2_with fail
  go_quiet (first|(go_at_call 47;refine Calls.quiet_of_same (BQ.out _)));have y2:=Q0h (Q0v wc nq) y1;have d2:=Q0h (Q0v wc nq) d0;have j7:=hid (z0d HO.out (fun g hg=>(jh.trans (Q0v wc nq)).block g (HO.lt g hg).2 id));have jb:=hid ((HF.trans jh.out).trans (Q0v wc nq));have kf:=hid (fun(W:World) (hW:Q0a (wc.drewN nq) W)=>jv.out W ((Q0v wc nq).trans hW));have k3:=hid (fun(W:World) (hW:Q0a (wc.drewN nq) W)=>z1j W b R a0 c0 (Q0h (((HF.trans jh.out).trans (Q0v wc nq)).trans hW) k8.out) (by omega));generalize wc.drewN nq=W4 at j7 jb y2 d2 kf k3 ⊢;have x4:w.heap.size<=W4.heap.size:=jb.size;clear y1 d0 BQ jv;go_upto_region 13 with fail
  go_cut [16] (fun s16 wx=>∃ta tc,s16=.slice ta TT.length tc/\Q2x wx 0 (.slice ta TT.length tc) TT/\Q0a W4 wx)
  case first =>
   go_region_with (first
    |(go_at_call 47;refine(k3.out _ (by first|exact(mRf _ W4).drew|exact mRf _ W4)).mono ?_;rintro e w'⟨rfl,hw⟩;rw[hw];clear hw)
    |(go_at_call 54;refine(kf.out _ (by first|exact(mRf _ W4).drew|exact mRf _ W4)).mono ?_;rintro e w3⟨v3,rfl,kq,kx⟩))
   all_goals
    go_wp2_with fail
    go_meet;obtain⟨ta,tc,x7⟩:=z0c kq;subst x7;exact⟨ta,tc,rfl,z0g kq (qBq _),((mRf _ W4).drew).trans kx⟩
  obtain⟨ta,tc,rfl,kk,jm⟩:=hcut;have ki:Q2x wc w.heap.size (.slice na N.length nc) N:=z0d j7.out (fun g hg=>jm.block g (j7.lt g hg).2 id);have xg:=jm.size;obtain⟨v',w2,x3,j3,j2,jf⟩:=x1w (P:=Tryz.prog) wc w.heap.size 23 23 67 i0 _ 4 32 Tryz.underlying23 kp kr ks kt rfl (by decide) (.slice na N.length nc) N.length (Q0y Nd.cells N) ki (.slice ta TT.length tc) TT.length (Q0y Nd.cells TT) kk (x3z TT) (by unfold maxLen;omega) (by omega) (by omega);obtain⟨a',kv,x6⟩:=z0c j3;have jt:=hid j3;have jq:=hid (Mod.grown (S:=fun _=>False) (jb.trans jm) j2 (fun k hk ji=>by have:=(j7.lt k hk).1;omega));clear j3 j2 jf ki kk jm;subst x6;go_wp2;go_roundw
  case rel=>exact⟨k+1,tz,N++TT,by go_num,rfl,jn,by omega,by unfold Q2x;rw[qP,show Q0y Nd.cells (N++TT)=Q0y Nd.cells N++Q0y Nd.cells TT by simp[Q0y]];exact jt.out,jq.out,by rw[k6.out,qAs];exact j1.out⟩
  exact k9.out
 have s1:¬(k:Int)<(cs.length:Int):=by omega
 rw[qAp (by omega),Q9u,qBd]at j0;have j4:=hid j0;clear j0;go_wp2;go_ret;exact⟨_,rfl,by rw[← j4.out];exact HO.out,HF.out⟩
theorem x6h{q:List Q1}{rb:List Int->Nat->Nat->Bool}{h:Int}{i j p:Nat}{x:Q1}(hx:q[p]? = some x)(hp:(x.1==h&&rb x.2 i j)=true)(hn:∀(p':Nat) (y:Q1),p'<p->q[p']? = some y->(y.1==h&&rb y.2 i j)=false):Q9b q rb h i j=p:=by
 obtain⟨hl,he⟩:=qS hx;unfold Q9b;rw[List.findIdx_eq hl];refine⟨by rw[he];exact hp,fun k hk=>?_⟩;exact hn k _ hk (qE (by omega))
theorem x6i{q:List Q1}{rb:List Int->Nat->Nat->Bool}{h:Int}{i j:Nat}(hn:∀(p':Nat) (y:Q1),q[p']? = some y->(y.1==h&&rb y.2 i j)=false):q[Q9b q rb h i j]? = none:=by
 unfold Q9b;rw[qDt,qN (qR _)];intro x hx;obtain⟨k,hk⟩:=List.getElem?_of_mem hx;rw[hn k x hk]
attribute [local go_sem ↓] z17
theorem x5m(sb b R H:Nat)(q:List Q1)(ka:Option Addr)(kc:Nat)(l:List Int)(da:Option Addr)(dc:Nat)(D:List Mat)(hQ:QOk R H q)(hl:l.length<=60)(f:Nat)(hf:f+1<=2000)(hT:Q9a sb b R H q ka kc l da dc D f):Q9a sb b R H q ka kc l da dc D (f+1):=by
 intro w h i j hS kk hj hB;obtain⟨i0,kj,kr,ks,kt⟩:=Q9s;have ky:=hQ.r8;have kw:=hQ.h8;have kn:=hQ.p20;obtain⟨a0,c0,a1,c1,a2,c2,v3,v4,sv,hN⟩:=hS.s;have HN:=hid hN;have HS:=hid hS;have HQ:=hid hQ;have RE:=hid (fun(W:World) (hW:Q0a w W) (v:Value) (cs:List Int) (hv:Q1c W v cs) (h1:cs.length<=1000) (h2:∀c∈cs,0<=c/\c<(R:Int)+1+H)=>z95 W sb b R H q ka kc l da dc D (hS.fresh hW) hQ hl v cs hv h1 h2 i (by omega));have jy:Hid (∀cs,(rcF (bs R) l D cs i).length=l.length+1):=hid (fun cs=>by
  unfold rcF;have:∀(cs:List Int) (s:List Bool),s.length=l.length+1->(rhF (bs R) l D (l.length+1) cs s).length=l.length+1:=by
   intro cs;induction cs with
   |nil=>intro s hs;exact hs
   |cons c cs ih=>intro s hs;exact ih _ (y3d (bs R) l D c s)
  exact this cs _ (by simp))
 have kg:=hid (fun(W:World) (hW:Q0a w W) (v:Value) (cs:List Int) (hv:Q1c W v cs) (h1:cs.length<=6) (h2:∀c∈cs,0<=c/\c<(R:Int)+1+H) (h3:(Q9u (bs R) (rcB R l D) (Q5n (bs R) q (rcB R l D) f) cs i j).length<=1000000000000)=>v1f W sb b R H q ka kc l da dc D f (by omega) hT (hS.fresh hW) hQ hl v cs hv h1 h2 i j kk hj h3);generalize hVV:Q5n (bs R) q (rcB R l D) (f+1) h i j=V at hB ⊢;have k0:=hid hVV;generalize hn:l.length+1=n at RE jy;have kx:(j:Int)<(n:Int):=by omega
 have km:n<=61:=by omega
 generalize hfz:((f+1:Nat):Int)=fz;have sA:¬fz=0:=by omega
 have sB:(fz==0)=false:=by simpa using sA
 have x1:IntKind.i64.wrap (fz-1)=(f:Int):=by rw[qBv];omega
 have kl:j<n:=by omega
 clear hS hQ hN hT hVV hn hfz;go_enter Tryz.func54,Tryz.ntmps54
 go_wp2;go_loopw [10,11,12,13,14] (fun _ x11 _ _ _ wr=>∃p:Nat,x11=.int .i64 p/\p<=q.length/\Q0a w wr/\∀(p':Nat) (y:Q1),p'<p->q[p']? = some y->(y.1==h&&rcB R l D y.2 i j)=false)
   (fun _ x _ _ _ _=>1001-(intOf x).toNat)
 case atStart=>exact⟨0,rfl,by omega,mRf _ _,fun p' y hp=>absurd hp (by omega)⟩
 obtain⟨p,rfl,hp,jb,kb⟩:=hrel;have jw:=hid (Q19 (B:=1001) p (by omega));have HF:=hid jb;have je:=hid kb;have k7:=HS.fresh jb;have d0:=k7.c0;have ja:=HN.fresh jb;have z1:=ja.k1;clear kb k7;by_cases j7:p<q.length
 ·have s1:(p:Int)<(q.length:Int):=by omega
  have hx:q[p]? = some q[p]:=qE j7;obtain⟨g3,o3,c3,g4,o4,n4,c4,al,cl,j2⟩:=ja.pr j7;generalize q[p]=x at hx j2;have HX:=hid hx;have jx:=hid j2;have q4:=j2.q4;have y4:=j2.y4;have s4:(p:Int)<(n4:Int):=by have:=j2.n4;omega
  have jq:=HQ.sy x (qAi hx);have k2:=hid (RE.out wr jb _ x.2 j2.l (by omega) jq.2);have L1:=hid (jy.out x.2);have j8:Hid ((x.1==h&&rcB R l D x.2 i j)=false->∀(p':Nat) (y:Q1),p'<p+1->q[p']? = some y->(y.1==h&&rcB R l D y.2 i j)=false):=hid (fun e p' y hp' hy=>by
   rcases qCk p' p with z|z
   ·exact je.out p' y z hy
   obtain rfl:p'=p:=by omega
   rw[HX.out]at hy;injection hy with hy;subst hy;exact e)
  have jz:=hid jq;have ji:Hid ((x.1==h&&rcB R l D x.2 i j)=true->V=⟨(p:Int),-1,i,((Q9u (bs R) (rcB R l D) (Q5n (bs R) q (rcB R l D) f) x.2 i j).length:Int)+1⟩::Q9u (bs R) (rcB R l D) (Q5n (bs R) q (rcB R l D) f) x.2 i j):=hid (fun e=>by
   have ki:=x6h HX.out e je.out;rw[← k0.out,Q5n,ki,HX.out])
  have er:rcB R l D x.2 i j=(rcF (bs R) l D x.2 i).getD j false:=rfl;rw[er]at j8 ji;clear hx j2 ja jq er;go_upto_region 7 with(first
   |(go_at_call 86;refine(k2.out).mono ?_;rintro e W1⟨g1,rfl,k3,k8⟩;have js:=hid k3;have jc:=hid k8;clear k3 k8))
  have j9:=hid (jx.fresh jc.out);have p3:=j9.q3;have r3:=j9.y3;have d1:=Q0h jc.out d0;have b1:=js.cell (j:=j) (by rw[L1.out];exact kl);generalize(rcF (bs R) l D x.2 i).getD j false=bj at b1 j8 ji;have j4:=hid (HF.trans jc.out);clear q4 y4 d0 z1 k2 jx js;by_cases kd:x.1=h
  ·cases bj
   ·have jd:=hid (j8.out (by simp));go_wp2;go_roundw
    case rel=>exact⟨p+1,by go_num,by omega,j4.out,jd.out⟩
    exact jw.out
   have jh:=hid (ji.out (by simp[kd]));have k4:=hB;rw[jh.out,qBk]at k4;have RW:=hid (fun(W:World) (hW:Q0a W1 W)=>kg.out W (j4.trans hW) _ x.2 (j9.l.fresh hW) (by have:=jz.1;omega) jz.2 (by omega));generalize Q9u (bs R) (rcB R l D) (Q5n (bs R) q (rcB R l D) f) x.2 i j=RL at RW jh k4;have j6:Q0a W1 (W1.alloc (.cells #[.int .i64 p,.int .i64 (-1),.int .i64 i,.int .i64 0] 67)):=(mRf _ W1).alloc _;have ko:w.heap.size<=W1.heap.size:=j4.size;have k6:(W1.alloc (.cells #[.int .i64 p,.int .i64 (-1),.int .i64 i,.int .i64 0] 67)).ownsRow w.heap.size 67 4 (.slice (some ⟨W1.heap.size,0,none⟩) 1 1) 1 [.int .i64 p,.int .i64 (-1),.int .i64 i,.int .i64 0]:=World.ownsRow_lit W1 #[.int .i64 p,.int .i64 (-1),.int .i64 i,.int .i64 0] 1 ko (by unfold maxLen;omega) rfl;have jf:=hid k6;have jt:=hid j6;have jj:=hid (RW.out _ j6);have e2:=Q0h j6 d1;have jg:=j9.fresh j6;have q4:=jg.q4;have y4:=jg.y4;clear k6 j6 jg RW;go_upto_region 9 with fail
   generalize W1.alloc (.cells #[.int .i64 p,.int .i64 (-1),.int .i64 i,.int .i64 0] 67)=W2 at jf jt jj e2 q4 y4 ⊢;go_upto_region 10 with(first
    |(go_at_call 87;refine(jj.out).mono ?_;rintro e W3⟨v3,rfl,jo,k9⟩;have ke:=hid jo;have ju:=hid k9;obtain⟨ta,tc,kq⟩:=z0c jo;clear jo k9;subst kq))
   have jl:W3.ownsRow w.heap.size 67 4 (.slice (some ⟨W1.heap.size,0,none⟩) 1 1) 1 [.int .i64 p,.int .i64 (-1),.int .i64 i,.int .i64 0]:=z0d jf.out (fun g hg=>ju.block g (jf.lt g hg).2 id);have jk:Q0a w W3:=(j4.trans jt.out).trans ju.out;have x0:=jk.size;obtain⟨v',w4,jp,j0,j1,jm⟩:=x1w (P:=Tryz.prog) W3 w.heap.size 23 23 67 i0 _ 4 32 Tryz.underlying23 kj kr ks kt rfl (by decide) (.slice (some ⟨W1.heap.size,0,none⟩) 1 1) 1 [.int .i64 p,.int .i64 (-1),.int .i64 i,.int .i64 0] jl (.slice ta RL.length tc) RL.length (Q0y Nd.cells RL) (z0g ke.out (qBq _)) (x3z RL) (by unfold maxLen;omega) (by omega) (by omega);obtain⟨g',kh,kp⟩:=Joins.ownsRow_form j0 (by omega);subst kp;have k5:Q0a w w4:=Mod.grown (S:=fun _=>False) jk j1 (fun k hk j7=>by have:=(jl.lt k hk).1;omega);have kv:=(j0.lt g' rfl).1;have x3:=j0.cells (g:=g') rfl 3 (.int .i64 0) rfl;rw[qDd,qBy]at x3;have x4:w4.frozen? ⟨g',3,none⟩=false:=by
    obtain⟨ku,jn⟩:=z2z j0 (g:=g') rfl;exact Q0f jn 3
   have jr:=hid (z52 j0 (g:=g') rfl 3 (.int .i64 ((1+RL.length:Nat):Int)) (by simp));have jv:Hid (Q0a w (w4.setCell ⟨g',3,none⟩ (.int .i64 ((1+RL.length:Nat):Int)))):=hid (k5.setCell (fun j7=>absurd j7 (by dsimp only;omega)) _);have s9:(0:Int)<((1+RL.length:Nat):Int):=by omega
   have j5:Nd.cells ⟨(p:Int),-1,i,(RL.length:Int)+1⟩=[.int .i64 p,.int .i64 (-1),.int .i64 i,.int .i64 ((1+RL.length:Nat):Int)]:=by
    unfold Nd.cells;rw[show(((1+RL.length:Nat)):Int)=(RL.length:Int)+1 by omega]
   have j3:=hid j5;have kz:RL.length<=1000000000000:=by omega
   generalize hm:1+RL.length=m at jp jr jv s9 j3;have HM:=hid hm;clear j0 j1 jm jl k5 jk hm j5 e2 q4 y4 jj;go_wp2;go_ret;refine⟨_,rfl,?_,jv.out⟩;rw[jh.out];unfold Q2x;rw[qBk,show Q0y Nd.cells (⟨(p:Int),-1,i,(RL.length:Int)+1⟩::RL)=Nd.cells ⟨(p:Int),-1,i,(RL.length:Int)+1⟩++Q0y Nd.cells RL by simp[Q0y],j3.out,show RL.length+1=m by have:=HM.out;omega];exact jr.out
  have jd:=hid (j8.out (by simp[kd]));go_wp2;go_roundw
  case rel=>exact⟨p+1,by go_num,by omega,j4.out,jd.out⟩
  exact jw.out
 have s1:¬(p:Int)<(q.length:Int):=by omega
 have kf:Hid (V=[]):=hid (by
  rw[← k0.out,Q5n,x6i (fun p' y hy=>je.out p' y (by have:=(qS hy).1;omega) hy)])
 clear ja;go_wp2;go_ret;exact⟨_,rfl,by rw[kf.out];exact qAh _ _ _ _,HF.out⟩
theorem x5n(sb b R H:Nat)(q:List Q1)(ka:Option Addr)(kc:Nat)(l:List Int)(da:Option Addr)(dc:Nat)(D:List Mat):Q9a sb b R H q ka kc l da dc D 0:=by
 intro w h i j hS j0 hj hB;clear hS hB;go_enter Tryz.func54,Tryz.ntmps54
 go_wp2;go_ret;exact⟨_,rfl,qAh _ _ _ _,mRf _ _⟩
theorem y9s(sb b R H:Nat)(q:List Q1)(ka:Option Addr)(kc:Nat)(l:List Int)(da:Option Addr)(dc:Nat)(D:List Mat)(hQ:QOk R H q)(hl:l.length<=60):∀f,f<=2000->Q9a sb b R H q ka kc l da dc D f
 |0,_=>x5n sb b R H q ka kc l da dc D
 |f+1,hf=>x5m sb b R H q ka kc l da dc D hQ hl f hf (y9s sb b R H q ka kc l da dc D hQ hl f (by omega))
theorem v3b{w:World}{base:Nat}{v:Value}{l:List Value}{e:TypeId}(h:w.ownsRow base e 1 v l.length l):SlAt w v l:=by
 rcases h.2 with⟨rfl,h0⟩|⟨g,cap,j0,rfl,_,_,hc,_⟩
 ·exact⟨none,0,by rw[h0],by omega,fun j hj=>by omega⟩
 refine⟨_,_,rfl,hc,fun j hj=>⟨g,0,rfl,?_⟩⟩;have:=h.cells (g:=g) rfl j l[j] (by simp[hj]);rwa [qDd]at this
theorem v2t{w:World}{b:Nat}{X:SP}{ps:List Pr}{R H:Nat}(h:SpecX w b X)(t:SpecTab X ps R H):Q3q w b R H (Q0e R ps):=by
 obtain⟨v0,v1,v2,v3,v4,sv,hS,hl⟩:=h;have hA:=hS.sp;have j1:(Q0e R ps).length=ps.length:=by simp[Q0e]
 have k0:=Q2f.cell hA 0;have k1:=Q2f.cell hA 1;have k2:=Q2f.cell hA 2;have k3:=Q2f.cell hA 3;have k4:=Q2f.cell hA 4;simp at k0 k1 k2 k3 k4;obtain⟨a0,c0,e0⟩:=z0c (hA.own 0 _ rfl);obtain⟨a1,c1,e1⟩:=z0c (hA.own 1 _ rfl);obtain⟨a2,c2,e2⟩:=z0c (hA.own 2 _ rfl);dsimp only at e0 e1 e2;rw[t.rules]at e0;rw[t.prods,← j1]at e1;rw[t.heads]at e2;subst e0 e1 e2;have hm:(Q0e R ps).map Prod.fst=X.head:=by rw[t.head];simp[Q0e]
 refine⟨a0,c0,a1,c1,a2,c2,v3,v4,sv,k0,k1,k2,k3,k4,?_,?_,by rw[hl,t.prods,j1],?_⟩
 ·rw[hm];exact IntOwn.at' (base:=b+1) (hA.own 3 _ rfl)
 ·exact v3b (hA.own 4 _ rfl)
 intro i v x h1 h2;have hi:i<ps.length:=by
  have:=(qS h2).1;omega
 have j2:i<X.prods.length:=by rw[t.prods];exact hi
 have hx:=hS.syms i v _ h1 (qE j2);have e:Q8q X X.prods[i]=x.2:=by
  have q:=qEn (fun l=>l[i]?) t.syms;rw[qBt,qE j2,qBt,qE hi]at q;simp only[qDw,qO]at q;have q2:x=(ps[i].head,ps[i].syms.map (Q0w R)):=by
   simp[Q0e,hi]at h2;exact h2.symm
  rw[q2];exact q
 have j0:X.prods[i].ln.syms.length=x.2.length:=by rw[← e];simp[Q8q]
 have j3:=hx.1;rw[e,j0]at j3;exact IntOwn.at' (base:=b+1) j3
theorem q_ok{s:ByteArray}(hc:Q0u s=(0,0))(hT:Q1d (Q0p (Q0c s).1) (Q0g (Q0c s).1).length (Q0j (Q0c s).1).length)(hR:(Q0g (Q0c s).1).length<=8) :
  QOk (Q0g (Q0c s).1).length (Q0j (Q0c s).1).length (Q0e (Q0g (Q0c s).1).length (Q0p (Q0c s).1)):=by
 obtain⟨c1,c2,c3,c4,c5⟩:=z2d hc;have j1:=(Q62 hc).places;obtain⟨n1,n2,n3⟩:=y34 (fun y hy=>(j1 y hy).1) c5;have j0:(Q0e (Q0g (Q0c s).1).length (Q0p (Q0c s).1)).length=(Q0p (Q0c s).1).length:=by simp[Q0e]
 refine⟨hR,n1,by omega,?_,y8e hT,fun x hx=>?_⟩
 ·rw[j0];unfold Q0p;rw[qAv];unfold Q4a at c4;rw[qBb]at c4;obtain⟨y,hy,j2⟩:=c4;exact List.length_pos_of_mem (qDi.2 ⟨hy,j2⟩)
 unfold Q0e at hx;rw[qBj]at hx;obtain⟨p,hp,rfl⟩:=hx;refine⟨by simpa using n3 p hp,fun c hc=>?_⟩;rw[qBj]at hc;obtain⟨y,hy,rfl⟩:=hc;exact z63 hT hp hy
end Go.Proofs.YtbdpfmalabgmbaaGreat
