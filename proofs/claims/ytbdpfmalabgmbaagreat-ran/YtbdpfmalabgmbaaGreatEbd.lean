import Derived.Test.YtbdpfmalabgmbaaGreatEbc
namespace Go.Proofs.YtbdpfmalabgmbaaGreat
open Go.RowKit
set_option maxRecDepth 99999
set_option maxHeartbeats 0
set_option linter.all false
theorem infoBB:(Tryz.prog.info? 117).map (fun i=>(i.zero,i.size,i.bytes))=some (some (.slice none 0 0),1,24):=by kernel_rfl
theorem infoBB':∃i,Tryz.prog.info? 117=some i/\i.zero=some (.slice none 0 0)/\i.size=1/\i.bytes=24:=nfoE infoBB
def addR(R:Nat)(l:List Int)(D:List Mat)(x:Q1)(i:Nat):List Mat:=Q97 D x.1.toNat i (orI ((D.getD x.1.toNat []).getD i []) (rcF (bs R) l D x.2 i) (l.length+1) (l.length+1))
def CloD(R:Nat)(q:List Q1)(l:List Int)(D:List Mat):Prop:=∀(p:Nat) (x:Q1) (i:Nat),q[p]? = some x->i<=l.length->moI ((D.getD x.1.toNat []).getD i []) (rcF (bs R) l D x.2 i) (l.length+1)=false
def SpnRet(w:World)(b R H:Nat)(q:List Q1)(ka:Option Addr)(kc:Nat)(l:List Int)(S:List Mat->Prop)(e:Ending)(w':World):Prop :=
 ∃sb da dc D,e=.returned (.pointer (some ⟨sb,0,none⟩))/\SpR w' sb b R H q ka kc l da dc D/\Q0a w w'/\S D/\CloD R q l D
theorem v1b(base:Int)(l:List Int)(D:List Mat)(cs:List Int)(i:Nat):(rcF base l D cs i).length=l.length+1:=by
 unfold rcF;have:∀(cs:List Int) (s:List Bool),s.length=l.length+1->(rhF base l D (l.length+1) cs s).length=l.length+1:=by
  intro cs;induction cs with
  |nil=>intro s hs;exact hs
  |cons c cs ih=>intro s hs;exact ih _ (y3d base l D c s)
 exact this cs _ (by simp)
structure Swp(R H:Nat)(q:List Q1)(l:List Int)(S:List Mat->Prop)(D0 D:List Mat)(mo:Bool)(p i:Nat):Prop where
 s:S D
 le:Q9o H (l.length+1) D0<=Q9o H (l.length+1) D
 lt:mo=true->Q9o H (l.length+1) D0<Q9o H (l.length+1) D
 no:mo=false->D=D0/\∀(p':Nat) (x:Q1) (i':Nat),q[p']? = some x->i'<=l.length->(p'<p∨(p'=p/\i'<i))->moI ((D0.getD x.1.toNat []).getD i' []) (rcF (bs R) l D0 x.2 i') (l.length+1)=false
theorem Swp.next{R H:Nat}{q:List Q1}{l:List Int}{S:List Mat->Prop}{D0 D:List Mat}{mo:Bool}{p i:Nat}{x:Q1}(h:Swp R H q l S D0 D mo p i)(hx:q[p]? = some x)(hi:i<=l.length)(hS:S (addR R l D x i))(hD:D.length=H)(hh:x.1.toNat<H)(hr:(D.getD x.1.toNat []).length=l.length+1)(hrow:((D.getD x.1.toNat []).getD i []).length=l.length+1) :
  Swp R H q l S D0 (addR R l D x i) (mo||moI ((D.getD x.1.toNat []).getD i []) (rcF (bs R) l D x.2 i) (l.length+1)) p (i+1):=by
 have hc:=x91 (ys:=rcF (bs R) l D x.2 i) hD hh (show i<l.length+1 by omega) hr;refine⟨hS,qDa h.le hc.1,fun e=>?_,fun e=>?_⟩
 ·rw[qAt]at e;rcases e with e|e
  ·exact qDr (h.lt e) hc.1
  exact Nat.lt_of_le_of_lt h.le (hc.2 e)
 rw[qCb]at e;obtain⟨e1,e2⟩:=e;obtain⟨rfl,h2⟩:=h.no e1;refine⟨?_,fun p' x' i' hx' hi' ho=>?_⟩
 ·unfold addR;rw[x69 hrow e2];exact x4l (by omega) (by omega)
 rcases ho with ho|⟨rfl,ho⟩
 ·exact h2 p' x' i' hx' hi' (.inl ho)
 rw[hx]at hx';injection hx' with hx';subst hx';rcases qCk i' i with z|z
 ·exact h2 p' x i' hx hi' (.inr ⟨rfl,z⟩)
 obtain rfl:i'=i:=by omega
 exact e2
theorem Swp.row{R H:Nat}{q:List Q1}{l:List Int}{S:List Mat->Prop}{D0 D:List Mat}{mo:Bool}{p i:Nat}(h:Swp R H q l S D0 D mo p i)(hi:l.length+1<=i):Swp R H q l S D0 D mo (p+1) 0 :=
 ⟨h.s,h.le,h.lt,fun e=>⟨(h.no e).1,fun p' x i' hx hi' ho=>(h.no e).2 p' x i' hx hi' (by
  rcases ho with ho|ho
  ·rcases qCk p' p with z|z
   ·exact .inl z
   exact .inr ⟨by omega,by omega⟩
  omega)⟩⟩
theorem x5b(w:World)(b R H:Nat)(q:List Q1)(ka:Option Addr)(kc:Nat)(l:List Int)(S:List Mat->Prop)(hS:Q3q w b R H q)(hQ:QOk R H q)(hk:Q1c w (.slice ka l.length kc) l)(hl:l.length<=60) (hS0:S (List.replicate H (sqF (l.length+1)))) (hSs:∀(D:List Mat) (p:Nat) (x:Q1) (i:Nat),S D->D.length=H->q[p]? = some x->i<=l.length->S (addR R l D x i)) :
  Calls Tryz.prog 53 #[.pointer (some ⟨b,0,none⟩),.slice ka l.length kc] w fun e w'=>SpnRet w b R H q ka kc l S e w':=by
 obtain⟨i0,xc,xj,xk,xl⟩:=infoBB';have xy:=hQ.r8;have xa:=hQ.h8;have xe:=hQ.p20;have xv:0<H:=by
  have h1:=hQ.pos;have h2:=hQ.hd q[0] (qG h1);omega
 have HS:=hid hS;have HQ:=hid hQ;have HK:=hid hk;have kz:=hid hS0;have x0:=hid hSs;obtain⟨a0,c0,a1,c1,a2,c2,v3,v4,sv,hN⟩:=hS;have HN:=hid hN;have SQ:=hid (fun W=>z7h W (l.length+1) (by omega));have UN:=hid (fun(W:World) (ga gb:Nat) (xs ys:List Bool) (h1:Q1x W ga xs) (h2:Q1x W gb ys) (h3:xs.length=l.length+1) (h4:ys.length=l.length+1)=>z23 W ga gb (l.length+1) xs ys h1 h2 h3 h4 (by omega));have k5:=hid (fun D cs i=>v1b (bs R) l D cs i);have RE:=hid (fun(W:World) (hW:Q0a w W) (sb:Nat) (da:Option Addr) (dc:Nat) (D:List Mat) (h:SpR W sb b R H q ka kc l da dc D) (v:Value) (cs:List Int) (hv:Q1c W v cs) (h1:cs.length<=1000) (h2:∀c∈cs,0<=c/\c<(R:Int)+1+H) (i:Nat) (h3:i<=l.length)=>z95 W sb b R H q ka kc l da dc D h HQ.out hl v cs hv h1 h2 i h3);have xp:IntKind.i64.wrap ((l.length:Int)+1)=((l.length+1:Nat):Int):=by rw[qBv];omega
 generalize hn:l.length+1=n at SQ UN k5 xp;have j0:=hid hn;have je:n<=61:=by omega
 have xd:0<n:=by omega
 clear hQ hk hS0 hSs hN hn;go_enter Tryz.func53,Tryz.ntmps53
 go_wp2;go_loopw [7,8] (fun x7 _ wr=>∃(h:Nat) (dv:Value) (us:List (Nat × Nat)),x7=.int .i64 h/\h<=H/\us.length=h/\DAt w wr w.heap.size b (.slice ka l.length kc) dv n us (List.replicate h (sqF n)))
   (fun x _ _=>1001-(intOf x).toNat)
 case atStart=>exact⟨0,.slice none 0 0,[],rfl,by omega,rfl,(mRf _ w).alloc _,z0a _ _,qR _,qAh _ _ _ _,rfl,fun k u hu=>by simp at hu,fun j k u v hu=>by simp at hu⟩
 obtain⟨h,dv,us,rfl,hh,kq,hD⟩:=hrel;have kv:=hid (Q19 (B:=1001) h (by omega));have HD:=hid hD;have k2:=(HN.fresh hD.fr).k2;have xf:w.heap.size<wr.heap.size:=z0j hD.c;have j1:=hid kq;have xh:us.length<=8:=by omega
 clear hD kq;by_cases xx:h<H
 ·have s1:(h:Int)<(H:Int):=by omega
  obtain⟨da,dc,jl⟩:=z0c HD.own;subst jl;have PU:Hid (∀(W:World) (u cap:Nat) (o:Obj) (v':Value) (w2:World),Q0a wr W->wr.heap.size<=u->W0l W n u (sqF n)->w2.ownsRow w.heap.size 117 1 v' (us.length+1) ((us.map fun u=>.slice (some ⟨u.1,0,none⟩) n u.2)++[.slice (some ⟨u,0,none⟩) n cap])->(W.alloc o).grownBy w2 (Value.ownBlock (.slice da us.length dc))->(∀k,v'.ownBlock=some k->Value.ownBlock (.slice da us.length dc)=some k∨(W.alloc o).heap.size<=k) ->
    DAt w (w2.setCell ⟨w.heap.size,2,none⟩ v') w.heap.size b (.slice ka l.length kc) v' n (us++[(u,cap)]) (List.replicate (h+1) (sqF n))/\w2.heap[w.heap.size]? = some (.cells #[.pointer (some ⟨b,0,none⟩),.slice ka l.length kc,.slice da us.length dc] 185 (0,0))):=hid (fun W u cap o v' w2 hW hu hR h1 h2 h3=>by
   have jv:Q0a wr (W.alloc o):=hW.alloc _;constructor
   ·rw[List.replicate_succ'];exact HD.push jv hu (hR.fresh ((mRf _ W).alloc _)) h1 h2 h3
   have hc:=jv.at HD.c id;rw[h2.block _ (z0j hc) (fun e=>by
    obtain⟨x4,hz⟩:=z2z (HD.fresh jv).own e.symm;exact x1e hc hz (by decide) rfl)]
   exact hc)
  have x3:Hid (∀(W:World) (o:Obj),Q0a wr W->(W.alloc o).ownsRow w.heap.size 117 1 (.slice da us.length dc) us.length (us.map fun u=>.slice (some ⟨u.1,0,none⟩) n u.2)):=hid (fun W o hW=>(z0d HD.own (fun g hg=>hW.block g (HD.own.lt g hg).2 id)).alloc o);have ks:Hid (∀W,Q0a wr W->W.cell? ⟨w.heap.size,2,none⟩=some (.slice da us.length dc)):=hid (fun W hW=>by rw[Q0b (hW.at HD.c id) 2];rfl);go_upto_region 7 with(first
   |(go_at_call 85;refine(SQ.out _).mono ?_;rintro e W⟨v,gs,rfl,hm,hf⟩;obtain⟨u,cap,rfl,hu,hR⟩:=hm.rowB (y12 n) xd;have HR:=hid hR;have HU:=hid hu;have HF:=hid hf;have xw:=hf.size;have kk:=ks.out W hf;clear hm hf hR hu))
  go_wp2_with (first
   |(at_builtin;refine z0f _ rfl _ _ 183 rfl w.heap.size 117 i0 _ 1 24 Tryz.underlying183 xc xj xk xl rfl (by decide) (.slice da us.length dc) us.length _ rfl (x3.out _ _ HF.out) ⟨W.heap.size,0,none⟩ 1 1 [.slice (some ⟨u,0,none⟩) n cap] rfl rfl (z0m rfl) (by intro u hu;simp at hu;subst hu;rfl) (by unfold maxLen;omega) (by omega) (by simp;omega) ?_;intro v9 w4 j2 j5 jd;obtain⟨kn,jt⟩:=PU.out _ u cap _ _ _ HF.out HU.out HR.out j2 j5 jd;have ky:=hid kn;have xm:=Q0b jt 2;have kf:=Q0f jt 2;simp at xm;obtain⟨a9,c9,xi⟩:=z0c j2;clear j2 j5 jd kn jt;subst xi))
  go_roundw
  case rel=>exact⟨h+1,_,_,by go_num,by omega,by simp[j1.out],ky.out⟩
  exact kv.out
 have s1:¬(h:Int)<(H:Int):=by omega
 obtain rfl:h=H:=by omega
 obtain⟨da,dc,jl⟩:=z0c HD.own;rw[j1.out]at jl;subst jl;clear SQ xf;go_wp2;go_loopw [9,10,11,12,13,14] (fun x9 _ _ _ _ _ wr=>∃(mo:Bool) (D:List Mat),x9=.bool mo/\DAt w wr w.heap.size b (.slice ka l.length kc) (.slice da h dc) n us D/\S D/\(mo=false->CloD R q l D))
   (fun x9 _ _ _ _ _ wr=>2*(40000-cntW (us.map Prod.fst) n wr)+Q8d x9)
 case atStart=>exact⟨true,_,rfl,HD.out,by have:=kz.out;rw[j0.out]at this;exact this,fun e=>by cases e⟩
 obtain⟨mo,D0,rfl,hD,hS,hc⟩:=hrel;have j4:=hid hD;have k7:=hid hS;have k0:=hid hc;clear hD hS hc HD;cases mo
 ·go_wp2;go_ret;refine⟨w.heap.size,da,dc,D0,rfl,⟨?_,?_,?_,HS.fresh j4.fr,HK.fresh j4.fr,fun k i hk hi=>?_⟩,j4.fr,k7.out,k0.out (by first|rfl|trivial)⟩
  ·rw[Q0b j4.c 0];rfl
  ·rw[Q0b j4.c 1];rfl
  ·rw[Q0b j4.c 2];rfl
  have:=(j4.rowD (k:=k) (i:=i) (by rw[j1.out];exact hk) (by have:=j0.out;omega)).1;rw[j0.out];exact this
 clear k0;have k3:=hid j4.cnt;rw[j1.out]at k3;go_wp2;go_loopw [9,10,11,12,13,14] (fun x9 x10 _ _ _ _ wr=>∃(mo:Bool) (p:Nat) (D:List Mat),x9=.bool mo/\x10=.int .i64 p/\p<=q.length/\DAt w wr w.heap.size b (.slice ka l.length kc) (.slice da h dc) n us D/\Swp R h q l S D0 D mo p 0)
   (fun _ x _ _ _ _ _=>1001-(intOf x).toNat)
 case atStart=>exact⟨false,0,D0,rfl,rfl,by omega,j4.out,⟨k7.out,qR _,(fun e=>by cases e),fun _=>⟨rfl,fun p' x i' _ _ ho=>by omega⟩⟩⟩
 obtain⟨mo,p,D,rfl,rfl,hp,hD,hW⟩:=hrel;have kx:=hid (Q19 (B:=1001) p (by omega));have jg:=hid hD;have jb:=hid hW;have k1:=(HN.fresh hD.fr).k1;clear hD hW;by_cases km:p<q.length
 ·have s2:(p:Int)<(q.length:Int):=by omega
  have hx:q[p]? = some q[p]:=qE km;obtain⟨x,jx⟩:∃x,x=q[p]:=⟨_,rfl⟩;rw[← jx]at hx;have HX:=hid hx;have x2:=hid jx;clear hx jx;go_wp2;go_loopw [9,11,12,13,14] (fun x9 x11 _ _ _ wr=>∃(mo:Bool) (i:Nat) (D:List Mat),x9=.bool mo/\x11=.int .i64 i/\i<=n/\DAt w wr w.heap.size b (.slice ka l.length kc) (.slice da h dc) n us D/\Swp R h q l S D0 D mo p i)
    (fun _ x _ _ _ _=>1001-(intOf x).toNat)
  case atStart=>exact⟨_,0,D,rfl,rfl,by omega,jg.out,jb.out⟩
  obtain⟨xn,i,D1,rfl,rfl,hi,hD,hW⟩:=hrel;have kw:=hid (Q19 (B:=1001) i (by omega));have k4:=hid hD;have jh:=hid hW;by_cases jm:i<n
  ·have s3:(i:Int)<(n:Int):=by omega
   have jw:i<=l.length:=by have:=j0.out;omega
   have kh:=HN.fresh hD.fr;obtain⟨g3,o3,c3,g4,o4,n4,c4,al,cl,j8⟩:=kh.pr km;rw[← x2.out]at j8;have jp:=hid j8;have q4:=j8.q4;have y4:=j8.y4;have s4:(p:Int)<(n4:Int):=by have:=j8.n4;omega
   have jy:x∈q:=qAi HX.out;have xb:=HQ.hd x jy;have kp:=HQ.sy x jy;obtain⟨j3,kl⟩:∃a:Nat,x.1=a:=⟨x.1.toNat,by omega⟩;have jf:j3<h:=by omega
   have jn:x.1.toNat=j3:=by omega
   have ja:D1.length=h:=by rw[← hD.len,j1.out]
   have ki:SpR wr w.heap.size b R h q ka kc l da dc D1:=⟨by rw[Q0b hD.c 0];rfl,by rw[Q0b hD.c 1];rfl,by rw[Q0b hD.c 2];rfl,HS.fresh hD.fr,HK.fresh hD.fr,fun k i hk hi=>by
    have:=(hD.rowD (k:=k) (i:=i) (by rw[j1.out];exact hk) (by have:=j0.out;omega)).1;rw[j0.out];exact this⟩
   have ji:=hid (RE.out wr hD.fr w.heap.size da dc D1 ki _ x.2 j8.l (by omega) kp.2 i jw);rw[j0.out]at ji;have kg:=jh.next HX.out jw (x0.out D1 p x i jh.s ja HX.out jw) ja (by rw[jn];exact jf) (by
    obtain⟨_,h0,_⟩:=hD.rows j3 _ (qE (by rw[j1.out];exact jf));rw[jn,h0,j0.out]) (by
    obtain⟨_,_,_,_,_,_,_,_,h5⟩:=(hD.rowD (k:=j3) (i:=i) (by rw[j1.out];exact jf) jm).1;rw[jn,h5,j0.out])
   have j7:=hid kg;obtain⟨gd,u,g,x8,hu,e1,e2,e3,hB⟩:=(hD.rowD (k:=j3) (i:=i) (by rw[j1.out];exact jf) jm).2;have ko:((D1.getD j3 []).getD i []).length=n:=by
    obtain⟨_,_,_,_,_,_,_,_,h5⟩:=(hD.rowD (k:=j3) (i:=i) (by rw[j1.out];exact jf) jm).1;exact h5
   subst x8;have HB:=hid hB;have k6:=hid ko;have k9:=hid hu;have xg:w.heap.size<wr.heap.size:=z0j hD.c;unfold addR at j7;rw[j0.out,jn]at j7;have jc:=hid (k5.out D1 x.2 i);generalize hSET:rcF (bs R) l D1 x.2 i=SET at ji j7 jc;generalize hROW:(D1.getD j3 []).getD i []=ROW at HB k6 j7;clear hD hW kh j8 ki kg hu hB ko hSET hROW jh jg jb xb kp ja jy;go_upto_region 18 with(first
    |(go_at_call 86;refine(ji.out).mono ?_;rintro e W⟨gS,rfl,ke,kj⟩;have jz:=hid ke;have j6:=hid kj;clear ke kj))
   have jr:=k4.fresh j6.out;have d2:W.cell? ⟨w.heap.size,2,none⟩=some (.slice (some ⟨gd,0,none⟩) h dc):=by rw[Q0b jr.c 2];rfl
   have jq:=jp.fresh j6.out;have p3:=jq.q3;have r3:=jq.y3;rw[kl]at r3;have kb:=Q0h j6.out e1;have kd:=Q0h j6.out e2;have s5:(j3:Int)<(h:Int):=by omega
   have UX:=hid (fun(W2:World) (hW2:Q0a W W2)=>UN.out W2 g gS ROW SET ((HB.fresh j6.out).fresh hW2) (jz.fresh hW2) k6.out jc.out);have k8:=hid (z2s ROW SET n n);generalize moI ROW SET n=gr at UX j7;generalize orI ROW SET n n=ou at UX j7 k8;clear q4 y4 e1 e2 e3 jq ji;go_cut [13,14] (fun s13 s14 wx=>∃g',s13=bsl g' n/\s14=.bool gr/\Q1x wx g' ou/\Q0a W wx)
   case first =>
    go_region_with (first
     |(go_at_call 80;refine(UX.out _ (by first|exact(mRf _ W).drew|exact mRf _ W)).mono ?_;rintro e w3⟨rfl,j9,jj⟩))
    all_goals
     go_wp2_with fail
     go_meet;exact⟨_,rfl,rfl,jj,((mRf _ W).drew).trans j9⟩
   obtain⟨g',rfl,rfl,jj,j9⟩:=hcut;have jk:=jr.fresh j9;have js:=(jp.fresh j6.out).fresh j9;have xz:=js.q3;have xo:=js.y3;rw[kl]at xo;have xq:wc.cell? ⟨w.heap.size,2,none⟩=some (.slice (some ⟨gd,0,none⟩) h dc):=by rw[Q0b jk.c 2];rfl
   have xr:=Q0h j9 kb;have xt:=Q0h j9 kd;have xu:wc.frozen? ⟨u.1,i,none⟩=false:=by
    obtain⟨_,_,x4,h1,_⟩:=jk.rows j3 u k9.out;exact Q0f h1 i
   have kr:=hid ((jk.set k9.out jm jj k8.out).fresh ⟨rfl,rfl,rfl,qR _,fun _ _ _=>rfl⟩:DAt w ((wc.setCell ⟨u.1,i,none⟩ (bsl g' n)).drew) w.heap.size b (.slice ka l.length kc) (.slice (some ⟨gd,0,none⟩) h dc) n us (Q97 D1 j3 i ou));clear jr d2 p3 r3 kb kd UX jj j9 jk js jp j6 jz HB;cases xn;all_goals
    go_wp2_with fail
    go_region;all_goals
     go_wp2;go_roundw
     case rel=>exact⟨_,i+1,_,rfl,by go_num,by omega,kr.out,j7.out⟩
     exact kw.out
  have s3:¬(i:Int)<(n:Int):=by omega
  have x1:=hid (jh.row (by have:=j0.out;omega));clear hD hW;go_wp2;go_roundw
  case rel=>exact⟨_,p+1,D1,rfl,by go_num,by omega,k4.out,x1.out⟩
  exact kx.out
 have s2:¬(p:Int)<(q.length:Int):=by omega
 have ku:Hid (mo=false->CloD R q l D):=hid (fun e p' x i hx hi=>by
  obtain⟨rfl,h2⟩:=jb.no e;exact h2 p' x i hx hi (.inl (by have:=(qS hx).1;omega)))
 have ju:=jg.cnt;rw[j1.out]at ju;have jo:=hid ju;have x6:=v11 (H:=h) (n:=n) (D:=D);have x5:h*(n*(n*1))<=8*(61*(61*1)):=Nat.mul_le_mul xa (Nat.mul_le_mul je (Nat.mul_le_mul je (qR _)));have kt:Hid (Q9o h n D<=29768):=hid (by omega);clear ju x6 x5;go_wp2;go_roundw
 case rel=>exact⟨mo,D,rfl,jg.out,jb.s,ku.out⟩
 rw[jo.out,k3.out];have h1:=jb.le;have h2:=jb.lt;have h3:=kt.out;rw[j0.out]at h1 h2;cases mo
 ·show 2*(40000-Q9o h n D)+0<2*(40000-Q9o h n D0)+1;omega
 have:=h2 rfl;show 2*(40000-Q9o h n D)+1<2*(40000-Q9o h n D0)+1;omega
end Go.Proofs.YtbdpfmalabgmbaaGreat
