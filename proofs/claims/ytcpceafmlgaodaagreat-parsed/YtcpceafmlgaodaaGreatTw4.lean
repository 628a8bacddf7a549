import Derived.Test.YtcpceafmlgaodaaGreatEb8
namespace Go.Proofs.YtcpceafmlgaodaaGreat
open Go.RowKit
set_option maxRecDepth 99999
set_option maxHeartbeats 0
set_option linter.all false
def ldY(v:Value):Sem Value:=Instr.loadAt 69 v
theorem y8b(v:Value):Instr.loadAt 69 v=ldY v:=rfl
theorem x25{w:World}{g o:Nat}{h:Bool}{n:Int}(hr:w.rangeAt g o [.bool h,.int .i64 n]):(ldY (.pointer (some ⟨g,o,none⟩))).run Tryz.prog w=.ok (.agg #[.bool h,.int .i64 n]) w :=
 run_loadAt_mid w g o _ _ _ hr Tryz.underlying69 rfl szSy2
attribute [local go_sem ↓] y8b
attribute [local go_sem ↓] z13
theorem x6s(w:World)(b B:Nat)(R H:Int)(vp vg vk vs:Value)(k:List Sy)(st:List St)(ps:List PV)(i:Nat)(h:GA w b B R H vp vg vk vs k st)(hp:Q3c w B vp ps)(hi:i<ps.length)(hps:ps.length<=100)
  (hst:st.length<=1000000000000) (hk:k.length<=100000000000) (hsy:ps[i].pr.syms.length<=6) (hB:B<=w.heap.size) :
  Calls Tryz.prog 58 #[Q25 b,.int .i64 i] w fun e w'=>e=.returned (.tuple #[])/\∃vk' vs',GA w' b B R H vp vg vk' vs' (ps[i].pr.syms++k) (st++[⟨false,i⟩])/\UpB B w w':=by
 generalize hsyE:ps[i].pr.syms=sy at hsy ⊢;have jk:=hid hsyE;clear hsyE;obtain⟨is,his,sz0,sz1,sz2⟩:=infoSt';obtain⟨iy,hiy,yz0,yz1,yz2⟩:=infoSy';obtain⟨pa,pc,hvp⟩:=z0d hp.row.own;subst hvp;obtain⟨sa,sc,hvs⟩:=z0d h.ss;subst hvs;obtain⟨gp,cap',hv'⟩:=Joins.ownsRow_form hp.row.own (by omega);rw[qI]at hv';obtain⟨rfl,_,rfl⟩:=hv';have k2:=h.cell 2;have k5:=h.cell 5;simp at k2 k5;have z5:=h.frozen 5;have jy:(i:Int)<(ps.length:Int):=by omega
 have jz:(i:Int)<=127:=by omega
 have k0:¬(ps.length<=i):=by omega
 have k1:¬((i:Int)<0):=by omega
 have HG:=hid h;have HP:=hid hp;have jx:=h.lt;have HO:=hid h.ss;clear h hp;go_enter Tryz.func58,Tryz.ntmps58
 go_wp2_with (first
  |(at_builtin;refine z0g _ rfl _ _ 72 rfl B 141 is _ 2 2 Tryz.underlying72 his sz0 sz1 sz2 rfl (by decide) _ _ _ rfl (HO.alloc _) ⟨w.heap.size,0,none⟩ 1 1 [.bool false,.int .i8 i] rfl rfl (z0l rfl) (by intro u hu;simp at hu;rcases hu with rfl|rfl<;>rfl) (by unfold maxLen;omega) (by omega) (by simp;omega) ?_))
 intro v' w5 hown hgrow hblk;obtain⟨sa1,sc1,hvs1⟩:=z0d hown;subst hvs1;have G5:=HG.grown5 ((mRf _ w).alloc _) hgrow;have f5:=Q0g G5 5;have g5:=Q0b G5 5;simp at g5;obtain⟨G1,U1⟩:=HG.step (x:=⟨false,i⟩) ((mRf _ w).alloc _) hown hgrow (fun j hj=>by simpa using hblk j hj);generalize hWW:w5.setCell ⟨b,5,none⟩ (.slice sa1 (st.length+1) sc1)=W1 at G1 U1;have jo:=hid hWW;have j3:=HP.kept hB U1 (fun j h1 h2=>by omega);have jw:=hid j3;have j2:=G1.cell 2;simp at j2;have cs:=j3.row.cell i 1 hi (by omega);have j4:=j3.syms ps[i] (by simp);rw[jk.out]at j4;have j9:=hid j4;have jd:=hid G1;have ja:=hid U1;have jr:=G1.lt;have jp:B<=W1.heap.size:=by have:=U1.size;omega
 simp[PV.cells]at cs;clear j4;generalize ps[i].vs=pvs at j9 cs;obtain⟨sao,scap,hsv,hsc,hscm,hsyc⟩:=j9.out;subst hsv;have jj:=hid hsyc;clear hsyc hown hgrow hblk G5 G1 U1 j3;go_wp2;clear hWW;go_loopw [5] (fun x5 wr=>∃(m:Nat) (q:Int) (vk':Value),x5=.int .i64 q/\q=(m:Int)-1/\m<=sy.length/\GA wr b B R H (.slice (some ⟨gp,0,none⟩) ps.length pc) vg vk' (.slice sa1 (st.length+1) sc1) (sy.drop m++k) (st++[⟨false,i⟩])/\UpB B w wr)
   (fun x _=>(intOf x+1).toNat)
 case atStart=>exact⟨sy.length,_,vk,rfl,rfl,qR _,by rw[qBw];exact jd.out,ja.out⟩
 clear j2 cs jr jp jo f5 z5 k5 k2;obtain⟨m,q,vk',rfl,hq,hm,hG,hU⟩:=hrel;by_cases hm0:m=0
 ·have ju:q=-1:=by omega
  subst ju;subst hm0;have jg:=hid hG;have jm:=hid hU;clear hG hU hq;go_wp2;exact bodyPost_end (results_none rfl _ _ _) rfl ⟨rfl,vk',_,jg.out,jm.out⟩
 obtain⟨m',rfl⟩:∃m',m=m'+1:=⟨m-1,by omega⟩;have jv:q=(m':Int):=by omega
 clear hq;subst jv;have jb:m'<sy.length:=by omega
 have k3:(m':Int)<(sy.length:Int):=by omega
 have jh:Hid (((m':Int)-1+1).toNat<((m':Int)+1).toNat):=by unfold Hid;omega
 have j6:Hid (sy.drop m'=sy[m']::sy.drop (m'+1)):=qC jb;obtain⟨g,o,rfl,hgB,hrg⟩:=jj.out m' jb;have j0:wr.rangeAt g (o+m'*2) (sy[m']).cells:=z0t hrg (by
  rw[hU.block g (by omega) (by omega)];exact(ja.block g (by omega) (by omega)).symm)
 generalize sy[m']=s at j0 j6;obtain⟨sh,sn⟩:=s;have l1:(ldY (.pointer (some ⟨g,o+m'*2,none⟩))).run Tryz.prog wr=_:=x25 j0;have l2:(ldY (.pointer (some ⟨g,o+m'*2,none⟩))).run Tryz.prog wr.drew=_:=x25 (w:=wr.drew) (z0t j0 rfl);have jq:(sy.drop (m'+1)++k).length<=100000000006:=by simp;omega
 have j5:Hid (∀x:Sy,x::(sy.drop (m'+1)++k)=(x::sy.drop (m'+1))++k):=fun x=>rfl;generalize sy.drop (m'+1)++k=K at hG jq j5;have j1:=hG.ks;unfold SyOwn at j1;rw[qDs]at j1;obtain⟨ka,kc,hvk⟩:=z0d j1;subst hvk;have k4:=hG.cell 4;have z4:=hG.frozen 4;simp at k4;have k7:=hG.lt;have k6:B<=wr.heap.size:=by have:=hU.size;omega
 have j7:=hid hG;have jn:=hid hU;have j8:=hid j1;clear hG hU j1 hrg j0;go_wp2;have FW:Hid (∀o:Obj,Q0a wr (wr.alloc o).drew):=fun o=>((mRf _ wr).alloc o).drew;obtain⟨v',w2,hrun,hown,hgrow,hblk⟩:=z2y (P:=Tryz.prog) (wr.alloc (.cells #[.bool sh,.int .i64 sn] 69)).drew B 71 71 69 iy _ 2 16 Tryz.underlying71 hiy yz0 yz1 yz2 rfl (by decide) (.slice ka K.length kc) K.length (Q00 Sy.cells K.reverse) (z0c j8.out (fun g hg=>(FW.out _).block g (j8.lt g hg).2 (fun x=>x))) ⟨wr.heap.size,0,none⟩ 1 1 [.bool sh,.int .i64 sn] rfl (z0l rfl) (by intro u hu;simp at hu;rcases hu with rfl|rfl<;>rfl) (by unfold maxLen;omega) (by omega) (by simp[World.drew];omega);have HB:=j7.grown4 (FW.out _) hgrow;have js:w2.cell? ⟨b,4,none⟩=some (.slice ka K.length kc):=(Q0b HB 4);have jt:=Q0g HB 4;have ji:=hid hown;have je:=hid hgrow;have jc:=hid hblk;obtain⟨a',cap',hv'⟩:=z0d hown;clear hown hgrow hblk HB;subst hv';go_region;all_goals
  obtain⟨G3,U3⟩:=j7.push (x:=⟨sh,sn⟩) (FW.out _) (by rw[qDs];exact ji.out) je.out jc.out;generalize hWW:w2.setCell _ _=W3 at G3 U3 ⊢;have jf:=hid G3;have jl:=hid U3;clear G3 U3 hWW js jt k4 z4 l1 l2 hrun;go_wp2;go_roundw
  case rel =>
   refine⟨m',(m':Int)-1,.slice a' (K.length+1) cap',rfl,rfl,by omega,?_,Mod.trans jn.out jl.out⟩;rw[j6.out,← j5.out];exact jf.out
  exact jh.out
def lenV(v:Value):Nat:=match v with
 | .slice _ n _=>n
 |_=>0
def stW(b:Nat)(w:World):Nat:=match w.heap[b]? with
 |some (.cells c _ _)=>lenV (c.getD 5 undef)
 |_=>0
theorem GA.stW{w:World}{b B:Nat}{R H:Int}{vp vg vk vs:Value}{k:List Sy}{st:List St}(h:GA w b B R H vp vg vk vs k st):stW b w=st.length:=by
 obtain⟨a,c,hv⟩:=z0d h.ss;unfold Proofs.YtcpceafmlgaodaaGreat.stW;rw[h.blk,hv];rfl
structure GdAt(w:World)(gb B:Nat)(fp:Value)(L:List Int):Prop where
 lt:gb<B
 blk:w.heap[gb]? = some (.cells (gdA fp L) 128 (0,0))
 len:L.length=72
theorem GdAt.up{w w':World}{gb B:Nat}{fp:Value}{L:List Int}(h:GdAt w gb B fp L)(hu:UpB B w w'):GdAt w' gb B fp L :=
 ⟨h.lt,by rw[hu.block gb (z0j h.blk) (by have:=h.lt;omega)];exact h.blk,h.len⟩
def chL(L:List Int)(X:Int)(t:Nat):Int:=if 0<=X/\X<8/\t<9 then L.getD (X.toNat*9+t) 0 else -1
def Q27(R H:Int)(k:List Sy):Prop:=∀s∈k,0<=s.num/\s.num<(if s.isH then H else R)
attribute [local go_sem ↓] y8b
attribute [local go_sem ↓] z13
theorem y0u(w:World)(b B gb:Nat)(fp:Value)(L:List Int)(R H:Nat)(vp vk vs:Value)(k:List Sy)(st:List St)(ps:List PV)(t F:Nat)(r:List Sy × List St)
  (h:GA w b B R H vp (Q25 gb) vk vs k st) (hgd:GdAt w gb B fp L) (hp:Q3c w B vp ps) (hps:ps.length<=100) (hsy:∀p∈ps,p.pr.syms.length<=6/\Q27 R H p.pr.syms) (hk0:Q27 R H k)
  (hR:R<=8) (hH:H<=8) (ht:t<9) (hB:B<=w.heap.size) (hrun:gTo (Q0j ps) (chL L) t F k st=some r) (hrl:r.2.length<=1000000000000) (hkl:k.length+6*r.2.length<=100000000000+6*st.length) :
  Calls Tryz.prog 25 #[Q25 b,.int .i64 t] w fun e w'=>e=.returned (.tuple #[])/\∃vk' vs',GA w' b B R H vp (Q25 gb) vk' vs' r.1 r.2/\UpB B w w':=by
 obtain⟨is,his,sz0,sz1,sz2⟩:=infoSt';have jo:=hid h;have ja:=hid hgd;have HP:=hid hp;have jk:=hid hsy;have jx:=hid hrl;have jd:=hid hrun;have jt:=hid hkl;have jr:=hid hk0;have kj:=h.lt;have kk:=h.lo;clear h hgd hp hsy hrl hrun hkl hk0;go_enter Tryz.func25,Tryz.ntmps25
 go_wp2;go_loopw [4,5,6] (fun _ _ _ wr=>∃(f:Nat) (k':List Sy) (st':List St) (vk' vs':Value),gTo (Q0j ps) (chL L) t f k' st'=some r/\GA wr b B R H vp (Q25 gb) vk' vs' k' st'/\UpB B w wr/\Q27 R H k'/\k'.length+6*r.2.length<=100000000000+6*st'.length)
   (fun _ _ _ wr=>r.2.length+1-stW b wr)
 case atStart=>exact⟨F,k,st,vk,vs,jd.out,jo.out,mRf _ w,jr.out,jt.out⟩
 obtain⟨f,k',st',vk',vs',hrun,hG,hU,hKI,hKL⟩:=hrel;have kn:st'.length<=r.2.length:=y1y _ _ _ _ hrun;have hrl:=jx.out;obtain⟨f,rfl⟩:∃f',f=f'+1:=by
  cases f with
  |zero=>cases hrun
  |succ f=>exact⟨f,rfl⟩
 have j0:=hG.ks;unfold SyOwn at j0;rw[qDs]at j0;obtain⟨ka,kc,hvk⟩:=z0d j0;subst hvk;have k4:=hG.cell 4;simp at k4;have kp:=hG.lt;have ko:B<=wr.heap.size:=by have:=hU.size;omega
 have j2:=hid hU;have jh:=hid hG;cases k' with
 |nil =>
  have hr:r=([],st'):=by simpa [gTo]using hrun.symm
  simp only[qDp]at k4;have HR:=hid hr;clear hr hrun hG hU j0;go_wp2;exact bodyPost_end (results_none rfl _ _ _) rfl ⟨rfl,_,vs',by rw[HR.out];exact jh.out,j2.out⟩
 |cons s K =>
  obtain⟨sh,sn⟩:=s;have j7:=hKI ⟨sh,sn⟩ (by simp);have js:Hid (Q27 R H K):=fun x hx=>hKI x (by simp[hx]);have kd:K.length<=100000000000:=by simp at hKL;omega
  have jc:Hid (K.length+1+6*r.2.length<=100000000000+6*st'.length):=by unfold Hid;simpa using hKL
  simp only[qAy]at k4 j0;have kb:((K.length:Int)+1-1)=(K.length:Int):=by omega
  obtain⟨g,cap',hv'⟩:=Joins.ownsRow_form j0 (by omega);rw[qI]at hv';obtain⟨rfl,_,rfl⟩:=hv';have km:K.length+1<=kc:=by
   rcases j0.2 with⟨h1,_⟩|⟨g',c',cur,h1,_,_,h2,_⟩
   ·cases h1
   rw[qI]at h1;obtain⟨_,_,rfl⟩:=h1;exact h2
  have k9:(K.length:Int)<=(kc:Int):=by omega
  have RG:Hid (wr.rangeAt g (K.length*2) [.bool sh,.int .i64 sn]):=by
   have jg:Q2e Sy.cells 2 69 wr (.slice (some ⟨g,0,none⟩) (K.length+1) kc) (K.reverse++[⟨sh,sn⟩]):=⟨by
    have:=z0f j0 (qBg B);rw[qP,qAf,qDs];simpa using this,fun _ _=>rfl⟩
   have:=jg.range K.length (by simp);unfold Hid;simpa [Sy.cells]using this
  have j8:=hG.fresh ((mRf _ wr).alloc (.cells #[.bool sh,.int .i64 sn] 69 (0,0)));obtain⟨G1,U1⟩:=GA.pop (ao:=some ⟨g,0,none⟩) (cap:=kc) j8;have z4:=j8.frozen 4;have y4:=j8.cell 4;simp at y4;generalize hW1:(wr.alloc (.cells #[.bool sh,.int .i64 sn] 69 (0,0))).setCell ⟨b,4,none⟩ (.slice (some ⟨g,0,none⟩) K.length kc)=W1 at G1 U1;have je:W1.heap[wr.heap.size]? = some (.cells #[.bool sh,.int .i64 sn] 69 (0,0)):=by
   rw[← hW1,Proofs.YtcpceafmlgaodaaGreat.heap_setCell_other _ (by simp;omega)];exact z0a _ _
  have c0:=Q0b je 0;have c1:=Q0b je 1;simp at c0 c1;have j9:=hid G1;have j1:Hid (UpB B wr W1):=Mod.trans ((mRf _ wr).alloc _) U1;have k3:B<=W1.heap.size:=by have:=j1.size;omega
  have k5:=G1.lt;have ju:Hid (st'.length<r.2.length->True):=fun _=>trivial;obtain⟨sa,sc,hvs⟩:=z0d G1.ss;subst hvs;have j5:=G1.cell 5;have j3:=G1.cell 3;simp at j5 j3;have z5:=G1.frozen 5;have jj:=hid G1.ss;have kl:=ja.lt;have j6:W1.heap[gb]? = some (.cells (gdA fp L) 128 (0,0)):=(ja.up (Mod.trans j2.out j1.out)).blk;have jb:=hid j6;clear G1 U1 j8 hG hU j0 je hKI hKL ju j6;cases sh
  ·simp only[gTo,qBb,qO]at hrun;have HR:=hid hrun.symm;have ki:r.2.length=st'.length+1:=by rw[HR.out];simp
   simp only[qF,qAp]at j7;have k1:sn<=127:=by omega
   have kh:=j7.1;clear hrun j7;go_wp2_with (first
    |(refine wpList_load_mid rfl 69 _ rfl g (K.length*2) rfl [.bool false,.int .i64 sn] _ RG.out Tryz.underlying69 rfl szSy2 ?_))
   have FW:Hid (∀o:Obj,Q0a W1 (W1.alloc o).drew):=fun o=>((mRf _ W1).alloc o).drew;obtain⟨v',w2,hrun,hown,hgrow,hblk⟩:=z2y (P:=Tryz.prog) (W1.alloc (.cells #[.bool true,.int .i8 sn] 141)).drew B 72 72 141 is _ 2 2 Tryz.underlying72 his sz0 sz1 sz2 rfl (by decide) (.slice sa st'.length sc) st'.length (Q00 St.cells st') (z0c jj.out (fun g hg=>(FW.out _).block g (jj.lt g hg).2 (fun x=>x))) ⟨W1.heap.size,0,none⟩ 1 1 [.bool true,.int .i8 sn] rfl (z0l rfl) (by intro u hu;simp at hu;rcases hu with rfl|rfl<;>rfl) (by unfold maxLen;omega) (by omega) (by simp[World.drew];omega);have HB:=j9.grown5 (FW.out _) hgrow;have k6:w2.cell? ⟨b,5,none⟩=some (.slice sa st'.length sc):=(Q0b HB 5);have k7:=Q0g HB 5;have jv:=hid hown;have jp:=hid hgrow;have jn:=hid hblk;obtain⟨a',cap',hv'⟩:=z0d hown;clear hown hgrow hblk HB hW1;subst hv';go_region;all_goals
    obtain⟨G3,U3⟩:=j9.step (x:=⟨true,sn⟩) (FW.out _) jv.out jp.out jn.out;generalize hWW:w2.setCell _ _=W3 at G3 U3 ⊢;have jq:=hid G3;have jy:=hid U3;clear G3 U3 hWW k6 k7 hrun;go_wp2;exact bodyPost_ret (results_none rfl _ _ _) rfl ⟨rfl,_,_,by rw[HR.out];exact jq.out,Mod.trans j2.out (Mod.trans j1.out jy.out)⟩
  simp only[qBb]at j7;obtain⟨n,rfl⟩:∃n:Nat,sn=n:=⟨sn.toNat,by omega⟩;have ke:n<8:=by omega
  have jl:chL L n t=L.getD (n*9+t) 0:=by
   unfold chL;rw[qAb ⟨by omega,by omega,ht⟩,qAl]
  rw[gTo,qAa (by simp)]at hrun;simp only[jl]at hrun;by_cases hc0:0<=L.getD (n*9+t) 0
  ·rw[qAb hc0]at hrun;obtain⟨i,hi⟩:∃i:Nat,L.getD (n*9+t) 0=i:=⟨(L.getD (n*9+t) 0).toNat,by omega⟩;rw[hi,qAl]at hrun;cases hpi:(Q0j ps)[i]? with
   |none=>rw[hpi]at hrun;cases hrun
   |some p =>
    rw[hpi]at hrun;simp only[]at hrun;have k8:i<ps.length:=by
     have:=(qS hpi).1;simpa [Q0j]using this
    have jm:ps[i].pr=p:=by
     have:=(qS hpi).2;simpa [Q0j]using this
    have kg:st'.length+1<=r.2.length:=by have:=y1y _ _ _ _ hrun;simpa using this
    have CH:Hid (∀W:World,W.heap[gb]? = some (.cells (gdA fp L) 128 (0,0))->Calls Tryz.prog 57 #[Q25 gb,.int .i64 n,.int .i64 t] W fun e w'=>e=.returned (.int .i64 i)/\w'=W):=fun W hW=>by
     have:=y9m W gb fp L ja.len hW n t ke ht;rw[hi]at this;exact this
    have jw:=hid jm;have j4:=hid hrun;have kf:=(jk.out ps[i] (by simp)).1;have jf:=hid (jk.out ps[i] (by simp)).2;have k2:=j1.size;have OP:Hid (∀W:World,Q0a W1 W->Calls Tryz.prog 58 #[Q25 b,.int .i64 i] W fun e w'=>e=.returned (.tuple #[])/\∃vk' vs',GA w' b B R H vp (Q25 gb) vk' vs' (ps[i].pr.syms++K) (st'++[⟨false,i⟩])/\UpB B W w'):=fun W hW =>
     x6s W b B R H vp (Q25 gb) _ _ K st' ps i (j9.fresh hW) ((HP.kept hB (Mod.trans j2.out j1.out) (fun j h1 h2=>by omega)).kept (by have:=j2.size;omega) hW (fun _ _ x=>x)) k8 hps (by omega) kd kf (by have:=hW.size;omega)
    clear hrun hpi hc0 hi jl jm j7;go_wp2_with (first
     |(refine wpList_load_mid rfl 69 _ rfl g (K.length*2) rfl [.bool true,.int .i64 n] _ RG.out Tryz.underlying69 rfl szSy2 ?_))
    clear hW1;go_quiet (first
     |(go_at_call 57;refine Calls.quiet_of_same (CH.out _ jb.out)))
    go_wp2_with (first
     |(go_at_call 58;refine(OP.out _ (Q32 W1 _)).mono ?_;rintro e w'⟨rfl,vk2,vs2,hG2,hU2⟩;have ji:=hid hG2;have k0:=hid hU2;clear hG2 hU2))
    have jz:Hid (UpB B w w'):=Mod.trans j2.out (Mod.trans j1.out (Mod.trans ((Q32 W1 nq).mono (fun _ _ x=>x.elim)) k0.out));go_roundw
    case rel =>
     refine⟨f,ps[i].pr.syms++K,st'++[⟨false,i⟩],vk2,vs2,?_,ji.out,jz.out,?_,?_⟩
     ·rw[jw.out];exact j4.out
     ·intro x hx;rcases qBj.1 hx with hx|hx
      ·exact jf.out x hx
      exact js.out x hx
     have:=jc.out;simp only[qP,qAf];omega
    rw[ji.stW,jh.stW,qP,qAf];omega
  rw[qAa hc0]at hrun;cases hrun
def hdOr(l:List Int):Int:=match l with
 | []=>-1
 |a::_=>a
def chT(z:List (Pr × List Bool))(j:Nat):Int:=hdOr (ovL ((j / 9:Nat):Int) ((j % 9:Nat):Int) z 0)
def Q53(z:List (Pr × List Bool))(j:Nat):List Int:=(List.range j).map (chT z)++List.replicate (72-j) 0
theorem z8c(z:List (Pr × List Bool)){j:Nat}(h:j<=72):(Q53 z j).length=72:=by simp[Q53];omega
theorem x7n(z:List (Pr × List Bool)){j:Nat}(h:j<72):(Q53 z j).set j (chT z j)=Q53 z (j+1):=by
 unfold Q53;rw[qCy _ _ (by simp)];simp only[qAo,List.length_range,qCu];rw[show 72-j=(72-(j+1))+1 by omega,List.replicate_succ,qEn,List.range_succ,qBf,qAh];rfl
theorem v0v(z:List (Pr × List Bool)){n t:Nat}(hn:n<8)(ht:t<9):(Q53 z 72).getD (n*9+t) 0=hdOr (ovL (n:Int) (t:Int) z 0):=by
 have h1:n*9+t<72:=by omega
 unfold Q53;simp only[qCu,List.replicate_zero,qAt];rw[qD,qBe,qEg h1];simp only[qCz,qDa,chT];rw[show(n*9+t) / 9=n by omega,show(n*9+t) % 9=t by omega]
theorem x8a(fp:Value)(L:List Int)(j:Nat)(v:Int):(gdA fp L).setIfInBounds (1+j) (.int .i64 v)=gdA fp (L.set j v):=by
 unfold gdA;rw[Nat.add_comm];simp[qDy]
theorem x55:Tryz.zeroCells128.toList.drop 1=Q5w (List.replicate 72 0):=by kernel_rfl
theorem x9j(b:Nat):Tryz.zeroCells128.setIfInBounds 0 (Q25 b)=gdA (Q25 b) (List.replicate 72 0):=by
 apply Array.ext';unfold gdA;rw[Array.toList_setIfInBounds];have h:=x55;cases hq:Tryz.zeroCells128.toList with
 |nil=>rw[hq]at h;simp at h
 |cons x l=>rw[hq]at h;simp only[List.drop_succ_cons,qDe]at h;rw[h];rfl
theorem y4l(w:World)(R H:Nat)(vp:Value)(ps:List PV)(hp:Q3c w w.heap.size vp ps)(hps:ps.length<=1000)(hH:H<=1000)(hR:R<=1000)(hok:∀x∈Q3w (Q0j ps) (Q0v R H),x.ok) :
  Calls Tryz.prog 22 #[.agg #[.int .i64 R,.int .i64 H,vp]] w fun e w'=>∃gb fb vh,e=.returned (Q25 gb)/\Q0a w w' /\
   w'.heap[gb]? = some (.cells (gdA (Q25 fb) (Q53 ((Q0j ps).zip (Q0p (Q3w (Q0j ps) (Q0v R H)) (Q0j ps))) 72)) 128 (0,0))/\FA w' fb R H vp vh ps (Q3w (Q0j ps) (Q0v R H)):=by
 obtain⟨pa,pc,hvp⟩:=z0d hp.row.own;subst hvp;have HP:=hid hp;have FI:=hid (y3u (w.alloc (.cells #[.int .i64 R,.int .i64 H,.slice pa ps.length pc] 41 (0,0))) R H (.slice pa ps.length pc) ps ((hp.kept (qR _) ((mRf (fun _=>False) w).alloc _) (fun _ _ x=>x)).up (by simp)) hps hH hR);generalize Q3w (Q0j ps) (Q0v R H)=AL at FI hok;have jq:((Q0j ps).zip (Q0p AL (Q0j ps))).length<=1000:=by simp[Q0p,Q0j];omega
 have ji:(Q0p AL (Q0j ps)).length=ps.length:=by simp[Q0p,Q0j]
 have jh:∀a∈Q0p AL (Q0j ps),a.length=9:=fun a ha=>by
  obtain⟨p,_,rfl⟩:=qBp.1 ha;exact z3d hok _ _
 generalize hz:(Q0j ps).zip (Q0p AL (Q0j ps))=z at jq ⊢;have HZ:=hid hz;clear hp hok hz;go_enter Tryz.func22,Tryz.ntmps22
 go_wp2_with (first
  |(go_at_call 51;refine(z55 w1 b R H (.slice pa ps.length pc) vh ps AL hF1 hps).mono ?_;rintro e w2⟨va,rfl,hf2,hoa⟩)
  |(go_at_call 50;refine FI.mono ?_;rintro e w1⟨b,vh,rfl,j0,hF1⟩))
 have jb:=hid (hf2.at (j0.at (z0a _ _) (fun x=>x)) (fun x=>x));have j3:Hid (Q0a w w2):=Mod.trans ((mRf _ w).alloc _) (j0.trans hf2);have jk:=hid (hF1.fresh hf2);have PO:=hid (fun(W:World) (hW:Q0a w2 W) (n t:Nat)=>z6g W R H (.slice pa ps.length pc) ps ((HP.kept (qR _) (j3.trans hW) (fun _ _ x=>x)).up ((j3.trans hW).size)) hps _ (Q0p AL (Q0j ps)) _ (z0c hoa (fun g hg=>hW.block g (hoa.lt g hg).2 (fun x=>x))) ji jh (n:Int) (t:Int));have jy:=hf2.size;have jz:=j3.size;have jx:w.heap.size<w2.heap.size:=z0j jb.out;rw[HZ.out]at PO;clear hoa hF1 j0 hf2 FI ji jh;have je:=hid (x9j b);generalize Tryz.zeroCells128.setIfInBounds 0 (Q25 b)=GZ at je ⊢;go_loopw [16] (fun x16 wr=>∃(n:Nat),x16=.int .i64 n/\n<=8/\Q0a w2 wr/\wr.heap[w2.heap.size]? = some (.cells (gdA (Q25 b) (Q53 z (n*9))) 128 (0,0)))
   (fun x _=>9-(intOf x).toNat)
 case atStart=>exact⟨0,rfl,by omega,(mRf _ w2).alloc _,by rw[z0a,je.out];rfl⟩
 obtain⟨n,rfl,hn,hfr,hgb⟩:=hrel;have jn:=hid (Q15 (B:=9) n (by omega));have j5:=hid hfr;have jd:=hid hgb;clear hfr hgb;by_cases hlt:n<8
 ·have js:(n:Int)<8:=by omega
  go_wp2;obtain⟨wn,hwn⟩:∃wn,wn=wr:=⟨_,rfl⟩;subst hwn;go_loopw [19] (fun x19 wr=>∃(t:Nat),x19=.int .i64 t/\t<=9/\Q0a w2 wr/\wr.heap[w2.heap.size]? = some (.cells (gdA (Q25 b) (Q53 z (n*9+t))) 128 (0,0)))
    (fun x _=>10-(intOf x).toNat)
  case atStart=>exact⟨0,rfl,by omega,j5.out,jd.out⟩
  obtain⟨t,rfl,ht,hfr,hgb⟩:=hrel;have jf:=hid (Q15 (B:=10) t (by omega));have jl:=hid hfr;have jm:=hid hgb;by_cases hlt2:t<9
  ·have ju:(t:Int)<9:=by omega
   have hj:n*9+t<72:=by omega
   have c1:wr.cell? ⟨w2.heap.size,1+n*9+t,none⟩=some (.int .i64 ((Q53 z (n*9+t)).getD (n*9+t) 0)):=by
    rw[Q0b hgb,qCm,x9i (by rw[z8c _ (by omega)];omega)]
   have z1:=Q0g hgb (1+n*9+t);generalize(Q53 z (n*9+t)).getD (n*9+t) 0=V0 at c1;have j8:(wr.setCell ⟨w2.heap.size,1+n*9+t,none⟩ (.int .i64 (-1))).heap[w2.heap.size]? = some (.cells (gdA (Q25 b) ((Q53 z (n*9+t)).set (n*9+t) (-1))) 128 (0,0)):=by
    rw[zhs hgb,qCm,x8a]
   have j0:Q0a w2 (wr.setCell ⟨w2.heap.size,1+n*9+t,none⟩ (.int .i64 (-1))):=hfr.setCell (fun h=>absurd h (qBk _)) _;have j1:∀v,((Q53 z (n*9+t)).set (n*9+t) (-1)).set (n*9+t) v=(Q53 z (n*9+t)).set (n*9+t) v:=fun v=>List.set_set _;have jo:=hid j1;have j6:Hid ((Q53 z (n*9+t)).set (n*9+t) (hdOr (ovL (n:Int) (t:Int) z 0))=Q53 z (n*9+t+1)):=by
    have:=x7n z hj;unfold chT at this;rw[show(n*9+t) / 9=n by omega,show(n*9+t) % 9=t by omega]at this;exact this
   have jr:((Q53 z (n*9+t)).set (n*9+t) (-1)).length=72:=by rw[qBd,z8c _ (by omega)]
   clear j1;generalize hWW:wr.setCell ⟨w2.heap.size,1+n*9+t,none⟩ (.int .i64 (-1))=W1 at j8 j0;have ja:=hid j8;have jc:=hid j0;have j7:=hid (PO.out W1 j0 n t);have j9:=hid (j0.at jb.out (fun x=>x));generalize ovL (n:Int) (t:Int) z 0=able at j7 j6;clear hfr hgb j0 j8;have t0:=Q0b j9.out 0;have t1:=Q0b j9.out 1;have t2:=Q0b j9.out 2;simp at t0 t1 t2;cases able with
   |nil =>
    go_wp2_with (first
     |(go_at_call 52;refine j7.mono ?_;rintro e w3⟨v8,rfl,hf3,ho8⟩;obtain⟨a8,c8,e8⟩:=z0d ho8;simp only[qDp]at e8;subst e8;have j2:=hid hf3;clear ho8 hf3 hWW))
    go_roundw
    case rel =>
     refine⟨t+1,by go_num,by omega,jc.trans j2.out,?_⟩;rw[← qCm,← j6.out];exact j2.at ja.out (fun x=>x)
    exact jf.out
   |cons a r =>
    have jt:(0:Int)<(r.length:Int)+1:=by omega
    go_wp2_with (first
     |(go_at_call 52;refine j7.mono ?_;rintro e w3⟨v8,rfl,hf3,ho8⟩;obtain⟨a8,c8,e8⟩:=z0d ho8;simp only[qAy]at e8;subst e8;have jg:=hid ho8;have j2:=hid hf3;clear ho8 hf3 hWW))
    obtain⟨g8,c8',hv8⟩:=Joins.ownsRow_form jg.out (by simp);rw[qI]at hv8;obtain⟨rfl,hx8,rfl⟩:=hv8;clear hx8;have d0:w3.cell? ⟨g8,0,none⟩=some (.int .i64 a):=z4l jg.out 0 (by simp);have j4:=j2.at ja.out (fun x=>x);have d1:w3.cell? ⟨w2.heap.size,1+n*9+t,none⟩=some (.int .i64 (((Q53 z (n*9+t)).set (n*9+t) (-1)).getD (n*9+t) 0)):=by
     rw[Q0b j4,qCm,x9i (by omega)]
    have y1:=Q0g j4 (1+n*9+t);have jj:=hid j4;generalize((Q53 z (n*9+t)).set (n*9+t) (-1)).getD (n*9+t) 0=V1 at d1;clear j4;go_region;all_goals
     go_wp2;go_roundw
     case rel =>
      refine⟨t+1,by go_num,by omega,?_,?_⟩
      ·exact((jc.trans j2.out).setCell (fun h=>absurd h (qBk _)) _).drew
      rw[← qCm,← j6.out];show(w3.setCell _ _).heap[w2.heap.size]? = _;rw[zhs jj.out,qCm,x8a,jo.out];rfl
     exact jf.out
  have jw:t=9:=by omega
  have jv:¬((t:Int)<9):=by omega
  clear hfr hgb;go_wp2;go_roundw
  case rel=>exact⟨n+1,by go_num,by omega,jl.out,by rw[show(n+1)*9=n*9+t by omega];exact jm.out⟩
  exact jn.out
 have jp:n=8:=by omega
 subst jp;go_wp2;go_ret;exact⟨_,b,vh,rfl,j3.trans j5.out,jd.out,jk.fresh j5.out⟩
end Go.Proofs.YtcpceafmlgaodaaGreat
