import Derived.Test.YtbdpfmalabgmbaaGreatTw2
namespace Go.Proofs.YtbdpfmalabgmbaaGreat
open Go.RowKit
set_option maxRecDepth 99999
set_option maxHeartbeats 0
set_option linter.all false
def lenV(v:Value):Nat:=match v with
 | .slice _ n _=>n
 |_=>0
def stW(b:Nat)(w:World):Nat:=match w.heap[b]? with
 |some (.cells c _ _)=>lenV (c.getD 5 undef)
 |_=>0
theorem GA.stW{w:World}{b B:Nat}{R H:Int}{vp vg vk vs:Value}{k:List Sy}{st:List St}(h:GA w b B R H vp vg vk vs k st):stW b w=st.length:=by
 obtain⟨a,c,hv⟩:=z0c h.ss;unfold Proofs.YtbdpfmalabgmbaaGreat.stW;rw[h.blk,hv];rfl
structure GdAt(w:World)(gb B:Nat)(fp:Value)(L:List Int):Prop where
 lt:gb<B
 blk:w.heap[gb]? = some (.cells (gdA fp L) 145 (0,0))
 len:L.length=72
theorem GdAt.up{w w':World}{gb B:Nat}{fp:Value}{L:List Int}(h:GdAt w gb B fp L)(hu:UpB B w w'):GdAt w' gb B fp L :=
 ⟨h.lt,by rw[hu.block gb (z0j h.blk) (by have:=h.lt;omega)];exact h.blk,h.len⟩
def chL(L:List Int)(X:Int)(t:Nat):Int:=if 0<=X/\X<8/\t<9 then L.getD (X.toNat*9+t) 0 else -1
def Q3d(R H:Int)(k:List Sy):Prop:=∀s∈k,0<=s.num/\s.num<(if s.isH then H else R)
attribute [local go_sem ↓] y8y
attribute [local go_sem ↓] z17
theorem y1d(w:World)(b B gb:Nat)(fp:Value)(L:List Int)(R H:Nat)(vp vk vs:Value)(k:List Sy)(st:List St)(ps:List PV)(t F:Nat)(r:List Sy × List St)
  (h:GA w b B R H vp (Q3c gb) vk vs k st) (hgd:GdAt w gb B fp L) (hp:Q2e w B vp ps) (hps:ps.length<=100) (hsy:∀p∈ps,p.pr.syms.length<=6/\Q3d R H p.pr.syms) (hk0:Q3d R H k)
  (hR:R<=8) (hH:H<=8) (ht:t<9) (hB:B<=w.heap.size) (hrun:gTo (Q0k ps) (chL L) t F k st=some r) (hrl:r.2.length<=1000000000000) (hkl:k.length+6*r.2.length<=100000000000+6*st.length) :
  Calls Tryz.prog 38 #[Q3c b,.int .i64 t] w fun e w'=>e=.returned (.tuple #[])/\∃vk' vs',GA w' b B R H vp (Q3c gb) vk' vs' r.1 r.2/\UpB B w w':=by
 obtain⟨is,km,kw,kx,ky⟩:=infoSt';have jz:=hid h;have jf:=hid hgd;have HP:=hid hp;have jt:=hid hsy;have k9:=hid hrl;have ji:=hid hrun;have k5:=hid hkl;have k2:=hid hk0;have x4:=h.lt;have x5:=h.lo;clear h hgd hp hsy hrl hrun hkl hk0;go_enter Tryz.func38,Tryz.ntmps38
 go_wp2;go_loopw [4,5,6] (fun _ _ _ wr=>∃(f:Nat) (k':List Sy) (j0:List St) (vk' vs':Value),gTo (Q0k ps) (chL L) t f k' j0=some r/\GA wr b B R H vp (Q3c gb) vk' vs' k' j0/\UpB B w wr/\Q3d R H k'/\k'.length+6*r.2.length<=100000000000+6*j0.length)
   (fun _ _ _ wr=>r.2.length+1-stW b wr)
 case atStart=>exact⟨F,k,st,vk,vs,ji.out,jz.out,mRf _ w,k2.out,k5.out⟩
 obtain⟨f,k',j0,vk',vs',hrun,hG,hU,jk,jl⟩:=hrel;have x8:j0.length<=r.2.length:=y2g _ _ _ _ hrun;have hrl:=k9.out;obtain⟨f,rfl⟩:∃f',f=f'+1:=by
  cases f with
  |zero=>cases hrun
  |succ f=>exact⟨f,rfl⟩
 have j2:=hG.ks;unfold SyOwn at j2;rw[qEr]at j2;obtain⟨ka,kc,ku⟩:=z0c j2;subst ku;have k4:=hG.cell 4;simp at k4;have xa:=hG.lt;have x9:B<=wr.heap.size:=by have:=hU.size;omega
 have j7:=hid hU;have jq:=hid hG;cases k' with
 |nil =>
  have hr:r=([],j0):=by simpa [gTo]using hrun.symm
  simp only[qEq]at k4;have HR:=hid hr;clear hr hrun hG hU j2;go_wp2;exact qFf (qDe rfl _ _ _) rfl ⟨rfl,_,vs',by rw[HR.out];exact jq.out,j7.out⟩
 |cons s K =>
  obtain⟨sh,sn⟩:=s;have jb:=jk ⟨sh,sn⟩ (by simp);have k3:Hid (Q3d R H K):=fun x hx=>jk x (by simp[hx]);have kp:K.length<=100000000000:=by simp at jl;omega
  have jh:Hid (K.length+1+6*r.2.length<=100000000000+6*j0.length):=by unfold Hid;simpa using jl
  simp only[qBk]at k4 j2;have ko:((K.length:Int)+1-1)=(K.length:Int):=by omega
  obtain⟨g,jj,jd⟩:=Joins.ownsRow_form j2 (by omega);rw[qI]at jd;obtain⟨rfl,_,rfl⟩:=jd;have x7:K.length+1<=kc:=by
   rcases j2.2 with⟨h1,_⟩|⟨g',c',x1,h1,_,_,h2,_⟩
   ·cases h1
   rw[qI]at h1;obtain⟨_,_,rfl⟩:=h1;exact h2
  have kn:(K.length:Int)<=(kc:Int):=by omega
  have RG:Hid (wr.rangeAt g (K.length*2) [.bool sh,.int .i64 sn]):=by
   have jp:Q18 Sy.cells 2 93 wr (.slice (some ⟨g,0,none⟩) (K.length+1) kc) (K.reverse++[⟨sh,sn⟩]):=⟨by
    have:=z0g j2 (qBq B);rw[qP,qAj,qEr];simpa using this,fun _ _=>rfl⟩
   have:=jp.range K.length (by simp);unfold Hid;simpa [Sy.cells]using this
  have jc:=hG.fresh ((mRf _ wr).alloc (.cells #[.bool sh,.int .i64 sn] 93 (0,0)));obtain⟨G1,U1⟩:=GA.pop (ao:=some ⟨g,0,none⟩) (cap:=kc) jc;have z4:=jc.frozen 4;have y4:=jc.cell 4;simp at y4;generalize hW1:(wr.alloc (.cells #[.bool sh,.int .i64 sn] 93 (0,0))).setCell ⟨b,4,none⟩ (.slice (some ⟨g,0,none⟩) K.length kc)=W1 at G1 U1;have jm:W1.heap[wr.heap.size]? = some (.cells #[.bool sh,.int .i64 sn] 93 (0,0)):=by
   rw[← hW1,Proofs.YtbdpfmalabgmbaaGreat.heap_setCell_other _ (by simp;omega)];exact z0a _ _
  have c0:=Q0b jm 0;have c1:=Q0b jm 1;simp at c0 c1;have je:=hid G1;have j6:Hid (UpB B wr W1):=Mod.trans ((mRf _ wr).alloc _) U1;have kh:B<=W1.heap.size:=by have:=j6.size;omega
  have ki:=G1.lt;have k6:Hid (j0.length<r.2.length->True):=fun _=>trivial;obtain⟨sa,sc,kv⟩:=z0c G1.ss;subst kv;have j5:=G1.cell 5;have j3:=G1.cell 3;simp at j5 j3;have z5:=G1.frozen 5;have js:=hid G1.ss;have x6:=jf.lt;have ja:W1.heap[gb]? = some (.cells (gdA fp L) 145 (0,0)):=(jf.up (Mod.trans j7.out j6.out)).blk;have jg:=hid ja;clear G1 U1 jc hG hU j2 jm jk jl k6 ja;cases sh
  ·simp only[gTo,qBn,qO]at hrun;have HR:=hid hrun.symm;have x3:r.2.length=j0.length+1:=by rw[HR.out];simp
   simp only[qF,qAz]at jb;have kf:sn<=127:=by omega
   have x2:=jb.1;clear hrun jb;go_wp2_with (first
    |(refine qAe rfl 93 _ rfl g (K.length*2) rfl [.bool false,.int .i64 sn] _ RG.out qCf rfl szSy2 ?_))
   have FW:Hid (∀o:Obj,Q0a W1 (W1.alloc o).drew):=fun o=>((mRf _ W1).alloc o).drew;obtain⟨v',w2,hrun,j4,j1,j9⟩:=z24 (P:=Tryz.prog) (W1.alloc (.cells #[.bool true,.int .i8 sn] 158)).drew B 95 95 158 is _ 2 2 Tryz.underlying95 km kw kx ky rfl (by decide) (.slice sa j0.length sc) j0.length (Q0y St.cells j0) (z0d js.out (fun g hg=>(FW.out _).block g (js.lt g hg).2 id)) ⟨W1.heap.size,0,none⟩ 1 1 [.bool true,.int .i8 sn] rfl (z0m rfl) (by intro u hu;simp at hu;rcases hu with rfl|rfl<;>rfl) (by unfold maxLen;omega) (by omega) (by simp[World.drew];omega);have HB:=je.grown5 (FW.out _) j1;have kj:w2.cell? ⟨b,5,none⟩=some (.slice sa j0.length sc):=(Q0b HB 5);have kk:=Q0f HB 5;have k7:=hid j4;have k0:=hid j1;have jy:=hid j9;obtain⟨a',jj,jd⟩:=z0c j4;clear j4 j1 j9 HB hW1;subst jd;go_region;all_goals
    obtain⟨G3,U3⟩:=je.step (x:=⟨true,sn⟩) (FW.out _) k7.out k0.out jy.out;generalize hWW:w2.setCell _ _=W3 at G3 U3 ⊢;have k1:=hid G3;have kb:=hid U3;clear G3 U3 hWW kj kk hrun;go_wp2;exact qAc (qDe rfl _ _ _) rfl ⟨rfl,_,_,by rw[HR.out];exact k1.out,Mod.trans j7.out (Mod.trans j6.out kb.out)⟩
  simp only[qBn]at jb;obtain⟨n,rfl⟩:∃n:Nat,sn=n:=⟨sn.toNat,by omega⟩;have kq:n<8:=by omega
  have jw:chL L n t=L.getD (n*9+t) 0:=by
   unfold chL;rw[qAb ⟨by omega,by omega,ht⟩,qAo]
  rw[gTo,qAa (by simp)]at hrun;simp only[jw]at hrun;by_cases jn:0<=L.getD (n*9+t) 0
  ·rw[qAb jn]at hrun;obtain⟨i,hi⟩:∃i:Nat,L.getD (n*9+t) 0=i:=⟨(L.getD (n*9+t) 0).toNat,by omega⟩;rw[hi,qAo]at hrun;cases hpi:(Q0k ps)[i]? with
   |none=>rw[hpi]at hrun;cases hrun
   |some p =>
    rw[hpi]at hrun;simp only[]at hrun;have kl:i<ps.length:=by
     have:=(qS hpi).1;simpa [Q0k]using this
    have jx:ps[i].pr=p:=by
     have:=(qS hpi).2;simpa [Q0k]using this
    have kt:j0.length+1<=r.2.length:=by have:=y2g _ _ _ _ hrun;simpa using this
    have CH:Hid (∀W:World,W.heap[gb]? = some (.cells (gdA fp L) 145 (0,0))->Calls Tryz.prog 68 #[Q3c gb,.int .i64 n,.int .i64 t] W fun e w'=>e=.returned (.int .i64 i)/\w'=W):=fun W hW=>by
     have:=x0c W gb fp L jf.len hW n t kq ht;rw[hi]at this;exact this
    have k8:=hid jx;have j8:=hid hrun;have kr:=(jt.out ps[i] (by simp)).1;have jo:=hid (jt.out ps[i] (by simp)).2;have kg:=j6.size;have OP:Hid (∀W:World,Q0a W1 W->Calls Tryz.prog 69 #[Q3c b,.int .i64 i] W fun e w'=>e=.returned (.tuple #[])/\∃vk' vs',GA w' b B R H vp (Q3c gb) vk' vs' (ps[i].pr.syms++K) (j0++[⟨false,i⟩])/\UpB B W w'):=fun W hW =>
     x68 W b B R H vp (Q3c gb) _ _ K j0 ps i (je.fresh hW) ((HP.kept hB (Mod.trans j7.out j6.out) (fun j h1 h2=>by omega)).kept (by have:=j7.size;omega) hW (fun _ _ x=>x)) kl hps (by omega) kp kr (by have:=hW.size;omega)
    clear hrun hpi jn hi jw jx jb;go_wp2_with (first
     |(refine qAe rfl 93 _ rfl g (K.length*2) rfl [.bool true,.int .i64 n] _ RG.out qCf rfl szSy2 ?_))
    clear hW1;go_quiet (first
     |(go_at_call 68;refine Calls.quiet_of_same (CH.out _ jg.out)))
    go_wp2_with (first
     |(go_at_call 69;refine(OP.out _ (Q39 W1 _)).mono ?_;rintro e w'⟨rfl,kz,x0,ju,jv⟩;have jr:=hid ju;have ke:=hid jv;clear ju jv))
    have kd:Hid (UpB B w w'):=Mod.trans j7.out (Mod.trans j6.out (Mod.trans ((Q39 W1 nq).mono (fun _ _ x=>x.elim)) ke.out));go_roundw
    case rel =>
     refine⟨f,ps[i].pr.syms++K,j0++[⟨false,i⟩],kz,x0,?_,jr.out,kd.out,?_,?_⟩
     ·rw[k8.out];exact j8.out
     ·intro x hx;rcases qBs.1 hx with hx|hx
      ·exact jo.out x hx
      exact k3.out x hx
     have:=jh.out;simp only[qP,qAj];omega
    rw[jr.stW,jq.stW,qP,qAj];omega
  rw[qAa jn]at hrun;cases hrun
def hdOr(l:List Int):Int:=match l with
 | []=>-1
 |a::_=>a
def chT(z:List (Pr × List Bool))(j:Nat):Int:=hdOr (ovL ((j / 9:Nat):Int) ((j % 9:Nat):Int) z 0)
def Q6d(z:List (Pr × List Bool))(j:Nat):List Int:=(List.range j).map (chT z)++List.replicate (72-j) 0
theorem z8m(z:List (Pr × List Bool)){j:Nat}(h:j<=72):(Q6d z j).length=72:=by simp[Q6d];omega
theorem x77(z:List (Pr × List Bool)){j:Nat}(h:j<72):(Q6d z j).set j (chT z j)=Q6d z (j+1):=by
 unfold Q6d;rw[qFa _ _ (by simp)];simp only[qAv,List.length_range,qEm];rw[show 72-j=(72-(j+1))+1 by omega,List.replicate_succ,List.set_cons_zero,List.range_succ,qBp,qAs];rfl
theorem v1q(z:List (Pr × List Bool)){n t:Nat}(hn:n<8)(ht:t<9):(Q6d z 72).getD (n*9+t) 0=hdOr (ovL (n:Int) (t:Int) z 0):=by
 have h1:n*9+t<72:=by omega
 unfold Q6d;simp only[qEm,List.replicate_zero,qBd];rw[qD,qBt,qFp h1];simp only[qDw,qDy,chT];rw[show(n*9+t) / 9=n by omega,show(n*9+t) % 9=t by omega]
theorem x8y(fp:Value)(L:List Int)(j:Nat)(v:Int):(gdA fp L).setIfInBounds (1+j) (.int .i64 v)=gdA fp (L.set j v):=by
 unfold gdA;rw[Nat.add_comm];simp[qFr]
theorem x6m:Tryz.zeroCells145.toList.drop 1=Q9p (List.replicate 72 0):=by kernel_rfl
theorem v0a(b:Nat):Tryz.zeroCells145.setIfInBounds 0 (Q3c b)=gdA (Q3c b) (List.replicate 72 0):=by
 apply Array.ext';unfold gdA;rw[Array.toList_setIfInBounds];have h:=x6m;cases hq:Tryz.zeroCells145.toList with
 |nil=>rw[hq]at h;simp at h
 |cons x l=>rw[hq]at h;simp only[List.drop_succ_cons,qEc]at h;rw[h];rfl
theorem y44(w:World)(R H:Nat)(vp:Value)(ps:List PV)(hp:Q2e w w.heap.size vp ps)(hps:ps.length<=1000)(hH:H<=1000)(hR:R<=1000)(hok:∀x∈Q33 (Q0k ps) (Q0z R H),x.ok) :
  Calls Tryz.prog 35 #[.agg #[.int .i64 R,.int .i64 H,vp]] w fun e w'=>∃gb fb vh,e=.returned (Q3c gb)/\Q0a w w' /\
   w'.heap[gb]? = some (.cells (gdA (Q3c fb) (Q6d ((Q0k ps).zip (Q0r (Q33 (Q0k ps) (Q0z R H)) (Q0k ps))) 72)) 145 (0,0))/\FA w' fb R H vp vh ps (Q33 (Q0k ps) (Q0z R H)):=by
 obtain⟨pa,pc,jz⟩:=z0c hp.row.own;subst jz;have HP:=hid hp;have FI:=hid (y4c (w.alloc (.cells #[.int .i64 R,.int .i64 H,.slice pa ps.length pc] 42 (0,0))) R H (.slice pa ps.length pc) ps ((hp.kept (qR _) ((mRf (fun _=>False) w).alloc _) (fun _ _ x=>x)).up (by simp)) hps hH hR);generalize Q33 (Q0k ps) (Q0z R H)=AL at FI hok;have k2:((Q0k ps).zip (Q0r AL (Q0k ps))).length<=1000:=by simp[Q0r,Q0k];omega
 have jp:(Q0r AL (Q0k ps)).length=ps.length:=by simp[Q0r,Q0k]
 have jo:∀a∈Q0r AL (Q0k ps),a.length=9:=fun a ha=>by
  obtain⟨p,_,rfl⟩:=qBj.1 ha;exact z3j hok _ _
 generalize hz:(Q0k ps).zip (Q0r AL (Q0k ps))=z at k2 ⊢;have HZ:=hid hz;clear hp hok hz;go_enter Tryz.func35,Tryz.ntmps35
 go_wp2_with (first
  |(go_at_call 62;refine(z6e w1 b R H (.slice pa ps.length pc) vh ps AL jd hps).mono ?_;rintro e w2⟨va,rfl,j6,jg⟩)
  |(go_at_call 61;refine FI.mono ?_;rintro e w1⟨b,vh,rfl,j0,jd⟩))
 have ji:=hid (j6.at (j0.at (z0a _ _) id) id);have j8:Hid (Q0a w w2):=Mod.trans ((mRf _ w).alloc _) (j0.trans j6);have js:=hid (jd.fresh j6);have PO:=hid (fun(W:World) (hW:Q0a w2 W) (n t:Nat)=>z6p W R H (.slice pa ps.length pc) ps ((HP.kept (qR _) (j8.trans hW) (fun _ _ x=>x)).up ((j8.trans hW).size)) hps _ (Q0r AL (Q0k ps)) _ (z0d jg (fun g hg=>hW.block g (jg.lt g hg).2 id)) jp jo (n:Int) (t:Int));have kc:=j6.size;have kd:=j8.size;have kb:w.heap.size<w2.heap.size:=z0j ji.out;rw[HZ.out]at PO;clear jg jd j0 j6 FI jp jo;have jl:=hid (v0a b);generalize Tryz.zeroCells145.setIfInBounds 0 (Q3c b)=GZ at jl ⊢;go_loopw [16] (fun x16 wr=>∃(n:Nat),x16=.int .i64 n/\n<=8/\Q0a w2 wr/\wr.heap[w2.heap.size]? = some (.cells (gdA (Q3c b) (Q6d z (n*9))) 145 (0,0)))
   (fun x _=>9-(intOf x).toNat)
 case atStart=>exact⟨0,rfl,by omega,(mRf _ w2).alloc _,by rw[z0a,jl.out];rfl⟩
 obtain⟨n,rfl,hn,j3,j1⟩:=hrel;have jv:=hid (Q19 (B:=9) n (by omega));have ja:=hid j3;have jk:=hid j1;clear j3 j1;by_cases k5:n<8
 ·have k6:(n:Int)<8:=by omega
  go_wp2;obtain⟨wn,k0⟩:∃wn,wn=wr:=⟨_,rfl⟩;subst k0;go_loopw [19] (fun x19 wr=>∃(t:Nat),x19=.int .i64 t/\t<=9/\Q0a w2 wr/\wr.heap[w2.heap.size]? = some (.cells (gdA (Q3c b) (Q6d z (n*9+t))) 145 (0,0)))
    (fun x _=>10-(intOf x).toNat)
  case atStart=>exact⟨0,rfl,by omega,ja.out,jk.out⟩
  obtain⟨t,rfl,ht,j3,j1⟩:=hrel;have jm:=hid (Q19 (B:=10) t (by omega));have jt:=hid j3;have ju:=hid j1;by_cases jx:t<9
  ·have k8:(t:Int)<9:=by omega
   have hj:n*9+t<72:=by omega
   have c1:wr.cell? ⟨w2.heap.size,1+n*9+t,none⟩=some (.int .i64 ((Q6d z (n*9+t)).getD (n*9+t) 0)):=by
    rw[Q0b j1,qDm,x99 (by rw[z8m _ (by omega)];omega)]
   have z1:=Q0f j1 (1+n*9+t);generalize(Q6d z (n*9+t)).getD (n*9+t) 0=V0 at c1;have je:(wr.setCell ⟨w2.heap.size,1+n*9+t,none⟩ (.int .i64 (-1))).heap[w2.heap.size]? = some (.cells (gdA (Q3c b) ((Q6d z (n*9+t)).set (n*9+t) (-1))) 145 (0,0)):=by
    rw[zhs j1,qDm,x8y]
   have j0:Q0a w2 (wr.setCell ⟨w2.heap.size,1+n*9+t,none⟩ (.int .i64 (-1))):=j3.setCell (fun h=>absurd h (qBw _)) _;have j2:∀v,((Q6d z (n*9+t)).set (n*9+t) (-1)).set (n*9+t) v=(Q6d z (n*9+t)).set (n*9+t) v:=fun v=>List.set_set _;have jw:=hid j2;have jb:Hid ((Q6d z (n*9+t)).set (n*9+t) (hdOr (ovL (n:Int) (t:Int) z 0))=Q6d z (n*9+t+1)):=by
    have:=x77 z hj;unfold chT at this;rw[show(n*9+t) / 9=n by omega,show(n*9+t) % 9=t by omega]at this;exact this
   have k4:((Q6d z (n*9+t)).set (n*9+t) (-1)).length=72:=by rw[qBr,z8m _ (by omega)]
   clear j2;generalize hWW:wr.setCell ⟨w2.heap.size,1+n*9+t,none⟩ (.int .i64 (-1))=W1 at je j0;have jh:=hid je;have jj:=hid j0;have jc:=hid (PO.out W1 j0 n t);have jf:=hid (j0.at ji.out id);generalize ovL (n:Int) (t:Int) z 0=able at jc jb;clear j3 j1 j0 je;have t0:=Q0b jf.out 0;have t1:=Q0b jf.out 1;have t2:=Q0b jf.out 2;simp at t0 t1 t2;cases able with
   |nil =>
    go_wp2_with (first
     |(go_at_call 63;refine jc.mono ?_;rintro e w3⟨v8,rfl,j7,j4⟩;obtain⟨a8,c8,e8⟩:=z0c j4;simp only[qEq]at e8;subst e8;have j5:=hid j7;clear j4 j7 hWW))
    go_roundw
    case rel =>
     refine⟨t+1,by go_num,by omega,jj.trans j5.out,?_⟩;rw[← qDm,← jb.out];exact j5.at jh.out id
    exact jm.out
   |cons a r =>
    have k7:(0:Int)<(r.length:Int)+1:=by omega
    go_wp2_with (first
     |(go_at_call 63;refine jc.mono ?_;rintro e w3⟨v8,rfl,j7,j4⟩;obtain⟨a8,c8,e8⟩:=z0c j4;simp only[qBk]at e8;subst e8;have jn:=hid j4;have j5:=hid j7;clear j4 j7 hWW))
    obtain⟨g8,k3,jq⟩:=Joins.ownsRow_form jn.out (by simp);rw[qI]at jq;obtain⟨rfl,k1,rfl⟩:=jq;clear k1;have d0:w3.cell? ⟨g8,0,none⟩=some (.int .i64 a):=z50 jn.out 0 (by simp);have j9:=j5.at jh.out id;have d1:w3.cell? ⟨w2.heap.size,1+n*9+t,none⟩=some (.int .i64 (((Q6d z (n*9+t)).set (n*9+t) (-1)).getD (n*9+t) 0)):=by
     rw[Q0b j9,qDm,x99 (by omega)]
    have y1:=Q0f j9 (1+n*9+t);have jr:=hid j9;generalize((Q6d z (n*9+t)).set (n*9+t) (-1)).getD (n*9+t) 0=V1 at d1;clear j9;go_region;all_goals
     go_wp2;go_roundw
     case rel =>
      refine⟨t+1,by go_num,by omega,?_,?_⟩
      ·exact((jj.trans j5.out).setCell (fun h=>absurd h (qBw _)) _).drew
      rw[← qDm,← jb.out];show(w3.setCell _ _).heap[w2.heap.size]? = _;rw[zhs jr.out,qDm,x8y,jw.out];rfl
     exact jm.out
  have ka:t=9:=by omega
  have k9:¬((t:Int)<9):=by omega
  clear j3 j1;go_wp2;go_roundw
  case rel=>exact⟨n+1,by go_num,by omega,jt.out,by rw[show(n+1)*9=n*9+t by omega];exact ju.out⟩
  exact jv.out
 have jy:n=8:=by omega
 subst jy;go_wp2;go_ret;exact⟨_,b,vh,rfl,j8.trans ja.out,jk.out,js.fresh ja.out⟩
theorem z3a{ps:List Pr}{R H:Int}{t:Nat}{ch ch':Int->Nat->Int}(h:∀X,0<=X->X<H->ch X t=ch' X t)(hps:∀p∈ps,Q3d R H p.syms):∀(f:Nat) (k:List Sy) (st:List St),Q3d R H k->gTo ps ch t f k st=gTo ps ch' t f k st
 |0,_,_,_=>rfl
 |f+1,[],_,_=>rfl
 |f+1,s::k,st,hk=>by
  have hs:=hk s (by simp);unfold gTo;cases hq:s.isH
  ·simp
  rw[hq]at hs;simp only[qBn]at hs;rw[h s.num hs.1 hs.2];simp only[qDf,qAz];split
  ·cases hp:ps[(ch' s.num t).toNat]? with
   |none=>rfl
   |some p =>
    simp only[];refine z3a h hps f _ _ (fun x hx=>?_);rcases qBs.1 hx with hx|hx
    ·exact hps p (qAi hp) x hx
    exact hk x (by simp[hx])
  rfl
theorem x8x{ps:List Pr}{R H:Int}{t:Nat}{ch:Int->Nat->Int}(hps:∀p∈ps,Q3d R H p.syms)(hR:R<=100)(hl:ps.length<=100):∀(f:Nat) (k:List Sy) (st:List St) (r:List Sy × List St),gTo ps ch t f k st=some r->Q3d R H k->(∀s∈st,0<=s.num/\s.num<=127) ->
  Q3d R H r.1/\∀s∈r.2,0<=s.num/\s.num<=127
 |0,_,_,_,h,_,_=>by cases h
 |f+1,[],st,r,h,hk,hs=>by cases h;exact⟨hk,hs⟩
 |f+1,s::k,st,r,h,hk,hs=>by
  have h1:=hk s (by simp);unfold gTo at h;split at h
  ·rename_i hq;rw[hq]at h1;simp only[qF,qAz]at h1;cases h;refine⟨fun x hx=>hk x (by simp[hx]),fun x hx=>?_⟩;rcases qBs.1 hx with hx|hx
   ·exact hs x hx
   simp only[qM]at hx;subst hx;exact⟨h1.1,by dsimp only;omega⟩
  split at h
  ·rename_i h0;cases hp:ps[(ch s.num t).toNat]? with
   |none=>rw[hp]at h;cases h
   |some p =>
    rw[hp]at h;have j0:=(qS hp).1;refine x8x hps hR hl f _ _ r h (fun x hx=>?_) (fun x hx=>?_)
    ·rcases qBs.1 hx with hx|hx
     ·exact hps p (qAi hp) x hx
     exact hk x (by simp[hx])
    rcases qBs.1 hx with hx|hx
    ·exact hs x hx
    simp only[qM]at hx;subst hx;exact⟨h0,by dsimp only;omega⟩
  cases h
theorem x9d(B:Nat):∀n,szF B n=n*(1+6*B)
 |0=>by simp[szF]
 |n+1=>by rw[szF,x9d B n,qFc,Nat.one_mul];omega
theorem x2o{H n:Nat}(hH:H<=8):Q2y H n<=n*335923+16124313:=by
 have h1:szN H<=335923:=v2u hH;unfold Q2y;rw[x9d];have h2:n*szN H<=n*335923:=Nat.mul_le_mul_left _ h1;have h3:H*(1+6*szN H)<=8*(1+6*335923):=Nat.mul_le_mul hH (by omega);omega
theorem z8u{hs:List Hd}{ps:List Pr}{X:Int}{t:Nat}(h0:0<=X)(h8:X<8)(ht:t<9):chL (Q6d (ps.zip (Q0r hs ps)) 72) X t=chF hs ps X t:=by
 unfold chL;rw[qAb ⟨h0,h8,ht⟩,v1q _ (by omega) ht,show((X.toNat:Nat):Int)=X by omega];rfl
structure Tab(ps:List Pr)(R H:Nat)(hs:List Hd):Prop where
 g:LLG ps R H (hN hs) (hF hs) (hO hs) (chF hs ps)
 ok:∀x∈hs,x.ok
 hR:R<=8
 hH:H<=8
 h0:0<H
 hl:ps.length<=20
variable {ps:List Pr}{R H:Nat}{hs:List Hd}
theorem Tab.syms(h:Tab ps R H hs):∀p∈ps,p.syms.length<=6/\Q3d R H p.syms:=fun p hp=>⟨h.g.mx p hp,h.g.tab.sy p hp⟩
theorem Tab.step(h:Tab ps R H hs){k:List Sy}{st:List St}{t:Nat}(ht:t<=R)(hk:Q4z (hN hs) (hF hs) (hO hs) R k)(hi:Q3d R H k)(hs1:∀s∈st,0<=s.num/\s.num<=127)(hw:(Q57 hs R k).getD t false=true) :
  gTo ps (chL (Q6d (ps.zip (Q0r hs ps)) 72)) t (Q2y H k.length) k st=some (Q7w ps hs H t k st)/\(Q7w ps hs H t k st).1.length<=k.length+48/\(Q7w ps hs H t k st).2.length<=st.length+(k.length*335923+16124313) /\
   Q4z (hN hs) (hF hs) (hO hs) R (Q7w ps hs H t k st).1/\Q3d R H (Q7w ps hs H t k st).1/\(∀s∈(Q7w ps hs H t k st).2,0<=s.num/\s.num<=127)/\st.length<=(Q7w ps hs H t k st).2.length:=by
 rw[z30 h.ok h.hR k hi t]at hw;obtain⟨r,h1,h2,h3⟩:=h.g.grows ht k hk hw st;have e:Q7w ps hs H t k st=r:=by unfold Q7w;rw[h1];rfl
 rw[e];have hR:=h.hR;have hH:=h.hH;have hl:=h.hl;have j0:=x8x (R:=R) (H:=H) (fun p hp=>(h.syms p hp).2) (by omega) (by omega) _ _ _ _ h1 hi hs1;have hc:=z3a (R:=R) (H:=H) (t:=t) (ch:=chL (Q6d (ps.zip (Q0r hs ps)) 72)) (ch':=chF hs ps) (fun X x0 x1=>z8u x0 (by omega) (by omega)) (fun p hp=>(h.syms p hp).2) (Q2y H k.length) k st hi;have he:=x2o (n:=k.length) hH;exact⟨by rw[hc];exact h1,by omega,by omega,h.g.stkTo _ _ _ _ h1 hk,j0.1,j0.2,y2g _ _ _ _ h1⟩
theorem Tab.start(h:Tab ps R H hs):Q4z (hN hs) (hF hs) (hO hs) R [⟨true,0⟩]/\Q3d R H [⟨true,0⟩]:=by
 refine⟨h.g.stk0,fun s hs=>?_⟩;simp only[qM]at hs;subst hs;have:=h.h0;simp;omega
def Q1i(ps:List Pr):List St->List Sy->Option (List Sy)
  | [],k=>some k
  |_::_,[]=>none
  | s :: l,y::k=>if s.leaf then(if y.isH=false/\y.num=s.num then Q1i ps l k else none)
      else if y.isH=true/\0<=s.num then(match ps[s.num.toNat]? with
        |some p=>if p.head=y.num then Q1i ps l (p.syms++k) else none
        |none=>none) else none
def Q0d(l:List St):List Int:=(l.filter St.leaf).map St.num
theorem z0o(a b:List St):Q0d (a++b)=Q0d a++Q0d b:=by simp[Q0d]
theorem z3d{a:List St}(h:∀x∈a,x.leaf=false):Q0d a=[]:=by
 unfold Q0d;rw[List.filter_eq_nil_iff.2 (fun x hx=>by simp[h x hx])];rfl
theorem z1g(ps:List Pr):∀(a b:List St) (k:List Sy),Q1i ps (a++b) k=(Q1i ps a k).bind (Q1i ps b)
 | [],b,k=>rfl
 |s::a,b,[]=>rfl
 |s::a,b,y::k=>by
  simp only[qBh,Q1i];split
  ·split
   ·exact z1g ps a b k
   rfl
  split
  ·split
   ·split
    ·exact z1g ps a b _
    rfl
   rfl
  rfl
theorem y2h{ps:List Pr}{ch:Int->Nat->Int}{t:Nat}(hch:∀X,0<=ch X t->∃p,ps[(ch X t).toNat]? = some p/\p.head=X):∀(f:Nat) (k:List Sy) (st:List St) (r:List Sy × List St),gTo ps ch t f k st=some r->∃ns,r.2=st++ns/\Q1i ps ns k=some r.1
 |0,_,_,_,h=>by cases h
 |f+1,[],st,r,h=>by cases h;exact⟨[],by simp,rfl⟩
 |f+1,s::k,st,r,h=>by
  unfold gTo at h;split at h
  ·rename_i hs;cases h;exact⟨[⟨true,s.num⟩],rfl,by simp[Q1i,hs]⟩
  rename_i hs;split at h
  ·rename_i h0;obtain⟨p,hp,hh⟩:=hch _ h0;rw[hp]at h;obtain⟨ns,h1,h2⟩:=y2h hch f _ _ r h;refine⟨⟨false,ch s.num t⟩::ns,by rw[h1];simp,?_⟩;have j0:s.isH=true:=by simpa using hs
   simp only[Q1i,qF,qAz];rw[qAb ⟨j0,h0⟩,hp];simp only[];rw[qAb hh];exact h2
  cases h
section
variable {ps:List Pr}{R H:Nat}{N:Int->Bool}{F O:Int->Nat->Bool}{ch:Int->Nat->Int}
theorem z6h{t:Nat}:∀(l:List Sy),(∀s∈l,∃(c:Nat) (ns:List St),(∀x∈ns,x.leaf=false)/\∀f k st,gTo ps ch t (c+f) (s::k) st=gTo ps ch t f k (st++ns)) ->
  ∃(c:Nat) (ns:List St),(∀x∈ns,x.leaf=false)/\∀f k st,gTo ps ch t (c+f) (l++k) st=gTo ps ch t f k (st++ns)
 | [],_=>⟨0,[],by simp,fun f k st=>by simp⟩
 |s::l,h=>by
  obtain⟨c1,n1,h1,h3⟩:=h s (by simp);obtain⟨c2,n2,h4,h6⟩:=z6h l (fun x hx=>h x (by simp[hx]));refine⟨c1+c2,n1++n2,?_,fun f k st=>?_⟩
  ·intro x hx;rcases qBs.1 hx with hx|hx
   ·exact h1 x hx
   exact h4 x hx
  rw[qDm,qBh,h3,h6,qAs]
theorem LLG.nullN(g:LLG ps R H N F O ch){t:Nat}(ht:t<=R):∀(n:Nat) (s:Sy),s.isH=true->NS ps n s.num=true->O s.num t=true ->
  ∃(c:Nat) (ns:List St),(∀x∈ns,x.leaf=false)/\∀f k st,gTo ps ch t (c+f) (s::k) st=gTo ps ch t f k (st++ns)
 |0,_,_,h,_=>by cases h
 |n+1,s,hs,h,ho=>by
  obtain⟨i,p,hi,hp,hc,hl,hall⟩:=g.nul1 h ht ho;obtain⟨c,ns,h1,h3⟩:=z6h (ps:=ps) (ch:=ch) (t:=t) p.syms (fun x hx=>g.nullN ht n x (hall x hx).1 (hall x hx).2.1 (hall x hx).2.2);refine⟨c+1,⟨false,i⟩::ns,?_,fun f k st=>?_⟩
  ·intro x hx;simp only[qBu]at hx;rcases hx with rfl|hx
   ·rfl
   exact h1 x hx
  rw[show c+1+f=c+f+1 by omega,z5j hi hs hc,h3,qAs];rfl
theorem LLG.firstN(g:LLG ps R H N F O ch){t:Nat}(ht:t<=R):∀(n:Nat) (s:Sy),s.isH=true->FS ps N t n s.num=true ->
  ∃(c:Nat) (ns:List St) (k':List Sy),(∀x∈ns,x.leaf=false)/\∀f k st,gTo ps ch t (c+f+1) (s::k) st=some (k'++k,st++ns++[⟨true,t⟩])
 |0,_,_,h=>by cases h
 |n+1,s,hs,h=>by
  unfold FS at h;rw[qBb]at h;obtain⟨p,hp,h⟩:=h;simp only[qAd,qBi]at h;obtain⟨i,hi⟩:=x9w hp;have hb:=z33 (g.fsF t n) _ h.2;have ha:ahd N F O p t=true:=by unfold ahd;rw[hb];rfl
  have hc:=g.one i p hi t ht ha;rw[h.1]at hc;obtain⟨a,x,b,e,h1,h2⟩:=z1s h.2;have j2:(if x.isH then F x.num t else x.num==(t:Int))=true:=by
   cases hx:x.isH
   ·rw[hx]at h2;exact h2
   rw[hx]at h2;exact g.fsF t n _ h2
  obtain⟨c,ns,k1,k3⟩:=z6h (ps:=ps) (ch:=ch) (t:=t) a (fun y hy=>by
   have j0:=(qAy.1 h1) y hy;simp only[Q4c,qAd]at j0;refine g.nullN ht H y j0.1 (g.leN _ j0.2) ?_;obtain⟨a1,a2,ea⟩:=qEy hy;refine g.clO p hp a1 y (a2++x::b) (by rw[e,ea];simp) j0.1 t ?_;have:Q3y N (fun X=>F X t) t (a2++x::b)=true:=z28 x b j2 a2 (by
    rw[qAy]at h1 ⊢;intro z hz;exact h1 z (by rw[ea];simp[hz]))
   rw[this];rfl)
  have j1:∀y∈(⟨false,i⟩:St)::ns,y.leaf=false:=fun y hy=>by
   simp only[qBu]at hy;rcases hy with rfl|hy
   ·rfl
   exact k1 y hy
  cases hx:x.isH
  ·rw[hx]at h2;simp only[qF,qAz,qBi]at h2;refine⟨c+1,⟨false,i⟩::ns,b,j1,fun f k st=>?_⟩;rw[show c+1+f+1=c+(f+1)+1 by omega,z5j hi hs hc,e,qAs,k3,qBh,gTo,qAb hx,h2];simp
  rw[hx]at h2;simp only[qBn]at h2;obtain⟨c',j3,k',m1,m4⟩:=g.firstN ht n x hx h2;refine⟨c+1+c',⟨false,i⟩::(ns++j3),k'++b,?_,fun f k st=>?_⟩
  ·intro y hy;rw[← qBh]at hy;rcases qBs.1 hy with hy|hy
   ·exact j1 y hy
   exact m1 y hy
  rw[show c+1+c'+f+1=c+(c'+f+1)+1 by omega,z5j hi hs hc,e,qAs,k3,qBh,m4];simp
theorem LLG.leaf(g:LLG ps R H N F O ch){t:Nat}(ht:t<=R)(k:List Sy)(hk:Q4z N F O R k)(hin:Q3d R H k)(hw:Q6u N F R k t=true)(st:List St){f:Nat}{r:List Sy × List St}(hr:gTo ps ch t f k st=some r) :
  ∃ns,r.2=st++ns/\((t<R/\Q0d ns=[(t:Int)])∨(t=R/\Q0d ns=[]/\r.1=[])):=by
 have j3:∀(a:List Sy) (x:List Sy),k=a++x->a.all (Q4c N)=true->Q6u N F R x t=true->∃(c:Nat) (ns:List St),(∀x∈ns,x.leaf=false)/\∀f k st,gTo ps ch t (c+f) (a++k) st=gTo ps ch t f k (st++ns):=by
  intro a x e ha hx;refine z6h a (fun y hy=>?_);have j1:=(qAy.1 ha) y hy;simp only[Q4c,qAd]at j1;refine g.nullN ht H y j1.1 (g.leN _ j1.2) ?_;obtain⟨a1,a2,ea⟩:=qEy hy;refine hk a1 y (a2++x) (by rw[e,ea];simp) j1.1 t ?_;have j5:a2.all (Q4c N)=true:=by
   rw[qAy]at ha ⊢;intro z hz;exact ha z (by rw[ea];simp[hz])
  unfold Q6u at hx ⊢;rw[z2v,List.all_append,j5];simp only[qBm];rw[Bool.or_assoc,hx];simp
 have j0:∀{f':Nat}{r':List Sy × List St},gTo ps ch t f' k st=some r'->r=r':=fun {f' r'} h'=>by
  have h1:=z19 _ _ _ _ hr (f+f') (by omega);have h2:=z19 _ _ _ _ h' (f+f') (by omega);rw[h1]at h2;simpa using h2
 unfold Q6u at hw;cases hb:Q3y N (fun X=>F X t) t k
 ·rw[hb]at hw;simp only[qDj,qAd,qBi]at hw;obtain⟨j6,rfl⟩:=hw;obtain⟨c,ns,h1,h3⟩:=j3 k [] (by simp) j6 (by simp[Q6u,Q3y]);have h4:=h3 1 [] st;rw[qBd]at h4;have e:=j0 (f':=c+1) (r':=([],st++ns)) (by rw[h4];rfl);rw[e];exact⟨ns,rfl,.inr ⟨rfl,z3d h1,rfl⟩⟩
 obtain⟨a,s,b,rfl,ha,hs⟩:=z1s hb;have j2:t<R:=by
  cases hx:s.isH
  ·rw[hx]at hs;simp only[qF,qAz,qBi]at hs;have:=hin s (by simp);rw[hx]at this;simp only[qF,qAz]at this;omega
  rw[hx]at hs;exact g.bF _ _ hs
 obtain⟨c,ns,h1,h3⟩:=j3 a (s::b) rfl ha (by
  unfold Q6u;have:Q3y N (fun X=>F X t) t ([]++s::b)=true:=z28 s b hs [] rfl;rw[qCh]at this;rw[this];rfl)
 cases hx:s.isH
 ·rw[hx]at hs;simp only[qF,qAz,qBi]at hs;have e:=j0 (f':=c+1) (r':=(b,st++ns++[⟨true,s.num⟩])) (by rw[h3,gTo,qAb hx]);rw[e];refine⟨ns++[⟨true,s.num⟩],by simp,.inl ⟨j2,?_⟩⟩;rw[z0o,z3d h1,hs];rfl
 rw[hx]at hs;simp only[qBn]at hs;obtain⟨c',j4,k',m1,m4⟩:=g.firstN ht H s hx (g.leF _ _ hs);have e:=j0 (f':=c+(c'+0+1)) (r':=(k'++b,st++ns++j4++[⟨true,t⟩])) (by rw[h3];exact m4 0 b (st++ns));rw[e];refine⟨ns++j4++[⟨true,t⟩],by simp,.inl ⟨j2,?_⟩⟩;rw[z0o,z0o,z3d h1,z3d m1];rfl
end
theorem z20(ps:List Pr):∀(L:List St) (ys k:List Sy),Q1i ps L (ys++k)=some []->∃A B,L=A++B/\Q1i ps A ys=some []/\Q1i ps B k=some []
 |L,[],k,h=>⟨[],L,rfl,rfl,h⟩
 | [],y::ys,k,h=>by simp[Q1i]at h
 |s::L,y::ys,k,h=>by
  simp only[qBh,Q1i]at h;cases hl:s.leaf
  ·rw[hl]at h;simp only[qF,qAz]at h;split at h
   ·rename_i hy;cases hp:ps[s.num.toNat]? with
    |none=>rw[hp]at h;cases h
    |some p =>
     rw[hp]at h;simp only[]at h;split at h
     ·rename_i hh;rw[← qAs]at h;obtain⟨A,B,h1,h2,h3⟩:=z20 ps L (p.syms++ys) k h;refine⟨s::A,B,by rw[h1];rfl,?_,h3⟩;simp only[Q1i,hl,qF,qAz];rw[qAb hy,hp];simp only[];rw[qAb hh];exact h2
     cases h
   cases h
  rw[hl]at h;simp only[qBn]at h;split at h
  ·rename_i hy;obtain⟨A,B,h1,h2,h3⟩:=z20 ps L ys k h;refine⟨s::A,B,by rw[h1];rfl,?_,h3⟩;simp only[Q1i,hl,qBn];rw[qAb hy];exact h2
  cases h
theorem z27{ps:List Pr}:∀{A:List St},Q1i ps A []=some []->A=[]
 | [],_=>rfl
 |_::_,h=>by simp[Q1i]at h
theorem y2t:∀(a b:List St) (c:Nat),ndL (a++b) c=ndL a c++ndL b (c+(Q0d a).length)
 | [],b,c=>by simp[ndL,Q0d]
 |s::a,b,c=>by
  cases hl:s.leaf
  ·have e:Q0d (s::a)=Q0d a:=by simp[Q0d,hl]
   simp only[qBh,ndL,hl,qF,qAz,e,y2t a b c]
  have e:Q0d (s::a)=s.num::Q0d a:=by simp[Q0d,hl]
  simp only[qBh,ndL,hl,qBn,e,y2t a b (c+1),qBk];rw[show c+1+(Q0d a).length=c+((Q0d a).length+1) by omega]
theorem z6r(ps:List Pr):∀(n:Nat) (A B:List St) (y:Sy) (c:Nat),A.length<=n->Q1i ps A [y]=some []->(Q08 ps (ndL (A++B) c))[0]? = some A.length:=by
 intro n;induction n with
 |zero =>
  intro A B y c hn h;have:A=[]:=qCm (by omega);subst this;simp[Q1i]at h
 |succ n ih =>
  have j0:∀(ys:List Sy) (A' pre B:List St) (c:Nat),A'.length<=n->Q1i ps A' ys=some []->szL (Q08 ps (ndL (pre++(A'++B)) c)) ys.length (1+pre.length)=1+pre.length+A'.length:=by
   intro ys;induction ys with
   |nil =>
    intro A' pre B c hn h;have:=z27 h;subst this;rfl
   |cons y ys ih2 =>
    intro A' pre B c hn h;obtain⟨A1,A2,e,h1,h2⟩:=z20 ps A' [y] ys h;subst e;simp only[qP]at hn;have hs:(Q08 ps (ndL (pre++(A1++A2++B)) c))[1+pre.length-1]? = some A1.length:=by
     have e1:(Q08 ps (ndL (pre++(A1++A2++B)) c))[1+pre.length-1]? = ((Q08 ps (ndL (pre++(A1++A2++B)) c)).drop pre.length)[0]? := by
      rw[qDx];congr 1;omega
     rw[e1,z4t,y2t,List.drop_left' (by rw[z69]),qAs];exact ih A1 (A2++B) y _ (by omega) h1
    rw[qBk,szL,hs];simp only[];have h3:=ih2 A2 (pre++A1) B c (by omega) h2;rw[qAs,← qAs A1 A2 B,qP]at h3;rw[show 1+pre.length+A1.length=1+(pre.length+A1.length) by omega,h3];simp only[qP];omega
  intro A B y c hn h;cases A with
  |nil=>simp[Q1i]at h
  |cons s A' =>
   simp only[Q1i]at h;simp only[qBk]at hn;cases hl:s.leaf
   ·rw[hl]at h;simp only[qF,qAz]at h;split at h
    ·rename_i hy;cases hp:ps[s.num.toNat]? with
     |none=>rw[hp]at h;cases h
     |some p =>
      rw[hp]at h;simp only[qBd]at h;split at h
      ·have hc:=j0 p.syms A' [] B c (by omega) h;simp only[qCh,qEq,Nat.add_zero]at hc;simp only[qBh,ndL,hl,qF,qAz,Q08,qCv,qO,qBk];have ha:arF ps ⟨s.num,-1,c,0⟩=p.syms.length:=by
        unfold arF;dsimp only;rw[qAa (by omega),hp]
       rw[ha,hc];omega
      cases h
    cases h
   rw[hl]at h;simp only[qBn]at h;split at h
   ·have:=z27 h;subst this;simp only[qBh,qCh,ndL,hl,qBn,Q08,qCv,qO,qBk,qEq];have ha:arF ps ⟨-1,s.num,c,0⟩=0:=by unfold arF;rw[qAb (by dsimp only;omega)]
    rw[ha];rfl
   cases h
attribute [local go_sem ↓] y2n
structure XV(w:World)(xb g3 c3 g5 c5:Nat)(sv:Nat->Value)(ps:List Pr):Prop where
 k3:w.cell? ⟨xb,3,none⟩=some (.slice (some ⟨g3,0,none⟩) ps.length c3)
 k5:w.cell? ⟨xb,5,none⟩=some (.slice (some ⟨g5,0,none⟩) ps.length c5)
 hd:∀p (h:p<ps.length),w.cell? ⟨g3,p,none⟩=some (.int .i64 ps[p].head)
 sy:∀p (h:p<ps.length),w.cell? ⟨g5,p,none⟩=some (sv p)/\Q1c w (sv p) (ps[p].syms.map sInt)
end Go.Proofs.YtbdpfmalabgmbaaGreat
