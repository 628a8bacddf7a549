import Derived.Test.YtcpceafmlgaodaaGreatTw8
import Derived.Deep.DeepCutAuto
namespace Go.Proofs.YtcpceafmlgaodaaGreat
open Go.RowKit
set_option maxRecDepth 99999
set_option maxHeartbeats 0
set_option linter.all false
def lenV(v:Value):Nat:=match v with
  | .slice _ n _=>n
  |_=>0
def stW(b:Nat)(w:World):Nat:=match w.heap[b]? with
  |some (.cells c _ _)=>lenV (c.getD 5 undef)
  |_=>0
theorem GA.stW{w:World}{b B:Nat}{R H:Int}{vp vg vk vs:Value}{k:List Sy}{st:List St}(h:GA w b B R H vp vg vk vs k st):stW b w=st.length:=by
  obtain⟨a,c,hv⟩:=z0d h.ss;unfold Proofs.YtcpceafmlgaodaaGreat.stW;rw[h.blk,hv];rfl
structure GdAt(w:World)(gb B:Nat)(fp:Value)(L:List Int):Prop where
  lt:gb<B
  blk:w.heap[gb]? = some (.cells (gdA fp L) 128 (0,0))
  len:L.length=72
theorem GdAt.up{w w':World}{gb B:Nat}{fp:Value}{L:List Int}(h:GdAt w gb B fp L)(hu:UpB B w w'):GdAt w' gb B fp L :=
  ⟨h.lt,by rw[hu.block gb (z0j h.blk) (by have:=h.lt;omega)];exact h.blk,h.len⟩
def chL(L:List Int)(X:Int)(t:Nat):Int:=if 0<=X/\X<8/\t<9 then L.getD (X.toNat*9+t) 0 else -1
def Q27(R H:Int)(k:List Sy):Prop:=∀s∈k,0<=s.num/\s.num<(if s.isH then H else R)
attribute [local go_sem ↓] y8b
attribute [local go_sem ↓] z13
theorem y0u(w:World)(b B gb:Nat)(fp:Value)(L:List Int)(R H:Nat)(vp vk vs:Value)(k:List Sy)(st:List St)(ps:List PV)(t F:Nat)(r:List Sy × List St)
    (h:GA w b B R H vp (Q25 gb) vk vs k st) (hgd:GdAt w gb B fp L) (hp:Q3c w B vp ps) (hps:ps.length<=100) (hsy:∀p∈ps,p.pr.syms.length<=6/\Q27 R H p.pr.syms) (hk0:Q27 R H k)
    (hR:R<=8) (hH:H<=8) (ht:t<9) (hB:B<=w.heap.size) (hrun:gTo (Q0j ps) (chL L) t F k st=some r) (hrl:r.2.length<=1000000000000) (hkl:k.length+6*r.2.length<=100000000000+6*st.length) :
    Calls Tryz.prog 25 #[Q25 b,.int .i64 t] w fun e w'=>e=.returned (.tuple #[])/\∃vk' vs',GA w' b B R H vp (Q25 gb) vk' vs' r.1 r.2/\UpB B w w':=by
  obtain⟨is,his,sz0,sz1,sz2⟩:=infoSt';have jo:=hid h;have ja:=hid hgd;have HP:=hid hp;have jk:=hid hsy;have jx:=hid hrl;have jd:=hid hrun;have jt:=hid hkl;have jr:=hid hk0;have kj:=h.lt;have kk:=h.lo;clear h hgd hp hsy hrl hrun hkl hk0;go_enter Tryz.func25,Tryz.ntmps25
  go_wp2;go_loopw [4,5,6] (fun _ _ _ wr=>∃(f:Nat) (k':List Sy) (st':List St) (vk' vs':Value),gTo (Q0j ps) (chL L) t f k' st'=some r/\GA wr b B R H vp (Q25 gb) vk' vs' k' st'/\UpB B w wr/\Q27 R H k'/\k'.length+6*r.2.length<=100000000000+6*st'.length)
      (fun _ _ _ wr=>r.2.length+1-stW b wr)
  case atStart=>exact⟨F,k,st,vk,vs,jd.out,jo.out,mRf _ w,jr.out,jt.out⟩
  obtain⟨f,k',st',vk',vs',hrun,hG,hU,hKI,hKL⟩:=hrel;have kn:st'.length<=r.2.length:=y1y _ _ _ _ hrun;have hrl:=jx.out;obtain⟨f,rfl⟩:∃f',f=f'+1:=by
    cases f with
    |zero=>cases hrun
    |succ f=>exact⟨f,rfl⟩
  have j0:=hG.ks;unfold SyOwn at j0;rw[qDs]at j0;obtain⟨ka,kc,hvk⟩:=z0d j0;subst hvk;have k4:=hG.cell 4;simp at k4;have kp:=hG.lt;have ko:B<=wr.heap.size:=by have:=hU.size;omega
  have j2:=hid hU;have jh:=hid hG;cases k' with
  |nil =>
    have hr:r=([],st'):=by simpa [gTo]using hrun.symm
    simp only[qDp]at k4;have HR:=hid hr;clear hr hrun hG hU j0;go_wp2;exact bodyPost_end (results_none rfl _ _ _) rfl ⟨rfl,_,vs',by rw[HR.out];exact jh.out,j2.out⟩
  |cons s K =>
    obtain⟨sh,sn⟩:=s;have j7:=hKI ⟨sh,sn⟩ (by simp);have js:Hid (Q27 R H K):=fun x hx=>hKI x (by simp[hx]);have kd:K.length<=100000000000:=by simp at hKL;omega
    have jc:Hid (K.length+1+6*r.2.length<=100000000000+6*st'.length):=by unfold Hid;simpa using hKL
    simp only[qAy]at k4 j0;have kb:((K.length:Int)+1-1)=(K.length:Int):=by omega
    obtain⟨g,cap',hv'⟩:=Joins.ownsRow_form j0 (by omega);rw[qI]at hv';obtain⟨rfl,_,rfl⟩:=hv';have km:K.length+1<=kc:=by
      rcases j0.2 with⟨h1,_⟩|⟨g',c',cur,h1,_,_,h2,_⟩
      · cases h1
      rw[qI]at h1;obtain⟨_,_,rfl⟩:=h1;exact h2
    have k9:(K.length:Int)<=(kc:Int):=by omega
    have RG:Hid (wr.rangeAt g (K.length*2) [.bool sh,.int .i64 sn]):=by
      have jg:Q2e Sy.cells 2 69 wr (.slice (some ⟨g,0,none⟩) (K.length+1) kc) (K.reverse++[⟨sh,sn⟩]):=⟨by
        have:=z0f j0 (qBg B);rw[qP,qAf,qDs];simpa using this,fun _ _=>rfl⟩
      have:=jg.range K.length (by simp);unfold Hid;simpa [Sy.cells]using this
    have j8:=hG.fresh ((mRf _ wr).alloc (.cells #[.bool sh,.int .i64 sn] 69 (0,0)));obtain⟨G1,U1⟩:=GA.pop (ao:=some ⟨g,0,none⟩) (cap:=kc) j8;have z4:=j8.frozen 4;have y4:=j8.cell 4;simp at y4;generalize hW1:(wr.alloc (.cells #[.bool sh,.int .i64 sn] 69 (0,0))).setCell ⟨b,4,none⟩ (.slice (some ⟨g,0,none⟩) K.length kc)=W1 at G1 U1;have je:W1.heap[wr.heap.size]? = some (.cells #[.bool sh,.int .i64 sn] 69 (0,0)):=by
      rw[← hW1,Proofs.YtcpceafmlgaodaaGreat.heap_setCell_other _ (by simp;omega)];exact z0a _ _
    have c0:=Q0b je 0;have c1:=Q0b je 1;simp at c0 c1;have j9:=hid G1;have j1:Hid (UpB B wr W1):=Mod.trans ((mRf _ wr).alloc _) U1;have k3:B<=W1.heap.size:=by have:=j1.size;omega
    have k5:=G1.lt;have ju:Hid (st'.length<r.2.length->True):=fun _=>trivial;obtain⟨sa,sc,hvs⟩:=z0d G1.ss;subst hvs;have j5:=G1.cell 5;have j3:=G1.cell 3;simp at j5 j3;have z5:=G1.frozen 5;have jj:=hid G1.ss;have kl:=ja.lt;have j6:W1.heap[gb]? = some (.cells (gdA fp L) 128 (0,0)):=(ja.up (Mod.trans j2.out j1.out)).blk;have jb:=hid j6;clear G1 U1 j8 hG hU j0 je hKI hKL ju j6;cases sh
    · simp only[gTo,qBb,qO]at hrun
      have HR:=hid hrun.symm;have ki:r.2.length=st'.length+1:=by rw[HR.out];simp
      simp only[qF,qAp]at j7;have k1:sn<=127:=by omega
      have kh:=j7.1;clear hrun j7;go_wp2_with (first
        |(refine wpList_load_mid rfl 69 _ rfl g (K.length*2) rfl [.bool false,.int .i64 sn] _ RG.out Tryz.underlying69 rfl szSy2 ?_))
      have FW:Hid (∀o:Obj,Q0a W1 (W1.alloc o).drew):=fun o=>((mRf _ W1).alloc o).drew;obtain⟨v',w2,hrun,hown,hgrow,hblk⟩:=z2y (P:=Tryz.prog) (W1.alloc (.cells #[.bool true,.int .i8 sn] 141)).drew B 72 72 141 is _ 2 2 Tryz.underlying72 his sz0 sz1 sz2 rfl (by decide) (.slice sa st'.length sc) st'.length (Q00 St.cells st') (z0c jj.out (fun g hg=>(FW.out _).block g (jj.lt g hg).2 (fun x=>x))) ⟨W1.heap.size,0,none⟩ 1 1 [.bool true,.int .i8 sn] rfl (z0l rfl) (by intro u hu;simp at hu;rcases hu with rfl|rfl<;>rfl) (by unfold maxLen;omega) (by omega) (by simp[World.drew];omega);have HB:=j9.grown5 (FW.out _) hgrow;have k6:w2.cell? ⟨b,5,none⟩=some (.slice sa st'.length sc):=(Q0b HB 5);have k7:=Q0g HB 5;have jv:=hid hown;have jp:=hid hgrow;have jn:=hid hblk;obtain⟨a',cap',hv'⟩:=z0d hown;clear hown hgrow hblk HB hW1;subst hv';go_region;all_goals
        obtain⟨G3,U3⟩:=j9.step (x:=⟨true,sn⟩) (FW.out _) jv.out jp.out jn.out;generalize hWW:w2.setCell _ _=W3 at G3 U3 ⊢;have jq:=hid G3;have jy:=hid U3;clear G3 U3 hWW k6 k7 hrun;go_wp2;exact bodyPost_ret (results_none rfl _ _ _) rfl ⟨rfl,_,_,by rw[HR.out];exact jq.out,Mod.trans j2.out (Mod.trans j1.out jy.out)⟩
    simp only[qBb]at j7;obtain⟨n,rfl⟩:∃n:Nat,sn=n:=⟨sn.toNat,by omega⟩;have ke:n<8:=by omega
    have jl:chL L n t=L.getD (n*9+t) 0:=by
      unfold chL;rw[qAb ⟨by omega,by omega,ht⟩,qAl]
    rw[gTo,qAa (by simp)]at hrun;simp only[jl]at hrun;by_cases hc0:0<=L.getD (n*9+t) 0
    · rw[qAb hc0]at hrun
      obtain⟨i,hi⟩:∃i:Nat,L.getD (n*9+t) 0=i:=⟨(L.getD (n*9+t) 0).toNat,by omega⟩;rw[hi,qAl]at hrun;cases hpi:(Q0j ps)[i]? with
      |none=>rw[hpi]at hrun;cases hrun
      |some p =>
        rw[hpi]at hrun;simp only[]at hrun;have k8:i<ps.length:=by
          have:=(qS hpi).1;simpa [Q0j]using this
        have jm:ps[i].pr=p:=by
          have:=(qS hpi).2;simpa [Q0j]using this
        have kg:st'.length+1<=r.2.length:=by have:=y1y _ _ _ _ hrun;simpa using this
        have CH:Hid (∀W:World,W.heap[gb]? = some (.cells (gdA fp L) 128 (0,0))->Calls Tryz.prog 57 #[Q25 gb,.int .i64 n,.int .i64 t] W fun e w'=>e=.returned (.int .i64 i)/\w'=W):=fun W hW=>by
          have:=y9m W gb fp L ja.len hW n t ke ht;rw[hi]at this;exact this
        have jw:=hid jm;have j4:=hid hrun;have kf:=(jk.out ps[i] (by simp)).1;have jf:=hid (jk.out ps[i] (by simp)).2;have k2:=j1.size;have OP:Hid (∀W:World,Q0a W1 W->Calls Tryz.prog 58 #[Q25 b,.int .i64 i] W fun e w'=>e=.returned (.tuple #[])/\∃vk' vs',GA w' b B R H vp (Q25 gb) vk' vs' (ps[i].pr.syms++K) (st'++[⟨false,i⟩])/\UpB B W w'):=fun W hW =>
          x6s W b B R H vp (Q25 gb) _ _ K st' ps i (j9.fresh hW) ((HP.kept hB (Mod.trans j2.out j1.out) (fun j h1 h2=>by omega)).kept (by have:=j2.size;omega) hW (fun _ _ x=>x)) k8 hps (by omega) kd kf (by have:=hW.size;omega)
        clear hrun hpi hc0 hi jl jm j7;go_wp2_with (first
          |(refine wpList_load_mid rfl 69 _ rfl g (K.length*2) rfl [.bool true,.int .i64 n] _ RG.out Tryz.underlying69 rfl szSy2 ?_))
        clear hW1;go_quiet (first
          |(go_at_call 57;refine Calls.quiet_of_same (CH.out _ jb.out)))
        go_wp2_with (first
          |(go_at_call 58;refine(OP.out _ (Q32 W1 _)).mono ?_;rintro e w'⟨rfl,vk2,vs2,hG2,hU2⟩;have ji:=hid hG2;have k0:=hid hU2;clear hG2 hU2))
        have jz:Hid (UpB B w w'):=Mod.trans j2.out (Mod.trans j1.out (Mod.trans ((Q32 W1 nq).mono (fun _ _ x=>x.elim)) k0.out));go_roundw
        case rel =>
          refine⟨f,ps[i].pr.syms++K,st'++[⟨false,i⟩],vk2,vs2,?_,ji.out,jz.out,?_,?_⟩
          · rw[jw.out];exact j4.out
          · intro x hx
            rcases qBj.1 hx with hx|hx
            · exact jf.out x hx
            exact js.out x hx
          have:=jc.out;simp only[qP,qAf];omega
        rw[ji.stW,jh.stW,qP,qAf];omega
    rw[qAa hc0]at hrun;cases hrun
def hdOr(l:List Int):Int:=match l with
  | []=>-1
  |a::_=>a
def chT(z:List (Pr × List Bool))(j:Nat):Int:=hdOr (ovL ((j / 9:Nat):Int) ((j % 9:Nat):Int) z 0)
def Q53(z:List (Pr × List Bool))(j:Nat):List Int:=(List.range j).map (chT z)++List.replicate (72-j) 0
theorem z8c(z:List (Pr × List Bool)){j:Nat}(h:j<=72):(Q53 z j).length=72:=by simp[Q53];omega
theorem x7n(z:List (Pr × List Bool)){j:Nat}(h:j<72):(Q53 z j).set j (chT z j)=Q53 z (j+1):=by
  unfold Q53;rw[qCy _ _ (by simp)];simp only[qAo,List.length_range,qCu];rw[show 72-j=(72-(j+1))+1 by omega,List.replicate_succ,qEn,List.range_succ,qBf,qAh];rfl
theorem v0v(z:List (Pr × List Bool)){n t:Nat}(hn:n<8)(ht:t<9):(Q53 z 72).getD (n*9+t) 0=hdOr (ovL (n:Int) (t:Int) z 0):=by
  have h1:n*9+t<72:=by omega
  unfold Q53;simp only[qCu,List.replicate_zero,qAt];rw[qD,qBe,qEg h1];simp only[qCz,qDa,chT];rw[show(n*9+t) / 9=n by omega,show(n*9+t) % 9=t by omega]
theorem x8a(fp:Value)(L:List Int)(j:Nat)(v:Int):(gdA fp L).setIfInBounds (1+j) (.int .i64 v)=gdA fp (L.set j v):=by
  unfold gdA;rw[Nat.add_comm];simp[qDy]
theorem x55:Tryz.zeroCells128.toList.drop 1=Q5w (List.replicate 72 0):=by kernel_rfl
theorem x9j(b:Nat):Tryz.zeroCells128.setIfInBounds 0 (Q25 b)=gdA (Q25 b) (List.replicate 72 0):=by
  apply Array.ext';unfold gdA;rw[Array.toList_setIfInBounds];have h:=x55;cases hq:Tryz.zeroCells128.toList with
  |nil=>rw[hq]at h;simp at h
  |cons x l=>rw[hq]at h;simp only[List.drop_succ_cons,qDe]at h;rw[h];rfl
theorem y4l(w:World)(R H:Nat)(vp:Value)(ps:List PV)(hp:Q3c w w.heap.size vp ps)(hps:ps.length<=1000)(hH:H<=1000)(hR:R<=1000)(hok:∀x∈Q3w (Q0j ps) (Q0v R H),x.ok) :
    Calls Tryz.prog 22 #[.agg #[.int .i64 R,.int .i64 H,vp]] w fun e w'=>∃gb fb vh,e=.returned (Q25 gb)/\Q0a w w' /\
      w'.heap[gb]? = some (.cells (gdA (Q25 fb) (Q53 ((Q0j ps).zip (Q0p (Q3w (Q0j ps) (Q0v R H)) (Q0j ps))) 72)) 128 (0,0))/\FA w' fb R H vp vh ps (Q3w (Q0j ps) (Q0v R H)):=by
  obtain⟨pa,pc,hvp⟩:=z0d hp.row.own;subst hvp;have HP:=hid hp;have FI:=hid (y3u (w.alloc (.cells #[.int .i64 R,.int .i64 H,.slice pa ps.length pc] 41 (0,0))) R H (.slice pa ps.length pc) ps ((hp.kept (qR _) ((mRf (fun _=>False) w).alloc _) (fun _ _ x=>x)).up (by simp)) hps hH hR);generalize Q3w (Q0j ps) (Q0v R H)=AL at FI hok;have jq:((Q0j ps).zip (Q0p AL (Q0j ps))).length<=1000:=by simp[Q0p,Q0j];omega
  have ji:(Q0p AL (Q0j ps)).length=ps.length:=by simp[Q0p,Q0j]
  have jh:∀a∈Q0p AL (Q0j ps),a.length=9:=fun a ha=>by
    obtain⟨p,_,rfl⟩:=qBp.1 ha;exact z3d hok _ _
  generalize hz:(Q0j ps).zip (Q0p AL (Q0j ps))=z at jq ⊢;have HZ:=hid hz;clear hp hok hz;go_enter Tryz.func22,Tryz.ntmps22
  go_wp2_with (first
    |(go_at_call 51;refine(z55 w1 b R H (.slice pa ps.length pc) vh ps AL hF1 hps).mono ?_;rintro e w2⟨va,rfl,hf2,hoa⟩)
    |(go_at_call 50;refine FI.mono ?_;rintro e w1⟨b,vh,rfl,j0,hF1⟩))
  have jb:=hid (hf2.at (j0.at (z0a _ _) (fun x=>x)) (fun x=>x));have j3:Hid (Q0a w w2):=Mod.trans ((mRf _ w).alloc _) (j0.trans hf2);have jk:=hid (hF1.fresh hf2);have PO:=hid (fun(W:World) (hW:Q0a w2 W) (n t:Nat)=>z6g W R H (.slice pa ps.length pc) ps ((HP.kept (qR _) (j3.trans hW) (fun _ _ x=>x)).up ((j3.trans hW).size)) hps _ (Q0p AL (Q0j ps)) _ (z0c hoa (fun g hg=>hW.block g (hoa.lt g hg).2 (fun x=>x))) ji jh (n:Int) (t:Int));have jy:=hf2.size;have jz:=j3.size;have jx:w.heap.size<w2.heap.size:=z0j jb.out;rw[HZ.out]at PO;clear hoa hF1 j0 hf2 FI ji jh;have je:=hid (x9j b);generalize Tryz.zeroCells128.setIfInBounds 0 (Q25 b)=GZ at je ⊢;go_loopw [16] (fun x16 wr=>∃(n:Nat),x16=.int .i64 n/\n<=8/\Q0a w2 wr/\wr.heap[w2.heap.size]? = some (.cells (gdA (Q25 b) (Q53 z (n*9))) 128 (0,0)))
      (fun x _=>9-(intOf x).toNat)
  case atStart=>exact⟨0,rfl,by omega,(mRf _ w2).alloc _,by rw[z0a,je.out];rfl⟩
  obtain⟨n,rfl,hn,hfr,hgb⟩:=hrel;have jn:=hid (Q15 (B:=9) n (by omega));have j5:=hid hfr;have jd:=hid hgb;clear hfr hgb;by_cases hlt:n<8
  · have js:(n:Int)<8:=by omega
    go_wp2;obtain⟨wn,hwn⟩:∃wn,wn=wr:=⟨_,rfl⟩;subst hwn;go_loopw [19] (fun x19 wr=>∃(t:Nat),x19=.int .i64 t/\t<=9/\Q0a w2 wr/\wr.heap[w2.heap.size]? = some (.cells (gdA (Q25 b) (Q53 z (n*9+t))) 128 (0,0)))
        (fun x _=>10-(intOf x).toNat)
    case atStart=>exact⟨0,rfl,by omega,j5.out,jd.out⟩
    obtain⟨t,rfl,ht,hfr,hgb⟩:=hrel;have jf:=hid (Q15 (B:=10) t (by omega));have jl:=hid hfr;have jm:=hid hgb;by_cases hlt2:t<9
    · have ju:(t:Int)<9:=by omega
      have hj:n*9+t<72:=by omega
      have c1:wr.cell? ⟨w2.heap.size,1+n*9+t,none⟩=some (.int .i64 ((Q53 z (n*9+t)).getD (n*9+t) 0)):=by
        rw[Q0b hgb,qCm,x9i (by rw[z8c _ (by omega)];omega)]
      have z1:=Q0g hgb (1+n*9+t);generalize(Q53 z (n*9+t)).getD (n*9+t) 0=V0 at c1;have j8:(wr.setCell ⟨w2.heap.size,1+n*9+t,none⟩ (.int .i64 (-1))).heap[w2.heap.size]? = some (.cells (gdA (Q25 b) ((Q53 z (n*9+t)).set (n*9+t) (-1))) 128 (0,0)):=by
        rw[zhs hgb,qCm,x8a]
      have j0:Q0a w2 (wr.setCell ⟨w2.heap.size,1+n*9+t,none⟩ (.int .i64 (-1))):=hfr.setCell (fun h=>absurd h (qBk _)) _;have j1:∀v,((Q53 z (n*9+t)).set (n*9+t) (-1)).set (n*9+t) v=(Q53 z (n*9+t)).set (n*9+t) v:=fun v=>List.set_set _;have jo:=hid j1;have j6:Hid ((Q53 z (n*9+t)).set (n*9+t) (hdOr (ovL (n:Int) (t:Int) z 0))=Q53 z (n*9+t+1)):=by
        have:=x7n z hj;unfold chT at this;rw[show(n*9+t) / 9=n by omega,show(n*9+t) % 9=t by omega]at this;exact this
      have jr:((Q53 z (n*9+t)).set (n*9+t) (-1)).length=72:=by rw[qBd,z8c _ (by omega)]
      clear j1;generalize hWW:wr.setCell ⟨w2.heap.size,1+n*9+t,none⟩ (.int .i64 (-1))=W1 at j8 j0;have ja:=hid j8;have jc:=hid j0;have j7:=hid (PO.out W1 j0 n t);have j9:=hid (j0.at jb.out (fun x=>x));generalize ovL (n:Int) (t:Int) z 0=able at j7 j6;clear hfr hgb j0 j8;have t0:=Q0b j9.out 0;have t1:=Q0b j9.out 1;have t2:=Q0b j9.out 2;simp at t0 t1 t2;cases able with
      |nil =>
        go_wp2_with (first
          |(go_at_call 52;refine j7.mono ?_;rintro e w3⟨v8,rfl,hf3,ho8⟩;obtain⟨a8,c8,e8⟩:=z0d ho8;simp only[qDp]at e8;subst e8;have j2:=hid hf3;clear ho8 hf3 hWW))
        go_roundw
        case rel =>
          refine⟨t+1,by go_num,by omega,jc.trans j2.out,?_⟩;rw[← qCm,← j6.out];exact j2.at ja.out (fun x=>x)
        exact jf.out
      |cons a r =>
        have jt:(0:Int)<(r.length:Int)+1:=by omega
        go_wp2_with (first
          |(go_at_call 52;refine j7.mono ?_;rintro e w3⟨v8,rfl,hf3,ho8⟩;obtain⟨a8,c8,e8⟩:=z0d ho8;simp only[qAy]at e8;subst e8;have jg:=hid ho8;have j2:=hid hf3;clear ho8 hf3 hWW))
        obtain⟨g8,c8',hv8⟩:=Joins.ownsRow_form jg.out (by simp);rw[qI]at hv8;obtain⟨rfl,hx8,rfl⟩:=hv8;clear hx8;have d0:w3.cell? ⟨g8,0,none⟩=some (.int .i64 a):=z4l jg.out 0 (by simp);have j4:=j2.at ja.out (fun x=>x);have d1:w3.cell? ⟨w2.heap.size,1+n*9+t,none⟩=some (.int .i64 (((Q53 z (n*9+t)).set (n*9+t) (-1)).getD (n*9+t) 0)):=by
          rw[Q0b j4,qCm,x9i (by omega)]
        have y1:=Q0g j4 (1+n*9+t);have jj:=hid j4;generalize((Q53 z (n*9+t)).set (n*9+t) (-1)).getD (n*9+t) 0=V1 at d1;clear j4;go_region;all_goals
          go_wp2;go_roundw
          case rel =>
            refine⟨t+1,by go_num,by omega,?_,?_⟩
            · exact((jc.trans j2.out).setCell (fun h=>absurd h (qBk _)) _).drew
            rw[← qCm,← j6.out];show(w3.setCell _ _).heap[w2.heap.size]? = _;rw[zhs jj.out,qCm,x8a,jo.out];rfl
          exact jf.out
    have jw:t=9:=by omega
    have jv:¬((t:Int)<9):=by omega
    clear hfr hgb;go_wp2;go_roundw
    case rel=>exact⟨n+1,by go_num,by omega,jl.out,by rw[show(n+1)*9=n*9+t by omega];exact jm.out⟩
    exact jn.out
  have jp:n=8:=by omega
  subst jp;go_wp2;go_ret;exact⟨_,b,vh,rfl,j3.trans j5.out,jd.out,jk.fresh j5.out⟩
theorem z24{ps:List Pr}{R H:Int}{t:Nat}{ch ch':Int->Nat->Int}(h:∀X,0<=X->X<H->ch X t=ch' X t)(hps:∀p∈ps,Q27 R H p.syms):∀(f:Nat) (k:List Sy) (st:List St),Q27 R H k->gTo ps ch t f k st=gTo ps ch' t f k st
  |0,_,_,_=>rfl
  |f+1,[],_,_=>rfl
  |f+1,s::k,st,hk=>by
    have hs:=hk s (by simp);unfold gTo;cases hq:s.isH
    · simp
    rw[hq]at hs;simp only[qBb]at hs;rw[h s.num hs.1 hs.2];simp only[qCe,qAp];split
    · cases hp:ps[(ch' s.num t).toNat]? with
      |none=>rfl
      |some p =>
        simp only[];refine z24 h hps f _ _ (fun x hx=>?_);rcases qBj.1 hx with hx|hx
        · exact hps p (qAd hp) x hx
        exact hk x (by simp[hx])
    rfl
theorem x79{ps:List Pr}{R H:Int}{t:Nat}{ch:Int->Nat->Int}(hps:∀p∈ps,Q27 R H p.syms)(hR:R<=100)(hl:ps.length<=100):∀(f:Nat) (k:List Sy) (st:List St) (r:List Sy × List St),gTo ps ch t f k st=some r->Q27 R H k->(∀s∈st,0<=s.num/\s.num<=127) ->
    Q27 R H r.1/\∀s∈r.2,0<=s.num/\s.num<=127
  |0,_,_,_,h,_,_=>by cases h
  |f+1,[],st,r,h,hk,hs=>by cases h;exact⟨hk,hs⟩
  |f+1,s::k,st,r,h,hk,hs=>by
    have h1:=hk s (by simp);unfold gTo at h;split at h
    · rename_i hq
      rw[hq]at h1;simp only[qF,qAp]at h1;cases h;refine⟨fun x hx=>hk x (by simp[hx]),fun x hx=>?_⟩;rcases qBj.1 hx with hx|hx
      · exact hs x hx
      simp only[qM]at hx;subst hx;exact⟨h1.1,by dsimp only;omega⟩
    split at h
    · rename_i h0
      cases hp:ps[(ch s.num t).toNat]? with
      |none=>rw[hp]at h;cases h
      |some p =>
        rw[hp]at h;have j0:=(qS hp).1;refine x79 hps hR hl f _ _ r h (fun x hx=>?_) (fun x hx=>?_)
        · rcases qBj.1 hx with hx|hx
          · exact hps p (qAd hp) x hx
          exact hk x (by simp[hx])
        rcases qBj.1 hx with hx|hx
        · exact hs x hx
        simp only[qM]at hx;subst hx;exact⟨h0,by dsimp only;omega⟩
    cases h
theorem x8q(B:Nat):∀n,szF B n=n*(1+6*B)
  |0=>by simp[szF]
  |n+1=>by rw[szF,x8q B n,qDt,Nat.one_mul];omega
theorem x1x{H n:Nat}(hH:H<=8):Q2u H n<=n*335923+16124313:=by
  have h1:szN H<=335923:=v1z hH;unfold Q2u;rw[x8q];have h2:n*szN H<=n*335923:=Nat.mul_le_mul_left _ h1;have h3:H*(1+6*szN H)<=8*(1+6*335923):=Nat.mul_le_mul hH (by omega);omega
theorem z8j{hs:List Hd}{ps:List Pr}{X:Int}{t:Nat}(h0:0<=X)(h8:X<8)(ht:t<9):chL (Q53 (ps.zip (Q0p hs ps)) 72) X t=chF hs ps X t:=by
  unfold chL;rw[qAb ⟨h0,h8,ht⟩,v0v _ (by omega) ht,show((X.toNat:Nat):Int)=X by omega];rfl
structure Tab(ps:List Pr)(R H:Nat)(hs:List Hd):Prop where
  g:LLG ps R H (hN hs) (hF hs) (hO hs) (chF hs ps)
  ok:∀x∈hs,x.ok
  hR:R<=8
  hH:H<=8
  h0:0<H
  hl:ps.length<=20
variable {ps:List Pr}{R H:Nat}{hs:List Hd}
theorem Tab.syms(h:Tab ps R H hs):∀p∈ps,p.syms.length<=6/\Q27 R H p.syms:=fun p hp=>⟨h.g.mx p hp,h.g.tab.sy p hp⟩
theorem Tab.step(h:Tab ps R H hs){k:List Sy}{st:List St}{t:Nat}(ht:t<=R)(hk:Q4t (hN hs) (hF hs) (hO hs) R k)(hi:Q27 R H k)(hs1:∀s∈st,0<=s.num/\s.num<=127)(hw:(Q5y hs R k).getD t false=true) :
    gTo ps (chL (Q53 (ps.zip (Q0p hs ps)) 72)) t (Q2u H k.length) k st=some (Q7h ps hs H t k st)/\(Q7h ps hs H t k st).1.length<=k.length+48/\(Q7h ps hs H t k st).2.length<=st.length+(k.length*335923+16124313) /\
      Q4t (hN hs) (hF hs) (hO hs) R (Q7h ps hs H t k st).1/\Q27 R H (Q7h ps hs H t k st).1/\(∀s∈(Q7h ps hs H t k st).2,0<=s.num/\s.num<=127)/\st.length<=(Q7h ps hs H t k st).2.length:=by
  rw[z3w h.ok h.hR k hi t]at hw;obtain⟨r,h1,h2,h3⟩:=h.g.grows ht k hk hw st;have e:Q7h ps hs H t k st=r:=by unfold Q7h;rw[h1];rfl
  rw[e];have hR:=h.hR;have hH:=h.hH;have hl:=h.hl;have j0:=x79 (R:=R) (H:=H) (fun p hp=>(h.syms p hp).2) (by omega) (by omega) _ _ _ _ h1 hi hs1;have hc:=z24 (R:=R) (H:=H) (t:=t) (ch:=chL (Q53 (ps.zip (Q0p hs ps)) 72)) (ch':=chF hs ps) (fun X x0 x1=>z8j x0 (by omega) (by omega)) (fun p hp=>(h.syms p hp).2) (Q2u H k.length) k st hi;have he:=x1x (n:=k.length) hH;exact⟨by rw[hc];exact h1,by omega,by omega,h.g.stkTo _ _ _ _ h1 hk,j0.1,j0.2,y1y _ _ _ _ h1⟩
theorem Tab.start(h:Tab ps R H hs):Q4t (hN hs) (hF hs) (hO hs) R [⟨true,0⟩]/\Q27 R H [⟨true,0⟩]:=by
  refine⟨h.g.stk0,fun s hs=>?_⟩;simp only[qM]at hs;subst hs;have:=h.h0;simp;omega
def Q1f(ps:List Pr):List St->List Sy->Option (List Sy)
  | [],k=>some k
  |_::_,[]=>none
  | s :: l,y::k=>if s.leaf then(if y.isH=false/\y.num=s.num then Q1f ps l k else none)
      else if y.isH=true/\0<=s.num then(match ps[s.num.toNat]? with
        |some p=>if p.head=y.num then Q1f ps l (p.syms++k) else none
        |none=>none) else none
def Q0d(l:List St):List Int:=(l.filter St.leaf).map St.num
theorem z0o(a b:List St):Q0d (a++b)=Q0d a++Q0d b:=by simp[Q0d]
theorem z27{a:List St}(h:∀x∈a,x.leaf=false):Q0d a=[]:=by
  unfold Q0d;rw[List.filter_eq_nil_iff.2 (fun x hx=>by simp[h x hx])];rfl
theorem z1f(ps:List Pr):∀(a b:List St) (k:List Sy),Q1f ps (a++b) k=(Q1f ps a k).bind (Q1f ps b)
  | [],b,k=>rfl
  |s::a,b,[]=>rfl
  |s::a,b,y::k=>by
    simp only[qAw,Q1f];split
    · split
      · exact z1f ps a b k
      rfl
    split
    · split
      · split
        · exact z1f ps a b _
        rfl
      rfl
    rfl
theorem y1z{ps:List Pr}{ch:Int->Nat->Int}{t:Nat}(hch:∀X,0<=ch X t->∃p,ps[(ch X t).toNat]? = some p/\p.head=X):∀(f:Nat) (k:List Sy) (st:List St) (r:List Sy × List St),gTo ps ch t f k st=some r->∃ns,r.2=st++ns/\Q1f ps ns k=some r.1
  |0,_,_,_,h=>by cases h
  |f+1,[],st,r,h=>by cases h;exact⟨[],by simp,rfl⟩
  |f+1,s::k,st,r,h=>by
    unfold gTo at h;split at h
    · rename_i hs
      cases h;exact⟨[⟨true,s.num⟩],rfl,by simp[Q1f,hs]⟩
    rename_i hs;split at h
    · rename_i h0
      obtain⟨p,hp,hh⟩:=hch _ h0;rw[hp]at h;obtain⟨ns,h1,h2⟩:=y1z hch f _ _ r h;refine⟨⟨false,ch s.num t⟩::ns,by rw[h1];simp,?_⟩;have j0:s.isH=true:=by simpa using hs
      simp only[Q1f,qF,qAp];rw[qAb ⟨j0,h0⟩,hp];simp only[];rw[qAb hh];exact h2
    cases h
section
variable {ps:List Pr}{R H:Nat}{N:Int->Bool}{F O:Int->Nat->Bool}{ch:Int->Nat->Int}
theorem z58{t:Nat}:∀(l:List Sy),(∀s∈l,∃(c:Nat) (ns:List St),(∀x∈ns,x.leaf=false)/\∀f k st,gTo ps ch t (c+f) (s::k) st=gTo ps ch t f k (st++ns)) ->
    ∃(c:Nat) (ns:List St),(∀x∈ns,x.leaf=false)/\∀f k st,gTo ps ch t (c+f) (l++k) st=gTo ps ch t f k (st++ns)
  | [],_=>⟨0,[],by simp,fun f k st=>by simp⟩
  |s::l,h=>by
    obtain⟨c1,n1,h1,h3⟩:=h s (by simp);obtain⟨c2,n2,h4,h6⟩:=z58 l (fun x hx=>h x (by simp[hx]));refine⟨c1+c2,n1++n2,?_,fun f k st=>?_⟩
    · intro x hx
      rcases qBj.1 hx with hx|hx
      · exact h1 x hx
      exact h4 x hx
    rw[qCm,qAw,h3,h6,qAh]
theorem LLG.nullN(g:LLG ps R H N F O ch){t:Nat}(ht:t<=R):∀(n:Nat) (s:Sy),s.isH=true->NS ps n s.num=true->O s.num t=true ->
    ∃(c:Nat) (ns:List St),(∀x∈ns,x.leaf=false)/\∀f k st,gTo ps ch t (c+f) (s::k) st=gTo ps ch t f k (st++ns)
  |0,_,_,h,_=>by cases h
  |n+1,s,hs,h,ho=>by
    obtain⟨i,p,hi,hp,hc,hl,hall⟩:=g.nul1 h ht ho;obtain⟨c,ns,h1,h3⟩:=z58 (ps:=ps) (ch:=ch) (t:=t) p.syms (fun x hx=>g.nullN ht n x (hall x hx).1 (hall x hx).2.1 (hall x hx).2.2);refine⟨c+1,⟨false,i⟩::ns,?_,fun f k st=>?_⟩
    · intro x hx
      simp only[qBc]at hx;rcases hx with rfl|hx
      · rfl
      exact h1 x hx
    rw[show c+1+f=c+f+1 by omega,z5d hi hs hc,h3,qAh];rfl
theorem LLG.firstN(g:LLG ps R H N F O ch){t:Nat}(ht:t<=R):∀(n:Nat) (s:Sy),s.isH=true->FS ps N t n s.num=true ->
    ∃(c:Nat) (ns:List St) (k':List Sy),(∀x∈ns,x.leaf=false)/\∀f k st,gTo ps ch t (c+f+1) (s::k) st=some (k'++k,st++ns++[⟨true,t⟩])
  |0,_,_,h=>by cases h
  |n+1,s,hs,h=>by
    unfold FS at h;rw[qAq]at h;obtain⟨p,hp,h⟩:=h;simp only[qAc,qAx]at h;obtain⟨i,hi⟩:=x88 hp;have hb:=z3z (g.fsF t n) _ h.2;have ha:ahd N F O p t=true:=by unfold ahd;rw[hb];rfl
    have hc:=g.one i p hi t ht ha;rw[h.1]at hc;obtain⟨a,x,b,e,h1,h2⟩:=z1q h.2;have j2:(if x.isH then F x.num t else x.num==(t:Int))=true:=by
      cases hx:x.isH
      · rw[hx]at h2;exact h2
      rw[hx]at h2;exact g.fsF t n _ h2
    obtain⟨c,ns,k1,k3⟩:=z58 (ps:=ps) (ch:=ch) (t:=t) a (fun y hy=>by
      have j0:=(qAn.1 h1) y hy;simp only[Q35,qAc]at j0;refine g.nullN ht H y j0.1 (g.leN _ j0.2) ?_;obtain⟨a1,a2,ea⟩:=qDw hy;refine g.clO p hp a1 y (a2++x::b) (by rw[e,ea];simp) j0.1 t ?_;have:Q3s N (fun X=>F X t) t (a2++x::b)=true:=z22 x b j2 a2 (by
        rw[qAn]at h1 ⊢;intro z hz;exact h1 z (by rw[ea];simp[hz]))
      rw[this];rfl)
    have j1:∀y∈(⟨false,i⟩:St)::ns,y.leaf=false:=fun y hy=>by
      simp only[qBc]at hy;rcases hy with rfl|hy
      · rfl
      exact k1 y hy
    cases hx:x.isH
    · rw[hx]at h2
      simp only[qF,qAp,qAx]at h2;refine⟨c+1,⟨false,i⟩::ns,b,j1,fun f k st=>?_⟩;rw[show c+1+f+1=c+(f+1)+1 by omega,z5d hi hs hc,e,qAh,k3,qAw,gTo,qAb hx,h2];simp
    rw[hx]at h2;simp only[qBb]at h2;obtain⟨c',ns',k',m1,m4⟩:=g.firstN ht n x hx h2;refine⟨c+1+c',⟨false,i⟩::(ns++ns'),k'++b,?_,fun f k st=>?_⟩
    · intro y hy
      rw[← qAw]at hy;rcases qBj.1 hy with hy|hy
      · exact j1 y hy
      exact m1 y hy
    rw[show c+1+c'+f+1=c+(c'+f+1)+1 by omega,z5d hi hs hc,e,qAh,k3,qAw,m4];simp
theorem LLG.leaf(g:LLG ps R H N F O ch){t:Nat}(ht:t<=R)(k:List Sy)(hk:Q4t N F O R k)(hin:Q27 R H k)(hw:Q6j N F R k t=true)(st:List St){f:Nat}{r:List Sy × List St}(hr:gTo ps ch t f k st=some r) :
    ∃ns,r.2=st++ns/\((t<R/\Q0d ns=[(t:Int)])∨(t=R/\Q0d ns=[]/\r.1=[])):=by
  have j3:∀(a:List Sy) (x:List Sy),k=a++x->a.all (Q35 N)=true->Q6j N F R x t=true->∃(c:Nat) (ns:List St),(∀x∈ns,x.leaf=false)/\∀f k st,gTo ps ch t (c+f) (a++k) st=gTo ps ch t f k (st++ns):=by
    intro a x e ha hx;refine z58 a (fun y hy=>?_);have j1:=(qAn.1 ha) y hy;simp only[Q35,qAc]at j1;refine g.nullN ht H y j1.1 (g.leN _ j1.2) ?_;obtain⟨a1,a2,ea⟩:=qDw hy;refine hk a1 y (a2++x) (by rw[e,ea];simp) j1.1 t ?_;have j4:a2.all (Q35 N)=true:=by
      rw[qAn]at ha ⊢;intro z hz;exact ha z (by rw[ea];simp[hz])
    unfold Q6j at hx ⊢;rw[z2o,qEk,j4];simp only[qBa];rw[Bool.or_assoc,hx];simp
  have j0:∀{f':Nat}{r':List Sy × List St},gTo ps ch t f' k st=some r'->r=r':=fun {f' r'} h'=>by
    have h1:=z15 _ _ _ _ hr (f+f') (by omega);have h2:=z15 _ _ _ _ h' (f+f') (by omega);rw[h1]at h2;simpa using h2
  unfold Q6j at hw;cases hb:Q3s N (fun X=>F X t) t k
  · rw[hb]at hw
    simp only[qCj,qAc,qAx]at hw;obtain⟨hw1,rfl⟩:=hw;obtain⟨c,ns,h1,h3⟩:=j3 k [] (by simp) hw1 (by simp[Q6j,Q3s]);have h4:=h3 1 [] st;rw[qAt]at h4;have e:=j0 (f':=c+1) (r':=([],st++ns)) (by rw[h4];rfl);rw[e];exact⟨ns,rfl,.inr ⟨rfl,z27 h1,rfl⟩⟩
  obtain⟨a,s,b,rfl,ha,hs⟩:=z1q hb;have j2:t<R:=by
    cases hx:s.isH
    · rw[hx]at hs
      simp only[qF,qAp,qAx]at hs;have:=hin s (by simp);rw[hx]at this;simp only[qF,qAp]at this;omega
    rw[hx]at hs;exact g.bF _ _ hs
  obtain⟨c,ns,h1,h3⟩:=j3 a (s::b) rfl ha (by
    unfold Q6j;have:Q3s N (fun X=>F X t) t ([]++s::b)=true:=z22 s b hs [] rfl;rw[qBq]at this;rw[this];rfl)
  cases hx:s.isH
  · rw[hx]at hs
    simp only[qF,qAp,qAx]at hs;have e:=j0 (f':=c+1) (r':=(b,st++ns++[⟨true,s.num⟩])) (by rw[h3,gTo,qAb hx]);rw[e];refine⟨ns++[⟨true,s.num⟩],by simp,.inl ⟨j2,?_⟩⟩;rw[z0o,z27 h1,hs];rfl
  rw[hx]at hs;simp only[qBb]at hs;obtain⟨c',ns',k',m1,m4⟩:=g.firstN ht H s hx (g.leF _ _ hs);have e:=j0 (f':=c+(c'+0+1)) (r':=(k'++b,st++ns++ns'++[⟨true,t⟩])) (by rw[h3];exact m4 0 b (st++ns));rw[e];refine⟨ns++ns'++[⟨true,t⟩],by simp,.inl ⟨j2,?_⟩⟩;rw[z0o,z0o,z27 h1,z27 m1];rfl
end
theorem z2t(ps:List Pr):∀(L:List St) (ys k:List Sy),Q1f ps L (ys++k)=some []->∃A B,L=A++B/\Q1f ps A ys=some []/\Q1f ps B k=some []
  |L,[],k,h=>⟨[],L,rfl,rfl,h⟩
  | [],y::ys,k,h=>by simp[Q1f]at h
  |s::L,y::ys,k,h=>by
    simp only[qAw,Q1f]at h;cases hl:s.leaf
    · rw[hl]at h
      simp only[qF,qAp]at h;split at h
      · rename_i hy
        cases hp:ps[s.num.toNat]? with
        |none=>rw[hp]at h;cases h
        |some p =>
          rw[hp]at h;simp only[]at h;split at h
          · rename_i hh
            rw[← qAh]at h;obtain⟨A,B,h1,h2,h3⟩:=z2t ps L (p.syms++ys) k h;refine⟨s::A,B,by rw[h1];rfl,?_,h3⟩;simp only[Q1f,hl,qF,qAp];rw[qAb hy,hp];simp only[];rw[qAb hh];exact h2
          cases h
      cases h
    rw[hl]at h;simp only[qBb]at h;split at h
    · rename_i hy
      obtain⟨A,B,h1,h2,h3⟩:=z2t ps L ys k h;refine⟨s::A,B,by rw[h1];rfl,?_,h3⟩;simp only[Q1f,hl,qBb];rw[qAb hy];exact h2
    cases h
theorem z21{ps:List Pr}:∀{A:List St},Q1f ps A []=some []->A=[]
  | [],_=>rfl
  |_::_,h=>by simp[Q1f]at h
theorem y19:∀(a b:List St) (c:Nat),ndL (a++b) c=ndL a c++ndL b (c+(Q0d a).length)
  | [],b,c=>by simp[ndL,Q0d]
  |s::a,b,c=>by
    cases hl:s.leaf
    · have e:Q0d (s::a)=Q0d a:=by simp[Q0d,hl]
      simp only[qAw,ndL,hl,qF,qAp,e,y19 a b c]
    have e:Q0d (s::a)=s.num::Q0d a:=by simp[Q0d,hl]
    simp only[qAw,ndL,hl,qBb,e,y19 a b (c+1),qAy];rw[show c+1+(Q0d a).length=c+((Q0d a).length+1) by omega]
theorem z6i(ps:List Pr):∀(n:Nat) (A B:List St) (y:Sy) (c:Nat),A.length<=n->Q1f ps A [y]=some []->(Q08 ps (ndL (A++B) c))[0]? = some A.length:=by
  intro n;induction n with
  |zero =>
    intro A B y c hn h;have:A=[]:=qBs (by omega);subst this;simp[Q1f]at h
  |succ n ih =>
    have j0:∀(ys:List Sy) (A' pre B:List St) (c:Nat),A'.length<=n->Q1f ps A' ys=some []->szL (Q08 ps (ndL (pre++(A'++B)) c)) ys.length (1+pre.length)=1+pre.length+A'.length:=by
      intro ys;induction ys with
      |nil =>
        intro A' pre B c hn h;have:=z21 h;subst this;rfl
      |cons y ys ih2 =>
        intro A' pre B c hn h;obtain⟨A1,A2,e,h1,h2⟩:=z2t ps A' [y] ys h;subst e;simp only[qP]at hn;have hs:(Q08 ps (ndL (pre++(A1++A2++B)) c))[1+pre.length-1]? = some A1.length:=by
          have e1:(Q08 ps (ndL (pre++(A1++A2++B)) c))[1+pre.length-1]? = ((Q08 ps (ndL (pre++(A1++A2++B)) c)).drop pre.length)[0]? := by
            rw[qCq];congr 1;omega
          rw[e1,z4s,y19,List.drop_left' (by rw[z60]),qAh];exact ih A1 (A2++B) y _ (by omega) h1
        rw[qAy,szL,hs];simp only[];have h3:=ih2 A2 (pre++A1) B c (by omega) h2;rw[qAh,← qAh A1 A2 B,qP]at h3;rw[show 1+pre.length+A1.length=1+(pre.length+A1.length) by omega,h3];simp only[qP];omega
    intro A B y c hn h;cases A with
    |nil=>simp[Q1f]at h
    |cons s A' =>
      simp only[Q1f]at h;simp only[qAy]at hn;cases hl:s.leaf
      · rw[hl]at h
        simp only[qF,qAp]at h;split at h
        · rename_i hy
          cases hp:ps[s.num.toNat]? with
          |none=>rw[hp]at h;cases h
          |some p =>
            rw[hp]at h;simp only[qAt]at h;split at h
            · have hc:=j0 p.syms A' [] B c (by omega) h
              simp only[qBq,qDp,Nat.add_zero]at hc;simp only[qAw,ndL,hl,qF,qAp,Q08,qBz,qO,qAy];have ha:arF ps ⟨s.num,-1,c,0⟩=p.syms.length:=by
                unfold arF;dsimp only;rw[qAa (by omega),hp]
              rw[ha,hc];omega
            cases h
        cases h
      rw[hl]at h;simp only[qBb]at h;split at h
      · have:=z21 h
        subst this;simp only[qAw,qBq,ndL,hl,qBb,Q08,qBz,qO,qAy,qDp];have ha:arF ps ⟨-1,s.num,c,0⟩=0:=by unfold arF;rw[qAb (by dsimp only;omega)]
        rw[ha];rfl
      cases h
attribute [local go_sem ↓] y14
structure XV(w:World)(xb g3 c3 g5 c5:Nat)(sv:Nat->Value)(ps:List Pr):Prop where
  k3:w.cell? ⟨xb,3,none⟩=some (.slice (some ⟨g3,0,none⟩) ps.length c3)
  k5:w.cell? ⟨xb,5,none⟩=some (.slice (some ⟨g5,0,none⟩) ps.length c5)
  hd:∀p (h:p<ps.length),w.cell? ⟨g3,p,none⟩=some (.int .i64 ps[p].head)
  sy:∀p (h:p<ps.length),w.cell? ⟨g5,p,none⟩=some (sv p)/\Q0z w (sv p) (ps[p].syms.map sInt)
end Go.Proofs.YtcpceafmlgaodaaGreat
