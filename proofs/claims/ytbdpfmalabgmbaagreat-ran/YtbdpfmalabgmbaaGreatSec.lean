import Derived.Test.YtbdpfmalabgmbaaGreatSeb
import Derived.Test.YtbdpfmalabgmbaaGreatPd1
namespace Go.Proofs.YtbdpfmalabgmbaaGreat
open Go.RowKit
set_option maxRecDepth 99999
set_option maxHeartbeats 0
set_option linter.all false
theorem y60(w:World)(b:Nat)(R H:Int)(vp vh:Value)(ps:List PV)(hs:List Hd)(h:FA w b R H vp vh ps hs)(hps:ps.length<=1000) :
  Calls Tryz.prog 100 #[Q3c b] w fun e w'=>e=.returned (.tuple #[])/\FA w' b R H vp vh ps (Q33 (Q0k ps) hs)/\Mod (Q2c vh) w w':=by
 have ju:=hid h;generalize hR1:Q47 (Q8h (Q0k ps)) hs=R1;have jv:Hid (Q3p (Q8h (Q0k ps)) R1 true hs):=by unfold Hid;rw[← hR1];exact Q3p.start _ _
 generalize hR2:Q47 (Q5q (Q0k ps)) R1=R2;have jw:Hid (Q3p (Q5q (Q0k ps)) R2 true R1):=by unfold Hid;rw[← hR2];exact Q3p.start _ _
 generalize hR3:Q47 (Q64 (Q0k ps)) R2=R3;have jx:Hid (Q3p (Q64 (Q0k ps)) R3 true R2):=by unfold Hid;rw[← hR3];exact Q3p.start _ _
 generalize hR4:Q47 (Q73 (Q0k ps)) R3=R4;have jy:Hid (Q3p (Q73 (Q0k ps)) R4 true R3):=by unfold Hid;rw[← hR4];exact Q3p.start _ _
 have js:Hid (Q33 (Q0k ps) hs=R4):=by unfold Hid Q33;rw[hR1,hR2,hR3,hR4]
 clear hR1 hR2 hR3 hR4 h;have GB:=hid (fun w hs (h:FA w b R H vp vh ps hs)=>x2z w b R H vp vh ps hs h hps);have GS:=hid (fun w hs (h:FA w b R H vp vh ps hs)=>x23 w b R H vp vh ps hs h hps);have GR:=hid (fun w hs (h:FA w b R H vp vh ps hs)=>x22 w b R H vp vh ps hs h hps);have GU:=hid (fun w hs (h:FA w b R H vp vh ps hs)=>x21 w b R H vp vh ps hs h hps);go_enter Tryz.func100,Tryz.ntmps100
 go_wp2;go_loopw [2] (fun x2 wr=>∃(g:Bool) (jc:List Hd),x2=.bool g/\FA wr b R H vp vh ps jc/\jc.length=hs.length/\Q3p (Q8h (Q0k ps)) R1 g jc/\Mod (Q2c vh) w wr)
   (fun x wr=>2*muW vh hs.length wr+Q8d x)
 case atStart=>exact⟨true,hs,rfl,ju.out,rfl,jv.out,mRf _ w⟩
 obtain⟨g,jc,rfl,hF,j1,j0,j2⟩:=hrel;have HF:=hid hF;have jt:=hid j0;have jq:=hid j2;have j8:=hid j1;clear hF j0 j2 j1;cases g
 ·have e1:jc=R1:=jt.out;subst e1;obtain⟨wo,jr⟩:∃wo,wo=wr:=⟨_,rfl⟩;subst jr;go_wp2;go_loopw [2] (fun x2 wr=>∃(g:Bool) (jd:List Hd),x2=.bool g/\FA wr b R H vp vh ps jd/\jd.length=hs.length/\Q3p (Q5q (Q0k ps)) R2 g jd/\Mod (Q2c vh) w wr)
    (fun x wr=>2*muW vh hs.length wr+Q8d x)
  case atStart=>exact⟨true,jc,rfl,HF.out,j8.out,jw.out,jq.out⟩
  obtain⟨g,jd,rfl,hF,j1,j0,j2⟩:=hrel;have jk:=hid hF;have jn:=hid j0;have j9:=hid j2;have j3:=hid j1;clear hF j0 j2 j1;cases g
  ·have e1:jd=R2:=jn.out;subst e1;obtain⟨jz,jr⟩:∃wo,wo=wr:=⟨_,rfl⟩;subst jr;go_wp2;go_loopw [2] (fun x2 wr=>∃(g:Bool) (je:List Hd),x2=.bool g/\FA wr b R H vp vh ps je/\je.length=hs.length/\Q3p (Q64 (Q0k ps)) R3 g je/\Mod (Q2c vh) w wr)
     (fun x wr=>2*muW vh hs.length wr+Q8d x)
   case atStart=>exact⟨true,jd,rfl,jk.out,j3.out,jx.out,j9.out⟩
   obtain⟨g,je,rfl,hF,j1,j0,j2⟩:=hrel;have jl:=hid hF;have jo:=hid j0;have ja:=hid j2;have j4:=hid j1;clear hF j0 j2 j1;cases g
   ·have e1:je=R3:=jo.out;subst e1;obtain⟨k0,jr⟩:∃wo,wo=wr:=⟨_,rfl⟩;subst jr;go_wp2;go_loopw [2] (fun x2 wr=>∃(g:Bool) (jj:List Hd),x2=.bool g/\FA wr b R H vp vh ps jj/\jj.length=hs.length/\Q3p (Q73 (Q0k ps)) R4 g jj/\Mod (Q2c vh) w wr)
      (fun x wr=>2*muW vh hs.length wr+Q8d x)
    case atStart=>exact⟨true,je,rfl,jl.out,j4.out,jy.out,ja.out⟩
    obtain⟨g,jj,rfl,hF,j1,j0,j2⟩:=hrel;have jm:=hid hF;have jp:=hid j0;have jb:=hid j2;have j5:=hid j1;clear hF j0 j2 j1;cases g
    ·have e1:jj=R4:=jp.out;subst e1;go_wp2;refine qFf (qDe rfl _ _ _) rfl ⟨rfl,?_,jb.out⟩;rw[js.out];exact jm.out
    go_wp2_with (first
     |(go_at_call 123;refine(GU.out _ jj jm.out).mono ?_;rintro e w1⟨rfl,j6,jh⟩))
    have j7:=z2i (Q0k ps) jj jm.ok;have jg:=jm.mu' j5.out;have ji:=j6.mu' (j7.len.trans j5.out);have jf:=Q3p.less (z2i (Q0k ps)) jm.ok;go_roundw
    case rel=>exact⟨_,_,rfl,j6,j7.len.trans j5.out,Q3p.next (z2i _) jm.ok jp.out,Mod.trans jb.out jh⟩
    rw[jg,ji];exact jf
   go_wp2_with (first
    |(go_at_call 122;refine(GR.out _ je jl.out).mono ?_;rintro e w1⟨rfl,j6,jh⟩))
   have j7:=z2g (Q0k ps) je jl.ok;have jg:=jl.mu' j4.out;have ji:=j6.mu' (j7.len.trans j4.out);have jf:=Q3p.less (z2g (Q0k ps)) jl.ok;go_roundw
   case rel=>exact⟨_,_,rfl,j6,j7.len.trans j4.out,Q3p.next (z2g _) jl.ok jo.out,Mod.trans ja.out jh⟩
   rw[jg,ji];exact jf
  go_wp2_with (first
   |(go_at_call 121;refine(GS.out _ jd jk.out).mono ?_;rintro e w1⟨rfl,j6,jh⟩))
  have j7:=z2h (Q0k ps) jd jk.ok;have jg:=jk.mu' j3.out;have ji:=j6.mu' (j7.len.trans j3.out);have jf:=Q3p.less (z2h (Q0k ps)) jk.ok;go_roundw
  case rel=>exact⟨_,_,rfl,j6,j7.len.trans j3.out,Q3p.next (z2h _) jk.ok jn.out,Mod.trans j9.out jh⟩
  rw[jg,ji];exact jf
 go_wp2_with (first
  |(go_at_call 120;refine(GB.out _ jc HF.out).mono ?_;rintro e w1⟨rfl,j6,jh⟩))
 have j7:=z22 (Q0k ps) jc HF.ok;have jg:=HF.mu' j8.out;have ji:=j6.mu' (j7.len.trans j8.out);have jf:=Q3p.less (z22 (Q0k ps)) HF.ok;go_roundw
 case rel=>exact⟨_,_,rfl,j6,j7.len.trans j8.out,Q3p.next (z22 _) HF.ok jt.out,Mod.trans jq.out jh⟩
 rw[jg,ji];exact jf
structure SBx(x:LV):Prop where
 fb:FB x
 sy:∀d∈x.ln.syms,0<=d.ls.getD 0 0/\d.ls.getD 0 0<=255
 len:x.ln.syms.length<=1000
theorem z47(w:World)(v:Value)(xs:List LV)(hL:Q0s w v xs)(hn:xs.length<=1000)(hfb:∀x∈xs,SBx x) :
  Calls Tryz.prog 11 #[v] w fun e w'=>TabRet (xs.map LV.ln) w e w':=by
 obtain⟨ao,cap,hv⟩:=z0c hL.own;subst hv;have HL:=hid hL;have k5:=hid hfb;have jk:=hid (fun w h=>x0h w (.slice ao xs.length cap) xs h hn (fun x hx=>(hfb x hx).fb));have jj:=hid (fun w h=>x28 w (.slice ao xs.length cap) xs h hn (fun x hx=>(hfb x hx).fb));have jo:Hid (∀d∈Q0g (xs.map LV.ln),d.ls.length=8):=by
  intro d hd;simp only[Q0g,qBj,qDi]at hd;obtain⟨y,⟨⟨x,hx,rfl⟩,_⟩,rfl⟩:=hd;exact(hL.each x hx).front
 have jw:(Q0g (xs.map LV.ln)).length<=1000:=by
  have:=qCc Q0x (xs.map LV.ln);simp only[Q0g,qAv]at *;omega
 unfold TabRet;have j5:Hid (∀j0:List PV,j0.map PV.pr=(Q05 ((xs.take xs.length).map LV.ln)).map (Q8a (Q0g (xs.map LV.ln)) (Q0j (xs.map LV.ln)))->j0.map PV.pr=Q0p (xs.map LV.ln)):=by
  intro j0 h;rw[qAw]at h;exact h
 generalize Q0p (xs.map LV.ln)=TAB at j5;generalize Q0g (xs.map LV.ln)=NA at jk jo jw j5;generalize Q0j (xs.map LV.ln)=HE at jj j5;obtain⟨i0,kd,kk,kl,km⟩:=infoPr';have jm:=hid (HL.fresh ((mRf _ w).alloc (.cells #[.int .i64 0,.int .i64 0,.slice none 0 0] 42 (0,0))));clear hL hfb;go_enter Tryz.func11,Tryz.ntmps11
 go_wp2_with (first
  |(go_at_call 29;refine(jj.out _ (jm.fresh je)).mono ?_;rintro e w2⟨vh,rfl,jr,jf,jq,kc⟩;obtain⟨ha,hc,ki⟩:=z0c jr;subst ki)
  |(go_at_call 28;refine(jk.out _ jm.out).mono ?_;rintro e w1⟨vn,rfl,jh,je⟩;obtain⟨na,nc,kj⟩:=z0c jh;subst kj))
 have k7:Hid (Q30 w2 (.slice na NA.length nc) NA):=⟨z0g (z0d jh (fun g hg=>jf.block g (jh.lt g hg).2 id)) (qBq _),fun x hx=>Wd.cells_len (jo.out x hx)⟩;have k6:Hid (Q30 w2 (.slice ha HE.length hc) HE):=⟨z0g jr (qBq _),fun x hx=>Wd.cells_len (jq x hx)⟩;have k1:=hid jq;have jt:Hid (Q0a w w2):=Mod.trans ((mRf _ w).alloc _) (Mod.trans je jf);have js:=hid (jf.at (je.at (z0a _ _) id) id);have ka:HE.length<=1000:=by omega
 clear jh jr jq kc jk jj je jf jm;go_loopw [5,6,7,14] (fun x5 _ _ x14 wr=>∃(i:Nat) (j0:List PV),x14=.int .i64 i/\i<=xs.length/\j0.length<=i/\PRel w wr w2.heap.size x5 j0/\Q0a w2 wr/\j0.map PV.pr=(Q05 ((xs.take i).map LV.ln)).map (Q8a NA HE))
   (fun _ _ _ x _=>1001-(intOf x).toNat)
 case atStart=>exact⟨0,[],rfl,by omega,by simp,⟨z0j js.out,qAh _ _ _ _,by simp,by simp,jt.out,js.out⟩,mRf _ _,rfl⟩
 obtain⟨i,j0,rfl,hi,kp,j1,jx,j9⟩:=hrel;have jv:=hid (Q19 (B:=1001) i (by omega));have HP:=hid j1;have jb:=hid jx;have ju:=hid (jt.trans jx);have k8:Hid (∀j8:i<xs.length,(Q05 ((xs.take (i+1)).map LV.ln)).map (Q8a NA HE)=j0.map PV.pr++(if Q0x xs[i].ln then [] else [Q8a NA HE xs[i].ln])):=by
  intro j8;rw[Q6e j8,qBp,qDb,j9];unfold Q05;rw[qBx,qBp];cases h:Q0x xs[i].ln<;>simp only[qAq,h,qBn,qAz,qF,Bool.not_true,Bool.not_false,List.filter_nil,List.map_nil,qDl,qBd]
 have jn:=hid j9;obtain⟨ro,rc,kg⟩:=z0c j1.own;have kb:w.heap.size<wr.heap.size:=z0j j1.blk;subst kg;clear j1 j9;by_cases j8:i<xs.length
 ·have kn:(i:Int)<(xs.length:Int):=by omega
  obtain⟨g,k9,jz⟩:=Joins.ownsRow_form HL.own (by omega);rw[qI]at jz;obtain⟨rfl,_,rfl⟩:=jz;have jl:=hid (HL.fresh ju.out);have RG:=hid (jl.row.range i j8);have jp:=hid (fun w1 (hf:Q0a wr w1)=>(jl.fresh hf).row.range i j8);have hA:=jl.each xs[i] (by simp);have jc:=k5.out xs[i] (by simp);have ja:=hid hA.front;have RU:=hid (fun w=>z2l xs[i] w hA.front jc.fb);have kf:Hid (Q0x xs[i].ln=!Q16 xs[i].ln.front):=rfl;rw[← kf.out]at RU;have RP:=hid (fun w1 (hf:Q0a wr w1)=>y2w w1 xs[i] (.slice na NA.length nc) (.slice ha HE.length hc) NA HE (hA.fresh hf) jc.sy jc.len (k7.fresh (jb.trans hf)) jo.out jw (k6.fresh (jb.trans hf)) k1.out ka);have j6:=k8.out j8;cases hr:Q0x xs[i].ln
  ·rw[hr]at RU j6;simp only[qF,qAz]at j6;have j2:=hid j6;clear j6 hA jc hr;generalize hX:xs[i]=x at RG jp ja RU RP j2;clear hX;go_wp2_with (first
    |(at_builtin;refine z0f _ rfl _ _ 40 rfl w2.heap.size 85 i0 _ 2 32 Tryz.underlying40 kd kk kl km rfl (by decide) _ _ _ rfl k2.out ⟨w4.heap.size+1,0,none⟩ 1 1 [.int .i64 (Q8a NA HE x.ln).head,.slice sa (Q8a NA HE x.ln).syms.length ji] rfl rfl (z13 rfl) (by intro u hu;simp at hu;rcases hu with rfl|rfl<;>rfl) (by unfold maxLen;omega) (by omega) (by have h3:=jb.size;have h4:=j4.size;have h5:=jg.size;simp;omega) ?_)
    |(go_at_call 31;refine(RP.out _ j4).mono ?_;rintro e w4⟨v4,rfl,jg,jy⟩;obtain⟨sa,ji,kh⟩:=z0c jy;subst kh;have k3:=hid jy;have k2:=hid (((z0d HP.own (fun g hg=>(j4.trans jg).block g (HP.own.lt g hg).2 id)).alloc (.cells #[.int .i64 (Q8a NA HE x.ln).head,.slice sa (Q8a NA HE x.ln).syms.length ji] 85 (0,0))).alloc (.cells #[.int .i64 (Q8a NA HE x.ln).head,.slice sa (Q8a NA HE x.ln).syms.length ji] 85 (0,0))))
    |(refine qAe rfl 81 _ rfl g (i*14) rfl x.cells _ (jp.out _ j4) qAm rfl (by rw[LV.cells_len ja.out];exact Q1e) ?_)
    |(go_at_call 30;refine(RU.out _).mono ?_;rintro e w3⟨rfl,j4⟩)
    |(refine qAe rfl 81 _ rfl g (i*14) rfl x.cells _ RG.out qAm rfl (by rw[LV.cells_len ja.out];exact Q1e) ?_))
   intro v' w5 j7 j3 jd;have k4:=hid (HP.next (p:=⟨Q8a NA HE x.ln,.slice sa (Q8a NA HE x.ln).syms.length ji⟩) (((j4.trans jg).alloc _).alloc _) (z0g ((k3.alloc _).alloc _) (j4.size)) j7 j3 (fun k hk=>(jd k hk).imp id (fun h=>by simpa using h)));have k0:Hid (Q0a w2 w5):=Mod.grown (S:=fun _=>False) (jb.trans (((j4.trans jg).alloc _).alloc _)) j3 (fun k hk j8=>by have:=(HP.own.lt k hk).1;omega);clear j7 j3 jd;go_wp2;go_roundw
   case rel =>
    refine⟨i+1,_,by go_num,by omega,by simp;omega,k4.out,k0.out,?_⟩;rw[j2.out,qBp];rfl
   exact jv.out
  rw[hr]at RU j6;simp only[qBn,qBd]at j6;have j2:=hid j6;clear j6 hA jc hr;generalize hX:xs[i]=x at RG jp ja RU RP j2;clear hX;go_wp2_with (first
   |(go_at_call 30;refine(RU.out _).mono ?_;rintro e w3⟨rfl,j4⟩)
   |(refine qAe rfl 81 _ rfl g (i*14) rfl x.cells _ RG.out qAm rfl (by rw[LV.cells_len ja.out];exact Q1e) ?_))
  go_roundw
  case rel=>exact⟨i+1,j0,by go_num,by omega,by omega,HP.fresh' j4,jb.trans j4,j2.symm⟩
  exact jv.out
 have ke:i=xs.length:=by omega
 have ko:¬(i:Int)<(xs.length:Int):=by omega
 go_wp2_with (first
  |(refine qAg rfl 42 _ _ rfl w.heap.size #[.int .i64 NA.length,.int .i64 HE.length,.slice ro j0.length rc] rfl rfl _ _ HP.blk szTab rfl (qCq (cs:=[.int .i64 NA.length,.int .i64 HE.length,.slice ro j0.length rc]) (by intro v hv;simp at hv;rcases hv with rfl|rfl|rfl<;>rfl)) ?_))
 refine qAc (qCg rfl _ _ w.heap.size 42 #[.int .i64 NA.length,.int .i64 HE.length,.slice ro j0.length rc] (0,0) _ rfl (qAn _ _ _ _ _ _ HP.blk) Tryz.underlying42 rfl szTab) rfl ⟨_,rfl,ju.setRow (fun h=>absurd h (qBw _)) _,j0,j5.out j0 (by rw[← ke];exact jn.out),?_⟩;exact HP.prs _
def SyB(x:Ln):Prop:=∀d∈x.syms,0<=d.ls.getD 0 0/\d.ls.getD 0 0<=255
theorem z4g:SyB Q4j:=fun d hd=>by simp[Q4j]at hd
theorem y5c(s:ByteArray)(d:Wd):∀(f:Nat) (next:Int) (syms:List Wd),(∀d∈syms,0<=d.ls.getD 0 0/\d.ls.getD 0 0<=255)->SyB (Q20 s d f next syms).1
 |0,_,_,_=>z4g
 |f+1,next,syms,h=>by
  unfold Q20;split
  ·split
   ·exact z4g
   refine y5c s d f _ _ ?_;intro e he;simp only[qU,qM]at he;rcases he with he|rfl
   ·exact h e he
   exact z7e s (next+1)
  split
  ·exact z4g
  exact h
theorem x7o(s:ByteArray)(i:Int):SyB (Q2w s i).1:=by
 unfold Q2w;split
 ·exact z4g
 split
 ·unfold Q6p;split
  ·exact z4g
  exact y5c s _ _ _ _ (by simp)
 unfold Q6q;repeat' split
 all_goals first|exact z4g|(intro d hd;simp at hd)
theorem y1u(s:ByteArray):∀(f:Nat) (i:Int) (acc:List Ln),(∀x∈acc,SyB x)->∀x∈(Q1l s f i acc).1,SyB x
 |0,_,_,_,x,hx=>by simp[Q1l]at hx
 |f+1,i,acc,h,x,hx=>by
  unfold Q1l at hx;split at hx
  ·split at hx
   ·simp at hx
   refine y1u s f _ _ ?_ x hx;intro y hy;simp only[qU,qM]at hy;rcases hy with hy|rfl
   ·exact h y hy
   exact x7o s i
  exact h x hx
theorem z5a(s:ByteArray):∀x∈(Q0c s).1,SyB x:=y1u s _ 0 [] (by simp)
theorem z5g{s:ByteArray}(h:(Q0u s).1=0):s.size<=800:=by
 by_cases h8:800<s.size
 ·have:=z8x s;rw[qAb h8]at this;rw[this]at h;cases h
 omega
def Q5e(R:Int)(i:Nat):Hd:=if i=0 then {zeroHd with rch:=true,fo:=Q2h zero9 R} else zeroHd
def Q0z(R:Int):Nat->List Hd
 |0=>[]
 |n+1=>Q0z R n++[Q5e R n]
theorem y2j(R:Int)(i:Nat):(Q5e R i).ok:=by
 unfold Q5e;split
 ·exact⟨rfl,z2t rfl⟩
 exact z2u
theorem z1y(R:Int):∀n,(Q0z R n).length=n
 |0=>rfl
 |n+1=>by simp[Q0z,z1y R n]
theorem Q2e.up{w:World}{B B':Nat}{v:Value}{ps:List PV}(h:Q2e w B v ps)(hB:B<=B'):Q2e w B' v ps:=by
 refine⟨h.row,fun g hg=>qDr (h.lt g hg) hB,fun p hp=>?_⟩;obtain⟨ao,cap,h1,h2,h3,h4⟩:=h.syms p hp;refine⟨ao,cap,h1,h2,h3,fun i hi=>?_⟩;obtain⟨g,o,h5,h6,h7⟩:=h4 i hi;exact⟨g,o,h5,qDr h6 hB,h7⟩
theorem FA.add{w W w3:World}{b:Nat}{R H:Int}{vp vh v':Value}{ps:List PV}{hs:List Hd}{x:Hd}(h:FA w b R H vp vh ps hs)(hx:x.ok)(hf:Q0a w W)
  (hown:w3.ownsRow (b+1) 200 21 v' (hs.length+1) (Q0y Hd.cells hs++x.cells)) (hg:W.grownBy w3 vh.ownBlock) :
  FA (w3.setCell ⟨b,3,none⟩ v') b R H vp v' ps (hs++[x])/\Mod (fun k=>b<=k) w (w3.setCell ⟨b,3,none⟩ v'):=by
 have hW:=h.fresh hf;have j0:∀k,vh.ownBlock=some k->b+1<=k:=fun k hk=>(h.own.lt k hk).1;have j2:Mod (fun k=>b<=k) W w3:=Mod.grown (mRf _ W) hg (fun k hk _=>by have:=j0 k hk;omega);have hm:Mod (fun k=>b<=k) W (w3.setCell ⟨b,3,none⟩ v'):=j2.setCell (fun _=>qR _) _;refine⟨⟨?_,?_,?_,?_⟩,Mod.trans (Mod.mono hf (fun _ _ x=>x.elim)) hm⟩
 ·have j1:w3.heap[b]? = some (.cells #[.int .i64 R,.int .i64 H,vp,vh] 155 (0,0)):=by
   rw[hg.block b (z0j hW.blk) (fun e=>by have:=j0 _ e.symm;omega)];exact hW.blk
  rw[zhs j1];rfl
 ·exact hW.prs.kept (qFd (z0j hW.blk)) hm (fun k hk hs=>by omega)
 ·rw[z0v,qP,qAj];exact z0d hown (fun g hg=>heap_setCell_other _ (by have:=(hown.lt g hg).1;dsimp only;omega))
 intro y hy;simp only[qU,qM]at hy;rcases hy with hy|rfl
 ·exact h.ok y hy
 exact hx
theorem infoHd:(Tryz.prog.info? 200).map (fun i=>(i.zero,i.size,i.bytes))=some (some (.agg (hdA zeroHd)),21,21):=by kernel_rfl
theorem infoHd':∃i,Tryz.prog.info? 200=some i/\i.zero=some (.agg (hdA zeroHd))/\i.size=21/\i.bytes=21:=nfoE infoHd
attribute [local go_sem ↓] z17 y8w
theorem y4c(w:World)(R H:Nat)(vp:Value)(ps:List PV)(hp:Q2e w w.heap.size vp ps)(hps:ps.length<=1000)(hH:H<=1000)(hR:R<=1000) :
  Calls Tryz.prog 61 #[.agg #[.int .i64 R,.int .i64 H,vp]] w fun e w'=>∃b vh,e=.returned (Q3c b)/\Q0a w w'/\FA w' b R H vp vh ps (Q33 (Q0k ps) (Q0z R H)):=by
 obtain⟨i0,jz,k2,k4,k5⟩:=infoHd';have HP:=hid hp;obtain⟨pa,pc,kd⟩:=z0c hp.row.own;subst kd;clear hp;have k6:Hid (FA ((w.alloc (.cells #[.int .i64 R,.int .i64 H,.slice pa ps.length pc] 42 (0,0))).alloc (.cells #[.int .i64 R,.int .i64 H,.slice pa ps.length pc,.slice none 0 0] 155 (0,0))) (w.heap.size+1) R H (.slice pa ps.length pc) (.slice none 0 0) ps []) :=
  ⟨qBa _ _ _,(HP.kept (qR _) (((mRf (fun _=>False) w).alloc _).alloc _) (fun _ _ x=>x)).up (by omega),qAh _ _ _ _,by simp⟩
 go_enter Tryz.func61,Tryz.ntmps61
 go_wp2;go_loopw [4,5] (fun x4 _ wr=>∃(i:Nat) (vh:Value),x4=.int .i64 i/\i<=H/\FA wr (w.heap.size+1) R H (.slice pa ps.length pc) vh ps (Q0z R i)/\Q0a w wr/\wr.heap[w.heap.size]? = some (.cells #[.int .i64 R,.int .i64 H,.slice pa ps.length pc] 42 (0,0)))
   (fun x _ _=>H+1-(intOf x).toNat)
 case atStart=>exact⟨0,.slice none 0 0,rfl,by omega,k6.out,((mRf _ w).alloc _).alloc _,qBg _ _ _⟩
 obtain⟨i,vh,rfl,hi,hF,jp,je⟩:=hrel;have ju:=hid (Q19 (B:=H+1) i (by omega));have HF:=hid hF;have jk:=hid jp;have jg:=hid je;have c1:=Q0b je 1;have c0:=Q0b je 0;simp at c1 c0;obtain⟨ha,hc,k0⟩:=z0c hF.own;rw[z1y]at k0;subst k0;have k9:=hF.size;by_cases kh:i<H
 ·have kf:(i:Int)<(H:Int):=by omega
  have HI:Hid (Q0z R (i+1)=Q0z R i++[Q5e R i]):=rfl;clear hF jp je;by_cases hz:i=0
  ·subst hz;have jn:=z2t (a:=zero9) (n:=(R:Int)) rfl;have jl:=hid jn;obtain⟨g0,g1,g2,g3,g4,g5,g6,g7,g8,hg⟩:=Q7n jn;have js:=hid hg;have h1:Q0a wr (wr.alloc (.cells #[.bool false,.bool true,.bool false,.bool false,.bool false,.bool false,.bool false,.bool false,.bool false,.bool false,.bool false,.bool false,.bool false,.bool false,.bool false,.bool false,.bool false,.bool false,.bool false,.bool false,.bool false] 200 (0,0))):=(mRf _ wr).alloc _;have kb:=z0j jg.out;have k8:(wr.alloc (.cells #[.bool false,.bool true,.bool false,.bool false,.bool false,.bool false,.bool false,.bool false,.bool false,.bool false,.bool false,.bool false,.bool false,.bool false,.bool false,.bool false,.bool false,.bool false,.bool false,.bool false,.bool false] 200 (0,0))).cell? ⟨w.heap.size,0,none⟩=some (.int .i64 R):=by rw[Q0b (z0b jg.out) 0];rfl
   have jv:Hid (Hd.ok {zeroHd with rch:=true}):=⟨rfl,rfl⟩;clear jn hg;go_wp2_with (first
    |(refine qEv rfl 147 _ _ rfl wr.heap.size 12 (tkA (Q2h zero9 R)) rfl rfl (by rw[z0u jl.out];exact z4n jv.out jx.out (by omega)) (Q0t jl.out) (z1h _) ?_)
    |(go_at_call 67;refine(y0k _ zero9 (R:Int) rfl).mono ?_;rintro e w2⟨rfl,jo⟩;have jx:Hid (w2.heap[wr.heap.size]? = some (.cells (hdA {zeroHd with rch:=true}) 200 (0,0))):=jo.at (z0a wr (.cells #[.bool false,.bool true,.bool false,.bool false,.bool false,.bool false,.bool false,.bool false,.bool false,.bool false,.bool false,.bool false,.bool false,.bool false,.bool false,.bool false,.bool false,.bool false,.bool false,.bool false,.bool false] 200 (0,0))) id))
   have hW:Q0a wr (w2.setCells wr.heap.size 12 (tkA (Q2h zero9 R)).toList):=Mod.setCells (fun h=>absurd h (qBw _)) _ _ _ (Mod.trans h1 jo);have j5:=HF.fresh hW;have k3:=j5.cell 3;simp at k3;have jh:Hid ((w2.setCells wr.heap.size 12 (tkA (Q2h zero9 R)).toList).heap[wr.heap.size]? = some (.cells (hdA (Q5e R 0)) 200 (0,0))):=by
    unfold Hid;rw[z0q _ _ _ _ _ _ _ jx.out];rw[show Q5e R 0={({zeroHd with rch:=true}:Hd)with fo:=Q2h zero9 R} from rfl,← z6i jv.out jl.out];rfl
   have j2:=hid (hW.at jg.out id);have j0:=hid (jk.trans hW);generalize w2.setCells wr.heap.size 12 (tkA (Q2h zero9 R)).toList=W at j5 k3 jh j2 j0 hW ⊢;have k1:wr.heap.size<W.heap.size:=z0j jh.out;have jf:hdA (Q5e R 0)=#[.bool false,.bool true,.bool false,.bool false,.bool false,.bool false,.bool false,.bool false,.bool false,.bool false,.bool false,.bool false,.bool g0,.bool g1,.bool g2,.bool g3,.bool g4,.bool g5,.bool g6,.bool g7,.bool g8]:=by
    rw[show Q5e R 0={({zeroHd with rch:=true}:Hd)with fo:=Q2h zero9 R} from rfl,js.out];rfl
   have j6:(Q5e R 0).cells=[.bool false,.bool true,.bool false,.bool false,.bool false,.bool false,.bool false,.bool false,.bool false,.bool false,.bool false,.bool false,.bool g0,.bool g1,.bool g2,.bool g3,.bool g4,.bool g5,.bool g6,.bool g7,.bool g8]:=by
    rw[show Q5e R 0={({zeroHd with rch:=true}:Hd)with fo:=Q2h zero9 R} from rfl,js.out];rfl
   have l1:(ldH (.pointer (some ⟨wr.heap.size,0,none⟩))).run Tryz.prog W.drew=.ok (.agg #[.bool false,.bool true,.bool false,.bool false,.bool false,.bool false,.bool false,.bool false,.bool false,.bool false,.bool false,.bool false,.bool g0,.bool g1,.bool g2,.bool g3,.bool g4,.bool g5,.bool g6,.bool g7,.bool g8]) W.drew:=by
    rw[← jf];refine z9l (y2j R 0) ?_;intro j v hj;have:W.drew.heap[wr.heap.size]? = some (.cells (hdA (Q5e R 0)) 200 (0,0)):=jh.out;rw[Q0b this,qBy];simpa [hdA]using hj
   have jj:=j2;have j8:=j0;have j4:=hid j5;have ke:=j5.size;have jt:=hid j6;clear j5 j2 j0 hW jf j6 jh h1 jo k8;obtain⟨v',w3,jq,j3,j1,jb⟩:=z24 (P:=Tryz.prog) (W.alloc (.cells #[.bool false,.bool true,.bool false,.bool false,.bool false,.bool false,.bool false,.bool false,.bool false,.bool false,.bool false,.bool false,.bool g0,.bool g1,.bool g2,.bool g3,.bool g4,.bool g5,.bool g6,.bool g7,.bool g8] 200)).drew (w.heap.size+2) 153 153 200 i0 _ 21 21 Tryz.underlying153 jz k2 k4 k5 rfl (by decide) (.slice ha 0 hc) 0 (Q0y Hd.cells (Q0z R 0)) (by have:=j4.own.alloc (.cells #[.bool false,.bool true,.bool false,.bool false,.bool false,.bool false,.bool false,.bool false,.bool false,.bool false,.bool false,.bool false,.bool g0,.bool g1,.bool g2,.bool g3,.bool g4,.bool g5,.bool g6,.bool g7,.bool g8] 200);rw[z1y]at this;exact this) ⟨W.heap.size,0,none⟩ 1 1 (Q5e R 0).cells (by rw[jt.out];rfl) (z0m (by rw[jt.out])) (by intro u hu;exact(qCn.1 (z1w (Q5e R 0))) u (by simpa [hdA]using hu)) (by unfold maxLen;omega) (by omega) (by simp[World.drew];omega);obtain⟨jm,j9,jr⟩:=z0c j3;have ja:w3.heap[w.heap.size+1]? = some (.cells #[.int .i64 R,.int .i64 H,.slice pa ps.length pc,.slice ha 0 hc] 155 (0,0)):=by
    rw[j1.block _ (by show _<(W.alloc _).heap.size;simp;have:=j4.size;omega) (fun e=>by have:=(j4.own.lt _ e.symm).1;omega)];exact z0b j4.blk
   have c3:w3.cell? ⟨w.heap.size+1,3,none⟩=some (.slice ha 0 hc):=(Q0b ja 3);have f3:=Q0f ja 3;have j7:=hid (j4.add (y2j R 0) (((mRf _ W).alloc _).drew) (by rw[z1y];exact j3) j1);have jc:Hid ((w3.setCell ⟨w.heap.size+1,3,none⟩ v').heap[w.heap.size]? = some (.cells #[.int .i64 R,.int .i64 H,.slice pa ps.length pc] 42 (0,0))):=(Mod.mono j7.2 (T:=fun k=>w.heap.size+1<=k) (fun _ _ h=>h)).at jj.out (by omega);have jd:Hid (Q0a w (w3.setCell ⟨w.heap.size+1,3,none⟩ v')):=Mod.trans' j8.out j7.2 (fun k hk h=>by omega);clear j3 j1 jb ja;subst jr;go_region;all_goals
    go_wp2;go_roundw
    case rel =>
     refine⟨0+1,.slice jm (0+1) j9,by go_num,by omega,?_,jd.out,jc.out⟩;rw[HI.out];exact j7.1
    exact ju.out
  have b1:((i:Int)==0)=false:=by simp;omega
  have hW:Q0a wr (wr.alloc (.cells #[.bool false,.bool false,.bool false,.bool false,.bool false,.bool false,.bool false,.bool false,.bool false,.bool false,.bool false,.bool false,.bool false,.bool false,.bool false,.bool false,.bool false,.bool false,.bool false,.bool false,.bool false] 200 (0,0))):=(mRf _ wr).alloc _;have j5:=HF.fresh hW;have k3:=j5.cell 3;simp at k3;have l1:(ldH (.pointer (some ⟨wr.heap.size,0,none⟩))).run Tryz.prog (wr.alloc (.cells #[.bool false,.bool false,.bool false,.bool false,.bool false,.bool false,.bool false,.bool false,.bool false,.bool false,.bool false,.bool false,.bool false,.bool false,.bool false,.bool false,.bool false,.bool false,.bool false,.bool false,.bool false] 200 (0,0))).drew=.ok (.agg #[.bool false,.bool false,.bool false,.bool false,.bool false,.bool false,.bool false,.bool false,.bool false,.bool false,.bool false,.bool false,.bool false,.bool false,.bool false,.bool false,.bool false,.bool false,.bool false,.bool false,.bool false]) (wr.alloc (.cells #[.bool false,.bool false,.bool false,.bool false,.bool false,.bool false,.bool false,.bool false,.bool false,.bool false,.bool false,.bool false,.bool false,.bool false,.bool false,.bool false,.bool false,.bool false,.bool false,.bool false,.bool false] 200 (0,0))).drew :=
   z9l (h:=zeroHd) z2u (z0t (z54 wr zeroHd _) rfl)
  have k7:Hid (Q5e R i=zeroHd):=by unfold Hid Q5e;rw[qAa hz]
  go_wp2;have j2:=hid (z0b (o:=.cells #[.bool false,.bool false,.bool false,.bool false,.bool false,.bool false,.bool false,.bool false,.bool false,.bool false,.bool false,.bool false,.bool false,.bool false,.bool false,.bool false,.bool false,.bool false,.bool false,.bool false,.bool false] 200 (0,0)) jg.out);have j0:=hid (jk.trans hW);have k1:wr.heap.size<(wr.alloc (.cells #[.bool false,.bool false,.bool false,.bool false,.bool false,.bool false,.bool false,.bool false,.bool false,.bool false,.bool false,.bool false,.bool false,.bool false,.bool false,.bool false,.bool false,.bool false,.bool false,.bool false,.bool false] 200 (0,0))).heap.size:=by simp
  generalize wr.alloc (.cells #[.bool false,.bool false,.bool false,.bool false,.bool false,.bool false,.bool false,.bool false,.bool false,.bool false,.bool false,.bool false,.bool false,.bool false,.bool false,.bool false,.bool false,.bool false,.bool false,.bool false,.bool false] 200 (0,0))=W at j5 k3 l1 j2 j0 k1 ⊢;have jj:=j2;have j8:=j0;have j4:=hid j5;have ke:=j5.size;clear j5 j2 j0 hW;obtain⟨v',w3,jq,j3,j1,jb⟩:=z24 (P:=Tryz.prog) (W.alloc (.cells #[.bool false,.bool false,.bool false,.bool false,.bool false,.bool false,.bool false,.bool false,.bool false,.bool false,.bool false,.bool false,.bool false,.bool false,.bool false,.bool false,.bool false,.bool false,.bool false,.bool false,.bool false] 200)).drew (w.heap.size+2) 153 153 200 i0 _ 21 21 Tryz.underlying153 jz k2 k4 k5 rfl (by decide) (.slice ha i hc) i (Q0y Hd.cells (Q0z R i)) (by have:=j4.own.alloc (.cells #[.bool false,.bool false,.bool false,.bool false,.bool false,.bool false,.bool false,.bool false,.bool false,.bool false,.bool false,.bool false,.bool false,.bool false,.bool false,.bool false,.bool false,.bool false,.bool false,.bool false,.bool false] 200);rw[z1y]at this;exact this) ⟨W.heap.size,0,none⟩ 1 1 zeroHd.cells rfl (z0m rfl) (by intro u hu;simp[zeroHd,Hd.cells,bls,zero9]at hu;subst hu;rfl) (by unfold maxLen;omega) (by omega) (by simp[World.drew];omega);obtain⟨jm,j9,jr⟩:=z0c j3;have ja:w3.heap[w.heap.size+1]? = some (.cells #[.int .i64 R,.int .i64 H,.slice pa ps.length pc,.slice ha i hc] 155 (0,0)):=by
   rw[j1.block _ (by show _<(W.alloc _).heap.size;simp;have:=j4.size;omega) (fun e=>by have:=(j4.own.lt _ e.symm).1;omega)];exact z0b j4.blk
  have c3:w3.cell? ⟨w.heap.size+1,3,none⟩=some (.slice ha i hc):=(Q0b ja 3);have f3:=Q0f ja 3;have j7:=hid (j4.add z2u (((mRf _ W).alloc _).drew) (by rw[z1y];exact j3) j1);have jc:Hid ((w3.setCell ⟨w.heap.size+1,3,none⟩ v').heap[w.heap.size]? = some (.cells #[.int .i64 R,.int .i64 H,.slice pa ps.length pc] 42 (0,0))):=(Mod.mono j7.2 (T:=fun k=>w.heap.size+1<=k) (fun _ _ h=>h)).at jj.out (by omega);have jd:Hid (Q0a w (w3.setCell ⟨w.heap.size+1,3,none⟩ v')):=Mod.trans' j8.out j7.2 (fun k hk h=>by omega);clear j3 j1 jb ja;subst jr;go_region;all_goals
   go_wp2;go_roundw
   case rel =>
    refine⟨i+1,.slice jm (i+1) j9,by go_num,by omega,?_,jd.out,jc.out⟩;rw[HI.out,k7.out];exact j7.1
   exact ju.out
 have ka:i=H:=by omega
 have kg:¬(i:Int)<(H:Int):=by omega
 subst ka;have ji:=hid (y60 wr (w.heap.size+1) R i _ _ ps _ hF hps);clear hF jp je;go_wp2_with (first
  |(go_at_call 100;refine ji.mono ?_;rintro e w1⟨rfl,jw,kc⟩))
 go_ret;have jy:Q0a w w1:=Mod.trans' jk.out kc (fun k hk h=>by have:=(HF.own.lt k h).1;omega);first
  |exact⟨_,_,rfl,jy,jw⟩
  |exact⟨_,rfl,jy,_,jw⟩
abbrev IntOwn(w:World)(base:Nat)(v:Value)(l:List Int):Prop:=w.ownsRow base 3 1 v l.length (Q9p l)
end Go.Proofs.YtbdpfmalabgmbaaGreat
