import Derived.Test.YtcpceafmlgaodaaGreatPd1
namespace Go.Proofs.YtcpceafmlgaodaaGreat
open Go.RowKit
set_option maxRecDepth 99999
set_option maxHeartbeats 0
set_option linter.all false
structure SBx(x:LV):Prop where
 fb:FB x
 sy:∀d∈x.ln.syms,0<=d.ls.getD 0 0/\d.ls.getD 0 0<=255
 len:x.ln.syms.length<=1000
theorem x35(w:World)(v:Value)(xs:List LV)(hL:Q1s w v xs)(hn:xs.length<=1000)(hfb:∀x∈xs,SBx x) :
  Calls Tryz.prog 20 #[v] w fun e w'=>TabRet (xs.map LV.ln) w e w':=by
 obtain⟨ao,cap,hv⟩:=z0d hL.own;subst hv;have HL:=hid hL;have jn:=hid hfb;have j7:=hid (fun w h=>y9t w (.slice ao xs.length cap) xs h hn (fun x hx=>(hfb x hx).fb));have j6:=hid (fun w h=>x2q w (.slice ao xs.length cap) xs h hn (fun x hx=>(hfb x hx).fb));have jb:Hid (∀d∈Q0f (xs.map LV.ln),d.ls.length=8):=by
  intro d hd;simp only[Q0f,qBp,qCx]at hd;obtain⟨y,⟨⟨x,hx,rfl⟩,_⟩,rfl⟩:=hd;exact(hL.each x hx).front
 have jh:(Q0f (xs.map LV.ln)).length<=1000:=by
  have:=qCw Q07 (xs.map LV.ln);simp only[Q0f,qAo]at *;omega
 unfold TabRet;have j1:Hid (∀pvs:List PV,pvs.map PV.pr=(Q04 ((xs.take xs.length).map LV.ln)).map (Q7x (Q0f (xs.map LV.ln)) (Q0h (xs.map LV.ln)))->pvs.map PV.pr=Q0q (xs.map LV.ln)):=by
  intro pvs h;rw[qAr]at h;exact h
 generalize Q0q (xs.map LV.ln)=TAB at j1;generalize Q0f (xs.map LV.ln)=NA at j7 jb jh j1;generalize Q0h (xs.map LV.ln)=HE at j6 j1;obtain⟨i0,hi0,iz0,iz1,iz2⟩:=infoPr';have j9:=hid (HL.fresh ((mRf _ w).alloc (.cells #[.int .i64 0,.int .i64 0,.slice none 0 0] 41 (0,0))));clear hL hfb;go_enter Tryz.func20,Tryz.ntmps20
 go_wp2_with (first
  |(go_at_call 47;refine(j6.out _ (j9.fresh hf1)).mono ?_;rintro e w2⟨vh,rfl,hoh,hf2,hh8,hhl⟩;obtain⟨ha,hc,hvh⟩:=z0d hoh;subst hvh)
  |(go_at_call 46;refine(j7.out _ j9.out).mono ?_;rintro e w1⟨vn,rfl,hon,hf1⟩;obtain⟨na,nc,hvn⟩:=z0d hon;subst hvn))
 have jp:Hid (Q3u w2 (.slice na NA.length nc) NA):=⟨z0f (z0c hon (fun g hg=>hf2.block g (hon.lt g hg).2 (fun x=>x))) (qBg _),fun x hx=>Wd.cells_len (jb.out x hx)⟩;have jo:Hid (Q3u w2 (.slice ha HE.length hc) HE):=⟨z0f hoh (qBg _),fun x hx=>Wd.cells_len (hh8 x hx)⟩;have jj:=hid hh8;have je:Hid (Q0a w w2):=Mod.trans ((mRf _ w).alloc _) (Mod.trans hf1 hf2);have jd:=hid (hf2.at (hf1.at (z0a _ _) (fun x=>x)) (fun x=>x));have jr:HE.length<=1000:=by omega
 clear hon hoh hh8 hhl j7 j6 hf1 hf2 j9;go_loopw [5,6,7,14] (fun x5 _ _ x14 wr=>∃(i:Nat) (pvs:List PV),x14=.int .i64 i/\i<=xs.length/\pvs.length<=i/\PRel w wr w2.heap.size x5 pvs/\Q0a w2 wr/\pvs.map PV.pr=(Q04 ((xs.take i).map LV.ln)).map (Q7x NA HE))
   (fun _ _ _ x _=>1001-(intOf x).toNat)
 case atStart=>exact⟨0,[],rfl,by omega,by simp,⟨z0j jd.out,World.ownsRow_nil _ _ _ _,by simp,by simp,je.out,jd.out⟩,mRf _ _,rfl⟩
 obtain⟨i,pvs,rfl,hi,hpl,hrelp,hfr,hmap⟩:=hrel;have jg:=hid (Q15 (B:=1001) i (by omega));have HP:=hid hrelp;have j4:=hid hfr;have jf:=hid (je.trans hfr);have jq:Hid (∀hlt:i<xs.length,(Q04 ((xs.take (i+1)).map LV.ln)).map (Q7x NA HE)=pvs.map PV.pr++(if Q07 xs[i].ln then [] else [Q7x NA HE xs[i].ln])):=by
  intro hlt;rw[Q6g hlt,qBf,qCf,hmap];unfold Q04;rw[qBu,qBf];cases h:Q07 xs[i].ln<;>simp only[qAj,h,qBb,qAp,qF,Bool.not_true,Bool.not_false,List.filter_nil,List.map_nil,qCl,qAt]
 have ja:=hid hmap;obtain⟨ro,rc,hro⟩:=z0d hrelp.own;have js:w.heap.size<wr.heap.size:=z0j hrelp.blk;subst hro;clear hrelp hmap;by_cases hlt:i<xs.length
 ·have jv:(i:Int)<(xs.length:Int):=by omega
  obtain⟨g,cap',hv'⟩:=Joins.ownsRow_form HL.own (by omega);rw[qI]at hv';obtain⟨rfl,_,rfl⟩:=hv';have j8:=hid (HL.fresh jf.out);have RG:=hid (j8.row.range i hlt);have jc:=hid (fun w1 (hf:Q0a wr w1)=>(j8.fresh hf).row.range i hlt);have hA:=j8.each xs[i] (by simp);have j5:=jn.out xs[i] (by simp);have j3:=hid hA.front;have RU:=hid (fun w=>z2p xs[i] w hA.front j5.fb);have ju:Hid (Q07 xs[i].ln=!Q14 xs[i].ln.front):=rfl;rw[← ju.out]at RU;have RP:=hid (fun w1 (hf:Q0a wr w1)=>y2e w1 xs[i] (.slice na NA.length nc) (.slice ha HE.length hc) NA HE (hA.fresh hf) j5.sy j5.len (jp.fresh (j4.trans hf)) jb.out jh (jo.fresh (j4.trans hf)) jj.out jr);have j2:=jq.out hlt;cases hr:Q07 xs[i].ln
  ·rw[hr]at RU j2;simp only[qF,qAp]at j2;have j0:=hid j2;clear j2 hA j5 hr;generalize hX:xs[i]=x at RG jc j3 RU RP j0;clear hX;go_wp2_with (first
    |(at_builtin;refine z0g _ rfl _ _ 39 rfl w2.heap.size 118 i0 _ 2 32 Tryz.underlying39 hi0 iz0 iz1 iz2 rfl (by decide) _ _ _ rfl jk.out ⟨w4.heap.size+1,0,none⟩ 1 1 [.int .i64 (Q7x NA HE x.ln).head,.slice sa (Q7x NA HE x.ln).syms.length scp] rfl rfl (z2s rfl) (by intro u hu;simp at hu;rcases hu with rfl|rfl<;>rfl) (by unfold maxLen;omega) (by omega) (by have h3:=j4.size;have h4:=hf3.size;have h5:=hf4.size;simp;omega) ?_)
    |(go_at_call 49;refine(RP.out _ hf3).mono ?_;rintro e w4⟨v4,rfl,hf4,ho4⟩;obtain⟨sa,scp,hv4⟩:=z0d ho4;subst hv4;have jl:=hid ho4;have jk:=hid (((z0c HP.own (fun g hg=>(hf3.trans hf4).block g (HP.own.lt g hg).2 (fun x=>x))).alloc (.cells #[.int .i64 (Q7x NA HE x.ln).head,.slice sa (Q7x NA HE x.ln).syms.length scp] 118 (0,0))).alloc (.cells #[.int .i64 (Q7x NA HE x.ln).head,.slice sa (Q7x NA HE x.ln).syms.length scp] 118 (0,0))))
    |(refine wpList_load_mid rfl 116 _ rfl g (i*14) rfl x.cells _ (jc.out _ hf3) Tryz.underlying116 rfl (by rw[LV.cells_len j3.out];exact Q1j) ?_)
    |(go_at_call 48;refine(RU.out _).mono ?_;rintro e w3⟨rfl,hf3⟩)
    |(refine wpList_load_mid rfl 116 _ rfl g (i*14) rfl x.cells _ RG.out Tryz.underlying116 rfl (by rw[LV.cells_len j3.out];exact Q1j) ?_))
   intro v' w5 hown2 hgrow hblk;have jm:=hid (HP.next (p:=⟨Q7x NA HE x.ln,.slice sa (Q7x NA HE x.ln).syms.length scp⟩) (((hf3.trans hf4).alloc _).alloc _) (z0f ((jl.alloc _).alloc _) (hf3.size)) hown2 hgrow (fun k hk=>(hblk k hk).imp id (fun h=>by simpa using h)));have ji:Hid (Q0a w2 w5):=Mod.grown (S:=fun _=>False) (j4.trans (((hf3.trans hf4).alloc _).alloc _)) hgrow (fun k hk hlt=>by have:=(HP.own.lt k hk).1;omega);clear hown2 hgrow hblk;go_wp2;go_roundw
   case rel =>
    refine⟨i+1,_,by go_num,by omega,by simp;omega,jm.out,ji.out,?_⟩;rw[j0.out,qBf];rfl
   exact jg.out
  rw[hr]at RU j2;simp only[qBb,qAt]at j2;have j0:=hid j2;clear j2 hA j5 hr;generalize hX:xs[i]=x at RG jc j3 RU RP j0;clear hX;go_wp2_with (first
   |(go_at_call 48;refine(RU.out _).mono ?_;rintro e w3⟨rfl,hf3⟩)
   |(refine wpList_load_mid rfl 116 _ rfl g (i*14) rfl x.cells _ RG.out Tryz.underlying116 rfl (by rw[LV.cells_len j3.out];exact Q1j) ?_))
  go_roundw
  case rel=>exact⟨i+1,pvs,by go_num,by omega,by omega,HP.fresh' hf3,j4.trans hf3,j0.symm⟩
  exact jg.out
 have jt:i=xs.length:=by omega
 have jw:¬(i:Int)<(xs.length:Int):=by omega
 go_wp2_with (first
  |(refine wpList_store_row rfl 41 _ _ rfl w.heap.size #[.int .i64 NA.length,.int .i64 HE.length,.slice ro pvs.length rc] rfl rfl _ _ HP.blk Q9g rfl (all_oneCell_toArray (cs:=[.int .i64 NA.length,.int .i64 HE.length,.slice ro pvs.length rc]) (by intro v hv;simp at hv;rcases hv with rfl|rfl|rfl<;>rfl)) ?_))
 refine bodyPost_ret (results_cell_row rfl _ _ w.heap.size 41 #[.int .i64 NA.length,.int .i64 HE.length,.slice ro pvs.length rc] (0,0) _ rfl (setRow_heap _ _ _ _ _ _ HP.blk) Tryz.underlying41 rfl Q9g) rfl ⟨_,rfl,jf.setRow (fun h=>absurd h (qBk _)) _,pvs,j1.out pvs (by rw[← jt];exact ja.out),?_⟩;exact HP.prs _
def SyB(x:Ln):Prop:=∀d∈x.syms,0<=d.ls.getD 0 0/\d.ls.getD 0 0<=255
theorem z4d:SyB Q4c:=fun d hd=>by simp[Q4c]at hd
theorem y4t(s:ByteArray)(d:Wd):∀(f:Nat) (next:Int) (syms:List Wd),(∀d∈syms,0<=d.ls.getD 0 0/\d.ls.getD 0 0<=255)->SyB (Q2w s d f next syms).1
 |0,_,_,_=>z4d
 |f+1,next,syms,h=>by
  unfold Q2w;split
  ·split
   ·exact z4d
   refine y4t s d f _ _ ?_;intro e he;simp only[qU,qM]at he;rcases he with he|rfl
   ·exact h e he
   exact z65 s (next+1)
  split
  ·exact z4d
  exact h
theorem x67(s:ByteArray)(i:Int):SyB (Q2s s i).1:=by
 unfold Q2s;split
 ·exact z4d
 split
 ·unfold Q6e;split
  ·exact z4d
  exact y4t s _ _ _ _ (by simp)
 unfold Q6f;repeat' split
 all_goals first|exact z4d|(intro d hd;simp at hd)
theorem y1c(s:ByteArray):∀(f:Nat) (i:Int) (acc:List Ln),(∀x∈acc,SyB x)->∀x∈(Q1k s f i acc).1,SyB x
 |0,_,_,_,x,hx=>by simp[Q1k]at hx
 |f+1,i,acc,h,x,hx=>by
  unfold Q1k at hx;split at hx
  ·split at hx
   ·simp at hx
   refine y1c s f _ _ ?_ x hx;intro y hy;simp only[qU,qM]at hy;rcases hy with hy|rfl
   ·exact h y hy
   exact x67 s i
  exact h x hx
theorem x4d(s:ByteArray):∀x∈(Q0c s).1,SyB x:=y1c s _ 0 [] (by simp)
theorem y7r{s:ByteArray}(h:(Q0t s).1=0):s.size<=800:=by
 by_cases h8:800<s.size
 ·have:=z8m s;rw[qAb h8]at this;rw[this]at h;cases h
 omega
theorem Q3c.setRow{w2:World}{B g:Nat}{v:Value}{pvs:List PV}(h:Q3c w2 B v pvs)(hb:w2.heap[g]? = some (.cells #[.int .i64 0,.int .i64 0,.slice none 0 0] 41 (0,0)))(cs:Array Value):Q3c (w2.setRow g cs) B v pvs:=by
 refine⟨⟨z0c h.row.own (fun k hk=>setRow_other _ _ _ _ ?_),h.row.wf⟩,h.lt,fun p hp=>?_⟩
 ·intro e;rcases h.row.own.2 with⟨h1,_⟩|⟨g',cap,cur,h1,_,h3,_⟩
  ·rw[h1]at hk;cases hk
  rw[h1]at hk;simp[Value.ownBlock]at hk;subst hk;subst e;rw[hb]at h3;simp at h3
 obtain⟨ao,cap,h1,h2,h3,h4⟩:=h.syms p hp;refine⟨ao,cap,h1,h2,h3,fun i hi=>?_⟩;obtain⟨g',o,h5,h6,h7⟩:=h4 i hi;refine⟨g',o,h5,h6,z0t h7 (setRow_other _ _ _ _ ?_)⟩;intro e;subst e;have h8:=h7 0 (.bool (p.pr.syms[i]).isH) rfl;rw[Q0b hb]at h8;rcases hq:o+i*2+0 with _|_|_|k;all_goals (rw[hq]at h8;simp at h8)
def Q9o(s:ByteArray)(w:World)(e:Ending)(w':World):Prop :=
 ∃vp pvs,e=.returned (.tuple #[.agg #[.int .i64 (Q0f (Q0c s).1).length,.int .i64 (Q0h (Q0c s).1).length,vp],.int .i64 0])/\Q0a w w'/\pvs.map PV.pr=Q0q (Q0c s).1/\Q3c w' w'.heap.size vp pvs
theorem x0u(s:ByteArray)(w:World)(hs:s.size<=maxLen)(hc:(Q0t s).1=0) :
  Calls Tryz.prog 11 #[.string s] w fun e w'=>Q9o s w e w':=by
 have SC:=hid (fun w=>z5o s w hs);have H0:=hid hc;have j6:=(z47 s).1;have j3:=(z47 s).2;have j5:=x4d s;have j7:=y7r hc;have j4:Hid (∀xs:List LV,xs.map LV.ln=(Q0c s).1->xs.length<=1000/\(∀x∈xs,SBx x)):=by
  intro xs hx;have h1:xs.length=(Q0c s).1.length:=by rw[← hx];simp
  refine⟨by omega,fun x hxx=>?_⟩;have hm:x.ln∈(Q0c s).1:=by rw[← hx];exact qBp.2 ⟨x,hxx,rfl⟩
  exact⟨(j3 x.ln hm).fb,j5 x.ln hm,by have:=(j3 x.ln hm).sb;omega⟩
 clear j6 j3 j5 hc;go_enter Tryz.func11,Tryz.ntmps11
 go_wp2_with (first
  |(go_at_call 20;refine(x35 _ v xs HL.out (j4.out xs HX.out).1 (j4.out xs HX.out).2).mono ?_;rintro e w2⟨vp,pvs,rfl,hf2,hmap,hprs⟩;obtain⟨ra,rc,hvp⟩:=z0d hprs.row.own;subst hvp;have j1:=hid hprs;have j0:=hid hmap;have j2:=hid (hf2.at (hf1.at (z0a _ _) (fun x=>x)) (fun x=>x)))
  |(refine wpList_store_row rfl 41 _ _ rfl w.heap.size #[.int .i64 (Q0f (xs.map LV.ln)).length,.int .i64 (Q0h (xs.map LV.ln)).length,.slice ra pvs.length rc] rfl rfl _ _ j2.out Q9g rfl (all_oneCell_toArray (cs:=[.int .i64 (Q0f (xs.map LV.ln)).length,.int .i64 (Q0h (xs.map LV.ln)).length,.slice ra pvs.length rc]) (by intro v hv;simp only[qBc,qCt,or_false]at hv;rcases hv with rfl|rfl|rfl<;>rfl)) ?_)
  |(go_at_call 19;refine(SC.out _).mono ?_;rintro e w1⟨v,rfl,hf1,xs,hL,hxs⟩;rw[H0.out];have HX:=hid (hxs.elim (fun h=>absurd H0.out h.1) (fun h=>h.2));clear hxs;have HL:=hid hL;clear hL))
 refine bodyPost_ret (z0m rfl _ _ w.heap.size 41 #[.int .i64 (Q0f (xs.map LV.ln)).length,.int .i64 (Q0h (xs.map LV.ln)).length,.slice ra pvs.length rc] (0,0) _ rfl (setRow_heap _ _ _ _ _ _ j2.out) Tryz.underlying41 rfl Q9g) rfl ?_;have hF:Q0a w w2:=Mod.trans ((mRf _ w).alloc _) (Mod.trans hf1 hf2);refine⟨_,pvs,by rw[← HX.out];rfl,hF.setRow (fun h=>absurd h (qBk _)) _,by rw[← HX.out];exact j0.out,?_⟩;have:=j1.setRow j2.out #[.int .i64 (Q0f (xs.map LV.ln)).length,.int .i64 (Q0h (xs.map LV.ln)).length,.slice ra pvs.length rc];simpa using this
theorem x47(s:ByteArray)(w:World)(hs:s.size<=maxLen)(hc:(Q0t s).1≠0) :
  Calls Tryz.prog 11 #[.string s] w fun e w'=>e=.returned (.tuple #[.agg #[.int .i64 0,.int .i64 0,.slice none 0 0],.int .i64 (Q0t s).1])/\Q0a w w':=by
 have SC:=hid (fun w=>z5o s w hs);have c0:((Q0t s).1 != 0)=true:=by simpa using hc
 clear hc;go_enter Tryz.func11,Tryz.ntmps11
 go_wp2_with (first
  |(refine wpList_store_row rfl 41 _ _ rfl w.heap.size #[.int .i64 0,.int .i64 0,.slice none 0 0] rfl rfl _ _ j0.out Q9g rfl (all_oneCell_toArray (cs:=[.int .i64 0,.int .i64 0,.slice none 0 0]) (by intro v hv;simp only[qBc,qCt,or_false]at hv;rcases hv with rfl|rfl|rfl<;>rfl)) ?_)
  |(go_at_call 19;refine(SC.out _).mono ?_;rintro e w1⟨v,rfl,hf1,_⟩;have j0:=hid (hf1.at (z0a _ _) (fun x=>x))))
 refine bodyPost_ret (z0m rfl _ _ w.heap.size 41 #[.int .i64 0,.int .i64 0,.slice none 0 0] (0,0) _ rfl (setRow_heap _ _ _ _ _ _ j0.out) Tryz.underlying41 rfl Q9g) rfl ⟨rfl,?_⟩;exact(Mod.trans ((mRf _ w).alloc _) hf1).setRow (fun h=>absurd h (qBk _)) _
def Q45(R:Int)(i:Nat):Hd:=if i=0 then {zeroHd with rch:=true,fo:=Q2b zero9 R} else zeroHd
def Q0v(R:Int):Nat->List Hd
 |0=>[]
 |n+1=>Q0v R n++[Q45 R n]
theorem y11(R:Int)(i:Nat):(Q45 R i).ok:=by
 unfold Q45;split
 ·exact⟨rfl,z2m rfl⟩
 exact z2n
theorem z1v(R:Int):∀n,(Q0v R n).length=n
 |0=>rfl
 |n+1=>by simp[Q0v,z1v R n]
theorem Q3c.up{w:World}{B B':Nat}{v:Value}{ps:List PV}(h:Q3c w B v ps)(hB:B<=B'):Q3c w B' v ps:=by
 refine⟨h.row,fun g hg=>qCr (h.lt g hg) hB,fun p hp=>?_⟩;obtain⟨ao,cap,h1,h2,h3,h4⟩:=h.syms p hp;refine⟨ao,cap,h1,h2,h3,fun i hi=>?_⟩;obtain⟨g,o,h5,h6,h7⟩:=h4 i hi;exact⟨g,o,h5,qCr h6 hB,h7⟩
theorem FA.add{w W w3:World}{b:Nat}{R H:Int}{vp vh v':Value}{ps:List PV}{hs:List Hd}{x:Hd}(h:FA w b R H vp vh ps hs)(hx:x.ok)(hf:Q0a w W)
  (hown:w3.ownsRow (b+1) 179 21 v' (hs.length+1) (Q00 Hd.cells hs++x.cells)) (hg:W.grownBy w3 vh.ownBlock) :
  FA (w3.setCell ⟨b,3,none⟩ v') b R H vp v' ps (hs++[x])/\Mod (fun k=>b<=k) w (w3.setCell ⟨b,3,none⟩ v'):=by
 have hW:=h.fresh hf;have j0:∀k,vh.ownBlock=some k->b+1<=k:=fun k hk=>(h.own.lt k hk).1;have j2:Mod (fun k=>b<=k) W w3:=Mod.grown (mRf _ W) hg (fun k hk _=>by have:=j0 k hk;omega);have hm:Mod (fun k=>b<=k) W (w3.setCell ⟨b,3,none⟩ v'):=j2.setCell (fun _=>qR _) _;refine⟨⟨?_,?_,?_,?_⟩,Mod.trans (Mod.mono hf (fun _ _ x=>x.elim)) hm⟩
 ·have j1:w3.heap[b]? = some (.cells #[.int .i64 R,.int .i64 H,vp,vh] 138 (0,0)):=by
   rw[hg.block b (z0j hW.blk) (fun e=>by have:=j0 _ e.symm;omega)];exact hW.blk
  rw[zhs j1];rfl
 ·exact hW.prs.kept (qEa (z0j hW.blk)) hm (fun k hk hs=>by omega)
 ·rw[z0y,qP,qAf];exact z0c hown (fun g hg=>heap_setCell_other _ (by have:=(hown.lt g hg).1;dsimp only;omega))
 intro y hy;simp only[qU,qM]at hy;rcases hy with hy|rfl
 ·exact h.ok y hy
 exact hx
theorem infoHd:(Tryz.prog.info? 179).map (fun i=>(i.zero,i.size,i.bytes))=some (some (.agg (hdA zeroHd)),21,21):=by kernel_rfl
theorem infoHd':∃i,Tryz.prog.info? 179=some i/\i.zero=some (.agg (hdA zeroHd))/\i.size=21/\i.bytes=21:=nfoE infoHd
attribute [local go_sem ↓] z13 y8a
theorem y3u(w:World)(R H:Nat)(vp:Value)(ps:List PV)(hp:Q3c w w.heap.size vp ps)(hps:ps.length<=1000)(hH:H<=1000)(hR:R<=1000) :
  Calls Tryz.prog 50 #[.agg #[.int .i64 R,.int .i64 H,vp]] w fun e w'=>∃b vh,e=.returned (Q25 b)/\Q0a w w'/\FA w' b R H vp vh ps (Q3w (Q0j ps) (Q0v R H)):=by
 obtain⟨i0,hi0,iz0,iz1,iz2⟩:=infoHd';have HP:=hid hp;obtain⟨pa,pc,hvp⟩:=z0d hp.row.own;subst hvp;clear hp;have jp:Hid (FA ((w.alloc (.cells #[.int .i64 R,.int .i64 H,.slice pa ps.length pc] 41 (0,0))).alloc (.cells #[.int .i64 R,.int .i64 H,.slice pa ps.length pc,.slice none 0 0] 138 (0,0))) (w.heap.size+1) R H (.slice pa ps.length pc) (.slice none 0 0) ps []) :=
  ⟨heap_alloc2_new _ _ _,(HP.kept (qR _) (((mRf (fun _=>False) w).alloc _).alloc _) (fun _ _ x=>x)).up (by omega),World.ownsRow_nil _ _ _ _,by simp⟩
 go_enter Tryz.func50,Tryz.ntmps50
 go_wp2;go_loopw [4,5] (fun x4 _ wr=>∃(i:Nat) (vh:Value),x4=.int .i64 i/\i<=H/\FA wr (w.heap.size+1) R H (.slice pa ps.length pc) vh ps (Q0v R i)/\Q0a w wr/\wr.heap[w.heap.size]? = some (.cells #[.int .i64 R,.int .i64 H,.slice pa ps.length pc] 41 (0,0)))
   (fun x _ _=>H+1-(intOf x).toNat)
 case atStart=>exact⟨0,.slice none 0 0,rfl,by omega,jp.out,((mRf _ w).alloc _).alloc _,heap_alloc2_old _ _ _⟩
 obtain⟨i,vh,rfl,hi,hF,hfr,hbt⟩:=hrel;have jk:=hid (Q15 (B:=H+1) i (by omega));have HF:=hid hF;have jf:=hid hfr;have jb:=hid hbt;have c1:=Q0b hbt 1;have c0:=Q0b hbt 0;simp at c1 c0;obtain⟨ha,hc,hvh⟩:=z0d hF.own;rw[z1v]at hvh;subst hvh;have js:=hF.size;by_cases hlt:i<H
 ·have jw:(i:Int)<(H:Int):=by omega
  have HI:Hid (Q0v R (i+1)=Q0v R i++[Q45 R i]):=rfl;clear hF hfr hbt;by_cases hz:i=0
  ·subst hz;have jh:=z2m (a:=zero9) (n:=(R:Int)) rfl;have jg:=hid jh;obtain⟨g0,g1,g2,g3,g4,g5,g6,g7,g8,hg⟩:=Q7a jh;have ji:=hid hg;have h1:Q0a wr (wr.alloc (.cells #[.bool false,.bool true,.bool false,.bool false,.bool false,.bool false,.bool false,.bool false,.bool false,.bool false,.bool false,.bool false,.bool false,.bool false,.bool false,.bool false,.bool false,.bool false,.bool false,.bool false,.bool false] 179 (0,0))):=(mRf _ wr).alloc _;have ju:=z0j jb.out;have jr:(wr.alloc (.cells #[.bool false,.bool true,.bool false,.bool false,.bool false,.bool false,.bool false,.bool false,.bool false,.bool false,.bool false,.bool false,.bool false,.bool false,.bool false,.bool false,.bool false,.bool false,.bool false,.bool false,.bool false] 179 (0,0))).cell? ⟨w.heap.size,0,none⟩=some (.int .i64 R):=by rw[Q0b (z0b jb.out) 0];rfl
   have jl:Hid (Hd.ok {zeroHd with rch:=true}):=⟨rfl,rfl⟩;clear jh hg;go_wp2_with (first
    |(refine wpList_store_mid rfl 130 _ _ rfl wr.heap.size 12 (tkA (Q2b zero9 R)) rfl rfl (by rw[z0u jg.out];exact z4k jl.out jm.out (by omega)) (Q0s jg.out) (z1g _) ?_)
    |(go_at_call 56;refine(z95 _ zero9 (R:Int) rfl).mono ?_;rintro e w2⟨rfl,hf2⟩;have jm:Hid (w2.heap[wr.heap.size]? = some (.cells (hdA {zeroHd with rch:=true}) 179 (0,0))):=hf2.at (z0a wr (.cells #[.bool false,.bool true,.bool false,.bool false,.bool false,.bool false,.bool false,.bool false,.bool false,.bool false,.bool false,.bool false,.bool false,.bool false,.bool false,.bool false,.bool false,.bool false,.bool false,.bool false,.bool false] 179 (0,0))) (fun x=>x)))
   have hW:Q0a wr (w2.setCells wr.heap.size 12 (tkA (Q2b zero9 R)).toList):=Mod.setCells (fun h=>absurd h (qBk _)) _ _ _ (Mod.trans h1 hf2);have j3:=HF.fresh hW;have k3:=j3.cell 3;simp at k3;have jc:Hid ((w2.setCells wr.heap.size 12 (tkA (Q2b zero9 R)).toList).heap[wr.heap.size]? = some (.cells (hdA (Q45 R 0)) 179 (0,0))):=by
    unfold Hid;rw[z0p _ _ _ _ _ _ _ jm.out];rw[show Q45 R 0={({zeroHd with rch:=true}:Hd)with fo:=Q2b zero9 R} from rfl,← z59 jl.out jg.out];rfl
   have j1:=hid (hW.at jb.out (fun x=>x));have j0:=hid (jf.trans hW);generalize w2.setCells wr.heap.size 12 (tkA (Q2b zero9 R)).toList=W at j3 k3 jc j1 j0 hW ⊢;have jo:wr.heap.size<W.heap.size:=z0j jc.out;have ja:hdA (Q45 R 0)=#[.bool false,.bool true,.bool false,.bool false,.bool false,.bool false,.bool false,.bool false,.bool false,.bool false,.bool false,.bool false,.bool g0,.bool g1,.bool g2,.bool g3,.bool g4,.bool g5,.bool g6,.bool g7,.bool g8]:=by
    rw[show Q45 R 0={({zeroHd with rch:=true}:Hd)with fo:=Q2b zero9 R} from rfl,ji.out];rfl
   have j4:(Q45 R 0).cells=[.bool false,.bool true,.bool false,.bool false,.bool false,.bool false,.bool false,.bool false,.bool false,.bool false,.bool false,.bool false,.bool g0,.bool g1,.bool g2,.bool g3,.bool g4,.bool g5,.bool g6,.bool g7,.bool g8]:=by
    rw[show Q45 R 0={({zeroHd with rch:=true}:Hd)with fo:=Q2b zero9 R} from rfl,ji.out];rfl
   have l1:(ldH (.pointer (some ⟨wr.heap.size,0,none⟩))).run Tryz.prog W.drew=.ok (.agg #[.bool false,.bool true,.bool false,.bool false,.bool false,.bool false,.bool false,.bool false,.bool false,.bool false,.bool false,.bool false,.bool g0,.bool g1,.bool g2,.bool g3,.bool g4,.bool g5,.bool g6,.bool g7,.bool g8]) W.drew:=by
    rw[← ja];refine z88 (y11 R 0) ?_;intro j v hj;have:W.drew.heap[wr.heap.size]? = some (.cells (hdA (Q45 R 0)) 179 (0,0)):=jc.out;rw[Q0b this,qBi];simpa [hdA]using hj
   have je:=j1;have j6:=j0;have j2:=hid j3;have jv:=j3.size;have jj:=hid j4;clear j3 j1 j0 hW ja j4 jc h1 hf2 jr;obtain⟨v',w3,hrun,hown,hgrow,hblk⟩:=z2y (P:=Tryz.prog) (W.alloc (.cells #[.bool false,.bool true,.bool false,.bool false,.bool false,.bool false,.bool false,.bool false,.bool false,.bool false,.bool false,.bool false,.bool g0,.bool g1,.bool g2,.bool g3,.bool g4,.bool g5,.bool g6,.bool g7,.bool g8] 179)).drew (w.heap.size+2) 136 136 179 i0 _ 21 21 Tryz.underlying136 hi0 iz0 iz1 iz2 rfl (by decide) (.slice ha 0 hc) 0 (Q00 Hd.cells (Q0v R 0)) (by have:=j2.own.alloc (.cells #[.bool false,.bool true,.bool false,.bool false,.bool false,.bool false,.bool false,.bool false,.bool false,.bool false,.bool false,.bool false,.bool g0,.bool g1,.bool g2,.bool g3,.bool g4,.bool g5,.bool g6,.bool g7,.bool g8] 179);rw[z1v]at this;exact this) ⟨W.heap.size,0,none⟩ 1 1 (Q45 R 0).cells (by rw[jj.out];rfl) (z0l (by rw[jj.out])) (by intro u hu;exact(qCa.1 (z1t (Q45 R 0))) u (by simpa [hdA]using hu)) (by unfold maxLen;omega) (by omega) (by simp[World.drew];omega);obtain⟨ao3,cap3,hv3⟩:=z0d hown;have j7:w3.heap[w.heap.size+1]? = some (.cells #[.int .i64 R,.int .i64 H,.slice pa ps.length pc,.slice ha 0 hc] 138 (0,0)):=by
    rw[hgrow.block _ (by show _<(W.alloc _).heap.size;simp;have:=j2.size;omega) (fun e=>by have:=(j2.own.lt _ e.symm).1;omega)];exact z0b j2.blk
   have c3:w3.cell? ⟨w.heap.size+1,3,none⟩=some (.slice ha 0 hc):=(Q0b j7 3);have f3:=Q0g j7 3;have j5:=hid (j2.add (y11 R 0) (((mRf _ W).alloc _).drew) (by rw[z1v];exact hown) hgrow);have j8:Hid ((w3.setCell ⟨w.heap.size+1,3,none⟩ v').heap[w.heap.size]? = some (.cells #[.int .i64 R,.int .i64 H,.slice pa ps.length pc] 41 (0,0))):=(Mod.mono j5.2 (T:=fun k=>w.heap.size+1<=k) (fun _ _ h=>h)).at je.out (by omega);have j9:Hid (Q0a w (w3.setCell ⟨w.heap.size+1,3,none⟩ v')):=Mod.trans' j6.out j5.2 (fun k hk h=>by omega);clear hown hgrow hblk j7;subst hv3;go_region;all_goals
    go_wp2;go_roundw
    case rel =>
     refine⟨0+1,.slice ao3 (0+1) cap3,by go_num,by omega,?_,j9.out,j8.out⟩;rw[HI.out];exact j5.1
    exact jk.out
  have b1:((i:Int)==0)=false:=by simp;omega
  have hW:Q0a wr (wr.alloc (.cells #[.bool false,.bool false,.bool false,.bool false,.bool false,.bool false,.bool false,.bool false,.bool false,.bool false,.bool false,.bool false,.bool false,.bool false,.bool false,.bool false,.bool false,.bool false,.bool false,.bool false,.bool false] 179 (0,0))):=(mRf _ wr).alloc _;have j3:=HF.fresh hW;have k3:=j3.cell 3;simp at k3;have l1:(ldH (.pointer (some ⟨wr.heap.size,0,none⟩))).run Tryz.prog (wr.alloc (.cells #[.bool false,.bool false,.bool false,.bool false,.bool false,.bool false,.bool false,.bool false,.bool false,.bool false,.bool false,.bool false,.bool false,.bool false,.bool false,.bool false,.bool false,.bool false,.bool false,.bool false,.bool false] 179 (0,0))).drew=.ok (.agg #[.bool false,.bool false,.bool false,.bool false,.bool false,.bool false,.bool false,.bool false,.bool false,.bool false,.bool false,.bool false,.bool false,.bool false,.bool false,.bool false,.bool false,.bool false,.bool false,.bool false,.bool false]) (wr.alloc (.cells #[.bool false,.bool false,.bool false,.bool false,.bool false,.bool false,.bool false,.bool false,.bool false,.bool false,.bool false,.bool false,.bool false,.bool false,.bool false,.bool false,.bool false,.bool false,.bool false,.bool false,.bool false] 179 (0,0))).drew :=
   z88 (h:=zeroHd) z2n (z0t (z5w wr zeroHd _) rfl)
  have jq:Hid (Q45 R i=zeroHd):=by unfold Hid Q45;rw[qAa hz]
  go_wp2;have j1:=hid (z0b (o:=.cells #[.bool false,.bool false,.bool false,.bool false,.bool false,.bool false,.bool false,.bool false,.bool false,.bool false,.bool false,.bool false,.bool false,.bool false,.bool false,.bool false,.bool false,.bool false,.bool false,.bool false,.bool false] 179 (0,0)) jb.out);have j0:=hid (jf.trans hW);have jo:wr.heap.size<(wr.alloc (.cells #[.bool false,.bool false,.bool false,.bool false,.bool false,.bool false,.bool false,.bool false,.bool false,.bool false,.bool false,.bool false,.bool false,.bool false,.bool false,.bool false,.bool false,.bool false,.bool false,.bool false,.bool false] 179 (0,0))).heap.size:=by simp
  generalize wr.alloc (.cells #[.bool false,.bool false,.bool false,.bool false,.bool false,.bool false,.bool false,.bool false,.bool false,.bool false,.bool false,.bool false,.bool false,.bool false,.bool false,.bool false,.bool false,.bool false,.bool false,.bool false,.bool false] 179 (0,0))=W at j3 k3 l1 j1 j0 jo ⊢;have je:=j1;have j6:=j0;have j2:=hid j3;have jv:=j3.size;clear j3 j1 j0 hW;obtain⟨v',w3,hrun,hown,hgrow,hblk⟩:=z2y (P:=Tryz.prog) (W.alloc (.cells #[.bool false,.bool false,.bool false,.bool false,.bool false,.bool false,.bool false,.bool false,.bool false,.bool false,.bool false,.bool false,.bool false,.bool false,.bool false,.bool false,.bool false,.bool false,.bool false,.bool false,.bool false] 179)).drew (w.heap.size+2) 136 136 179 i0 _ 21 21 Tryz.underlying136 hi0 iz0 iz1 iz2 rfl (by decide) (.slice ha i hc) i (Q00 Hd.cells (Q0v R i)) (by have:=j2.own.alloc (.cells #[.bool false,.bool false,.bool false,.bool false,.bool false,.bool false,.bool false,.bool false,.bool false,.bool false,.bool false,.bool false,.bool false,.bool false,.bool false,.bool false,.bool false,.bool false,.bool false,.bool false,.bool false] 179);rw[z1v]at this;exact this) ⟨W.heap.size,0,none⟩ 1 1 zeroHd.cells rfl (z0l rfl) (by intro u hu;simp[zeroHd,Hd.cells,bls,zero9]at hu;subst hu;rfl) (by unfold maxLen;omega) (by omega) (by simp[World.drew];omega);obtain⟨ao3,cap3,hv3⟩:=z0d hown;have j7:w3.heap[w.heap.size+1]? = some (.cells #[.int .i64 R,.int .i64 H,.slice pa ps.length pc,.slice ha i hc] 138 (0,0)):=by
   rw[hgrow.block _ (by show _<(W.alloc _).heap.size;simp;have:=j2.size;omega) (fun e=>by have:=(j2.own.lt _ e.symm).1;omega)];exact z0b j2.blk
  have c3:w3.cell? ⟨w.heap.size+1,3,none⟩=some (.slice ha i hc):=(Q0b j7 3);have f3:=Q0g j7 3;have j5:=hid (j2.add z2n (((mRf _ W).alloc _).drew) (by rw[z1v];exact hown) hgrow);have j8:Hid ((w3.setCell ⟨w.heap.size+1,3,none⟩ v').heap[w.heap.size]? = some (.cells #[.int .i64 R,.int .i64 H,.slice pa ps.length pc] 41 (0,0))):=(Mod.mono j5.2 (T:=fun k=>w.heap.size+1<=k) (fun _ _ h=>h)).at je.out (by omega);have j9:Hid (Q0a w (w3.setCell ⟨w.heap.size+1,3,none⟩ v')):=Mod.trans' j6.out j5.2 (fun k hk h=>by omega);clear hown hgrow hblk j7;subst hv3;go_region;all_goals
   go_wp2;go_roundw
   case rel =>
    refine⟨i+1,.slice ao3 (i+1) cap3,by go_num,by omega,?_,j9.out,j8.out⟩;rw[HI.out,jq.out];exact j5.1
   exact jk.out
 have jt:i=H:=by omega
 have jx:¬(i:Int)<(H:Int):=by omega
 subst jt;have jd:=hid (y6i wr (w.heap.size+1) R i _ _ ps _ hF hps);clear hF hfr hbt;go_wp2_with (first
  |(go_at_call 83;refine jd.mono ?_;rintro e w1⟨rfl,hF1,hm1⟩))
 go_ret;have jn:Q0a w w1:=Mod.trans' jf.out hm1 (fun k hk h=>by have:=(HF.own.lt k h).1;omega);first
  |exact⟨_,_,rfl,jn,hF1⟩
  |exact⟨_,rfl,jn,_,hF1⟩
abbrev IntOwn(w:World)(base:Nat)(v:Value)(l:List Int):Prop:=w.ownsRow base 3 1 v l.length (Q5w l)
end Go.Proofs.YtcpceafmlgaodaaGreat
