import Derived.Test.YtcpceafmlgaodaaGreatPd2
import Derived.Test.YtcpceafmlgaodaaGreatSeb
namespace Go.Proofs.YtcpceafmlgaodaaGreat
open Go.RowKit
set_option maxRecDepth 100000
set_option maxHeartbeats 16000000
set_option linter.unusedVariables false
set_option linter.unusedSimpArgs false
structure SBx(x:LV):Prop where
 fb:FB x
 sy:∀d∈x.ln.syms,0<=d.ls.getD 0 0/\d.ls.getD 0 0<=255
 len:x.ln.syms.length<=1000
theorem x1j(w:World)(v:Value)(xs:List LV)(hL:Q1x w v xs)(hn:xs.length<=1000)(hfb:∀x∈xs,SBx x) :
  Calls Tryz.prog 20#[v]w fun e w'=>TabRet(xs.map LV.ln)w e w':=by
 obtain⟨ao,cap,hv⟩:=z0d hL.own;subst hv;have HL:=hid hL;have jo:=hid hfb;have j7:=hid(fun w h=>y9q w(.slice ao xs.length cap)xs h hn(fun x hx=>(hfb x hx).fb));have ja:=hid(fun w h=>x1q w(.slice ao xs.length cap)xs h hn(fun x hx=>(hfb x hx).fb));have jb:Hid(∀d∈Q0g(xs.map LV.ln),d.ls.length=8):=by
  intro d hd;simp only[Q0g,List.mem_map,List.mem_filter]at hd;obtain⟨y,⟨⟨x,hx,rfl⟩,_⟩,rfl⟩:=hd;exact(hL.each x hx).front
 have je:(Q0g(xs.map LV.ln)).length<=1000:=by
  have:=List.length_filter_le Q1g(xs.map LV.ln);simp only[Q0g,List.length_map]at *;omega
 unfold TabRet;have j1:Hid(∀pvs:List PV,pvs.map PV.pr=(Q06((xs.take xs.length).map LV.ln)).map(Q75(Q0g(xs.map LV.ln))(Q0i(xs.map LV.ln)))->pvs.map PV.pr=Q0r(xs.map LV.ln)):=by
  intro pvs h;rw[List.take_length]at h;exact h
 generalize Q0r(xs.map LV.ln)=TAB at j1;generalize Q0g(xs.map LV.ln)=NA at j7 jb je j1;generalize Q0i(xs.map LV.ln)=HE at ja j1;obtain⟨i0,hi0,iz0,iz1,iz2⟩:=infoPr';have j9:=hid(HL.out.fresh((mRf _ w).alloc(.cells#[.int .i64 0,.int .i64 0,.slice none 0 0]41(0,0))));clear hL hfb;go_enter Tryz.func20,Tryz.ntmps20
 go_wp2_with(first
  |(go_at_call 47;refine(ja.out _(j9.out.fresh hf1)).mono ?_;rintro e w2⟨vh,rfl,hoh,hf2,hh8,hhl⟩;obtain⟨ha,hc,hvh⟩:=z0d hoh;subst hvh)
  |(go_at_call 46;refine(j7.out _ j9.out).mono ?_;rintro e w1⟨vn,rfl,hon,hf1⟩;obtain⟨na,nc,hvn⟩:=z0d hon;subst hvn))
 have jk:Hid(Q33 w2(.slice na NA.length nc)NA):=⟨z0f(z0c hon(fun g hg=>hf2.block g(hon.lt g hg).2(fun x=>x)))(Nat.zero_le _),fun x hx=>Wd.cells_len(jb.out x hx)⟩;have ju:Hid(Q33 w2(.slice ha HE.length hc)HE):=⟨z0f hoh(Nat.zero_le _),fun x hx=>Wd.cells_len(hh8 x hx)⟩;have jp:=hid hh8;have jg:Hid(Q0a w w2):=Mod.trans((mRf _ w).alloc _)(Mod.trans hf1 hf2);have jd:=hid(hf2.at(hf1.at(z0a _ _)(fun x=>x))(fun x=>x));have jm:HE.length<=1000:=by omega
 clear hon hoh hh8 hhl j7 ja hf1 hf2 j9;go_loopw [5,6,7,14](fun x5 _ _ x14 wr=>∃(i:Nat)(pvs:List PV),x14=.int .i64 i/\i<=xs.length/\pvs.length<=i/\PRel w wr w2.heap.size x5 pvs/\Q0a w2 wr/\pvs.map PV.pr=(Q06((xs.take i).map LV.ln)).map(Q75 NA HE))
   (fun _ _ _ x _=>1001-(intOf x).toNat)
 case atStart=>exact⟨0,[],rfl,by omega,by simp,⟨z0j jd.out,World.ownsRow_nil _ _ _ _,by simp,by simp,jg.out,jd.out⟩,mRf _ _,rfl⟩
 obtain⟨i,pvs,rfl,hi,hpl,hrelp,hfr,hmap⟩:=hrel;have jh:=hid(Q2a(B:=1001)i(by omega));have HP:=hid hrelp;have j3:=hid hfr;have jf:=hid(jg.out.trans hfr);have ji:Hid(∀hlt:i<xs.length,(Q06((xs.take(i+1)).map LV.ln)).map(Q75 NA HE)=pvs.map PV.pr++(if Q1g xs[i].ln then []else [Q75 NA HE xs[i].ln])):=by
  intro hlt;rw[Q6g hlt,List.map_append,List.map_singleton,hmap];unfold Q06;rw[List.filter_append,List.map_append];cases h:Q1g xs[i].ln<;>simp only[List.filter_cons,h,if_true,if_false,Bool.false_eq_true,Bool.not_true,Bool.not_false,List.filter_nil,List.map_nil,List.map_cons,List.append_nil]
 have jc:=hid hmap;obtain⟨ro,rc,hro⟩:=z0d hrelp.own;have js:w.heap.size<wr.heap.size:=z0j hrelp.blk;subst hro;clear hrelp hmap;by_cases hlt:i<xs.length
 ·have jw:(i:Int)<(xs.length:Int):=by omega
  obtain⟨g,cap',hv'⟩:=Q1d.ownsRow_form HL.out.own(by omega);rw[qI]at hv';obtain⟨rfl,_,rfl⟩:=hv';have j8:=hid(HL.out.fresh jf.out);have RG:=hid(j8.out.row.range i hlt);have j6:=hid(fun w1(hf:Q0a wr w1)=>(j8.out.fresh hf).row.range i hlt);have hA:=j8.out.each xs[i](by simp);have j4:=jo.out xs[i](by simp);have j5:=hid hA.front;have RU:=hid(fun w=>z2v xs[i]w hA.front j4.fb);have jj:Hid(Q1g xs[i].ln=!headB xs[i].ln.front):=rfl;rw[← jj.out]at RU;have RP:=hid(fun w1(hf:Q0a wr w1)=>y2x w1 xs[i](.slice na NA.length nc)(.slice ha HE.length hc)NA HE(hA.fresh hf)j4.sy j4.len(jk.out.fresh(j3.out.trans hf))jb.out je(ju.out.fresh(j3.out.trans hf))jp.out jm);have j2:=ji.out hlt;cases hr:Q1g xs[i].ln
  ·rw[hr]at RU j2;simp only[Bool.false_eq_true,if_false]at j2;have j0:=hid j2;clear j2 hA j4 hr;generalize hX:xs[i]=x at RG j6 j5 RU RP j0;clear hX;go_wp2_with(first
    |(at_builtin;refine z0g _ rfl _ _ 39 rfl w2.heap.size 118 i0 _ 2 32 Tryz.underlying39 hi0 iz0 iz1 iz2 rfl(by decide)_ _ _ rfl jt.out⟨w4.heap.size+1,0,none⟩1 1 [.int .i64(Q75 NA HE x.ln).head,.slice sa(Q75 NA HE x.ln).syms.length scp]rfl rfl(z2w rfl)(by intro u hu;simp at hu;rcases hu with rfl|rfl<;>rfl)(by unfold maxLen;omega)(by omega)(by have h3:=j3.out.size;have h4:=hf3.size;have h5:=hf4.size;simp;omega)?_)
    |(go_at_call 49;refine(RP.out _ hf3).mono ?_;rintro e w4⟨v4,rfl,hf4,ho4⟩;obtain⟨sa,scp,hv4⟩:=z0d ho4;subst hv4;have jr:=hid ho4;have jt:=hid(((z0c HP.out.own(fun g hg=>(hf3.trans hf4).block g(HP.out.own.lt g hg).2(fun x=>x))).alloc(.cells#[.int .i64(Q75 NA HE x.ln).head,.slice sa(Q75 NA HE x.ln).syms.length scp]118(0,0))).alloc(.cells#[.int .i64(Q75 NA HE x.ln).head,.slice sa(Q75 NA HE x.ln).syms.length scp]118(0,0))))
    |(refine wpList_load_mid rfl 116 _ rfl g(i*14)rfl x.cells _(j6.out _ hf3)Tryz.underlying116 rfl(by rw[LV.cells_len j5.out];exact Q1m)?_)
    |(go_at_call 48;refine(RU.out _).mono ?_;rintro e w3⟨rfl,hf3⟩)
    |(refine wpList_load_mid rfl 116 _ rfl g(i*14)rfl x.cells _ RG.out Tryz.underlying116 rfl(by rw[LV.cells_len j5.out];exact Q1m)?_))
   intro v' w5 hown2 hgrow hblk;have jq:=hid(HP.out.next(p:=⟨Q75 NA HE x.ln,.slice sa(Q75 NA HE x.ln).syms.length scp⟩)(((hf3.trans hf4).alloc _).alloc _)(z0f((jr.out.alloc _).alloc _)(hf3.size))hown2 hgrow(fun k hk=>(hblk k hk).imp id(fun h=>by simpa using h)));have jn:Hid(Q0a w2 w5):=Mod.grown(S:=fun _=>False)(j3.out.trans(((hf3.trans hf4).alloc _).alloc _))hgrow(fun k hk hlt=>by have:=(HP.out.own.lt k hk).1;omega);clear hown2 hgrow hblk;go_wp2;go_roundw
   case rel =>
    refine⟨i+1,_,by go_num,by omega,by simp;omega,jq.out,jn.out,?_⟩;rw[j0.out,List.map_append];rfl
   exact jh.out
  rw[hr]at RU j2;simp only[if_true,List.append_nil]at j2;have j0:=hid j2;clear j2 hA j4 hr;generalize hX:xs[i]=x at RG j6 j5 RU RP j0;clear hX;go_wp2_with(first
   |(go_at_call 48;refine(RU.out _).mono ?_;rintro e w3⟨rfl,hf3⟩)
   |(refine wpList_load_mid rfl 116 _ rfl g(i*14)rfl x.cells _ RG.out Tryz.underlying116 rfl(by rw[LV.cells_len j5.out];exact Q1m)?_))
  go_roundw
  case rel=>exact⟨i+1,pvs,by go_num,by omega,by omega,HP.out.fresh' hf3,j3.out.trans hf3,j0.out.symm⟩
  exact jh.out
 have jl:i=xs.length:=by omega
 have jv:¬(i:Int)<(xs.length:Int):=by omega
 go_wp2_with(first
  |(refine wpList_store_row rfl 41 _ _ rfl w.heap.size#[.int .i64 NA.length,.int .i64 HE.length,.slice ro pvs.length rc]rfl rfl _ _ HP.out.blk Q9r rfl(all_oneCell_toArray(cs:=[.int .i64 NA.length,.int .i64 HE.length,.slice ro pvs.length rc])(by intro v hv;simp at hv;rcases hv with rfl|rfl|rfl<;>rfl))?_))
 refine bodyPost_ret(results_cell_row rfl _ _ w.heap.size 41#[.int .i64 NA.length,.int .i64 HE.length,.slice ro pvs.length rc](0,0)_ rfl(setRow_heap _ _ _ _ _ _ HP.out.blk)Tryz.underlying41 rfl Q9r)rfl⟨_,rfl,jf.out.setRow(fun h=>absurd h(Nat.lt_irrefl _))_,pvs,j1.out pvs(by rw[← jl];exact jc.out),?_⟩;exact HP.out.prs _
def SyB(x:Ln):Prop:=∀d∈x.syms,0<=d.ls.getD 0 0/\d.ls.getD 0 0<=255
theorem z32:SyB Q4h:=fun d hd=>by simp[Q4h]at hd
theorem y39(s:ByteArray)(d:Wd):∀(f:Nat)(next:Int)(syms:List Wd),(∀d∈syms,0<=d.ls.getD 0 0/\d.ls.getD 0 0<=255)->SyB(Q21 s d f next syms).1
 |0,_,_,_=>z32
 |f+1,next,syms,h=>by
  unfold Q21;split
  ·split
   ·exact z32
   refine y39 s d f _ _ ?_;intro e he;simp only[List.mem_append,List.mem_singleton]at he;rcases he with he|rfl
   ·exact h e he
   exact z60 s(next+1)
  split
  ·exact z32
  exact h
theorem x6b(s:ByteArray)(i:Int):SyB(Q2x s i).1:=by
 unfold Q2x;split
 ·exact z32
 split
 ·unfold Q6h;split
  ·exact z32
  exact y39 s _ _ _ _(by simp)
 unfold Q6r;repeat' split
 all_goals first|exact z32|(intro d hd;simp at hd)
theorem y1d(s:ByteArray):∀(f:Nat)(i:Int)(acc:List Ln),(∀x∈acc,SyB x)->∀x∈(Q1o s f i acc).1,SyB x
 |0,_,_,_,x,hx=>by simp[Q1o]at hx
 |f+1,i,acc,h,x,hx=>by
  unfold Q1o at hx;split at hx
  ·split at hx
   ·simp at hx
   refine y1d s f _ _ ?_ x hx;intro y hy;simp only[List.mem_append,List.mem_singleton]at hy;rcases hy with hy|rfl
   ·exact h y hy
   exact x6b s i
  exact h x hx
theorem x1p(s:ByteArray):∀x∈(Q0c s).1,SyB x:=y1d s _ 0 [](by simp)
theorem y8a{s:ByteArray}(h:(Q0u s).1=0):s.size<=800:=by
 by_cases h8:800<s.size
 ·have:=y0d s;rw[if_pos h8]at this;rw[this]at h;cases h
 omega
theorem Q3p.setRow{w2:World}{B g:Nat}{v:Value}{pvs:List PV}(h:Q3p w2 B v pvs)(hb:w2.heap[g]? = some(.cells#[.int .i64 0,.int .i64 0,.slice none 0 0]41(0,0)))(cs:Array Value):Q3p(w2.setRow g cs)B v pvs:=by
 refine⟨⟨z0c h.row.own(fun k hk=>setRow_other _ _ _ _ ?_),h.row.wf⟩,h.lt,fun p hp=>?_⟩
 ·intro e;rcases h.row.own.2 with⟨h1,_⟩|⟨g',cap,cur,h1,_,h3,_⟩
  ·rw[h1]at hk;cases hk
  rw[h1]at hk;simp[Value.ownBlock]at hk;subst hk;subst e;rw[hb]at h3;simp at h3
 obtain⟨ao,cap,h1,h2,h3,h4⟩:=h.syms p hp;refine⟨ao,cap,h1,h2,h3,fun i hi=>?_⟩;obtain⟨g',o,h5,h6,h7⟩:=h4 i hi;refine⟨g',o,h5,h6,z0t h7(setRow_other _ _ _ _ ?_)⟩;intro e;subst e;have h8:=h7 0(.bool(p.pr.syms[i]).isH)rfl;rw[Q0b hb]at h8;rcases hq:o+i*2+0 with _|_|_|k;all_goals(rw[hq]at h8;simp at h8)
def Q9t(s:ByteArray)(w:World)(e:Ending)(w':World):Prop :=
 ∃vp pvs,e=.returned(.tuple#[.agg#[.int .i64(Q0g(Q0c s).1).length,.int .i64(Q0i(Q0c s).1).length,vp],.int .i64 0])/\Q0a w w'/\pvs.map PV.pr=Q0r(Q0c s).1/\Q3p w' w'.heap.size vp pvs
theorem x0f(s:ByteArray)(w:World)(hs:s.size<=maxLen)(hc:(Q0u s).1=0) :
  Calls Tryz.prog 11#[.string s]w fun e w'=>Q9t s w e w':=by
 have SC:=hid(fun w=>z5p s w hs);have H0:=hid hc;have j6:=(z48 s).1;have j2:=(z48 s).2;have j4:=x1p s;have j7:=y8a hc;have j5:Hid(∀xs:List LV,xs.map LV.ln=(Q0c s).1->xs.length<=1000/\(∀x∈xs,SBx x)):=by
  intro xs hx;have h1:xs.length=(Q0c s).1.length:=by rw[← hx];simp
  refine⟨by omega,fun x hxx=>?_⟩;have hm:x.ln∈(Q0c s).1:=by rw[← hx];exact List.mem_map.2⟨x,hxx,rfl⟩
  exact⟨(j2 x.ln hm).fb,j4 x.ln hm,by have:=(j2 x.ln hm).sb;omega⟩
 clear j6 j2 j4 hc;go_enter Tryz.func11,Tryz.ntmps11
 go_wp2_with(first
  |(go_at_call 20;refine(x1j _ v xs HL.out(j5.out xs HX.out).1(j5.out xs HX.out).2).mono ?_;rintro e w2⟨vp,pvs,rfl,hf2,hmap,hprs⟩;obtain⟨ra,rc,hvp⟩:=z0d hprs.row.own;subst hvp;have j3:=hid hprs;have j1:=hid hmap;have j0:=hid(hf2.at(hf1.at(z0a _ _)(fun x=>x))(fun x=>x)))
  |(refine wpList_store_row rfl 41 _ _ rfl w.heap.size#[.int .i64(Q0g(xs.map LV.ln)).length,.int .i64(Q0i(xs.map LV.ln)).length,.slice ra pvs.length rc]rfl rfl _ _ j0.out Q9r rfl(all_oneCell_toArray(cs:=[.int .i64(Q0g(xs.map LV.ln)).length,.int .i64(Q0i(xs.map LV.ln)).length,.slice ra pvs.length rc])(by intro v hv;simp only[List.mem_cons,List.not_mem_nil,or_false]at hv;rcases hv with rfl|rfl|rfl<;>rfl))?_)
  |(go_at_call 19;refine(SC.out _).mono ?_;rintro e w1⟨v,rfl,hf1,xs,hL,hxs⟩;rw[H0.out];have HX:=hid(hxs.elim(fun h=>absurd H0.out h.1)(fun h=>h.2));clear hxs;have HL:=hid hL;clear hL))
 refine bodyPost_ret(z0m rfl _ _ w.heap.size 41#[.int .i64(Q0g(xs.map LV.ln)).length,.int .i64(Q0i(xs.map LV.ln)).length,.slice ra pvs.length rc](0,0)_ rfl(setRow_heap _ _ _ _ _ _ j0.out)Tryz.underlying41 rfl Q9r)rfl ?_;have hF:Q0a w w2:=Mod.trans((mRf _ w).alloc _)(Mod.trans hf1 hf2);refine⟨_,pvs,by rw[← HX.out];rfl,hF.setRow(fun h=>absurd h(Nat.lt_irrefl _))_,by rw[← HX.out];exact j1.out,?_⟩;have:=j3.out.setRow j0.out#[.int .i64(Q0g(xs.map LV.ln)).length,.int .i64(Q0i(xs.map LV.ln)).length,.slice ra pvs.length rc];simpa using this
theorem x2p(s:ByteArray)(w:World)(hs:s.size<=maxLen)(hc:(Q0u s).1≠0) :
  Calls Tryz.prog 11#[.string s]w fun e w'=>e=.returned(.tuple#[.agg#[.int .i64 0,.int .i64 0,.slice none 0 0],.int .i64(Q0u s).1])/\Q0a w w':=by
 have SC:=hid(fun w=>z5p s w hs);have c0:((Q0u s).1 != 0)=true:=by simpa using hc
 clear hc;go_enter Tryz.func11,Tryz.ntmps11
 go_wp2_with(first
  |(refine wpList_store_row rfl 41 _ _ rfl w.heap.size#[.int .i64 0,.int .i64 0,.slice none 0 0]rfl rfl _ _ j0.out Q9r rfl(all_oneCell_toArray(cs:=[.int .i64 0,.int .i64 0,.slice none 0 0])(by intro v hv;simp only[List.mem_cons,List.not_mem_nil,or_false]at hv;rcases hv with rfl|rfl|rfl<;>rfl))?_)
  |(go_at_call 19;refine(SC.out _).mono ?_;rintro e w1⟨v,rfl,hf1,_⟩;have j0:=hid(hf1.at(z0a _ _)(fun x=>x))))
 refine bodyPost_ret(z0m rfl _ _ w.heap.size 41#[.int .i64 0,.int .i64 0,.slice none 0 0](0,0)_ rfl(setRow_heap _ _ _ _ _ _ j0.out)Tryz.underlying41 rfl Q9r)rfl⟨rfl,?_⟩;exact(Mod.trans((mRf _ w).alloc _)hf1).setRow(fun h=>absurd h(Nat.lt_irrefl _))_
def Q5e(R:Int)(i:Nat):Hd:=if i=0 then{Q15 with rch:=true,fo:=Q2g Q0w R}else Q15
def Q0x(R:Int):Nat->List Hd
 |0=>[]
 |n+1=>Q0x R n++[Q5e R n]
theorem y23(R:Int)(i:Nat):(Q5e R i).ok:=by
 unfold Q5e;split
 ·exact⟨rfl,z2i rfl⟩
 exact z2k
theorem z1y(R:Int):∀n,(Q0x R n).length=n
 |0=>rfl
 |n+1=>by simp[Q0x,z1y R n]
theorem Q3p.up{w:World}{B B':Nat}{v:Value}{ps:List PV}(h:Q3p w B v ps)(hB:B<=B'):Q3p w B' v ps:=by
 refine⟨h.row,fun g hg=>Nat.lt_of_lt_of_le(h.lt g hg)hB,fun p hp=>?_⟩;obtain⟨ao,cap,h1,h2,h3,h4⟩:=h.syms p hp;refine⟨ao,cap,h1,h2,h3,fun i hi=>?_⟩;obtain⟨g,o,h5,h6,h7⟩:=h4 i hi;exact⟨g,o,h5,Nat.lt_of_lt_of_le h6 hB,h7⟩
theorem FA.add{w W w3:World}{b:Nat}{R H:Int}{vp vh v':Value}{ps:List PV}{hs:List Hd}{x:Hd}(h:FA w b R H vp vh ps hs)(hx:x.ok)(hf:Q0a w W)
  (hown:w3.ownsRow(b+1)179 21 v'(hs.length+1)(Q01 Hd.cells hs++x.cells))(hg:W.grownBy w3 vh.ownBlock) :
  FA(w3.setCell⟨b,3,none⟩v')b R H vp v' ps(hs++[x])/\Mod(fun k=>b<=k)w(w3.setCell⟨b,3,none⟩v'):=by
 have hW:=h.fresh hf;have j0:∀k,vh.ownBlock=some k->b+1<=k:=fun k hk=>(h.own.lt k hk).1;have j2:Mod(fun k=>b<=k)W w3:=Mod.grown(mRf _ W)hg(fun k hk _=>by have:=j0 k hk;omega);have hm:Mod(fun k=>b<=k)W(w3.setCell⟨b,3,none⟩v'):=j2.setCell(fun _=>qR _)_;refine⟨⟨?_,?_,?_,?_⟩,Mod.trans(Mod.mono hf(fun _ _ x=>x.elim))hm⟩
 ·have j1:w3.heap[b]? = some(.cells#[.int .i64 R,.int .i64 H,vp,vh]138(0,0)):=by
   rw[hg.block b(z0j hW.blk)(fun e=>by have:=j0 _ e.symm;omega)];exact hW.blk
  rw[zhs j1];rfl
 ·exact hW.prs.kept(Nat.le_of_lt(z0j hW.blk))hm(fun k hk hs=>by omega)
 ·rw[z0y,List.length_append,List.length_singleton];exact z0c hown(fun g hg=>heap_setCell_other _(by have:=(hown.lt g hg).1;dsimp only;omega))
 intro y hy;simp only[List.mem_append,List.mem_singleton]at hy;rcases hy with hy|rfl
 ·exact h.ok y hy
 exact hx
theorem infoHd:(Tryz.prog.info? 179).map(fun i=>(i.zero,i.size,i.bytes))=some(some(.agg(hdA Q15)),21,21):=by kernel_rfl
theorem infoHd':∃i,Tryz.prog.info? 179=some i/\i.zero=some(.agg(hdA Q15))/\i.size=21/\i.bytes=21:=by
 have h:=infoHd;cases hq:Tryz.prog.info? 179 with
 |none=>simp[hq]at h
 |some i=>simp[hq]at h;exact⟨i,rfl,h.1,h.2.1,h.2.2⟩
attribute [local go_sem ↓] z16 y9g
theorem y4f(w:World)(R H:Nat)(vp:Value)(ps:List PV)(hp:Q3p w w.heap.size vp ps)(hps:ps.length<=1000)(hH:H<=1000)(hR:R<=1000) :
  Calls Tryz.prog 50#[.agg#[.int .i64 R,.int .i64 H,vp]]w fun e w'=>∃b vh,e=.returned(Q3b b)/\Q0a w w'/\FA w' b R H vp vh ps(Q34(Q0k ps)(Q0x R H)):=by
 obtain⟨i0,hi0,iz0,iz1,iz2⟩:=infoHd';have HP:=hid hp;obtain⟨pa,pc,hvp⟩:=z0d hp.row.own;subst hvp;clear hp;have js:Hid(FA((w.alloc(.cells#[.int .i64 R,.int .i64 H,.slice pa ps.length pc]41(0,0))).alloc(.cells#[.int .i64 R,.int .i64 H,.slice pa ps.length pc,.slice none 0 0]138(0,0)))(w.heap.size+1)R H(.slice pa ps.length pc)(.slice none 0 0)ps []) :=
  ⟨heap_alloc2_new _ _ _,(HP.out.kept(qR _)(((mRf(fun _=>False)w).alloc _).alloc _)(fun _ _ x=>x)).up(by omega),World.ownsRow_nil _ _ _ _,by simp⟩
 go_enter Tryz.func50,Tryz.ntmps50
 go_wp2;go_loopw [4,5](fun x4 _ wr=>∃(i:Nat)(vh:Value),x4=.int .i64 i/\i<=H/\FA wr(w.heap.size+1)R H(.slice pa ps.length pc)vh ps(Q0x R i)/\Q0a w wr/\wr.heap[w.heap.size]? = some(.cells#[.int .i64 R,.int .i64 H,.slice pa ps.length pc]41(0,0)))
   (fun x _ _=>H+1-(intOf x).toNat)
 case atStart=>exact⟨0,.slice none 0 0,rfl,by omega,js.out,((mRf _ w).alloc _).alloc _,heap_alloc2_old _ _ _⟩
 obtain⟨i,vh,rfl,hi,hF,hfr,hbt⟩:=hrel;have jn:=hid(Q2a(B:=H+1)i(by omega));have HF:=hid hF;have je:=hid hfr;have jb:=hid hbt;have c1:=Q0b hbt 1;have c0:=Q0b hbt 0;simp at c1 c0;obtain⟨ha,hc,hvh⟩:=z0d hF.own;rw[z1y]at hvh;subst hvh;have jv:=hF.size;by_cases hlt:i<H
 ·have jx:(i:Int)<(H:Int):=by omega
  have HI:Hid(Q0x R(i+1)=Q0x R i++[Q5e R i]):=rfl;clear hF hfr hbt;by_cases hz:i=0
  ·subst hz;have jg:=z2i(a:=Q0w)(n:=(R:Int))rfl;have jh:=hid jg;obtain⟨g0,g1,g2,g3,g4,g5,g6,g7,g8,hg⟩:=Q7i jg;have jo:=hid hg;have h1:Q0a wr(wr.alloc(.cells#[.bool false,.bool true,.bool false,.bool false,.bool false,.bool false,.bool false,.bool false,.bool false,.bool false,.bool false,.bool false,.bool false,.bool false,.bool false,.bool false,.bool false,.bool false,.bool false,.bool false,.bool false]179(0,0))):=(mRf _ wr).alloc _;have ju:=z0j jb.out;have jp:(wr.alloc(.cells#[.bool false,.bool true,.bool false,.bool false,.bool false,.bool false,.bool false,.bool false,.bool false,.bool false,.bool false,.bool false,.bool false,.bool false,.bool false,.bool false,.bool false,.bool false,.bool false,.bool false,.bool false]179(0,0))).cell?⟨w.heap.size,0,none⟩=some(.int .i64 R):=by rw[Q0b(z0b jb.out)0];rfl
   have jm:Hid(Hd.ok{Q15 with rch:=true}):=⟨rfl,rfl⟩;clear jg hg;go_wp2_with(first
    |(refine wpList_store_mid rfl 130 _ _ rfl wr.heap.size 12(tkA(Q2g Q0w R))rfl rfl(by rw[z0u jh.out];exact z4p jm.out jk.out(by omega))(Q0t jh.out)(z1e _)?_)
    |(go_at_call 56;refine(z8l _ Q0w(R:Int)rfl).mono ?_;rintro e w2⟨rfl,hf2⟩;have jk:Hid(w2.heap[wr.heap.size]? = some(.cells(hdA{Q15 with rch:=true})179(0,0))):=hf2.at(z0a wr(.cells#[.bool false,.bool true,.bool false,.bool false,.bool false,.bool false,.bool false,.bool false,.bool false,.bool false,.bool false,.bool false,.bool false,.bool false,.bool false,.bool false,.bool false,.bool false,.bool false,.bool false,.bool false]179(0,0)))(fun x=>x)))
   have hW:Q0a wr(w2.setCells wr.heap.size 12(tkA(Q2g Q0w R)).toList):=Mod.setCells(fun h=>absurd h(Nat.lt_irrefl _))_ _ _(Mod.trans h1 hf2);have j3:=HF.out.fresh hW;have k3:=j3.cell 3;simp at k3;have jc:Hid((w2.setCells wr.heap.size 12(tkA(Q2g Q0w R)).toList).heap[wr.heap.size]? = some(.cells(hdA(Q5e R 0))179(0,0))):=by
    unfold Hid;rw[z0p _ _ _ _ _ _ _ jk.out];rw[show Q5e R 0={({Q15 with rch:=true}:Hd)with fo:=Q2g Q0w R}from rfl,← z54 jm.out jh.out];rfl
   have j1:=hid(hW.at jb.out(fun x=>x));have j0:=hid(je.out.trans hW);generalize w2.setCells wr.heap.size 12(tkA(Q2g Q0w R)).toList=W at j3 k3 jc j1 j0 hW ⊢;have jl:wr.heap.size<W.heap.size:=z0j jc.out;have ja:hdA(Q5e R 0)=#[.bool false,.bool true,.bool false,.bool false,.bool false,.bool false,.bool false,.bool false,.bool false,.bool false,.bool false,.bool false,.bool g0,.bool g1,.bool g2,.bool g3,.bool g4,.bool g5,.bool g6,.bool g7,.bool g8]:=by
    rw[show Q5e R 0={({Q15 with rch:=true}:Hd)with fo:=Q2g Q0w R}from rfl,jo.out];rfl
   have j4:(Q5e R 0).cells=[.bool false,.bool true,.bool false,.bool false,.bool false,.bool false,.bool false,.bool false,.bool false,.bool false,.bool false,.bool false,.bool g0,.bool g1,.bool g2,.bool g3,.bool g4,.bool g5,.bool g6,.bool g7,.bool g8]:=by
    rw[show Q5e R 0={({Q15 with rch:=true}:Hd)with fo:=Q2g Q0w R}from rfl,jo.out];rfl
   have l1:(ldH(.pointer(some⟨wr.heap.size,0,none⟩))).run Tryz.prog W.drew=.ok(.agg#[.bool false,.bool true,.bool false,.bool false,.bool false,.bool false,.bool false,.bool false,.bool false,.bool false,.bool false,.bool false,.bool g0,.bool g1,.bool g2,.bool g3,.bool g4,.bool g5,.bool g6,.bool g7,.bool g8])W.drew:=by
    rw[← ja];refine z9s(y23 R 0)?_;intro j v hj;have:W.drew.heap[wr.heap.size]? = some(.cells(hdA(Q5e R 0))179(0,0)):=jc.out;rw[Q0b this,Nat.zero_add];simpa [hdA]using hj
   have jf:=j1;have j7:=j0;have j2:=hid j3;have jt:=j3.size;have ji:=hid j4;clear j3 j1 j0 hW ja j4 jc h1 hf2 jp;obtain⟨v',w3,hrun,hown,hgrow,hblk⟩:=z2z(P:=Tryz.prog)(W.alloc(.cells#[.bool false,.bool true,.bool false,.bool false,.bool false,.bool false,.bool false,.bool false,.bool false,.bool false,.bool false,.bool false,.bool g0,.bool g1,.bool g2,.bool g3,.bool g4,.bool g5,.bool g6,.bool g7,.bool g8]179)).drew(w.heap.size+2)136 136 179 i0 _ 21 21 Tryz.underlying136 hi0 iz0 iz1 iz2 rfl(by decide)(.slice ha 0 hc)0(Q01 Hd.cells(Q0x R 0))(by have:=j2.out.own.alloc(.cells#[.bool false,.bool true,.bool false,.bool false,.bool false,.bool false,.bool false,.bool false,.bool false,.bool false,.bool false,.bool false,.bool g0,.bool g1,.bool g2,.bool g3,.bool g4,.bool g5,.bool g6,.bool g7,.bool g8]179);rw[z1y]at this;exact this)⟨W.heap.size,0,none⟩1 1(Q5e R 0).cells(by rw[ji.out];rfl)(z0l(by rw[ji.out]))(by intro u hu;exact(Array.all_eq_true_iff_forall_mem.1(z1x(Q5e R 0)))u(by simpa [hdA]using hu))(by unfold maxLen;omega)(by omega)(by simp[World.drew];omega);obtain⟨ao3,cap3,hv3⟩:=z0d hown;have j8:w3.heap[w.heap.size+1]? = some(.cells#[.int .i64 R,.int .i64 H,.slice pa ps.length pc,.slice ha 0 hc]138(0,0)):=by
    rw[hgrow.block _(by show _<(W.alloc _).heap.size;simp;have:=j2.out.size;omega)(fun e=>by have:=(j2.out.own.lt _ e.symm).1;omega)];exact z0b j2.out.blk
   have c3:w3.cell?⟨w.heap.size+1,3,none⟩=some(.slice ha 0 hc):=(Q0b j8 3);have f3:=Q0h j8 3;have j5:=hid(j2.out.add(y23 R 0)(((mRf _ W).alloc _).drew)(by rw[z1y];exact hown)hgrow);have j6:Hid((w3.setCell⟨w.heap.size+1,3,none⟩v').heap[w.heap.size]? = some(.cells#[.int .i64 R,.int .i64 H,.slice pa ps.length pc]41(0,0))):=(Mod.mono j5.out.2(T:=fun k=>w.heap.size+1<=k)(fun _ _ h=>h)).at jf.out(by omega);have j9:Hid(Q0a w(w3.setCell⟨w.heap.size+1,3,none⟩v')):=Mod.trans' j7.out j5.out.2(fun k hk h=>by omega);clear hown hgrow hblk j8;subst hv3;go_region;all_goals
    go_wp2;go_roundw
    case rel =>
     refine⟨0+1,.slice ao3(0+1)cap3,by go_num,by omega,?_,j9.out,j6.out⟩;rw[HI.out];exact j5.out.1
    exact jn.out
  have b1:((i:Int)==0)=false:=by simp;omega
  have hW:Q0a wr(wr.alloc(.cells#[.bool false,.bool false,.bool false,.bool false,.bool false,.bool false,.bool false,.bool false,.bool false,.bool false,.bool false,.bool false,.bool false,.bool false,.bool false,.bool false,.bool false,.bool false,.bool false,.bool false,.bool false]179(0,0))):=(mRf _ wr).alloc _;have j3:=HF.out.fresh hW;have k3:=j3.cell 3;simp at k3;have l1:(ldH(.pointer(some⟨wr.heap.size,0,none⟩))).run Tryz.prog(wr.alloc(.cells#[.bool false,.bool false,.bool false,.bool false,.bool false,.bool false,.bool false,.bool false,.bool false,.bool false,.bool false,.bool false,.bool false,.bool false,.bool false,.bool false,.bool false,.bool false,.bool false,.bool false,.bool false]179(0,0))).drew=.ok(.agg#[.bool false,.bool false,.bool false,.bool false,.bool false,.bool false,.bool false,.bool false,.bool false,.bool false,.bool false,.bool false,.bool false,.bool false,.bool false,.bool false,.bool false,.bool false,.bool false,.bool false,.bool false])(wr.alloc(.cells#[.bool false,.bool false,.bool false,.bool false,.bool false,.bool false,.bool false,.bool false,.bool false,.bool false,.bool false,.bool false,.bool false,.bool false,.bool false,.bool false,.bool false,.bool false,.bool false,.bool false,.bool false]179(0,0))).drew :=
   z9s(h:=Q15)z2k(z0t(z5x wr Q15 _)rfl)
  have jq:Hid(Q5e R i=Q15):=by unfold Hid Q5e;rw[if_neg hz]
  go_wp2;have j1:=hid(z0b(o:=.cells#[.bool false,.bool false,.bool false,.bool false,.bool false,.bool false,.bool false,.bool false,.bool false,.bool false,.bool false,.bool false,.bool false,.bool false,.bool false,.bool false,.bool false,.bool false,.bool false,.bool false,.bool false]179(0,0))jb.out);have j0:=hid(je.out.trans hW);have jl:wr.heap.size<(wr.alloc(.cells#[.bool false,.bool false,.bool false,.bool false,.bool false,.bool false,.bool false,.bool false,.bool false,.bool false,.bool false,.bool false,.bool false,.bool false,.bool false,.bool false,.bool false,.bool false,.bool false,.bool false,.bool false]179(0,0))).heap.size:=by simp
  generalize wr.alloc(.cells#[.bool false,.bool false,.bool false,.bool false,.bool false,.bool false,.bool false,.bool false,.bool false,.bool false,.bool false,.bool false,.bool false,.bool false,.bool false,.bool false,.bool false,.bool false,.bool false,.bool false,.bool false]179(0,0))=W at j3 k3 l1 j1 j0 jl ⊢;have jf:=j1;have j7:=j0;have j2:=hid j3;have jt:=j3.size;clear j3 j1 j0 hW;obtain⟨v',w3,hrun,hown,hgrow,hblk⟩:=z2z(P:=Tryz.prog)(W.alloc(.cells#[.bool false,.bool false,.bool false,.bool false,.bool false,.bool false,.bool false,.bool false,.bool false,.bool false,.bool false,.bool false,.bool false,.bool false,.bool false,.bool false,.bool false,.bool false,.bool false,.bool false,.bool false]179)).drew(w.heap.size+2)136 136 179 i0 _ 21 21 Tryz.underlying136 hi0 iz0 iz1 iz2 rfl(by decide)(.slice ha i hc)i(Q01 Hd.cells(Q0x R i))(by have:=j2.out.own.alloc(.cells#[.bool false,.bool false,.bool false,.bool false,.bool false,.bool false,.bool false,.bool false,.bool false,.bool false,.bool false,.bool false,.bool false,.bool false,.bool false,.bool false,.bool false,.bool false,.bool false,.bool false,.bool false]179);rw[z1y]at this;exact this)⟨W.heap.size,0,none⟩1 1 Q15.cells rfl(z0l rfl)(by intro u hu;simp[Q15,Hd.cells,bls,Q0w]at hu;subst hu;rfl)(by unfold maxLen;omega)(by omega)(by simp[World.drew];omega);obtain⟨ao3,cap3,hv3⟩:=z0d hown;have j8:w3.heap[w.heap.size+1]? = some(.cells#[.int .i64 R,.int .i64 H,.slice pa ps.length pc,.slice ha i hc]138(0,0)):=by
   rw[hgrow.block _(by show _<(W.alloc _).heap.size;simp;have:=j2.out.size;omega)(fun e=>by have:=(j2.out.own.lt _ e.symm).1;omega)];exact z0b j2.out.blk
  have c3:w3.cell?⟨w.heap.size+1,3,none⟩=some(.slice ha i hc):=(Q0b j8 3);have f3:=Q0h j8 3;have j5:=hid(j2.out.add z2k(((mRf _ W).alloc _).drew)(by rw[z1y];exact hown)hgrow);have j6:Hid((w3.setCell⟨w.heap.size+1,3,none⟩v').heap[w.heap.size]? = some(.cells#[.int .i64 R,.int .i64 H,.slice pa ps.length pc]41(0,0))):=(Mod.mono j5.out.2(T:=fun k=>w.heap.size+1<=k)(fun _ _ h=>h)).at jf.out(by omega);have j9:Hid(Q0a w(w3.setCell⟨w.heap.size+1,3,none⟩v')):=Mod.trans' j7.out j5.out.2(fun k hk h=>by omega);clear hown hgrow hblk j8;subst hv3;go_region;all_goals
   go_wp2;go_roundw
   case rel =>
    refine⟨i+1,.slice ao3(i+1)cap3,by go_num,by omega,?_,j9.out,j6.out⟩;rw[HI.out,jq.out];exact j5.out.1
   exact jn.out
 have jr:i=H:=by omega
 have jw:¬(i:Int)<(H:Int):=by omega
 subst jr;have jd:=hid(y7k wr(w.heap.size+1)R i _ _ ps _ hF hps);clear hF hfr hbt;go_wp2_with(first
  |(go_at_call 83;refine jd.out.mono ?_;rintro e w1⟨rfl,hF1,hm1⟩))
 go_ret;have jj:Q0a w w1:=Mod.trans' je.out hm1(fun k hk h=>by have:=(HF.out.own.lt k h).1;omega);first
  |exact⟨_,_,rfl,jj,hF1⟩
  |exact⟨_,rfl,jj,_,hF1⟩
abbrev Q2c(w:World)(base:Nat)(v:Value)(l:List Int):Prop:=w.ownsRow base 3 1 v l.length(Q56 l)
def Q7u(s:ByteArray):List Hd:=Q34(Q0r(Q0c s).1)(Q0x((Q0g(Q0c s).1).length:Nat)(Q0i(Q0c s).1).length)
theorem z94:∀(l:List Ln)(acc:List Wd),(Q17 l acc).length<=acc.length+l.length
 | [],acc=>by simp[Q17]
 |x::l,acc=>by
  unfold Q17;have h1:=z94 l acc;have h2:=z94 l(acc++[x.front]);simp only[List.length_append,List.length_cons,List.length_nil]at h1 h2 ⊢;split
  ·omega
  split<;>omega
theorem y5u{s:ByteArray}(h:(Q0u s).1=0):(Q0g(Q0c s).1).length<=800/\(Q0i(Q0c s).1).length<=800/\(Q0r(Q0c s).1).length<=800:=by
 have j0:=y8a h;have j1:=(z48 s).1;have h1:=z94(Q0c s).1 [];have h2:=List.length_filter_le Q1g(Q0c s).1;have h3:=List.length_filter_le(fun x=>!ruleB x)(Q0c s).1;unfold Q0g Q0i Q0r Q06;simp only[List.length_map,List.length_nil]at *;omega
theorem Q0j{a b:World}{p:Addr}{v:Value}(h:Q0a a b)(hc:a.cell? p=some v):b.cell? p=some v:=by
 have hp:p.block<a.heap.size:=by
  unfold World.cell? at hc;split at hc
  ·rename_i hq;exact z0j hq
  cases hc
 have hb:=h.block p.block hp(fun x=>x);unfold World.cell? at hc ⊢;rw[hb];exact hc
def Q02(w:World)(v:Value)(l:List Int):Prop :=
 ∃ao cap,v=.slice ao l.length cap/\l.length<=cap/\∀j(h:j<l.length),∃g o,ao=some⟨g,o,none⟩/\w.cell?⟨g,o+j,none⟩=some(.int .i64 l[j])
theorem Q02.fresh{w w':World}{v:Value}{l:List Int}(h:Q02 w v l)(hf:Q0a w w'):Q02 w' v l:=by
 obtain⟨ao,cap,h1,h2,h3⟩:=h;refine⟨ao,cap,h1,h2,fun j hj=>?_⟩;obtain⟨g,o,h4,h5⟩:=h3 j hj;exact⟨g,o,h4,Q0j hf h5⟩
theorem Q2c.at'{w:World}{base:Nat}{v:Value}{l:List Int}(h:Q2c w base v l):Q02 w v l:=by
 rcases h.2 with⟨rfl,h0⟩|⟨g,cap,cur,rfl,_,_,hc,_⟩
 ·exact⟨none,0,by rw[h0],by omega,fun j hj=>by omega⟩
 refine⟨_,_,rfl,hc,fun j hj=>⟨g,0,rfl,?_⟩⟩;have:=h.cells(g:=g)rfl j(.int .i64 l[j])(by simp[hj]);rwa [Addr.add_mid]at this
theorem Q02.drop{w:World}{gs os cap:Nat}{l:List Int}(h:Q02 w(.slice(some⟨gs,os,none⟩)l.length cap)l)(k:Nat)(hk:k<=l.length) :
  Q02 w(.slice(some⟨gs,os+k,none⟩)(l.length-k)(cap-k))(l.drop k):=by
 obtain⟨ao,c,h1,h2,h4⟩:=h;rw[qI]at h1;obtain⟨rfl,_,rfl⟩:=h1;refine⟨some⟨gs,os+k,none⟩,cap-k,by simp,by simp;omega,fun i hi=>?_⟩;simp only[List.length_drop]at hi;obtain⟨g,o,e1,e3⟩:=h4(k+i)(by omega);simp only[Option.some.injEq,Addr.mk.injEq]at e1;obtain⟨rfl,rfl,_⟩:=e1;refine⟨gs,os+k,rfl,?_⟩;rw[Nat.add_assoc];simpa using e3
theorem Q02.none{w:World}{ao:Option Addr}{l:List Int}(hl:l=[]){n c:Nat}(hn:n=0):Q02 w(.slice ao n c)l:=by
 subst hl;subst hn;exact⟨ao,c,rfl,by simp,fun i hi=>by simp at hi⟩
theorem z3x(a:List Bool):(Q3e a).length<=9:=y0f a 9
def rulesOf(s:ByteArray):List Ln:=(Q0c s).1.filter Q1g
def errF(s t:ByteArray):Int:=if 200<t.size then 1 else(Q0u s).1
def Q53(x:Ln)(t:ByteArray):Bool:=Q8h x.ns x.st x.en t 0==(t.size:Int)
def matchF(s:ByteArray)(r:Int)(t:ByteArray):Bool × Int :=
 if errF s t≠0 then(false,errF s t)
 else if r<0 then(false,7)
 else match(rulesOf s)[r.toNat]? with
  |some x=>(Q53 x t,0)
  |none=>(false,7)
theorem y7r(s:ByteArray)(j:Nat)(h:j<s.size):atB s j=((s[j].toNat:Nat):Int):=by simp[atB,h]
def Q36(s:ByteArray)(a b:Int):Nat:=(List.range s.size).findIdx(fun j:Nat=>(atB s j==a)||(atB s j==b))
def StrsAt(w:World)(v:Value)(l:List ByteArray):Prop :=
 ∃a c,v=.slice a l.length c/\∀j(hj:j<l.length),∃g o,a=some⟨g,o,none⟩/\w.cell?⟨g,o+j,none⟩=some(.string l[j])
def Q1z(l:List ByteArray)(s:ByteArray):Int:=if l.findIdx(fun x=>x.toList==s.toList)<l.length then(l.findIdx(fun x=>x.toList==s.toList):Int)else -1
def Q7e(s0:ByteArray):Nat->Nat->List ByteArray->List ByteArray
 |0,_,acc=>acc
 |f+1,k,acc =>
  if k<s0.size then
   Q7e s0 f(if k+Q36(s0.extract k s0.size)32 32<s0.size then k+Q36(s0.extract k s0.size)32 32+1 else k+Q36(s0.extract k s0.size)32 32)
    (if 0<Q36(s0.extract k s0.size)32 32 then acc++[s0.extract k(k+Q36(s0.extract k s0.size)32 32)]else acc)
  else acc
def wordsF(s0:ByteArray):List ByteArray:=Q7e s0(s0.size+1)0 []
theorem x9r(s:ByteArray):s.extract 0 s.size=s:=by
 apply ByteArray.ext;simp[ByteArray.data_extract]
theorem infoStr:(Tryz.prog.info? 9).map(fun i=>(i.zero,i.size,i.bytes))=some(some(.string⟨#[]⟩),1,16):=by kernel_rfl
theorem Q8v:∃i,Tryz.prog.info? 9=some i/\i.zero=some(.string⟨#[]⟩)/\i.size=1/\i.bytes=16:=by
 have h:=infoStr;cases hq:Tryz.prog.info? 9 with
 |none=>simp[hq]at h
 |some i=>simp[hq]at h;exact⟨i,rfl,h.1,h.2.1,h.2.2⟩
structure LO where
 rules:List ByteArray
 skip:List Bool
 heads:List ByteArray
 head:List Int
 names:List(List ByteArray)
 syms:List(List Int)
abbrev Q9z(l:List ByteArray):List Value:=l.map Value.string
abbrev W0b(l:List Int):List Value:=l.map(Value.int .i64)
abbrev Q38(l:List Bool):List Value:=l.map Value.bool
theorem x7s(s:ByteArray):∀(f i:Nat)(acc:List UInt8),s.size-i<=f->ByteArray.toList.loop s i acc=acc.reverse++(s.data.toList.drop i):=by
 intro f;induction f with
 |zero =>
  intro i acc h;unfold ByteArray.toList.loop;have:¬i<s.size:=by omega
  rw[if_neg this,List.drop_eq_nil_of_le(by have:s.size=s.data.size:=rfl;simp;omega)];simp
 |succ f ih =>
  intro i acc h;unfold ByteArray.toList.loop;by_cases hi:i<s.size
  ·rw[if_pos hi,ih(i+1)_(by omega)];have j1:i<s.data.toList.length:=by have:s.size=s.data.size:=rfl;simp;omega
   rw[qC j1];have:s.get! i=s.data.toList[i]:=by
    have j0:i<s.data.size:=hi;simp only[ByteArray.get!,Array.getElem_toList];exact getElem!_pos s.data i j0
   rw[this];simp
  rw[if_neg hi,List.drop_eq_nil_of_le(by have:s.size=s.data.size:=rfl;simp;omega)];simp
theorem btl(s:ByteArray):s.toList=s.data.toList:=by
 unfold ByteArray.toList;rw[x7s s s.size 0 [](by omega)];simp
section
variable{w W w1:World}{b:Nat}{x:LO}{v0 v1 v2 v3 v4 v5 v':Value}{nv sv:List Value}
abbrev UpB(b:Nat):World->World->Prop:=Mod(fun k=>b<=k)
end
def Q9m(s:ByteArray)(x:LO):LO :=
 if s.size=0 then x
 else if 97<=atB s 0/\atB s 0<=122 then
  {x with rules:=x.rules++[s.extract 0(Q36 s 61 126)],skip:=x.skip++[decide(Q36 s 61 126<s.size)&&(atB s(Q36 s 61 126)==126)]}
 else
  {x with
   heads:=if Q1z x.heads(s.extract 0(Q36 s 58 58))<0 then x.heads++[s.extract 0(Q36 s 58 58)]else x.heads
   head:=x.head++[if Q1z x.heads(s.extract 0(Q36 s 58 58))<0 then(x.heads.length:Int)else Q1z x.heads(s.extract 0(Q36 s 58 58))]
   names:=x.names++[(wordsF(s.extract(Q36 s 58 58)s.size)).drop 1]}
attribute [local go_sem ↓] z16
theorem infoInt:(Tryz.prog.info? 3).map(fun i=>(i.zero,i.size,i.bytes))=some(some(.int .i64 0),1,8):=by kernel_rfl
theorem Q63:∃i,Tryz.prog.info? 3=some i/\i.zero=some(.int .i64 0)/\i.size=1/\i.bytes=8:=by
 have h:=infoInt;cases hq:Tryz.prog.info? 3 with
 |none=>simp[hq]at h
 |some i=>simp[hq]at h;exact⟨i,rfl,h.1,h.2.1,h.2.2⟩
theorem infoIs:(Tryz.prog.info? 22).map(fun i=>(i.zero,i.size,i.bytes))=some(some(.slice none 0 0),1,24):=by kernel_rfl
theorem infoIs':∃i,Tryz.prog.info? 22=some i/\i.zero=some(.slice none 0 0)/\i.size=1/\i.bytes=24:=by
 have h:=infoIs;cases hq:Tryz.prog.info? 22 with
 |none=>simp[hq]at h
 |some i=>simp[hq]at h;exact⟨i,rfl,h.1,h.2.1,h.2.2⟩
theorem z69{w:World}{base:Nat}{e:TypeId}{v:Value}{n:Nat}{l:List ByteArray}(h:w.ownsRow base e 1 v n(Q9z l)):StrsAt w v l:=by
 have hn:n=l.length:=by have:=h.1;simp at this;omega
 subst hn;rcases Q1d.ownsRow_forms h with⟨rfl,h0⟩|⟨g,cap,rfl⟩
 ·exact⟨none,0,by rw[h0],fun j hj=>by omega⟩
 refine⟨_,_,rfl,fun j hj=>⟨g,0,rfl,?_⟩⟩;have:=h.cells(g:=g)rfl j(.string l[j])(by simp[hj]);rwa [Addr.add_mid]at this
attribute [local go_sem ↓] z16
def Q94(s0:ByteArray):Nat->Nat->LO->LO
 |0,_,x=>x
 |f+1,k,x =>
  if k<s0.size then
   Q94 s0 f(if k+Q36(s0.extract k s0.size)10 10<s0.size then k+Q36(s0.extract k s0.size)10 10+1 else k+Q36(s0.extract k s0.size)10 10)
    (Q9m(s0.extract k(k+Q36(s0.extract k s0.size)10 10))x)
  else x
def Q9a:LO:=⟨[],[],[],[],[],[]⟩
def linesX(s:ByteArray):LO:=Q94 s(s.size+1)0 Q9a
end Go.Proofs.YtcpceafmlgaodaaGreat
