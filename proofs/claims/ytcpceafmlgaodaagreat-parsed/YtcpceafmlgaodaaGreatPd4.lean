import Derived.Test.YtcpceafmlgaodaaGreatCk4
namespace Go.Proofs.YtcpceafmlgaodaaGreat
open Go.RowKit
set_option maxRecDepth 99999
set_option maxHeartbeats 0
set_option linter.all false
def Q89(names heads:List Wd)(d:Wd):Sy:=⟨Q14 d,if Q14 d then(Q1l heads d.ls:Int) else(Q1l names d.ls:Int)⟩
def Q7w(names heads:List Wd)(x:Ln):Pr:=⟨(Q1l heads x.front.ls:Int),x.syms.map (Q89 names heads)⟩
theorem infoSy:(Tryz.prog.info? 69).map (fun i=>(i.zero,i.size,i.bytes))=some (some (.agg #[.bool false,.int .i64 0]),2,16):=by kernel_rfl
theorem infoSy':∃i,Tryz.prog.info? 69=some i/\i.zero=some (.agg #[.bool false,.int .i64 0])/\i.size=2/\i.bytes=16:=nfoE infoSy
theorem szSy2:(Tryz.prog.info? 69).map (·.size)=some 2:=by kernel_rfl
theorem szPr2:(Tryz.prog.info? 118).map (·.size)=some 2:=by kernel_rfl
theorem y2r(w:World)(x:LV)(vn vh:Value)(names heads:List Wd)(hA:x.At w)(hfb:∀d∈x.ln.syms,0<=d.ls.getD 0 0/\d.ls.getD 0 0<=255)(hsl:x.ln.syms.length<=1000)
  (hN:Q3t w vn names) (hN8:∀d∈names,d.ls.length=8) (hNl:names.length<=1000) (hH:Q3t w vh heads) (hH8:∀d∈heads,d.ls.length=8) (hHl:heads.length<=1000) :
  Calls Tryz.prog 49 #[.agg x.cells.toArray,vn,vh] w fun e w'=>∃v',e=.returned (.agg #[.int .i64 (Q7w names heads x.ln).head,v'])/\Q0a w w'/\w'.ownsRow w.heap.size 69 2 v' (Q7w names heads x.ln).syms.length (Q0z Sy.cells (Q7w names heads x.ln).syms):=by
 obtain⟨i0,hi0,iz0,iz1,iz2⟩:=infoSy';have FN:=hid (fun(w:World) (h:Q3t w vn names) (d:Wd) (hd:d.ls.length=8)=>z44 w vn names d h hN8 (by omega) hd);have FH:=hid (fun(w:World) (h:Q3t w vh heads) (d:Wd) (hd:d.ls.length=8)=>z44 w vh heads d h hH8 (by omega) hd);have HN:=hid hN;have HH:=hid hH;have jt:=hid hfb;have jm:∀d∈x.ln.syms,d.ls.length=8:=fun d hd=>by
  have:=hA.syms.wf d hd;simpa [Wd.cells]using this
 have jo:=hid jm;have j7:=hid hA.syms;have jj:=hid hA.front;have RG:Hid (∀o:Obj,((w.alloc (.cells x.cells.toArray 116 (0,0))).alloc o).rangeAt w.heap.size 0 x.ln.front.cells):=by
  intro o j v hj;rw[Q0b (heap_alloc2_old _ _ _)];simp only[LV.cells,Nat.zero_add,List.getElem?_toArray];rw[List.getElem?_append_left (qS hj).1];exact hj
 obtain⟨so,sc,hvs⟩:=z0d hA.syms.own;have j4:x.cells.toArray[13]? = some (.slice so x.ln.syms.length sc):=by rw[LV.at13 hA.front,hvs]
 rw[hvs]at j7;generalize x.cells.toArray=xa at j4 RG;have jp:(Q7w names heads x.ln).head=(Q1l heads x.ln.front.ls:Int):=rfl;have jw:(Q7w names heads x.ln).syms=x.ln.syms.map (Q89 names heads):=rfl;rw[jp,jw,List.length_map];generalize hfw:Q1l heads x.ln.front.ls=hw;have js:=hid hfw;generalize x.ln.front=fr at jj RG js;generalize x.ln.syms=sy at jt jo j7 hsl j4;have j9:=hid j4;clear hA hfb hN hN8 hH hH8 jm hvs jp jw hfw j4;go_enter Tryz.func49,Tryz.ntmps49
 go_wp2_with (first
  |(go_at_call 81;refine(FH.out _ (HH.fresh (((mRf _ w).alloc _).alloc _)) fr jj.out).mono ?_;rw[js.out];rintro e w1⟨rfl,hf1⟩;have jn:=hid (hf1.at (heap_alloc2_old _ _ _) (fun x=>x));have k6:=hid (hf1.at (heap_alloc2_new _ _ _) (fun x=>x));have j4:=Q0b jn.out 13;rw[j9.out]at j4;have ju:=hf1.size)
  |(refine wpList_load_mid rfl 111 _ rfl w.heap.size 0 rfl fr.cells _ (RG.out _) Tryz.underlying111 rfl (by rw[Wd.cells_len jj.out];exact Q2o) ?_))
 have k4:Hid (Q0a w w1):=Mod.trans (((mRf _ w).alloc _).alloc _) hf1;have k5:w.heap.size+2<=w1.heap.size:=by simp at ju;omega
 clear jn j4 ju;go_loopw [8,10,11,19] (fun x8 _ _ x19 wr=>∃(i:Nat),x19=.int .i64 i/\i<=sy.length/\wr.ownsRow (w.heap.size+2) 69 2 x8 ((sy.take i).map (Q89 names heads)).length (Q0z Sy.cells ((sy.take i).map (Q89 names heads)))/\Q0a w wr/\wr.heap[w.heap.size+1]? = some (.cells #[.int .i64 0,.slice none 0 0] 118 (0,0))/\w.heap.size+2<=wr.heap.size)
   (fun _ _ _ x _=>1001-(intOf x).toNat)
 case atStart=>exact⟨0,rfl,by omega,World.ownsRow_nil _ _ _ _,k4,k6,k5⟩
 obtain⟨i,rfl,hi,hown,hfr,hb1,hzr⟩:=hrel;have jv:=hid (Q15 (B:=1001) i (by omega));have j8:=hid hb1;have jz:((sy.take i).map (Q89 names heads)).length<=1000:=by simp;omega
 have k1:Hid (∀hlt:i<sy.length,(sy.take (i+1)).map (Q89 names heads)=(sy.take i).map (Q89 names heads)++[Q89 names heads sy[i]]):=by
  intro hlt;rw[Q6h hlt,List.map_append,List.map_singleton]
 have jx:Hid (i=sy.length->(sy.take i)=sy):=fun h=>by rw[h,List.take_length]
 generalize hy:(sy.take i).map (Q89 names heads)=ys at *;have HY:=hid hy;have HO:=hid hown;have j5:=hid hown.lt;obtain⟨ro,rc,hro⟩:=z0d hown;clear hown hy hb1;subst hro;by_cases hlt:i<sy.length
 ·have k7:(i:Int)<(sy.length:Int):=by omega
  obtain⟨gs,sc',hv'⟩:=Joins.ownsRow_form j7.own (by omega);rw[qI]at hv';obtain⟨rfl,_,rfl⟩:=hv';have je:=(j7.fresh hfr).range i hlt;have j2:=k1.out hlt;have j6:=jo.out sy[i] (by simp);have jr:=jt.out sy[i] (by simp);have jh:=fun w=>z5l sy[i] w j6 jr;have jg:=fun w h=>FN.out w h sy[i] j6;have jd:=fun w h=>FH.out w h sy[i] j6;rw[show Q89 names heads sy[i]=(⟨Q14 sy[i],if Q14 sy[i] then(Q1l heads sy[i].ls:Int) else(Q1l names sy[i].ls:Int)⟩:Sy) from rfl]at j2;generalize hX:sy[i]=d at je j2 jh jg jd j6;clear hX jr;obtain⟨pp,ls⟩:=d;obtain⟨a1,a2,a3,a4,a5,a6,a7,a8,e8⟩:=Q6d j6;dsimp only at e8;subst e8;have RS:Hid (wr.rangeAt gs (i*9) (Q5r pp a1 a2 a3 a4 a5 a6 a7 a8)):=je;have IH:Hid (∀w,Calls Tryz.prog 82 #[.agg (Q61 pp a1 a2 a3 a4 a5 a6 a7 a8)] w fun e w'=>e=.returned (.bool (Q14 ⟨pp,[a1,a2,a3,a4,a5,a6,a7,a8]⟩))/\Q0a w w'):=jh;have jl:Hid (∀(w:World),Q3t w vn names->Calls Tryz.prog 81 #[vn,.agg (Q61 pp a1 a2 a3 a4 a5 a6 a7 a8)] w fun e w'=>e=.returned (.int .i64 (Q1l names [a1,a2,a3,a4,a5,a6,a7,a8]))/\Q0a w w'):=jg;have jq:Hid (∀(w:World),Q3t w vh heads->Calls Tryz.prog 81 #[vh,.agg (Q61 pp a1 a2 a3 a4 a5 a6 a7 a8)] w fun e w'=>e=.returned (.int .i64 (Q1l heads [a1,a2,a3,a4,a5,a6,a7,a8]))/\Q0a w w'):=jd;dsimp only at j2;generalize Q14 ⟨pp,[a1,a2,a3,a4,a5,a6,a7,a8]⟩=hb at j2 IH;generalize Q1l names [a1,a2,a3,a4,a5,a6,a7,a8]=wn at j2 jl;generalize Q1l heads [a1,a2,a3,a4,a5,a6,a7,a8]=wh at j2 jq;have j1:=hid j2;clear je j2 jh jg jd j6;cases hb
  ·simp only[qF,if_false]at j1;go_wp2_with (first
    |(at_builtin;refine z0g _ rfl _ _ 71 rfl (w.heap.size+2) 69 i0 _ 2 16 Tryz.underlying71 hi0 iz0 iz1 iz2 rfl (by decide) _ _ _ rfl (jk.alloc _) ⟨w3.heap.size,0,none⟩ 1 1 [.bool false,.int .i64 wn] rfl rfl (by have q:=@z0l (w3.setCell ⟨w2.heap.size,1,none⟩ (.int .i64 wn)) #[.bool false,.int .i64 wn] [.bool false,.int .i64 wn] 69 rfl;rw[Proofs.YtcpceafmlgaodaaGreat.heap_setCell_size]at q;exact q) (by intro u hu;simp at hu;rcases hu with rfl|rfl<;>rfl) (by unfold maxLen;omega) (by omega) (by simp;omega) ?_)
    |(refine wpList_load_row rfl 69 _ rfl w2.heap.size rfl _ _ _ _ jf.out Tryz.underlying69 rfl szSy2 ?_)
    |(go_at_call 81;refine(jl.out _ (HN.fresh ((hfr.trans (Mod.trans ((mRf _ wr).alloc _) hf2)).alloc _))).mono ?_;rintro e w3⟨rfl,hf3⟩;have jy:w2.heap.size<w3.heap.size:=(by have:=hf3.size;simp at this;omega);have j3:=hid (hf3.at (z0a w2 _) (fun x=>x));have c2:=Q0b j3.out 1;have f2:=Q0g j3.out 1;have jf:Hid ((w3.setCell ⟨w2.heap.size,1,none⟩ (.int .i64 wn)).heap[w2.heap.size]? = some (.cells #[.bool false,.int .i64 wn] 69 (0,0))):=(by unfold Hid;rw[zhs j3.out];rfl);have j0:Hid (Q0a wr (w3.setCell ⟨w2.heap.size,1,none⟩ (.int .i64 wn))):=(Mod.trans ((Mod.trans ((mRf _ wr).alloc _) hf2).alloc _) hf3).setCell (by intro q;dsimp only at q;omega) _;have jk:=hid (z0c HO.out (fun g hg=>j0.block g (j5.out g hg).2 (fun x=>x))))
    |(refine wpList_load_row rfl 111 _ rfl wr.heap.size rfl _ _ _ _ (z0b (hf2.at (z0a _ _) (fun x=>x))) Tryz.underlying111 rfl Q2o ?_)
    |(go_at_call 82;refine(IH.out _).mono ?_;rintro e w2⟨rfl,hf2⟩;have k2:wr.heap.size<w2.heap.size:=(by have:=hf2.size;simp at this;omega))
    |(refine wpList_load_row rfl 111 _ rfl wr.heap.size rfl _ _ _ _ (z0a _ _) Tryz.underlying111 rfl Q2o ?_)
    |(refine wpList_load_mid rfl 111 _ rfl gs (i*9) rfl (Q5r pp a1 a2 a3 a4 a5 a6 a7 a8) _ RS.out Tryz.underlying111 rfl Q2o ?_))
   intro v' w4 hown2 hgrow hblk;have jb:Q0a w w4:=Mod.grown (S:=fun _=>False) ((hfr.trans j0.out).alloc _) hgrow (fun k hk hlt=>by have:=(j5.out k hk).1;omega);have jc:Hid (w4.heap[w.heap.size+1]? = some (.cells #[.int .i64 0,.slice none 0 0] 118 (0,0))):=by
    unfold Hid;rw[hgrow.block (w.heap.size+1) (by have:=j0.size;simp;simp at this;omega) (fun e=>by have:=(j5.out _ e.symm).1;omega)];exact z0b (j0.at j8.out (fun x=>x))
   have ja:w.heap.size+2<=w4.heap.size:=by have h1:=hgrow.size;have h2:=j0.size;simp at h1 h2;omega
   have ji:=hid hown2;clear hown2 hgrow hblk;go_wp2;go_roundw
   case rel =>
    refine⟨i+1,by go_num,by omega,?_,jb,jc,ja⟩;rw[j1.out,z0y,qP,List.length_singleton];exact ji
   exact jv
  simp only[if_true]at j1;go_wp2_with (first
   |(at_builtin;refine z0g _ rfl _ _ 71 rfl (w.heap.size+2) 69 i0 _ 2 16 Tryz.underlying71 hi0 iz0 iz1 iz2 rfl (by decide) _ _ _ rfl (jk.alloc _) ⟨w3.heap.size,0,none⟩ 1 1 [.bool true,.int .i64 wh] rfl rfl (by have q:=@z0l (w3.setCell ⟨w2.heap.size,1,none⟩ (.int .i64 wh)) #[.bool true,.int .i64 wh] [.bool true,.int .i64 wh] 69 rfl;rw[Proofs.YtcpceafmlgaodaaGreat.heap_setCell_size]at q;exact q) (by intro u hu;simp at hu;rcases hu with rfl|rfl<;>rfl) (by unfold maxLen;omega) (by omega) (by simp;omega) ?_)
   |(refine wpList_load_row rfl 69 _ rfl w2.heap.size rfl _ _ _ _ jf.out Tryz.underlying69 rfl szSy2 ?_)
   |(go_at_call 81;refine(jq.out _ (HH.fresh ((hfr.trans (Mod.trans ((mRf _ wr).alloc _) hf2)).alloc _))).mono ?_;rintro e w3⟨rfl,hf3⟩;have jy:w2.heap.size<w3.heap.size:=(by have:=hf3.size;simp at this;omega);have j3:=hid (hf3.at (z0a w2 _) (fun x=>x));have c2:=Q0b j3.out 1;have f2:=Q0g j3.out 1;have jf:Hid ((w3.setCell ⟨w2.heap.size,1,none⟩ (.int .i64 wh)).heap[w2.heap.size]? = some (.cells #[.bool true,.int .i64 wh] 69 (0,0))):=(by unfold Hid;rw[zhs j3.out];rfl);have j0:Hid (Q0a wr (w3.setCell ⟨w2.heap.size,1,none⟩ (.int .i64 wh))):=(Mod.trans ((Mod.trans ((mRf _ wr).alloc _) hf2).alloc _) hf3).setCell (by intro q;dsimp only at q;omega) _;have jk:=hid (z0c HO.out (fun g hg=>j0.block g (j5.out g hg).2 (fun x=>x))))
   |(refine wpList_load_row rfl 111 _ rfl wr.heap.size rfl _ _ _ _ (z0b (hf2.at (z0a _ _) (fun x=>x))) Tryz.underlying111 rfl Q2o ?_)
   |(go_at_call 82;refine(IH.out _).mono ?_;rintro e w2⟨rfl,hf2⟩;have k2:wr.heap.size<w2.heap.size:=(by have:=hf2.size;simp at this;omega))
   |(refine wpList_load_row rfl 111 _ rfl wr.heap.size rfl _ _ _ _ (z0a _ _) Tryz.underlying111 rfl Q2o ?_)
   |(refine wpList_load_mid rfl 111 _ rfl gs (i*9) rfl (Q5r pp a1 a2 a3 a4 a5 a6 a7 a8) _ RS.out Tryz.underlying111 rfl Q2o ?_))
  intro v' w4 hown2 hgrow hblk;have jb:Q0a w w4:=Mod.grown (S:=fun _=>False) ((hfr.trans j0.out).alloc _) hgrow (fun k hk hlt=>by have:=(j5.out k hk).1;omega);have jc:Hid (w4.heap[w.heap.size+1]? = some (.cells #[.int .i64 0,.slice none 0 0] 118 (0,0))):=by
   unfold Hid;rw[hgrow.block (w.heap.size+1) (by have:=j0.size;simp;simp at this;omega) (fun e=>by have:=(j5.out _ e.symm).1;omega)];exact z0b (j0.at j8.out (fun x=>x))
  have ja:w.heap.size+2<=w4.heap.size:=by have h1:=hgrow.size;have h2:=j0.size;simp at h1 h2;omega
  have ji:=hid hown2;clear hown2 hgrow hblk;go_wp2;go_roundw
  case rel =>
   refine⟨i+1,by go_num,by omega,?_,jb,jc,ja⟩;rw[j1.out,z0y,qP,List.length_singleton];exact ji
  exact jv
 have k0:i=sy.length:=by omega
 have k3:=jx.out k0;have k8:¬(i:Int)<(sy.length:Int):=by omega
 go_wp2_with (first
  |(refine wpList_store_row rfl 118 _ _ rfl (w.heap.size+1) #[.int .i64 hw,.slice ro ys.length rc] rfl rfl _ _ j8.out szPr2 rfl (all_oneCell_toArray (cs:=[.int .i64 hw,.slice ro ys.length rc]) (by intro v hv;simp at hv;rcases hv with rfl|rfl<;>rfl)) ?_))
 refine bodyPost_ret (results_cell_row rfl _ _ (w.heap.size+1) 118 #[.int .i64 hw,.slice ro ys.length rc] (0,0) _ rfl (setRow_heap _ _ _ _ _ _ j8.out) Tryz.underlying118 rfl szPr2) rfl ⟨_,rfl,hfr.setRow (by simp) _,?_⟩;rw[k3]at HY;have e1:(List.map (Q89 names heads) sy)=ys:=HY.out;have e2:sy.length=ys.length:=by rw[← e1];simp
 rw[e1,e2];exact z0f (z0c HO.out (fun g hg=>setRow_other _ _ _ _ (by have:=(j5.out g hg).1;omega))) (by omega)
def Q04(lns:List Ln):List Ln:=lns.filter fun x=>!Q06 x
def Q0q(lns:List Ln):List Pr:=(Q04 lns).map (Q7w (Q0f lns) (Q0h lns))
theorem infoPr:(Tryz.prog.info? 118).map (fun i=>(i.zero,i.size,i.bytes))=some (some (.agg #[.int .i64 0,.slice none 0 0]),2,32):=by kernel_rfl
theorem infoPr':∃i,Tryz.prog.info? 118=some i/\i.zero=some (.agg #[.int .i64 0,.slice none 0 0])/\i.size=2/\i.bytes=32:=nfoE infoPr
theorem Q9f:(Tryz.prog.info? 41).map (·.size)=some 3:=by kernel_rfl
abbrev SyOwn(w:World)(base:Nat)(v:Value)(l:List Sy):Prop:=w.ownsRow base 69 2 v l.length (Q0z Sy.cells l)
theorem SyOwn.at'{w:World}{base:Nat}{v:Value}{l:List Sy}(h:SyOwn w base v l):Q53 w w.heap.size v l:=by
 obtain⟨ao,cap,hv⟩:=z0d h;have hr:Q2e Sy.cells 2 69 w v l:=⟨z0f h (Nat.zero_le _),fun x _=>rfl⟩;have j0:=h.lt;rcases h.2 with⟨h1,h2⟩|⟨g,cap',cur,h1,h2,h3,h4,h5,_⟩
 ·subst h1;have:l=[]:=List.eq_nil_of_length_eq_zero h2;subst this;exact⟨none,0,rfl,by simp,by unfold maxLen;omega,fun i hi=>by simp at hi⟩
 subst h1;refine⟨some ⟨g,0,none⟩,cap',rfl,h4,h5,fun i hi=>⟨g,0,rfl,(j0 g rfl).2,?_⟩⟩;rw[Nat.zero_add];exact hr.range i hi
structure PRel(w wr:World)(B:Nat)(v:Value)(pvs:List PV):Prop where
 base:w.heap.size+1<=B
 own:wr.ownsRow B 118 2 v pvs.length (Q0z PV.cells pvs)
 each:∀p∈pvs,SyOwn wr 0 p.vs p.pr.syms
 dis:∀p∈pvs,∀k,v.ownBlock=some k->p.vs.ownBlock≠some k
 fresh:Q0a w wr
 blk:wr.heap[w.heap.size]? = some (.cells #[.int .i64 0,.int .i64 0,.slice none 0 0] 41 (0,0))
theorem PRel.fresh'{w wr w1:World}{B:Nat}{v:Value}{pvs:List PV}(h:PRel w wr B v pvs)(hf:Q0a wr w1):PRel w w1 B v pvs :=
 ⟨h.base,z0c h.own (fun g hg=>hf.block g (h.own.lt g hg).2 (fun x=>x)),fun p hp=>z0c (h.each p hp) (fun g hg=>hf.block g ((h.each p hp).lt g hg).2 (fun x=>x)),h.dis,h.fresh.trans hf,hf.at h.blk (fun x=>x)⟩
theorem PRel.next{w wr W w2:World}{B:Nat}{v v':Value}{pvs:List PV}{p:PV}(h:PRel w wr B v pvs)(hf:Q0a wr W)(hp:SyOwn W wr.heap.size p.vs p.pr.syms)
  (hown:w2.ownsRow B 118 2 v' (pvs.length+1) (Q0z PV.cells pvs++p.cells)) (hg:W.grownBy w2 v.ownBlock)
  (hblk:∀k,v'.ownBlock=some k->v.ownBlock=some k∨W.heap.size<=k):PRel w w2 B v' (pvs++[p]):=by
 have hW:=h.fresh' hf;have j1:∀k,v.ownBlock=some k->k<wr.heap.size:=fun k hk=>(h.own.lt k hk).2;have j0:∀k,v.ownBlock=some k->w.heap.size+1<=k:=fun k hk=>Nat.le_trans h.base (h.own.lt k hk).1;have j2:∀k,v.ownBlock=some k->p.vs.ownBlock≠some k:=fun k hk e=>by
  have h1:=(hp.lt k e).1;have h2:=j1 k hk;omega
 refine⟨h.base,?_,?_,?_,?_,?_⟩
 ·rw[z0y,qP,List.length_singleton];exact hown
 ·intro q hq;simp only[qU,qM]at hq;rcases hq with hq|rfl
  ·exact z0c (hW.each q hq) (fun g hgq=>hg.block g ((hW.each q hq).lt g hgq).2 (fun e=>h.dis q hq g e.symm hgq))
  exact z0f (z0c hp (fun g hgq=>hg.block g (hp.lt g hgq).2 (fun e=>j2 g e.symm hgq))) (Nat.zero_le _)
 ·intro q hq k hk e;simp only[qU,qM]at hq;rcases hblk k hk with h1|h1
  ·rcases hq with hq|rfl
   ·exact h.dis q hq k h1 e
   exact j2 k h1 e
  rcases hq with hq|rfl
  ·have:=((hW.each q hq).lt k e).2;omega
  have:=(hp.lt k e).2;omega
 ·exact Mod.grown (S:=fun _=>False) hW.fresh hg (fun k hk hlt=>by have:=j0 k hk;omega)
 rw[hg.block _ (z0j hW.blk) (fun e=>by have:=j0 _ e.symm;omega)];exact hW.blk
theorem PRel.prs{w wr:World}{B:Nat}{v:Value}{pvs:List PV}(h:PRel w wr B v pvs)(cs:Array Value):Q3f (wr.setRow w.heap.size cs) (wr.setRow w.heap.size cs).heap.size v pvs:=by
 have j0:(wr.setRow w.heap.size cs).heap.size=wr.heap.size:=by simp
 have j1:∀p∈pvs,∀g,p.vs.ownBlock=some g->g≠w.heap.size:=fun p hp g hg e=>by
  rcases(h.each p hp).2 with⟨h1,_⟩|⟨g',cap,cur,h1,_,h3,_⟩
  ·rw[h1]at hg;cases hg
  rw[h1]at hg;simp[Value.ownBlock]at hg;subst hg;subst e;rw[h.blk]at h3;simp at h3
 refine⟨⟨z0f (z0c h.own (fun g hg=>setRow_other _ _ _ _ (by have:=(h.own.lt g hg).1;have:=h.base;omega))) (Nat.zero_le _),fun x _=>rfl⟩,fun g hg=>?_,fun p hp=>?_⟩
 ·rw[j0];exact(h.own.lt g hg).2
 exact SyOwn.at' (base:=0) (z0c (h.each p hp) (fun g hg=>setRow_other _ _ _ _ (j1 p hp g hg)))
def TabRet(lns:List Ln)(w:World)(e:Ending)(w':World):Prop :=
 ∃vp pvs,e=.returned (.agg #[.int .i64 (Q0f lns).length,.int .i64 (Q0h lns).length,vp])/\Q0a w w'/\pvs.map PV.pr=Q0q lns/\Q3f w' w'.heap.size vp pvs
structure SBx(x:LV):Prop where
 fb:FB x
 sy:∀d∈x.ln.syms,0<=d.ls.getD 0 0/\d.ls.getD 0 0<=255
 len:x.ln.syms.length<=1000
theorem x4x(w:World)(v:Value)(xs:List LV)(hL:Q1u w v xs)(hn:xs.length<=1000)(hfb:∀x∈xs,SBx x) :
  Calls Tryz.prog 20 #[v] w fun e w'=>TabRet (xs.map LV.ln) w e w':=by
 obtain⟨ao,cap,hv⟩:=z0d hL.own;subst hv;have HL:=hid hL;have jl:=hid hfb;have j6:=hid (fun w h=>x08 w (.slice ao xs.length cap) xs h hn (fun x hx=>(hfb x hx).fb));have j8:=hid (fun w h=>x2x w (.slice ao xs.length cap) xs h hn (fun x hx=>(hfb x hx).fb));have j7:Hid (∀d∈Q0f (xs.map LV.ln),d.ls.length=8):=by
  intro d hd;simp only[Q0f,List.mem_map,List.mem_filter]at hd;obtain⟨y,⟨⟨x,hx,rfl⟩,_⟩,rfl⟩:=hd;exact(hL.each x hx).front
 have jd:(Q0f (xs.map LV.ln)).length<=1000:=by
  have:=List.length_filter_le Q06 (xs.map LV.ln);simp only[Q0f,List.length_map]at *;omega
 unfold TabRet;have j1:Hid (∀pvs:List PV,pvs.map PV.pr=(Q04 ((xs.take xs.length).map LV.ln)).map (Q7w (Q0f (xs.map LV.ln)) (Q0h (xs.map LV.ln)))->pvs.map PV.pr=Q0q (xs.map LV.ln)):=by
  intro pvs h;rw[List.take_length]at h;exact h
 generalize Q0q (xs.map LV.ln)=TAB at j1;generalize Q0f (xs.map LV.ln)=NA at j6 j7 jd j1;generalize Q0h (xs.map LV.ln)=HE at j8 j1;obtain⟨i0,hi0,iz0,iz1,iz2⟩:=infoPr';have jc:=hid (HL.fresh ((mRf _ w).alloc (.cells #[.int .i64 0,.int .i64 0,.slice none 0 0] 41 (0,0))));clear hL hfb;go_enter Tryz.func20,Tryz.ntmps20
 go_wp2_with (first
  |(go_at_call 47;refine(j8.out _ (jc.fresh hf1)).mono ?_;rintro e w2⟨vh,rfl,hoh,hf2,hh8,hhl⟩;obtain⟨ha,hc,hvh⟩:=z0d hoh;subst hvh)
  |(go_at_call 46;refine(j6.out _ jc.out).mono ?_;rintro e w1⟨vn,rfl,hon,hf1⟩;obtain⟨na,nc,hvn⟩:=z0d hon;subst hvn))
 have jj:Hid (Q3t w2 (.slice na NA.length nc) NA):=⟨z0f (z0c hon (fun g hg=>hf2.block g (hon.lt g hg).2 (fun x=>x))) (Nat.zero_le _),fun x hx=>Wd.cells_len (j7.out x hx)⟩;have js:Hid (Q3t w2 (.slice ha HE.length hc) HE):=⟨z0f hoh (Nat.zero_le _),fun x hx=>Wd.cells_len (hh8 x hx)⟩;have jt:=hid hh8;have jg:Hid (Q0a w w2):=Mod.trans ((mRf _ w).alloc _) (Mod.trans hf1 hf2);have jh:=hid (hf2.at (hf1.at (z0a _ _) (fun x=>x)) (fun x=>x));have jr:HE.length<=1000:=by omega
 clear hon hoh hh8 hhl j6 j8 hf1 hf2 jc;go_loopw [5,6,7,14] (fun x5 _ _ x14 wr=>∃(i:Nat) (pvs:List PV),x14=.int .i64 i/\i<=xs.length/\pvs.length<=i/\PRel w wr w2.heap.size x5 pvs/\Q0a w2 wr/\pvs.map PV.pr=(Q04 ((xs.take i).map LV.ln)).map (Q7w NA HE))
   (fun _ _ _ x _=>1001-(intOf x).toNat)
 case atStart=>exact⟨0,[],rfl,by omega,by simp,⟨z0j jh.out,World.ownsRow_nil _ _ _ _,by simp,by simp,jg,jh⟩,mRf _ _,rfl⟩
 obtain⟨i,pvs,rfl,hi,hpl,hrelp,hfr,hmap⟩:=hrel;have jf:=hid (Q15 (B:=1001) i (by omega));have HP:=hid hrelp;have j3:=hid hfr;have je:=hid (jg.trans hfr);have jp:Hid (∀hlt:i<xs.length,(Q04 ((xs.take (i+1)).map LV.ln)).map (Q7w NA HE)=pvs.map PV.pr++(if Q06 xs[i].ln then [] else [Q7w NA HE xs[i].ln])):=by
  intro hlt;rw[Q6h hlt,List.map_append,List.map_singleton,hmap];unfold Q04;rw[List.filter_append,List.map_append];cases h:Q06 xs[i].ln<;>simp only[List.filter_cons,h,if_true,if_false,qF,Bool.not_true,Bool.not_false,List.filter_nil,List.map_nil,List.map_cons,List.append_nil]
 have jb:=hid hmap;obtain⟨ro,rc,hro⟩:=z0d hrelp.own;have jq:w.heap.size<wr.heap.size:=z0j hrelp.blk;subst hro;clear hrelp hmap;by_cases hlt:i<xs.length
 ·have jv:(i:Int)<(xs.length:Int):=by omega
  obtain⟨g,cap',hv'⟩:=Joins.ownsRow_form HL.own (by omega);rw[qI]at hv';obtain⟨rfl,_,rfl⟩:=hv';have j9:=hid (HL.fresh je.out);have RG:=hid (j9.row.range i hlt);have ja:=hid (fun w1 (hf:Q0a wr w1)=>(j9.fresh hf).row.range i hlt);have hA:=j9.each xs[i] (by simp);have j4:=jl.out xs[i] (by simp);have j5:=hid hA.front;have RU:=hid (fun w=>z2v xs[i] w hA.front j4.fb);have jo:Hid (Q06 xs[i].ln=!Q14 xs[i].ln.front):=rfl;rw[← jo.out]at RU;have RP:=hid (fun w1 (hf:Q0a wr w1)=>y2r w1 xs[i] (.slice na NA.length nc) (.slice ha HE.length hc) NA HE (hA.fresh hf) j4.sy j4.len (jj.fresh (j3.trans hf)) j7.out jd (js.fresh (j3.trans hf)) jt.out jr);have j2:=jp.out hlt;cases hr:Q06 xs[i].ln
  ·rw[hr]at RU j2;simp only[qF,if_false]at j2;have j0:=hid j2;clear j2 hA j4 hr;generalize hX:xs[i]=x at RG ja j5 RU RP j0;clear hX;go_wp2_with (first
    |(at_builtin;refine z0g _ rfl _ _ 39 rfl w2.heap.size 118 i0 _ 2 32 Tryz.underlying39 hi0 iz0 iz1 iz2 rfl (by decide) _ _ _ rfl ju.out ⟨w4.heap.size+1,0,none⟩ 1 1 [.int .i64 (Q7w NA HE x.ln).head,.slice sa (Q7w NA HE x.ln).syms.length scp] rfl rfl (z2t rfl) (by intro u hu;simp at hu;rcases hu with rfl|rfl<;>rfl) (by unfold maxLen;omega) (by omega) (by have h3:=j3.size;have h4:=hf3.size;have h5:=hf4.size;simp;omega) ?_)
    |(go_at_call 49;refine(RP.out _ hf3).mono ?_;rintro e w4⟨v4,rfl,hf4,ho4⟩;obtain⟨sa,scp,hv4⟩:=z0d ho4;subst hv4;have jm:=hid ho4;have ju:=hid (((z0c HP.own (fun g hg=>(hf3.trans hf4).block g (HP.own.lt g hg).2 (fun x=>x))).alloc (.cells #[.int .i64 (Q7w NA HE x.ln).head,.slice sa (Q7w NA HE x.ln).syms.length scp] 118 (0,0))).alloc (.cells #[.int .i64 (Q7w NA HE x.ln).head,.slice sa (Q7w NA HE x.ln).syms.length scp] 118 (0,0))))
    |(refine wpList_load_mid rfl 116 _ rfl g (i*14) rfl x.cells _ (ja.out _ hf3) Tryz.underlying116 rfl (by rw[LV.cells_len j5.out];exact Q1j) ?_)
    |(go_at_call 48;refine(RU.out _).mono ?_;rintro e w3⟨rfl,hf3⟩)
    |(refine wpList_load_mid rfl 116 _ rfl g (i*14) rfl x.cells _ RG.out Tryz.underlying116 rfl (by rw[LV.cells_len j5.out];exact Q1j) ?_))
   intro v' w5 hown2 hgrow hblk;have ji:=hid (HP.next (p:=⟨Q7w NA HE x.ln,.slice sa (Q7w NA HE x.ln).syms.length scp⟩) (((hf3.trans hf4).alloc _).alloc _) (z0f ((jm.alloc _).alloc _) (hf3.size)) hown2 hgrow (fun k hk=>(hblk k hk).imp id (fun h=>by simpa using h)));have jn:Hid (Q0a w2 w5):=Mod.grown (S:=fun _=>False) (j3.trans (((hf3.trans hf4).alloc _).alloc _)) hgrow (fun k hk hlt=>by have:=(HP.own.lt k hk).1;omega);clear hown2 hgrow hblk;go_wp2;go_roundw
   case rel =>
    refine⟨i+1,_,by go_num,by omega,by simp;omega,ji,jn,?_⟩;rw[j0.out,List.map_append];rfl
   exact jf
  rw[hr]at RU j2;simp only[if_true,List.append_nil]at j2;have j0:=hid j2;clear j2 hA j4 hr;generalize hX:xs[i]=x at RG ja j5 RU RP j0;clear hX;go_wp2_with (first
   |(go_at_call 48;refine(RU.out _).mono ?_;rintro e w3⟨rfl,hf3⟩)
   |(refine wpList_load_mid rfl 116 _ rfl g (i*14) rfl x.cells _ RG.out Tryz.underlying116 rfl (by rw[LV.cells_len j5.out];exact Q1j) ?_))
  go_roundw
  case rel=>exact⟨i+1,pvs,by go_num,by omega,by omega,HP.fresh' hf3,j3.trans hf3,j0.symm⟩
  exact jf
 have jk:i=xs.length:=by omega
 have jw:¬(i:Int)<(xs.length:Int):=by omega
 go_wp2_with (first
  |(refine wpList_store_row rfl 41 _ _ rfl w.heap.size #[.int .i64 NA.length,.int .i64 HE.length,.slice ro pvs.length rc] rfl rfl _ _ HP.blk Q9f rfl (all_oneCell_toArray (cs:=[.int .i64 NA.length,.int .i64 HE.length,.slice ro pvs.length rc]) (by intro v hv;simp at hv;rcases hv with rfl|rfl|rfl<;>rfl)) ?_))
 refine bodyPost_ret (results_cell_row rfl _ _ w.heap.size 41 #[.int .i64 NA.length,.int .i64 HE.length,.slice ro pvs.length rc] (0,0) _ rfl (setRow_heap _ _ _ _ _ _ HP.blk) Tryz.underlying41 rfl Q9f) rfl ⟨_,rfl,je.setRow (fun h=>absurd h (Nat.lt_irrefl _)) _,pvs,j1.out pvs (by rw[← jk];exact jb),?_⟩;exact HP.prs _
def SyB(x:Ln):Prop:=∀d∈x.syms,0<=d.ls.getD 0 0/\d.ls.getD 0 0<=255
theorem z3y:SyB Q38:=fun d hd=>by simp[Q38]at hd
theorem y3v(s:ByteArray)(d:Wd):∀(f:Nat) (next:Int) (syms:List Wd),(∀d∈syms,0<=d.ls.getD 0 0/\d.ls.getD 0 0<=255)->SyB (Q2x s d f next syms).1
 |0,_,_,_=>z3y
 |f+1,next,syms,h=>by
  unfold Q2x;split
  ·split
   ·exact z3y
   refine y3v s d f _ _ ?_;intro e he;simp only[qU,qM]at he;rcases he with he|rfl
   ·exact h e he
   exact z61 s (next+1)
  split
  ·exact z3y
  exact h
theorem x7h(s:ByteArray)(i:Int):SyB (Q2s s i).1:=by
 unfold Q2s;split
 ·exact z3y
 split
 ·unfold Q59;split
  ·exact z3y
  exact y3v s _ _ _ _ (by simp)
 unfold Q6e;repeat' split
 all_goals first|exact z3y|(intro d hd;simp at hd)
theorem y04(s:ByteArray):∀(f:Nat) (i:Int) (acc:List Ln),(∀x∈acc,SyB x)->∀x∈(Q1k s f i acc).1,SyB x
 |0,_,_,_,x,hx=>by simp[Q1k]at hx
 |f+1,i,acc,h,x,hx=>by
  unfold Q1k at hx;split at hx
  ·split at hx
   ·simp at hx
   refine y04 s f _ _ ?_ x hx;intro y hy;simp only[qU,qM]at hy;rcases hy with hy|rfl
   ·exact h y hy
   exact x7h s i
  exact h x hx
theorem x3l(s:ByteArray):∀x∈(Q0c s).1,SyB x:=y04 s _ 0 [] (by simp)
theorem y8i{s:ByteArray}(h:(Q0t s).1=0):s.size<=800:=by
 by_cases h8:800<s.size
 ·have:=z9j s;rw[if_pos h8]at this;rw[this]at h;cases h
 omega
theorem Q3f.setRow{w2:World}{B g:Nat}{v:Value}{pvs:List PV}(h:Q3f w2 B v pvs)(hb:w2.heap[g]? = some (.cells #[.int .i64 0,.int .i64 0,.slice none 0 0] 41 (0,0)))(cs:Array Value):Q3f (w2.setRow g cs) B v pvs:=by
 refine⟨⟨z0c h.row.own (fun k hk=>setRow_other _ _ _ _ ?_),h.row.wf⟩,h.lt,fun p hp=>?_⟩
 ·intro e;rcases h.row.own.2 with⟨h1,_⟩|⟨g',cap,cur,h1,_,h3,_⟩
  ·rw[h1]at hk;cases hk
  rw[h1]at hk;simp[Value.ownBlock]at hk;subst hk;subst e;rw[hb]at h3;simp at h3
 obtain⟨ao,cap,h1,h2,h3,h4⟩:=h.syms p hp;refine⟨ao,cap,h1,h2,h3,fun i hi=>?_⟩;obtain⟨g',o,h5,h6,h7⟩:=h4 i hi;refine⟨g',o,h5,h6,z0t h7 (setRow_other _ _ _ _ ?_)⟩;intro e;subst e;have h8:=h7 0 (.bool (p.pr.syms[i]).isH) rfl;rw[Q0b hb]at h8;rcases hq:o+i*2+0 with _|_|_|k;all_goals (rw[hq]at h8;simp at h8)
def Q9j(s:ByteArray)(w:World)(e:Ending)(w':World):Prop :=
 ∃vp pvs,e=.returned (.tuple #[.agg #[.int .i64 (Q0f (Q0c s).1).length,.int .i64 (Q0h (Q0c s).1).length,vp],.int .i64 0])/\Q0a w w'/\pvs.map PV.pr=Q0q (Q0c s).1/\Q3f w' w'.heap.size vp pvs
theorem x0d(s:ByteArray)(w:World)(hs:s.size<=maxLen)(hc:(Q0t s).1=0) :
  Calls Tryz.prog 11 #[.string s] w fun e w'=>Q9j s w e w':=by
 have SC:=hid (fun w=>z5p s w hs);have H0:=hid hc;have j6:=(z5a s).1;have j2:=(z5a s).2;have j4:=x3l s;have j7:=y8i hc;have j5:Hid (∀xs:List LV,xs.map LV.ln=(Q0c s).1->xs.length<=1000/\(∀x∈xs,SBx x)):=by
  intro xs hx;have h1:xs.length=(Q0c s).1.length:=by rw[← hx];simp
  refine⟨by omega,fun x hxx=>?_⟩;have hm:x.ln∈(Q0c s).1:=by rw[← hx];exact List.mem_map.2 ⟨x,hxx,rfl⟩
  exact⟨(j2 x.ln hm).fb,j4 x.ln hm,by have:=(j2 x.ln hm).sb;omega⟩
 clear j6 j2 j4 hc;go_enter Tryz.func11,Tryz.ntmps11
 go_wp2_with (first
  |(go_at_call 20;refine(x4x _ v xs HL.out (j5.out xs HX.out).1 (j5.out xs HX.out).2).mono ?_;rintro e w2⟨vp,pvs,rfl,hf2,hmap,hprs⟩;obtain⟨ra,rc,hvp⟩:=z0d hprs.row.own;subst hvp;have j0:=hid hprs;have j3:=hid hmap;have j1:=hid (hf2.at (hf1.at (z0a _ _) (fun x=>x)) (fun x=>x)))
  |(refine wpList_store_row rfl 41 _ _ rfl w.heap.size #[.int .i64 (Q0f (xs.map LV.ln)).length,.int .i64 (Q0h (xs.map LV.ln)).length,.slice ra pvs.length rc] rfl rfl _ _ j1.out Q9f rfl (all_oneCell_toArray (cs:=[.int .i64 (Q0f (xs.map LV.ln)).length,.int .i64 (Q0h (xs.map LV.ln)).length,.slice ra pvs.length rc]) (by intro v hv;simp only[List.mem_cons,List.not_mem_nil,or_false]at hv;rcases hv with rfl|rfl|rfl<;>rfl)) ?_)
  |(go_at_call 19;refine(SC.out _).mono ?_;rintro e w1⟨v,rfl,hf1,xs,hL,hxs⟩;rw[H0.out];have HX:=hid (hxs.elim (fun h=>absurd H0.out h.1) (fun h=>h.2));clear hxs;have HL:=hid hL;clear hL))
 refine bodyPost_ret (z0m rfl _ _ w.heap.size 41 #[.int .i64 (Q0f (xs.map LV.ln)).length,.int .i64 (Q0h (xs.map LV.ln)).length,.slice ra pvs.length rc] (0,0) _ rfl (setRow_heap _ _ _ _ _ _ j1.out) Tryz.underlying41 rfl Q9f) rfl ?_;have hF:Q0a w w2:=Mod.trans ((mRf _ w).alloc _) (Mod.trans hf1 hf2);refine⟨_,pvs,by rw[← HX.out];rfl,hF.setRow (fun h=>absurd h (Nat.lt_irrefl _)) _,by rw[← HX.out];exact j3.out,?_⟩;have:=j0.setRow j1.out #[.int .i64 (Q0f (xs.map LV.ln)).length,.int .i64 (Q0h (xs.map LV.ln)).length,.slice ra pvs.length rc];simpa using this
theorem x1w(s:ByteArray)(w:World)(hs:s.size<=maxLen)(hc:(Q0t s).1≠0) :
  Calls Tryz.prog 11 #[.string s] w fun e w'=>e=.returned (.tuple #[.agg #[.int .i64 0,.int .i64 0,.slice none 0 0],.int .i64 (Q0t s).1])/\Q0a w w':=by
 have SC:=hid (fun w=>z5p s w hs);have c0:((Q0t s).1 != 0)=true:=by simpa using hc
 clear hc;go_enter Tryz.func11,Tryz.ntmps11
 go_wp2_with (first
  |(refine wpList_store_row rfl 41 _ _ rfl w.heap.size #[.int .i64 0,.int .i64 0,.slice none 0 0] rfl rfl _ _ j0.out Q9f rfl (all_oneCell_toArray (cs:=[.int .i64 0,.int .i64 0,.slice none 0 0]) (by intro v hv;simp only[List.mem_cons,List.not_mem_nil,or_false]at hv;rcases hv with rfl|rfl|rfl<;>rfl)) ?_)
  |(go_at_call 19;refine(SC.out _).mono ?_;rintro e w1⟨v,rfl,hf1,_⟩;have j0:=hid (hf1.at (z0a _ _) (fun x=>x))))
 refine bodyPost_ret (z0m rfl _ _ w.heap.size 41 #[.int .i64 0,.int .i64 0,.slice none 0 0] (0,0) _ rfl (setRow_heap _ _ _ _ _ _ j0.out) Tryz.underlying41 rfl Q9f) rfl ⟨rfl,?_⟩;exact(Mod.trans ((mRf _ w).alloc _) hf1).setRow (fun h=>absurd h (Nat.lt_irrefl _)) _
def Q48(R:Int)(i:Nat):Hd:=if i=0 then {zeroHd with rch:=true,fo:=Q2b zero9 R} else zeroHd
def Q0v(R:Int):Nat->List Hd
 |0=>[]
 |n+1=>Q0v R n++[Q48 R n]
theorem y2k(R:Int)(i:Nat):(Q48 R i).ok:=by
 unfold Q48;split
 ·exact⟨rfl,z2i rfl⟩
 exact z2n
theorem z1w(R:Int):∀n,(Q0v R n).length=n
 |0=>rfl
 |n+1=>by simp[Q0v,z1w R n]
theorem Q3f.up{w:World}{B B':Nat}{v:Value}{ps:List PV}(h:Q3f w B v ps)(hB:B<=B'):Q3f w B' v ps:=by
 refine⟨h.row,fun g hg=>Nat.lt_of_lt_of_le (h.lt g hg) hB,fun p hp=>?_⟩;obtain⟨ao,cap,h1,h2,h3,h4⟩:=h.syms p hp;refine⟨ao,cap,h1,h2,h3,fun i hi=>?_⟩;obtain⟨g,o,h5,h6,h7⟩:=h4 i hi;exact⟨g,o,h5,Nat.lt_of_lt_of_le h6 hB,h7⟩
theorem FA.add{w W w3:World}{b:Nat}{R H:Int}{vp vh v':Value}{ps:List PV}{hs:List Hd}{x:Hd}(h:FA w b R H vp vh ps hs)(hx:x.ok)(hf:Q0a w W)
  (hown:w3.ownsRow (b+1) 179 21 v' (hs.length+1) (Q0z Hd.cells hs++x.cells)) (hg:W.grownBy w3 vh.ownBlock) :
  FA (w3.setCell ⟨b,3,none⟩ v') b R H vp v' ps (hs++[x])/\Mod (fun k=>b<=k) w (w3.setCell ⟨b,3,none⟩ v'):=by
 have hW:=h.fresh hf;have j0:∀k,vh.ownBlock=some k->b+1<=k:=fun k hk=>(h.own.lt k hk).1;have j2:Mod (fun k=>b<=k) W w3:=Mod.grown (mRf _ W) hg (fun k hk _=>by have:=j0 k hk;omega);have hm:Mod (fun k=>b<=k) W (w3.setCell ⟨b,3,none⟩ v'):=j2.setCell (fun _=>qR _) _;refine⟨⟨?_,?_,?_,?_⟩,Mod.trans (Mod.mono hf (fun _ _ x=>x.elim)) hm⟩
 ·have j1:w3.heap[b]? = some (.cells #[.int .i64 R,.int .i64 H,vp,vh] 138 (0,0)):=by
   rw[hg.block b (z0j hW.blk) (fun e=>by have:=j0 _ e.symm;omega)];exact hW.blk
  rw[zhs j1];rfl
 ·exact hW.prs.kept (Nat.le_of_lt (z0j hW.blk)) hm (fun k hk hs=>by omega)
 ·rw[z0y,qP,List.length_singleton];exact z0c hown (fun g hg=>heap_setCell_other _ (by have:=(hown.lt g hg).1;dsimp only;omega))
 intro y hy;simp only[qU,qM]at hy;rcases hy with hy|rfl
 ·exact h.ok y hy
 exact hx
theorem infoHd:(Tryz.prog.info? 179).map (fun i=>(i.zero,i.size,i.bytes))=some (some (.agg (hdA zeroHd)),21,21):=by kernel_rfl
theorem infoHd':∃i,Tryz.prog.info? 179=some i/\i.zero=some (.agg (hdA zeroHd))/\i.size=21/\i.bytes=21:=nfoE infoHd
attribute [local go_sem ↓] z15 y87
theorem y5q(w:World)(R H:Nat)(vp:Value)(ps:List PV)(hp:Q3f w w.heap.size vp ps)(hps:ps.length<=1000)(hH:H<=1000)(hR:R<=1000) :
  Calls Tryz.prog 50 #[.agg #[.int .i64 R,.int .i64 H,vp]] w fun e w'=>∃b vh,e=.returned (Q23 b)/\Q0a w w'/\FA w' b R H vp vh ps (Q3w (Q0j ps) (Q0v R H)):=by
 obtain⟨i0,hi0,iz0,iz1,iz2⟩:=infoHd';have HP:=hid hp;obtain⟨pa,pc,hvp⟩:=z0d hp.row.own;subst hvp;clear hp;have jr:Hid (FA ((w.alloc (.cells #[.int .i64 R,.int .i64 H,.slice pa ps.length pc] 41 (0,0))).alloc (.cells #[.int .i64 R,.int .i64 H,.slice pa ps.length pc,.slice none 0 0] 138 (0,0))) (w.heap.size+1) R H (.slice pa ps.length pc) (.slice none 0 0) ps []) :=
  ⟨heap_alloc2_new _ _ _,(HP.kept (qR _) (((mRf (fun _=>False) w).alloc _).alloc _) (fun _ _ x=>x)).up (by omega),World.ownsRow_nil _ _ _ _,by simp⟩
 go_enter Tryz.func50,Tryz.ntmps50
 go_wp2;go_loopw [4,5] (fun x4 _ wr=>∃(i:Nat) (vh:Value),x4=.int .i64 i/\i<=H/\FA wr (w.heap.size+1) R H (.slice pa ps.length pc) vh ps (Q0v R i)/\Q0a w wr/\wr.heap[w.heap.size]? = some (.cells #[.int .i64 R,.int .i64 H,.slice pa ps.length pc] 41 (0,0)))
   (fun x _ _=>H+1-(intOf x).toNat)
 case atStart=>exact⟨0,.slice none 0 0,rfl,by omega,jr,((mRf _ w).alloc _).alloc _,heap_alloc2_old _ _ _⟩
 obtain⟨i,vh,rfl,hi,hF,hfr,hbt⟩:=hrel;have jk:=hid (Q15 (B:=H+1) i (by omega));have HF:=hid hF;have jf:=hid hfr;have jb:=hid hbt;have c1:=Q0b hbt 1;have c0:=Q0b hbt 0;simp at c1 c0;obtain⟨ha,hc,hvh⟩:=z0d hF.own;rw[z1w]at hvh;subst hvh;have ju:=hF.size;by_cases hlt:i<H
 ·have jw:(i:Int)<(H:Int):=by omega
  have HI:Hid (Q0v R (i+1)=Q0v R i++[Q48 R i]):=rfl;clear hF hfr hbt;by_cases hz:i=0
  ·subst hz;have jh:=z2i (a:=zero9) (n:=(R:Int)) rfl;have jd:=hid jh;obtain⟨g0,g1,g2,g3,g4,g5,g6,g7,g8,hg⟩:=Q69 jh;have jm:=hid hg;have h1:Q0a wr (wr.alloc (.cells #[.bool false,.bool true,.bool false,.bool false,.bool false,.bool false,.bool false,.bool false,.bool false,.bool false,.bool false,.bool false,.bool false,.bool false,.bool false,.bool false,.bool false,.bool false,.bool false,.bool false,.bool false] 179 (0,0))):=(mRf _ wr).alloc _;have jq:=z0j jb.out;have jv:(wr.alloc (.cells #[.bool false,.bool true,.bool false,.bool false,.bool false,.bool false,.bool false,.bool false,.bool false,.bool false,.bool false,.bool false,.bool false,.bool false,.bool false,.bool false,.bool false,.bool false,.bool false,.bool false,.bool false] 179 (0,0))).cell? ⟨w.heap.size,0,none⟩=some (.int .i64 R):=by rw[Q0b (z0b jb.out) 0];rfl
   have jo:Hid (Hd.ok {zeroHd with rch:=true}):=⟨rfl,rfl⟩;clear jh hg;go_wp2_with (first
    |(refine wpList_store_mid rfl 130 _ _ rfl wr.heap.size 12 (tkA (Q2b zero9 R)) rfl rfl (by rw[z0u jd.out];exact z4l jo.out ji.out (by omega)) (Q0s jd.out) (z1e _) ?_)
    |(go_at_call 56;refine(y0f _ zero9 (R:Int) rfl).mono ?_;rintro e w2⟨rfl,hf2⟩;have ji:Hid (w2.heap[wr.heap.size]? = some (.cells (hdA {zeroHd with rch:=true}) 179 (0,0))):=hf2.at (z0a wr (.cells #[.bool false,.bool true,.bool false,.bool false,.bool false,.bool false,.bool false,.bool false,.bool false,.bool false,.bool false,.bool false,.bool false,.bool false,.bool false,.bool false,.bool false,.bool false,.bool false,.bool false,.bool false] 179 (0,0))) (fun x=>x)))
   have hW:Q0a wr (w2.setCells wr.heap.size 12 (tkA (Q2b zero9 R)).toList):=Mod.setCells (fun h=>absurd h (Nat.lt_irrefl _)) _ _ _ (Mod.trans h1 hf2);have j2:=HF.fresh hW;have k3:=j2.cell 3;simp at k3;have jc:Hid ((w2.setCells wr.heap.size 12 (tkA (Q2b zero9 R)).toList).heap[wr.heap.size]? = some (.cells (hdA (Q48 R 0)) 179 (0,0))):=by
    unfold Hid;rw[z0p _ _ _ _ _ _ _ ji.out];rw[show Q48 R 0={({zeroHd with rch:=true}:Hd)with fo:=Q2b zero9 R} from rfl,← z6l jo.out jd.out];rfl
   have j1:=hid (hW.at jb.out (fun x=>x));have j0:=hid (jf.trans hW);generalize w2.setCells wr.heap.size 12 (tkA (Q2b zero9 R)).toList=W at j2 k3 jc j1 j0 hW ⊢;have jl:wr.heap.size<W.heap.size:=z0j jc.out;have ja:hdA (Q48 R 0)=#[.bool false,.bool true,.bool false,.bool false,.bool false,.bool false,.bool false,.bool false,.bool false,.bool false,.bool false,.bool false,.bool g0,.bool g1,.bool g2,.bool g3,.bool g4,.bool g5,.bool g6,.bool g7,.bool g8]:=by
    rw[show Q48 R 0={({zeroHd with rch:=true}:Hd)with fo:=Q2b zero9 R} from rfl,jm.out];rfl
   have j4:(Q48 R 0).cells=[.bool false,.bool true,.bool false,.bool false,.bool false,.bool false,.bool false,.bool false,.bool false,.bool false,.bool false,.bool false,.bool g0,.bool g1,.bool g2,.bool g3,.bool g4,.bool g5,.bool g6,.bool g7,.bool g8]:=by
    rw[show Q48 R 0={({zeroHd with rch:=true}:Hd)with fo:=Q2b zero9 R} from rfl,jm.out];rfl
   have l1:(ldH (.pointer (some ⟨wr.heap.size,0,none⟩))).run Tryz.prog W.drew=.ok (.agg #[.bool false,.bool true,.bool false,.bool false,.bool false,.bool false,.bool false,.bool false,.bool false,.bool false,.bool false,.bool false,.bool g0,.bool g1,.bool g2,.bool g3,.bool g4,.bool g5,.bool g6,.bool g7,.bool g8]) W.drew:=by
    rw[← ja];refine z9k (y2k R 0) ?_;intro j v hj;have:W.drew.heap[wr.heap.size]? = some (.cells (hdA (Q48 R 0)) 179 (0,0)):=jc.out;rw[Q0b this,Nat.zero_add];simpa [hdA]using hj
   have jg:=j1;have j9:=j0;have j3:=hid j2;have js:=j2.size;have jj:=hid j4;clear j2 j1 j0 hW ja j4 jc h1 hf2 jv;obtain⟨v',w3,hrun,hown,hgrow,hblk⟩:=z2y (P:=Tryz.prog) (W.alloc (.cells #[.bool false,.bool true,.bool false,.bool false,.bool false,.bool false,.bool false,.bool false,.bool false,.bool false,.bool false,.bool false,.bool g0,.bool g1,.bool g2,.bool g3,.bool g4,.bool g5,.bool g6,.bool g7,.bool g8] 179)).drew (w.heap.size+2) 136 136 179 i0 _ 21 21 Tryz.underlying136 hi0 iz0 iz1 iz2 rfl (by decide) (.slice ha 0 hc) 0 (Q0z Hd.cells (Q0v R 0)) (by have:=j3.own.alloc (.cells #[.bool false,.bool true,.bool false,.bool false,.bool false,.bool false,.bool false,.bool false,.bool false,.bool false,.bool false,.bool false,.bool g0,.bool g1,.bool g2,.bool g3,.bool g4,.bool g5,.bool g6,.bool g7,.bool g8] 179);rw[z1w]at this;exact this) ⟨W.heap.size,0,none⟩ 1 1 (Q48 R 0).cells (by rw[jj.out];rfl) (z0l (by rw[jj.out])) (by intro u hu;exact(Array.all_eq_true_iff_forall_mem.1 (z10 (Q48 R 0))) u (by simpa [hdA]using hu)) (by unfold maxLen;omega) (by omega) (by simp[World.drew];omega);obtain⟨ao3,cap3,hv3⟩:=z0d hown;have j8:w3.heap[w.heap.size+1]? = some (.cells #[.int .i64 R,.int .i64 H,.slice pa ps.length pc,.slice ha 0 hc] 138 (0,0)):=by
    rw[hgrow.block _ (by show _<(W.alloc _).heap.size;simp;have:=j3.size;omega) (fun e=>by have:=(j3.own.lt _ e.symm).1;omega)];exact z0b j3.blk
   have c3:w3.cell? ⟨w.heap.size+1,3,none⟩=some (.slice ha 0 hc):=(Q0b j8 3);have f3:=Q0g j8 3;have j5:=hid (j3.add (y2k R 0) (((mRf _ W).alloc _).drew) (by rw[z1w];exact hown) hgrow);have j6:Hid ((w3.setCell ⟨w.heap.size+1,3,none⟩ v').heap[w.heap.size]? = some (.cells #[.int .i64 R,.int .i64 H,.slice pa ps.length pc] 41 (0,0))):=(Mod.mono j5.2 (T:=fun k=>w.heap.size+1<=k) (fun _ _ h=>h)).at jg.out (by omega);have j7:Hid (Q0a w (w3.setCell ⟨w.heap.size+1,3,none⟩ v')):=Mod.trans' j9.out j5.2 (fun k hk h=>by omega);clear hown hgrow hblk j8;subst hv3;go_region;all_goals
    go_wp2;go_roundw
    case rel =>
     refine⟨0+1,.slice ao3 (0+1) cap3,by go_num,by omega,?_,j7,j6⟩;rw[HI.out];exact j5.1
    exact jk
  have b1:((i:Int)==0)=false:=by simp;omega
  have hW:Q0a wr (wr.alloc (.cells #[.bool false,.bool false,.bool false,.bool false,.bool false,.bool false,.bool false,.bool false,.bool false,.bool false,.bool false,.bool false,.bool false,.bool false,.bool false,.bool false,.bool false,.bool false,.bool false,.bool false,.bool false] 179 (0,0))):=(mRf _ wr).alloc _;have j2:=HF.fresh hW;have k3:=j2.cell 3;simp at k3;have l1:(ldH (.pointer (some ⟨wr.heap.size,0,none⟩))).run Tryz.prog (wr.alloc (.cells #[.bool false,.bool false,.bool false,.bool false,.bool false,.bool false,.bool false,.bool false,.bool false,.bool false,.bool false,.bool false,.bool false,.bool false,.bool false,.bool false,.bool false,.bool false,.bool false,.bool false,.bool false] 179 (0,0))).drew=.ok (.agg #[.bool false,.bool false,.bool false,.bool false,.bool false,.bool false,.bool false,.bool false,.bool false,.bool false,.bool false,.bool false,.bool false,.bool false,.bool false,.bool false,.bool false,.bool false,.bool false,.bool false,.bool false]) (wr.alloc (.cells #[.bool false,.bool false,.bool false,.bool false,.bool false,.bool false,.bool false,.bool false,.bool false,.bool false,.bool false,.bool false,.bool false,.bool false,.bool false,.bool false,.bool false,.bool false,.bool false,.bool false,.bool false] 179 (0,0))).drew :=
   z9k (h:=zeroHd) z2n (z0t (z5z wr zeroHd _) rfl)
  have jt:Hid (Q48 R i=zeroHd):=by unfold Hid Q48;rw[if_neg hz]
  go_wp2;have j1:=hid (z0b (o:=.cells #[.bool false,.bool false,.bool false,.bool false,.bool false,.bool false,.bool false,.bool false,.bool false,.bool false,.bool false,.bool false,.bool false,.bool false,.bool false,.bool false,.bool false,.bool false,.bool false,.bool false,.bool false] 179 (0,0)) jb.out);have j0:=hid (jf.trans hW);have jl:wr.heap.size<(wr.alloc (.cells #[.bool false,.bool false,.bool false,.bool false,.bool false,.bool false,.bool false,.bool false,.bool false,.bool false,.bool false,.bool false,.bool false,.bool false,.bool false,.bool false,.bool false,.bool false,.bool false,.bool false,.bool false] 179 (0,0))).heap.size:=by simp
  generalize wr.alloc (.cells #[.bool false,.bool false,.bool false,.bool false,.bool false,.bool false,.bool false,.bool false,.bool false,.bool false,.bool false,.bool false,.bool false,.bool false,.bool false,.bool false,.bool false,.bool false,.bool false,.bool false,.bool false] 179 (0,0))=W at j2 k3 l1 j1 j0 jl ⊢;have jg:=j1;have j9:=j0;have j3:=hid j2;have js:=j2.size;clear j2 j1 j0 hW;obtain⟨v',w3,hrun,hown,hgrow,hblk⟩:=z2y (P:=Tryz.prog) (W.alloc (.cells #[.bool false,.bool false,.bool false,.bool false,.bool false,.bool false,.bool false,.bool false,.bool false,.bool false,.bool false,.bool false,.bool false,.bool false,.bool false,.bool false,.bool false,.bool false,.bool false,.bool false,.bool false] 179)).drew (w.heap.size+2) 136 136 179 i0 _ 21 21 Tryz.underlying136 hi0 iz0 iz1 iz2 rfl (by decide) (.slice ha i hc) i (Q0z Hd.cells (Q0v R i)) (by have:=j3.own.alloc (.cells #[.bool false,.bool false,.bool false,.bool false,.bool false,.bool false,.bool false,.bool false,.bool false,.bool false,.bool false,.bool false,.bool false,.bool false,.bool false,.bool false,.bool false,.bool false,.bool false,.bool false,.bool false] 179);rw[z1w]at this;exact this) ⟨W.heap.size,0,none⟩ 1 1 zeroHd.cells rfl (z0l rfl) (by intro u hu;simp[zeroHd,Hd.cells,bls,zero9]at hu;subst hu;rfl) (by unfold maxLen;omega) (by omega) (by simp[World.drew];omega);obtain⟨ao3,cap3,hv3⟩:=z0d hown;have j8:w3.heap[w.heap.size+1]? = some (.cells #[.int .i64 R,.int .i64 H,.slice pa ps.length pc,.slice ha i hc] 138 (0,0)):=by
   rw[hgrow.block _ (by show _<(W.alloc _).heap.size;simp;have:=j3.size;omega) (fun e=>by have:=(j3.own.lt _ e.symm).1;omega)];exact z0b j3.blk
  have c3:w3.cell? ⟨w.heap.size+1,3,none⟩=some (.slice ha i hc):=(Q0b j8 3);have f3:=Q0g j8 3;have j5:=hid (j3.add z2n (((mRf _ W).alloc _).drew) (by rw[z1w];exact hown) hgrow);have j6:Hid ((w3.setCell ⟨w.heap.size+1,3,none⟩ v').heap[w.heap.size]? = some (.cells #[.int .i64 R,.int .i64 H,.slice pa ps.length pc] 41 (0,0))):=(Mod.mono j5.2 (T:=fun k=>w.heap.size+1<=k) (fun _ _ h=>h)).at jg.out (by omega);have j7:Hid (Q0a w (w3.setCell ⟨w.heap.size+1,3,none⟩ v')):=Mod.trans' j9.out j5.2 (fun k hk h=>by omega);clear hown hgrow hblk j8;subst hv3;go_region;all_goals
   go_wp2;go_roundw
   case rel =>
    refine⟨i+1,.slice ao3 (i+1) cap3,by go_num,by omega,?_,j7,j6⟩;rw[HI.out,jt.out];exact j5.1
   exact jk
 have jp:i=H:=by omega
 have jx:¬(i:Int)<(H:Int):=by omega
 subst jp;have je:=hid (y6c wr (w.heap.size+1) R i _ _ ps _ hF hps);clear hF hfr hbt;go_wp2_with (first
  |(go_at_call 83;refine je.mono ?_;rintro e w1⟨rfl,hF1,hm1⟩))
 go_ret;have jn:Q0a w w1:=Mod.trans' jf.out hm1 (fun k hk h=>by have:=(HF.own.lt k h).1;omega);first
  |exact⟨_,_,rfl,jn,hF1⟩
  |exact⟨_,rfl,jn,_,hF1⟩
abbrev IntOwn(w:World)(base:Nat)(v:Value)(l:List Int):Prop:=w.ownsRow base 3 1 v l.length (Q5x l)
def Q7h(s:ByteArray):List Hd:=Q3w (Q0q (Q0c s).1) (Q0v ((Q0f (Q0c s).1).length:Nat) (Q0h (Q0c s).1).length)
theorem z87:∀(l:List Ln) (acc:List Wd),(Q11 l acc).length<=acc.length+l.length
 | [],acc=>by simp[Q11]
 |x::l,acc=>by
  unfold Q11;have h1:=z87 l acc;have h2:=z87 l (acc++[x.front]);simp only[qP,List.length_cons,List.length_nil]at h1 h2 ⊢;split
  ·omega
  split<;>omega
theorem y4j{s:ByteArray}(h:(Q0t s).1=0):(Q0f (Q0c s).1).length<=800/\(Q0h (Q0c s).1).length<=800/\(Q0q (Q0c s).1).length<=800:=by
 have j0:=y8i h;have j1:=(z5a s).1;have h1:=z87 (Q0c s).1 [];have h2:=List.length_filter_le Q06 (Q0c s).1;have h3:=List.length_filter_le (fun x=>!Q06 x) (Q0c s).1;unfold Q0f Q0h Q0q Q04;simp only[List.length_map,List.length_nil]at *;omega
end Go.Proofs.YtcpceafmlgaodaaGreat
