import Derived.Test.YtbdpfmalabgmbaaGreatCk4
namespace Go.Proofs.YtbdpfmalabgmbaaGreat
open Go.RowKit
set_option maxRecDepth 99999
set_option maxHeartbeats 0
set_option linter.all false
def Q14:List Ln->List Wd->List Wd
 | [],hs=>hs
 |x::l,hs=>if Q0x x then Q14 l hs else if Q1m hs x.front.ls<hs.length then Q14 l hs else Q14 l (hs++[x.front])
def Q0j(lns:List Ln):List Wd:=Q14 lns []
theorem y3n(ds:List Wd)(ls:List Int):Q1m ds ls<=ds.length:=by unfold Q1m;exact List.findIdx_le_length
theorem x28(w:World)(v:Value)(xs:List LV)(hL:Q0s w v xs)(hn:xs.length<=1000)(hfb:∀x∈xs,FB x) :
  Calls Tryz.prog 29 #[v] w fun e w'=>∃v',e=.returned v'/\w'.ownsRow w.heap.size 76 9 v' (Q0j (xs.map LV.ln)).length (Q0y Wd.cells (Q0j (xs.map LV.ln)))/\Q0a w w'/\(∀d∈Q0j (xs.map LV.ln),d.ls.length=8)/\(Q0j (xs.map LV.ln)).length<=xs.length:=by
 obtain⟨ao,cap,hv⟩:=z0c hL.own;subst hv;have HL:=hid hL;have js:=hid hfb;obtain⟨i0,jx,k4,k5,k6⟩:=infoWd';generalize hRES:Q0j (xs.map LV.ln)=RES;have HR:=hid hRES;clear hL hfb hRES;go_enter Tryz.func29,Tryz.ntmps29
 go_wp2;go_loopw [3,4,5,8] (fun x3 _ _ x8 wr=>∃(i:Nat) (acc:List Wd),x8=.int .i64 i/\i<=xs.length/\acc.length<=i/\(∀d∈acc,d.ls.length=8)/\Q14 ((xs.drop i).map LV.ln) acc=RES/\wr.ownsRow w.heap.size 76 9 x3 acc.length (Q0y Wd.cells acc)/\Q0a w wr)
   (fun _ _ _ x _=>1001-(intOf x).toNat)
 case atStart=>exact⟨0,[],rfl,by omega,by simp,by simp,HR.out,qAh _ _ _ _,mRf _ _⟩
 obtain⟨i,ys,rfl,hi,jz,h8,j0,j2,ja⟩:=hrel;have jg:=hid (Q19 (B:=1001) i (by omega));have HO:=hid j2;have jb:=hid j2.lt;have H8:=hid h8;obtain⟨ro,rc,k1⟩:=z0c j2;clear j2 h8;subst k1;by_cases je:i<xs.length
 ·rw[qC je,qDl]at j0;unfold Q14 at j0;obtain⟨g,jv,jo⟩:=Joins.ownsRow_form HL.own (by omega);rw[qI]at jo;obtain⟨rfl,_,rfl⟩:=jo;have jf:=hid (HL.fresh ja);have jl:=jf.row.range i je;have hA:=jf.each xs[i] (by simp);have jj:=js.out xs[i] (by simp);have j7:=fun w1 (hf:Q0a wr w1)=>(jf.fresh hf).frontRange i je;generalize hX:xs[i]=x at j0 jl hA jj j7;clear hX;have ji:=fun w=>z2l x w hA.front jj;have k0:Hid (Q0x x.ln=!Q16 x.ln.front):=rfl;rw[← k0.out]at ji;have jm:=fun(w:World) (v:Value) (h:Q30 w v ys)=>z4y w v ys x.ln.front h H8.out (by omega) hA.front;have k7:=hid hA.one;obtain⟨⟨⟨pp,ls⟩,sk,j8,j9,j5,sy⟩,vn,vs⟩:=x;obtain⟨a1,a2,a3,a4,a5,a6,a7,a8,e8⟩:=Q59 hA.front;dsimp only at e8;subst e8;obtain⟨no,nc,jp⟩:=z0c hA.nodes.own;obtain⟨so,sc,jq⟩:=z0c hA.syms.own;dsimp only at jp jq;subst jp;subst jq;have RU:=hid ji;have RG:Hid (wr.rangeAt g (i*14) (Q5m pp a1 a2 a3 a4 a5 a6 a7 a8 sk (.slice no j8.length nc) j9 j5 (.slice so sy.length sc))):=jl;have jh:Hid (∀w1,Q0a wr w1->w1.rangeAt g (i*14) (Q55 pp a1 a2 a3 a4 a5 a6 a7 a8)):=j7;have jc:Hid (∀w,Calls Tryz.prog 30 #[.agg (lnArr pp a1 a2 a3 a4 a5 a6 a7 a8 sk (.slice no j8.length nc) j9 j5 (.slice so sy.length sc))] w fun e w'=>e=.returned (.bool (Q0x ⟨⟨pp,[a1,a2,a3,a4,a5,a6,a7,a8]⟩,sk,j8,j9,j5,sy⟩))/\Q0a w w'):=RU.out;have FW:Hid (∀(w:World) (v:Value),Q30 w v ys->Calls Tryz.prog 59 #[v,.agg (Q7e pp a1 a2 a3 a4 a5 a6 a7 a8)] w fun e w'=>e=.returned (.int .i64 (Q1m ys [a1,a2,a3,a4,a5,a6,a7,a8]))/\Q0a w w'):=jm;clear ji RU jl j7 hA jj jm;dsimp only at j0;cases hr:Q0x ⟨⟨pp,[a1,a2,a3,a4,a5,a6,a7,a8]⟩,sk,j8,j9,j5,sy⟩
  ·rw[hr]at jc j0;simp only[qF,qAz]at j0;have k3:=y3n ys [a1,a2,a3,a4,a5,a6,a7,a8];generalize Q1m ys [a1,a2,a3,a4,a5,a6,a7,a8]=wf at j0 FW k3;have jn:Hid (∀w1,Q0a wr w1->Q30 w1 (.slice ro ys.length rc) ys):=fun w1 hf=>⟨z0g (z0d HO.out (fun g hg=>hf.block g (jb.out g hg).2 id)) (qBq _),fun x hx=>Wd.cells_len (H8.out x hx)⟩;by_cases jr:wf<ys.length
   ·rw[qAb jr]at j0;have j1:=hid j0;have k8:((wf:Int)==(ys.length:Int))=false:=by simp;omega
    clear j0;go_wp2_with (first
     |(go_at_call 59;refine(FW.out _ _ (jn.out _ hf)).mono ?_;rintro e w2⟨rfl,j6⟩)
     |(refine qAe rfl 76 _ rfl g (i*14) rfl (Q55 pp a1 a2 a3 a4 a5 a6 a7 a8) _ (jh.out _ hf) qAx rfl Q2s ?_)
     |(go_at_call 30;refine(jc.out _).mono ?_;rintro e w1⟨rfl,hf⟩)
     |(refine qAe rfl 81 _ rfl g (i*14) rfl (Q5m pp a1 a2 a3 a4 a5 a6 a7 a8 sk (.slice no j8.length nc) j9 j5 (.slice so sy.length sc)) _ RG.out qAm rfl Q1e ?_))
    go_roundw
    case rel =>
     refine⟨i+1,ys,by go_num,by omega,by omega,H8.out,j1.out,?_,(ja.trans hf).trans j6⟩;exact z0d HO.out (fun g hg=>(hf.trans j6).block g (jb.out g hg).2 id)
    exact jg.out
   rw[qAa jr]at j0;have j1:=hid j0;have k2:wf=ys.length:=by omega
   subst k2;clear j0;go_wp2_with (first
    |(at_builtin;refine z0f _ rfl _ _ 72 rfl w.heap.size 76 i0 _ 9 16 Tryz.underlying72 jx k4 k5 k6 rfl (by decide) _ _ _ rfl (jt.alloc _) ⟨w2.heap.size,0,none⟩ 1 1 (Q55 pp a1 a2 a3 a4 a5 a6 a7 a8) rfl rfl (z0m rfl) (by intro u hu;simp at hu;rcases hu with rfl|rfl|rfl|rfl|rfl|rfl|rfl|rfl|rfl<;>rfl) (by unfold maxLen;omega) (by omega) (by have:=ja.size;have:=hf.size;have:=j6.size;simp;omega) ?_)
    |(refine qAe rfl 76 _ rfl g (i*14) rfl (Q55 pp a1 a2 a3 a4 a5 a6 a7 a8) _ (jh.out _ (hf.trans j6)) qAx rfl Q2s ?_)
    |(go_at_call 59;refine(FW.out _ _ (jn.out _ hf)).mono ?_;rintro e w2⟨rfl,j6⟩;have jt:=hid (z0d HO.out (fun g hg=>(hf.trans j6).block g (jb.out g hg).2 id)))
    |(refine qAe rfl 76 _ rfl g (i*14) rfl (Q55 pp a1 a2 a3 a4 a5 a6 a7 a8) _ (jh.out _ hf) qAx rfl Q2s ?_)
    |(go_at_call 30;refine(jc.out _).mono ?_;rintro e w1⟨rfl,hf⟩)
    |(refine qAe rfl 81 _ rfl g (i*14) rfl (Q5m pp a1 a2 a3 a4 a5 a6 a7 a8 sk (.slice no j8.length nc) j9 j5 (.slice so sy.length sc)) _ RG.out qAm rfl Q1e ?_))
   intro v' w3 j4 j3 jk;have jw:Q0a w w3:=Mod.grown (S:=fun _=>False) (((ja.trans hf).trans j6).alloc _) j3 (fun k hk je=>by have:=(jb.out k hk).1;omega);have ju:=hid j4;clear j4 j3 jk;go_wp2;go_roundw
   case rel =>
    refine⟨i+1,ys++[⟨pp,[a1,a2,a3,a4,a5,a6,a7,a8]⟩],by go_num,by omega,by simp;omega,?_,j1.out,?_,jw⟩
    ·intro d hd;simp only[qU,qM]at hd;rcases hd with hd|rfl
     ·exact H8.out d hd
     rfl
    rw[z0v,qP,qAj];exact ju.out
   exact jg.out
  rw[hr]at jc j0;simp only[qBn]at j0;have j1:=hid j0;clear j0;go_wp2_with (first
   |(go_at_call 30;refine(jc.out _).mono ?_;rintro e w1⟨rfl,hf⟩)
   |(refine qAe rfl 81 _ rfl g (i*14) rfl (Q5m pp a1 a2 a3 a4 a5 a6 a7 a8 sk (.slice no j8.length nc) j9 j5 (.slice so sy.length sc)) _ RG.out qAm rfl Q1e ?_))
  go_roundw
  case rel =>
   refine⟨i+1,ys,by go_num,by omega,by omega,H8.out,j1.out,?_,ja.trans hf⟩;exact z0d HO.out (fun g hg=>hf.block g (jb.out g hg).2 id)
  exact jg.out
 have jy:i=xs.length:=by omega
 rw[jy,qCy]at j0;have jd:ys=RES:=j0;subst jd;clear j0;go_wp2;go_ret;exact⟨_,rfl,HO.out,ja,H8.out,by omega⟩
def Q9v(names heads:List Wd)(d:Wd):Sy:=⟨Q16 d,if Q16 d then(Q1m heads d.ls:Int) else(Q1m names d.ls:Int)⟩
def Q8a(names heads:List Wd)(x:Ln):Pr:=⟨(Q1m heads x.front.ls:Int),x.syms.map (Q9v names heads)⟩
theorem infoSy:(Tryz.prog.info? 93).map (fun i=>(i.zero,i.size,i.bytes))=some (some (.agg #[.bool false,.int .i64 0]),2,16):=by kernel_rfl
theorem infoSy':∃i,Tryz.prog.info? 93=some i/\i.zero=some (.agg #[.bool false,.int .i64 0])/\i.size=2/\i.bytes=16:=nfoE infoSy
theorem szSy2:(Tryz.prog.info? 93).map (·.size)=some 2:=by kernel_rfl
theorem szPr2:(Tryz.prog.info? 85).map (·.size)=some 2:=by kernel_rfl
theorem y2w(w:World)(x:LV)(vn vh:Value)(names heads:List Wd)(hA:x.At w)(hfb:∀d∈x.ln.syms,0<=d.ls.getD 0 0/\d.ls.getD 0 0<=255)(hsl:x.ln.syms.length<=1000)
  (hN:Q30 w vn names) (hN8:∀d∈names,d.ls.length=8) (hNl:names.length<=1000) (hH:Q30 w vh heads) (hH8:∀d∈heads,d.ls.length=8) (hHl:heads.length<=1000) :
  Calls Tryz.prog 31 #[.agg x.cells.toArray,vn,vh] w fun e w'=>∃v',e=.returned (.agg #[.int .i64 (Q8a names heads x.ln).head,v'])/\Q0a w w'/\w'.ownsRow w.heap.size 93 2 v' (Q8a names heads x.ln).syms.length (Q0y Sy.cells (Q8a names heads x.ln).syms):=by
 obtain⟨i0,k5,ka,kb,kc⟩:=infoSy';have FN:=hid (fun(w:World) (h:Q30 w vn names) (d:Wd) (hd:d.ls.length=8)=>z4y w vn names d h hN8 (by omega) hd);have FH:=hid (fun(w:World) (h:Q30 w vh heads) (d:Wd) (hd:d.ls.length=8)=>z4y w vh heads d h hH8 (by omega) hd);have HN:=hid hN;have HH:=hid hH;have jx:=hid hfb;have k2:∀d∈x.ln.syms,d.ls.length=8:=fun d hd=>by
  have:=hA.syms.wf d hd;simpa [Wd.cells]using this
 have k0:=hid k2;have jg:=hid hA.syms;have jk:=hid hA.front;have RG:Hid (∀o:Obj,((w.alloc (.cells x.cells.toArray 81 (0,0))).alloc o).rangeAt w.heap.size 0 x.ln.front.cells):=by
  intro o j v hj;rw[Q0b (qBg _ _ _)];simp only[LV.cells,qBy,qDp];rw[qAl (qS hj).1];exact hj
 obtain⟨so,sc,jt⟩:=z0c hA.syms.own;have jc:x.cells.toArray[13]? = some (.slice so x.ln.syms.length sc):=by rw[LV.at13 hA.front,jt]
 rw[jt]at jg;generalize x.cells.toArray=xa at jc RG;have k6:(Q8a names heads x.ln).head=(Q1m heads x.ln.front.ls:Int):=rfl;have k7:(Q8a names heads x.ln).syms=x.ln.syms.map (Q9v names heads):=rfl;rw[k6,k7,qAv];generalize hfw:Q1m heads x.ln.front.ls=hw;have jy:=hid hfw;generalize x.ln.front=fr at jk RG jy;generalize x.ln.syms=sy at jx k0 jg hsl jc;have jl:=hid jc;clear hA hfb hN hN8 hH hH8 k2 jt k6 k7 hfw jc;go_enter Tryz.func31,Tryz.ntmps31
 go_wp2_with (first
  |(go_at_call 59;refine(FH.out _ (HH.fresh (((mRf _ w).alloc _).alloc _)) fr jk.out).mono ?_;rw[jy.out];rintro e w1⟨rfl,jh⟩;have k1:=hid (jh.at (qBg _ _ _) id);have kg:=hid (jh.at (qBa _ _ _) id);have jc:=Q0b k1.out 13;rw[jl.out]at jc;have k9:=jh.size)
  |(refine qAe rfl 76 _ rfl w.heap.size 0 rfl fr.cells _ (RG.out _) qAx rfl (by rw[Wd.cells_len jk.out];exact Q2s) ?_))
 have kd:Hid (Q0a w w1):=Mod.trans (((mRf _ w).alloc _).alloc _) jh;have kn:w.heap.size+2<=w1.heap.size:=by simp at k9;omega
 clear k1 jc k9;go_loopw [8,10,11,19] (fun x8 _ _ x19 wr=>∃(i:Nat),x19=.int .i64 i/\i<=sy.length/\wr.ownsRow (w.heap.size+2) 93 2 x8 ((sy.take i).map (Q9v names heads)).length (Q0y Sy.cells ((sy.take i).map (Q9v names heads)))/\Q0a w wr/\wr.heap[w.heap.size+1]? = some (.cells #[.int .i64 0,.slice none 0 0] 85 (0,0))/\w.heap.size+2<=wr.heap.size)
   (fun _ _ _ x _=>1001-(intOf x).toNat)
 case atStart=>exact⟨0,rfl,by omega,qAh _ _ _ _,kd.out,kg.out,kn⟩
 obtain⟨i,rfl,hi,j5,je,k3,kq⟩:=hrel;have jz:=hid (Q19 (B:=1001) i (by omega));have jf:=hid k3;have ki:((sy.take i).map (Q9v names heads)).length<=1000:=by simp;omega
 have kf:Hid (∀jb:i<sy.length,(sy.take (i+1)).map (Q9v names heads)=(sy.take i).map (Q9v names heads)++[Q9v names heads sy[i]]):=by
  intro jb;rw[Q6e jb,qBp,qDb]
 have ke:Hid (i=sy.length->(sy.take i)=sy):=fun h=>by rw[h,qAw]
 generalize hy:(sy.take i).map (Q9v names heads)=ys at *;have HY:=hid hy;have HO:=hid j5;have j7:=hid j5.lt;obtain⟨ro,rc,kj⟩:=z0c j5;clear j5 hy k3;subst kj;by_cases jb:i<sy.length
 ·have ko:(i:Int)<(sy.length:Int):=by omega
  obtain⟨gs,kr,k8⟩:=Joins.ownsRow_form jg.own (by omega);rw[qI]at k8;obtain⟨rfl,_,rfl⟩:=k8;have js:=(jg.fresh je).range i jb;have j6:=kf.out jb;have jd:=k0.out sy[i] (by simp);have k4:=jx.out sy[i] (by simp);have jo:=fun w=>z5m sy[i] w jd k4;have jj:=fun w h=>FN.out w h sy[i] jd;have ji:=fun w h=>FH.out w h sy[i] jd;rw[show Q9v names heads sy[i]=(⟨Q16 sy[i],if Q16 sy[i] then(Q1m heads sy[i].ls:Int) else(Q1m names sy[i].ls:Int)⟩:Sy) from rfl]at j6;generalize hX:sy[i]=d at js j6 jo jj ji jd;clear hX k4;obtain⟨pp,ls⟩:=d;obtain⟨a1,a2,a3,a4,a5,a6,a7,a8,e8⟩:=Q59 jd;dsimp only at e8;subst e8;have RS:Hid (wr.rangeAt gs (i*9) (Q55 pp a1 a2 a3 a4 a5 a6 a7 a8)):=js;have IH:Hid (∀w,Calls Tryz.prog 60 #[.agg (Q7e pp a1 a2 a3 a4 a5 a6 a7 a8)] w fun e w'=>e=.returned (.bool (Q16 ⟨pp,[a1,a2,a3,a4,a5,a6,a7,a8]⟩))/\Q0a w w'):=jo;have jw:Hid (∀(w:World),Q30 w vn names->Calls Tryz.prog 59 #[vn,.agg (Q7e pp a1 a2 a3 a4 a5 a6 a7 a8)] w fun e w'=>e=.returned (.int .i64 (Q1m names [a1,a2,a3,a4,a5,a6,a7,a8]))/\Q0a w w'):=jj;have jv:Hid (∀(w:World),Q30 w vh heads->Calls Tryz.prog 59 #[vh,.agg (Q7e pp a1 a2 a3 a4 a5 a6 a7 a8)] w fun e w'=>e=.returned (.int .i64 (Q1m heads [a1,a2,a3,a4,a5,a6,a7,a8]))/\Q0a w w'):=ji;dsimp only at j6;generalize Q16 ⟨pp,[a1,a2,a3,a4,a5,a6,a7,a8]⟩=hb at j6 IH;generalize Q1m names [a1,a2,a3,a4,a5,a6,a7,a8]=wn at j6 jw;generalize Q1m heads [a1,a2,a3,a4,a5,a6,a7,a8]=wh at j6 jv;have j3:=hid j6;clear js j6 jo jj ji jd;cases hb
  ·simp only[qF,qAz]at j3;go_wp2_with (first
    |(at_builtin;refine z0f _ rfl _ _ 83 rfl (w.heap.size+2) 93 i0 _ 2 16 Tryz.underlying83 k5 ka kb kc rfl (by decide) _ _ _ rfl (jm.alloc _) ⟨w3.heap.size,0,none⟩ 1 1 [.bool false,.int .i64 wn] rfl rfl (by have q:=@z0m (w3.setCell ⟨w2.heap.size,1,none⟩ (.int .i64 wn)) #[.bool false,.int .i64 wn] [.bool false,.int .i64 wn] 93 rfl;rw[Proofs.YtbdpfmalabgmbaaGreat.heap_setCell_size]at q;exact q) (by intro u hu;simp at hu;rcases hu with rfl|rfl<;>rfl) (by unfold maxLen;omega) (by omega) (by simp;omega) ?_)
    |(refine qAf rfl 93 _ rfl w2.heap.size rfl _ _ _ _ jq.out qCf rfl szSy2 ?_)
    |(go_at_call 59;refine(jw.out _ (HN.fresh ((je.trans (Mod.trans ((mRf _ wr).alloc _) j4)).alloc _))).mono ?_;rintro e w3⟨rfl,ja⟩;have km:w2.heap.size<w3.heap.size:=(by have:=ja.size;simp at this;omega);have j8:=hid (ja.at (z0a w2 _) id);have c2:=Q0b j8.out 1;have f2:=Q0f j8.out 1;have jq:Hid ((w3.setCell ⟨w2.heap.size,1,none⟩ (.int .i64 wn)).heap[w2.heap.size]? = some (.cells #[.bool false,.int .i64 wn] 93 (0,0))):=(by unfold Hid;rw[zhs j8.out];rfl);have j2:Hid (Q0a wr (w3.setCell ⟨w2.heap.size,1,none⟩ (.int .i64 wn))):=(Mod.trans ((Mod.trans ((mRf _ wr).alloc _) j4).alloc _) ja).setCell (by intro q;dsimp only at q;omega) _;have jm:=hid (z0d HO.out (fun g hg=>j2.block g (j7.out g hg).2 id)))
    |(refine qAf rfl 76 _ rfl wr.heap.size rfl _ _ _ _ (z0b (j4.at (z0a _ _) id)) qAx rfl Q2s ?_)
    |(go_at_call 60;refine(IH.out _).mono ?_;rintro e w2⟨rfl,j4⟩;have kl:wr.heap.size<w2.heap.size:=(by have:=j4.size;simp at this;omega))
    |(refine qAf rfl 76 _ rfl wr.heap.size rfl _ _ _ _ (z0a _ _) qAx rfl Q2s ?_)
    |(refine qAe rfl 76 _ rfl gs (i*9) rfl (Q55 pp a1 a2 a3 a4 a5 a6 a7 a8) _ RS.out qAx rfl Q2s ?_))
   intro v' w4 j1 j0 j9;have jp:Q0a w w4:=Mod.grown (S:=fun _=>False) ((je.trans j2.out).alloc _) j0 (fun k hk jb=>by have:=(j7.out k hk).1;omega);have jr:Hid (w4.heap[w.heap.size+1]? = some (.cells #[.int .i64 0,.slice none 0 0] 85 (0,0))):=by
    unfold Hid;rw[j0.block (w.heap.size+1) (by have:=j2.size;simp;simp at this;omega) (fun e=>by have:=(j7.out _ e.symm).1;omega)];exact z0b (j2.at jf.out id)
   have ju:w.heap.size+2<=w4.heap.size:=by have h1:=j0.size;have h2:=j2.size;simp at h1 h2;omega
   have jn:=hid j1;clear j1 j0 j9;go_wp2;go_roundw
   case rel =>
    refine⟨i+1,by go_num,by omega,?_,jp,jr.out,ju⟩;rw[j3.out,z0v,qP,qAj];exact jn.out
   exact jz.out
  simp only[qBn]at j3;go_wp2_with (first
   |(at_builtin;refine z0f _ rfl _ _ 83 rfl (w.heap.size+2) 93 i0 _ 2 16 Tryz.underlying83 k5 ka kb kc rfl (by decide) _ _ _ rfl (jm.alloc _) ⟨w3.heap.size,0,none⟩ 1 1 [.bool true,.int .i64 wh] rfl rfl (by have q:=@z0m (w3.setCell ⟨w2.heap.size,1,none⟩ (.int .i64 wh)) #[.bool true,.int .i64 wh] [.bool true,.int .i64 wh] 93 rfl;rw[Proofs.YtbdpfmalabgmbaaGreat.heap_setCell_size]at q;exact q) (by intro u hu;simp at hu;rcases hu with rfl|rfl<;>rfl) (by unfold maxLen;omega) (by omega) (by simp;omega) ?_)
   |(refine qAf rfl 93 _ rfl w2.heap.size rfl _ _ _ _ jq.out qCf rfl szSy2 ?_)
   |(go_at_call 59;refine(jv.out _ (HH.fresh ((je.trans (Mod.trans ((mRf _ wr).alloc _) j4)).alloc _))).mono ?_;rintro e w3⟨rfl,ja⟩;have km:w2.heap.size<w3.heap.size:=(by have:=ja.size;simp at this;omega);have j8:=hid (ja.at (z0a w2 _) id);have c2:=Q0b j8.out 1;have f2:=Q0f j8.out 1;have jq:Hid ((w3.setCell ⟨w2.heap.size,1,none⟩ (.int .i64 wh)).heap[w2.heap.size]? = some (.cells #[.bool true,.int .i64 wh] 93 (0,0))):=(by unfold Hid;rw[zhs j8.out];rfl);have j2:Hid (Q0a wr (w3.setCell ⟨w2.heap.size,1,none⟩ (.int .i64 wh))):=(Mod.trans ((Mod.trans ((mRf _ wr).alloc _) j4).alloc _) ja).setCell (by intro q;dsimp only at q;omega) _;have jm:=hid (z0d HO.out (fun g hg=>j2.block g (j7.out g hg).2 id)))
   |(refine qAf rfl 76 _ rfl wr.heap.size rfl _ _ _ _ (z0b (j4.at (z0a _ _) id)) qAx rfl Q2s ?_)
   |(go_at_call 60;refine(IH.out _).mono ?_;rintro e w2⟨rfl,j4⟩;have kl:wr.heap.size<w2.heap.size:=(by have:=j4.size;simp at this;omega))
   |(refine qAf rfl 76 _ rfl wr.heap.size rfl _ _ _ _ (z0a _ _) qAx rfl Q2s ?_)
   |(refine qAe rfl 76 _ rfl gs (i*9) rfl (Q55 pp a1 a2 a3 a4 a5 a6 a7 a8) _ RS.out qAx rfl Q2s ?_))
  intro v' w4 j1 j0 j9;have jp:Q0a w w4:=Mod.grown (S:=fun _=>False) ((je.trans j2.out).alloc _) j0 (fun k hk jb=>by have:=(j7.out k hk).1;omega);have jr:Hid (w4.heap[w.heap.size+1]? = some (.cells #[.int .i64 0,.slice none 0 0] 85 (0,0))):=by
   unfold Hid;rw[j0.block (w.heap.size+1) (by have:=j2.size;simp;simp at this;omega) (fun e=>by have:=(j7.out _ e.symm).1;omega)];exact z0b (j2.at jf.out id)
  have ju:w.heap.size+2<=w4.heap.size:=by have h1:=j0.size;have h2:=j2.size;simp at h1 h2;omega
  have jn:=hid j1;clear j1 j0 j9;go_wp2;go_roundw
  case rel =>
   refine⟨i+1,by go_num,by omega,?_,jp,jr.out,ju⟩;rw[j3.out,z0v,qP,qAj];exact jn.out
  exact jz.out
 have kh:i=sy.length:=by omega
 have kk:=ke.out kh;have kp:¬(i:Int)<(sy.length:Int):=by omega
 go_wp2_with (first
  |(refine qAg rfl 85 _ _ rfl (w.heap.size+1) #[.int .i64 hw,.slice ro ys.length rc] rfl rfl _ _ jf.out szPr2 rfl (qCq (cs:=[.int .i64 hw,.slice ro ys.length rc]) (by intro v hv;simp at hv;rcases hv with rfl|rfl<;>rfl)) ?_))
 refine qAc (qCg rfl _ _ (w.heap.size+1) 85 #[.int .i64 hw,.slice ro ys.length rc] (0,0) _ rfl (qAn _ _ _ _ _ _ jf.out) qCz rfl szPr2) rfl ⟨_,rfl,je.setRow (by simp) _,?_⟩;rw[kk]at HY;have e1:(List.map (Q9v names heads) sy)=ys:=HY.out;have e2:sy.length=ys.length:=by rw[← e1];simp
 rw[e1,e2];exact z0g (z0d HO.out (fun g hg=>qCx _ _ _ _ (by have:=(j7.out g hg).1;omega))) (by omega)
def Q05(lns:List Ln):List Ln:=lns.filter fun x=>!Q0x x
def Q0p(lns:List Ln):List Pr:=(Q05 lns).map (Q8a (Q0g lns) (Q0j lns))
theorem infoPr:(Tryz.prog.info? 85).map (fun i=>(i.zero,i.size,i.bytes))=some (some (.agg #[.int .i64 0,.slice none 0 0]),2,32):=by kernel_rfl
theorem infoPr':∃i,Tryz.prog.info? 85=some i/\i.zero=some (.agg #[.int .i64 0,.slice none 0 0])/\i.size=2/\i.bytes=32:=nfoE infoPr
theorem szTab:(Tryz.prog.info? 42).map (·.size)=some 3:=by kernel_rfl
abbrev SyOwn(w:World)(base:Nat)(v:Value)(l:List Sy):Prop:=w.ownsRow base 93 2 v l.length (Q0y Sy.cells l)
theorem SyOwn.at'{w:World}{base:Nat}{v:Value}{l:List Sy}(h:SyOwn w base v l):Q58 w w.heap.size v l:=by
 obtain⟨ao,cap,hv⟩:=z0c h;have hr:Q18 Sy.cells 2 93 w v l:=⟨z0g h (qBq _),fun x _=>rfl⟩;have j1:=h.lt;rcases h.2 with⟨h1,h2⟩|⟨g,j0,j2,h1,h2,h3,h4,h5,_⟩
 ·subst h1;have:l=[]:=qCm h2;subst this;exact⟨none,0,rfl,by simp,by unfold maxLen;omega,fun i hi=>by simp at hi⟩
 subst h1;refine⟨some ⟨g,0,none⟩,j0,rfl,h4,h5,fun i hi=>⟨g,0,rfl,(j1 g rfl).2,?_⟩⟩;rw[qBy];exact hr.range i hi
structure PRel(w wr:World)(B:Nat)(v:Value)(pvs:List PV):Prop where
 base:w.heap.size+1<=B
 own:wr.ownsRow B 85 2 v pvs.length (Q0y PV.cells pvs)
 each:∀p∈pvs,SyOwn wr 0 p.vs p.pr.syms
 dis:∀p∈pvs,∀k,v.ownBlock=some k->p.vs.ownBlock≠some k
 fresh:Q0a w wr
 blk:wr.heap[w.heap.size]? = some (.cells #[.int .i64 0,.int .i64 0,.slice none 0 0] 42 (0,0))
theorem PRel.fresh'{w wr w1:World}{B:Nat}{v:Value}{pvs:List PV}(h:PRel w wr B v pvs)(hf:Q0a wr w1):PRel w w1 B v pvs :=
 ⟨h.base,z0d h.own (fun g hg=>hf.block g (h.own.lt g hg).2 id),fun p hp=>z0d (h.each p hp) (fun g hg=>hf.block g ((h.each p hp).lt g hg).2 id),h.dis,h.fresh.trans hf,hf.at h.blk id⟩
theorem PRel.next{w wr W w2:World}{B:Nat}{v v':Value}{pvs:List PV}{p:PV}(h:PRel w wr B v pvs)(hf:Q0a wr W)(hp:SyOwn W wr.heap.size p.vs p.pr.syms)
  (hown:w2.ownsRow B 85 2 v' (pvs.length+1) (Q0y PV.cells pvs++p.cells)) (hg:W.grownBy w2 v.ownBlock)
  (hblk:∀k,v'.ownBlock=some k->v.ownBlock=some k∨W.heap.size<=k):PRel w w2 B v' (pvs++[p]):=by
 have hW:=h.fresh' hf;have j1:∀k,v.ownBlock=some k->k<wr.heap.size:=fun k hk=>(h.own.lt k hk).2;have j0:∀k,v.ownBlock=some k->w.heap.size+1<=k:=fun k hk=>qDa h.base (h.own.lt k hk).1;have j2:∀k,v.ownBlock=some k->p.vs.ownBlock≠some k:=fun k hk e=>by
  have h1:=(hp.lt k e).1;have h2:=j1 k hk;omega
 refine⟨h.base,?_,?_,?_,?_,?_⟩
 ·rw[z0v,qP,qAj];exact hown
 ·intro q hq;simp only[qU,qM]at hq;rcases hq with hq|rfl
  ·exact z0d (hW.each q hq) (fun g hgq=>hg.block g ((hW.each q hq).lt g hgq).2 (fun e=>h.dis q hq g e.symm hgq))
  exact z0g (z0d hp (fun g hgq=>hg.block g (hp.lt g hgq).2 (fun e=>j2 g e.symm hgq))) (qBq _)
 ·intro q hq k hk e;simp only[qU,qM]at hq;rcases hblk k hk with h1|h1
  ·rcases hq with hq|rfl
   ·exact h.dis q hq k h1 e
   exact j2 k h1 e
  rcases hq with hq|rfl
  ·have:=((hW.each q hq).lt k e).2;omega
  have:=(hp.lt k e).2;omega
 ·exact Mod.grown (S:=fun _=>False) hW.fresh hg (fun k hk hlt=>by have:=j0 k hk;omega)
 rw[hg.block _ (z0j hW.blk) (fun e=>by have:=j0 _ e.symm;omega)];exact hW.blk
theorem PRel.prs{w wr:World}{B:Nat}{v:Value}{pvs:List PV}(h:PRel w wr B v pvs)(cs:Array Value):Q2e (wr.setRow w.heap.size cs) (wr.setRow w.heap.size cs).heap.size v pvs:=by
 have j1:(wr.setRow w.heap.size cs).heap.size=wr.heap.size:=by simp
 have j0:∀p∈pvs,∀g,p.vs.ownBlock=some g->g≠w.heap.size:=fun p hp g hg e=>by
  rcases(h.each p hp).2 with⟨h1,_⟩|⟨g',cap,j2,h1,_,h3,_⟩
  ·rw[h1]at hg;cases hg
  rw[h1]at hg;simp[Value.ownBlock]at hg;subst hg;subst e;rw[h.blk]at h3;simp at h3
 refine⟨⟨z0g (z0d h.own (fun g hg=>qCx _ _ _ _ (by have:=(h.own.lt g hg).1;have:=h.base;omega))) (qBq _),fun x _=>rfl⟩,fun g hg=>?_,fun p hp=>?_⟩
 ·rw[j1];exact(h.own.lt g hg).2
 exact SyOwn.at' (base:=0) (z0d (h.each p hp) (fun g hg=>qCx _ _ _ _ (j0 p hp g hg)))
def TabRet(lns:List Ln)(w:World)(e:Ending)(w':World):Prop :=
 ∃vp pvs,e=.returned (.agg #[.int .i64 (Q0g lns).length,.int .i64 (Q0j lns).length,vp])/\Q0a w w'/\pvs.map PV.pr=Q0p lns/\Q2e w' w'.heap.size vp pvs
structure SBx(x:LV):Prop where
 fb:FB x
 sy:∀d∈x.ln.syms,0<=d.ls.getD 0 0/\d.ls.getD 0 0<=255
 len:x.ln.syms.length<=1000
theorem z47(w:World)(v:Value)(xs:List LV)(hL:Q0s w v xs)(hn:xs.length<=1000)(hfb:∀x∈xs,SBx x) :
  Calls Tryz.prog 11 #[v] w fun e w'=>TabRet (xs.map LV.ln) w e w':=by
 obtain⟨ao,cap,hv⟩:=z0c hL.own;subst hv;have HL:=hid hL;have k5:=hid hfb;have jk:=hid (fun w h=>x0h w (.slice ao xs.length cap) xs h hn (fun x hx=>(hfb x hx).fb));have jj:=hid (fun w h=>x28 w (.slice ao xs.length cap) xs h hn (fun x hx=>(hfb x hx).fb));have jo:Hid (∀d∈Q0g (xs.map LV.ln),d.ls.length=8):=by
  intro d hd;simp only[Q0g,qBj,qDi]at hd;obtain⟨y,⟨⟨x,hx,rfl⟩,_⟩,rfl⟩:=hd;exact(hL.each x hx).front
 have jw:(Q0g (xs.map LV.ln)).length<=1000:=by
  have:=qCc Q0x (xs.map LV.ln);simp only[Q0g,qAv]at *;omega
 unfold TabRet;have j5:Hid (∀j0:List PV,j0.map PV.pr=(Q05 ((xs.take xs.length).map LV.ln)).map (Q8a (Q0g (xs.map LV.ln)) (Q0j (xs.map LV.ln)))->j0.map PV.pr=Q0p (xs.map LV.ln)):=by
  intro j0 h;rw[qAw]at h;exact h
 generalize Q0p (xs.map LV.ln)=TAB at j5;generalize Q0g (xs.map LV.ln)=NA at jk jo jw j5;generalize Q0j (xs.map LV.ln)=HE at jj j5;obtain⟨i0,kd,kk,kl,km⟩:=infoPr';have jm:=hid (HL.fresh ((mRf _ w).alloc (.cells #[.int .i64 0,.int .i64 0,.slice none 0 0] 42 (0,0))));clear hL hfb;go_enter Tryz.func11,Tryz.ntmps11
 go_wp2_with (first
  |(go_at_call 29;refine(jj.out _ (jm.fresh je)).mono ?_;rintro e w2⟨vh,rfl,jr,jf,jq,kc⟩;obtain⟨ha,hc,ki⟩:=z0c jr;subst ki)
  |(go_at_call 28;refine(jk.out _ jm.out).mono ?_;rintro e w1⟨vn,rfl,jh,je⟩;obtain⟨na,nc,kj⟩:=z0c jh;subst kj))
 have k7:Hid (Q30 w2 (.slice na NA.length nc) NA):=⟨z0g (z0d jh (fun g hg=>jf.block g (jh.lt g hg).2 id)) (qBq _),fun x hx=>Wd.cells_len (jo.out x hx)⟩;have k6:Hid (Q30 w2 (.slice ha HE.length hc) HE):=⟨z0g jr (qBq _),fun x hx=>Wd.cells_len (jq x hx)⟩;have k1:=hid jq;have jt:Hid (Q0a w w2):=Mod.trans ((mRf _ w).alloc _) (Mod.trans je jf);have js:=hid (jf.at (je.at (z0a _ _) id) id);have ka:HE.length<=1000:=by omega
 clear jh jr jq kc jk jj je jf jm;go_loopw [5,6,7,14] (fun x5 _ _ x14 wr=>∃(i:Nat) (j0:List PV),x14=.int .i64 i/\i<=xs.length/\j0.length<=i/\PRel w wr w2.heap.size x5 j0/\Q0a w2 wr/\j0.map PV.pr=(Q05 ((xs.take i).map LV.ln)).map (Q8a NA HE))
   (fun _ _ _ x _=>1001-(intOf x).toNat)
 case atStart=>exact⟨0,[],rfl,by omega,by simp,⟨z0j js.out,qAh _ _ _ _,by simp,by simp,jt.out,js.out⟩,mRf _ _,rfl⟩
 obtain⟨i,j0,rfl,hi,kp,j1,jx,j9⟩:=hrel;have jv:=hid (Q19 (B:=1001) i (by omega));have HP:=hid j1;have jb:=hid jx;have ju:=hid (jt.trans jx);have k8:Hid (∀j8:i<xs.length,(Q05 ((xs.take (i+1)).map LV.ln)).map (Q8a NA HE)=j0.map PV.pr++(if Q0x xs[i].ln then [] else [Q8a NA HE xs[i].ln])):=by
  intro j8;rw[Q6e j8,qBp,qDb,j9];unfold Q05;rw[qBx,qBp];cases h:Q0x xs[i].ln<;>simp only[qAq,h,qBn,qAz,qF,Bool.not_true,Bool.not_false,List.filter_nil,List.map_nil,qDl,qBd]
 have jn:=hid j9;obtain⟨ro,rc,kg⟩:=z0c j1.own;have kb:w.heap.size<wr.heap.size:=z0j j1.blk;subst kg;clear j1 j9;by_cases j8:i<xs.length
 ·have kn:(i:Int)<(xs.length:Int):=by omega
  obtain⟨g,k9,jz⟩:=Joins.ownsRow_form HL.own (by omega);rw[qI]at jz;obtain⟨rfl,_,rfl⟩:=jz;have jl:=hid (HL.fresh ju.out);have RG:=hid (jl.row.range i j8);have jp:=hid (fun w1 (hf:Q0a wr w1)=>(jl.fresh hf).row.range i j8);have hA:=jl.each xs[i] (by simp);have jc:=k5.out xs[i] (by simp);have ja:=hid hA.front;have RU:=hid (fun w=>z2l xs[i] w hA.front jc.fb);have kf:Hid (Q0x xs[i].ln=!Q16 xs[i].ln.front):=rfl;rw[← kf.out]at RU;have RP:=hid (fun w1 (hf:Q0a wr w1)=>y2w w1 xs[i] (.slice na NA.length nc) (.slice ha HE.length hc) NA HE (hA.fresh hf) jc.sy jc.len (k7.fresh (jb.trans hf)) jo.out jw (k6.fresh (jb.trans hf)) k1.out ka);have j6:=k8.out j8;cases hr:Q0x xs[i].ln
  ·rw[hr]at RU j6;simp only[qF,qAz]at j6;have j2:=hid j6;clear j6 hA jc hr;generalize hX:xs[i]=x at RG jp ja RU RP j2;clear hX;go_wp2_with (first
    |(at_builtin;refine z0f _ rfl _ _ 40 rfl w2.heap.size 85 i0 _ 2 32 Tryz.underlying40 kd kk kl km rfl (by decide) _ _ _ rfl k2.out ⟨w4.heap.size+1,0,none⟩ 1 1 [.int .i64 (Q8a NA HE x.ln).head,.slice sa (Q8a NA HE x.ln).syms.length ji] rfl rfl (z13 rfl) (by intro u hu;simp at hu;rcases hu with rfl|rfl<;>rfl) (by unfold maxLen;omega) (by omega) (by have h3:=jb.size;have h4:=j4.size;have h5:=jg.size;simp;omega) ?_)
    |(go_at_call 31;refine(RP.out _ j4).mono ?_;rintro e w4⟨v4,rfl,jg,jy⟩;obtain⟨sa,ji,kh⟩:=z0c jy;subst kh;have k3:=hid jy;have k2:=hid (((z0d HP.own (fun g hg=>(j4.trans jg).block g (HP.own.lt g hg).2 id)).alloc (.cells #[.int .i64 (Q8a NA HE x.ln).head,.slice sa (Q8a NA HE x.ln).syms.length ji] 85 (0,0))).alloc (.cells #[.int .i64 (Q8a NA HE x.ln).head,.slice sa (Q8a NA HE x.ln).syms.length ji] 85 (0,0))))
    |(refine qAe rfl 81 _ rfl g (i*14) rfl x.cells _ (jp.out _ j4) qAm rfl (by rw[LV.cells_len ja.out];exact Q1e) ?_)
    |(go_at_call 30;refine(RU.out _).mono ?_;rintro e w3⟨rfl,j4⟩)
    |(refine qAe rfl 81 _ rfl g (i*14) rfl x.cells _ RG.out qAm rfl (by rw[LV.cells_len ja.out];exact Q1e) ?_))
   intro v' w5 j7 j3 jd;have k4:=hid (HP.next (p:=⟨Q8a NA HE x.ln,.slice sa (Q8a NA HE x.ln).syms.length ji⟩) (((j4.trans jg).alloc _).alloc _) (z0g ((k3.alloc _).alloc _) (j4.size)) j7 j3 (fun k hk=>(jd k hk).imp id (fun h=>by simpa using h)));have k0:Hid (Q0a w2 w5):=Mod.grown (S:=fun _=>False) (jb.trans (((j4.trans jg).alloc _).alloc _)) j3 (fun k hk j8=>by have:=(HP.own.lt k hk).1;omega);clear j7 j3 jd;go_wp2;go_roundw
   case rel =>
    refine⟨i+1,_,by go_num,by omega,by simp;omega,k4.out,k0.out,?_⟩;rw[j2.out,qBp];rfl
   exact jv.out
  rw[hr]at RU j6;simp only[qBn,qBd]at j6;have j2:=hid j6;clear j6 hA jc hr;generalize hX:xs[i]=x at RG jp ja RU RP j2;clear hX;go_wp2_with (first
   |(go_at_call 30;refine(RU.out _).mono ?_;rintro e w3⟨rfl,j4⟩)
   |(refine qAe rfl 81 _ rfl g (i*14) rfl x.cells _ RG.out qAm rfl (by rw[LV.cells_len ja.out];exact Q1e) ?_))
  go_roundw
  case rel=>exact⟨i+1,j0,by go_num,by omega,by omega,HP.fresh' j4,jb.trans j4,j2.symm⟩
  exact jv.out
 have ke:i=xs.length:=by omega
 have ko:¬(i:Int)<(xs.length:Int):=by omega
 go_wp2_with (first
  |(refine qAg rfl 42 _ _ rfl w.heap.size #[.int .i64 NA.length,.int .i64 HE.length,.slice ro j0.length rc] rfl rfl _ _ HP.blk szTab rfl (qCq (cs:=[.int .i64 NA.length,.int .i64 HE.length,.slice ro j0.length rc]) (by intro v hv;simp at hv;rcases hv with rfl|rfl|rfl<;>rfl)) ?_))
 refine qAc (qCg rfl _ _ w.heap.size 42 #[.int .i64 NA.length,.int .i64 HE.length,.slice ro j0.length rc] (0,0) _ rfl (qAn _ _ _ _ _ _ HP.blk) Tryz.underlying42 rfl szTab) rfl ⟨_,rfl,ju.setRow (fun h=>absurd h (qBw _)) _,j0,j5.out j0 (by rw[← ke];exact jn.out),?_⟩;exact HP.prs _
def SyB(x:Ln):Prop:=∀d∈x.syms,0<=d.ls.getD 0 0/\d.ls.getD 0 0<=255
theorem z4g:SyB Q4j:=fun d hd=>by simp[Q4j]at hd
theorem y5c(s:ByteArray)(d:Wd):∀(f:Nat) (next:Int) (syms:List Wd),(∀d∈syms,0<=d.ls.getD 0 0/\d.ls.getD 0 0<=255)->SyB (Q20 s d f next syms).1
 |0,_,_,_=>z4g
 |f+1,next,syms,h=>by
  unfold Q20;split
  ·split
   ·exact z4g
   refine y5c s d f _ _ ?_;intro e he;simp only[qU,qM]at he;rcases he with he|rfl
   ·exact h e he
   exact z7e s (next+1)
  split
  ·exact z4g
  exact h
theorem x7o(s:ByteArray)(i:Int):SyB (Q2w s i).1:=by
 unfold Q2w;split
 ·exact z4g
 split
 ·unfold Q6p;split
  ·exact z4g
  exact y5c s _ _ _ _ (by simp)
 unfold Q6q;repeat' split
 all_goals first|exact z4g|(intro d hd;simp at hd)
theorem y1u(s:ByteArray):∀(f:Nat) (i:Int) (acc:List Ln),(∀x∈acc,SyB x)->∀x∈(Q1l s f i acc).1,SyB x
 |0,_,_,_,x,hx=>by simp[Q1l]at hx
 |f+1,i,acc,h,x,hx=>by
  unfold Q1l at hx;split at hx
  ·split at hx
   ·simp at hx
   refine y1u s f _ _ ?_ x hx;intro y hy;simp only[qU,qM]at hy;rcases hy with hy|rfl
   ·exact h y hy
   exact x7o s i
  exact h x hx
theorem z5a(s:ByteArray):∀x∈(Q0c s).1,SyB x:=y1u s _ 0 [] (by simp)
theorem z5g{s:ByteArray}(h:(Q0u s).1=0):s.size<=800:=by
 by_cases h8:800<s.size
 ·have:=z8x s;rw[qAb h8]at this;rw[this]at h;cases h
 omega
def Q5e(R:Int)(i:Nat):Hd:=if i=0 then {zeroHd with rch:=true,fo:=Q2h zero9 R} else zeroHd
def Q0z(R:Int):Nat->List Hd
 |0=>[]
 |n+1=>Q0z R n++[Q5e R n]
theorem y2j(R:Int)(i:Nat):(Q5e R i).ok:=by
 unfold Q5e;split
 ·exact⟨rfl,z2t rfl⟩
 exact z2u
theorem z1y(R:Int):∀n,(Q0z R n).length=n
 |0=>rfl
 |n+1=>by simp[Q0z,z1y R n]
theorem Q2e.up{w:World}{B B':Nat}{v:Value}{ps:List PV}(h:Q2e w B v ps)(hB:B<=B'):Q2e w B' v ps:=by
 refine⟨h.row,fun g hg=>qDr (h.lt g hg) hB,fun p hp=>?_⟩;obtain⟨ao,cap,h1,h2,h3,h4⟩:=h.syms p hp;refine⟨ao,cap,h1,h2,h3,fun i hi=>?_⟩;obtain⟨g,o,h5,h6,h7⟩:=h4 i hi;exact⟨g,o,h5,qDr h6 hB,h7⟩
theorem FA.add{w W w3:World}{b:Nat}{R H:Int}{vp vh v':Value}{ps:List PV}{hs:List Hd}{x:Hd}(h:FA w b R H vp vh ps hs)(hx:x.ok)(hf:Q0a w W)
  (hown:w3.ownsRow (b+1) 200 21 v' (hs.length+1) (Q0y Hd.cells hs++x.cells)) (hg:W.grownBy w3 vh.ownBlock) :
  FA (w3.setCell ⟨b,3,none⟩ v') b R H vp v' ps (hs++[x])/\Mod (fun k=>b<=k) w (w3.setCell ⟨b,3,none⟩ v'):=by
 have hW:=h.fresh hf;have j0:∀k,vh.ownBlock=some k->b+1<=k:=fun k hk=>(h.own.lt k hk).1;have j2:Mod (fun k=>b<=k) W w3:=Mod.grown (mRf _ W) hg (fun k hk _=>by have:=j0 k hk;omega);have hm:Mod (fun k=>b<=k) W (w3.setCell ⟨b,3,none⟩ v'):=j2.setCell (fun _=>qR _) _;refine⟨⟨?_,?_,?_,?_⟩,Mod.trans (Mod.mono hf (fun _ _ x=>x.elim)) hm⟩
 ·have j1:w3.heap[b]? = some (.cells #[.int .i64 R,.int .i64 H,vp,vh] 155 (0,0)):=by
   rw[hg.block b (z0j hW.blk) (fun e=>by have:=j0 _ e.symm;omega)];exact hW.blk
  rw[zhs j1];rfl
 ·exact hW.prs.kept (qFd (z0j hW.blk)) hm (fun k hk hs=>by omega)
 ·rw[z0v,qP,qAj];exact z0d hown (fun g hg=>heap_setCell_other _ (by have:=(hown.lt g hg).1;dsimp only;omega))
 intro y hy;simp only[qU,qM]at hy;rcases hy with hy|rfl
 ·exact h.ok y hy
 exact hx
theorem infoHd:(Tryz.prog.info? 200).map (fun i=>(i.zero,i.size,i.bytes))=some (some (.agg (hdA zeroHd)),21,21):=by kernel_rfl
theorem infoHd':∃i,Tryz.prog.info? 200=some i/\i.zero=some (.agg (hdA zeroHd))/\i.size=21/\i.bytes=21:=nfoE infoHd
attribute [local go_sem ↓] z17 y8w
theorem y4c(w:World)(R H:Nat)(vp:Value)(ps:List PV)(hp:Q2e w w.heap.size vp ps)(hps:ps.length<=1000)(hH:H<=1000)(hR:R<=1000) :
  Calls Tryz.prog 61 #[.agg #[.int .i64 R,.int .i64 H,vp]] w fun e w'=>∃b vh,e=.returned (Q3c b)/\Q0a w w'/\FA w' b R H vp vh ps (Q33 (Q0k ps) (Q0z R H)):=by
 obtain⟨i0,jz,k2,k4,k5⟩:=infoHd';have HP:=hid hp;obtain⟨pa,pc,kd⟩:=z0c hp.row.own;subst kd;clear hp;have k6:Hid (FA ((w.alloc (.cells #[.int .i64 R,.int .i64 H,.slice pa ps.length pc] 42 (0,0))).alloc (.cells #[.int .i64 R,.int .i64 H,.slice pa ps.length pc,.slice none 0 0] 155 (0,0))) (w.heap.size+1) R H (.slice pa ps.length pc) (.slice none 0 0) ps []) :=
  ⟨qBa _ _ _,(HP.kept (qR _) (((mRf (fun _=>False) w).alloc _).alloc _) (fun _ _ x=>x)).up (by omega),qAh _ _ _ _,by simp⟩
 go_enter Tryz.func61,Tryz.ntmps61
 go_wp2;go_loopw [4,5] (fun x4 _ wr=>∃(i:Nat) (vh:Value),x4=.int .i64 i/\i<=H/\FA wr (w.heap.size+1) R H (.slice pa ps.length pc) vh ps (Q0z R i)/\Q0a w wr/\wr.heap[w.heap.size]? = some (.cells #[.int .i64 R,.int .i64 H,.slice pa ps.length pc] 42 (0,0)))
   (fun x _ _=>H+1-(intOf x).toNat)
 case atStart=>exact⟨0,.slice none 0 0,rfl,by omega,k6.out,((mRf _ w).alloc _).alloc _,qBg _ _ _⟩
 obtain⟨i,vh,rfl,hi,hF,jp,je⟩:=hrel;have ju:=hid (Q19 (B:=H+1) i (by omega));have HF:=hid hF;have jk:=hid jp;have jg:=hid je;have c1:=Q0b je 1;have c0:=Q0b je 0;simp at c1 c0;obtain⟨ha,hc,k0⟩:=z0c hF.own;rw[z1y]at k0;subst k0;have k9:=hF.size;by_cases kh:i<H
 ·have kf:(i:Int)<(H:Int):=by omega
  have HI:Hid (Q0z R (i+1)=Q0z R i++[Q5e R i]):=rfl;clear hF jp je;by_cases hz:i=0
  ·subst hz;have jn:=z2t (a:=zero9) (n:=(R:Int)) rfl;have jl:=hid jn;obtain⟨g0,g1,g2,g3,g4,g5,g6,g7,g8,hg⟩:=Q7n jn;have js:=hid hg;have h1:Q0a wr (wr.alloc (.cells #[.bool false,.bool true,.bool false,.bool false,.bool false,.bool false,.bool false,.bool false,.bool false,.bool false,.bool false,.bool false,.bool false,.bool false,.bool false,.bool false,.bool false,.bool false,.bool false,.bool false,.bool false] 200 (0,0))):=(mRf _ wr).alloc _;have kb:=z0j jg.out;have k8:(wr.alloc (.cells #[.bool false,.bool true,.bool false,.bool false,.bool false,.bool false,.bool false,.bool false,.bool false,.bool false,.bool false,.bool false,.bool false,.bool false,.bool false,.bool false,.bool false,.bool false,.bool false,.bool false,.bool false] 200 (0,0))).cell? ⟨w.heap.size,0,none⟩=some (.int .i64 R):=by rw[Q0b (z0b jg.out) 0];rfl
   have jv:Hid (Hd.ok {zeroHd with rch:=true}):=⟨rfl,rfl⟩;clear jn hg;go_wp2_with (first
    |(refine qEv rfl 147 _ _ rfl wr.heap.size 12 (tkA (Q2h zero9 R)) rfl rfl (by rw[z0u jl.out];exact z4n jv.out jx.out (by omega)) (Q0t jl.out) (z1h _) ?_)
    |(go_at_call 67;refine(y0k _ zero9 (R:Int) rfl).mono ?_;rintro e w2⟨rfl,jo⟩;have jx:Hid (w2.heap[wr.heap.size]? = some (.cells (hdA {zeroHd with rch:=true}) 200 (0,0))):=jo.at (z0a wr (.cells #[.bool false,.bool true,.bool false,.bool false,.bool false,.bool false,.bool false,.bool false,.bool false,.bool false,.bool false,.bool false,.bool false,.bool false,.bool false,.bool false,.bool false,.bool false,.bool false,.bool false,.bool false] 200 (0,0))) id))
   have hW:Q0a wr (w2.setCells wr.heap.size 12 (tkA (Q2h zero9 R)).toList):=Mod.setCells (fun h=>absurd h (qBw _)) _ _ _ (Mod.trans h1 jo);have j5:=HF.fresh hW;have k3:=j5.cell 3;simp at k3;have jh:Hid ((w2.setCells wr.heap.size 12 (tkA (Q2h zero9 R)).toList).heap[wr.heap.size]? = some (.cells (hdA (Q5e R 0)) 200 (0,0))):=by
    unfold Hid;rw[z0q _ _ _ _ _ _ _ jx.out];rw[show Q5e R 0={({zeroHd with rch:=true}:Hd)with fo:=Q2h zero9 R} from rfl,← z6i jv.out jl.out];rfl
   have j2:=hid (hW.at jg.out id);have j0:=hid (jk.trans hW);generalize w2.setCells wr.heap.size 12 (tkA (Q2h zero9 R)).toList=W at j5 k3 jh j2 j0 hW ⊢;have k1:wr.heap.size<W.heap.size:=z0j jh.out;have jf:hdA (Q5e R 0)=#[.bool false,.bool true,.bool false,.bool false,.bool false,.bool false,.bool false,.bool false,.bool false,.bool false,.bool false,.bool false,.bool g0,.bool g1,.bool g2,.bool g3,.bool g4,.bool g5,.bool g6,.bool g7,.bool g8]:=by
    rw[show Q5e R 0={({zeroHd with rch:=true}:Hd)with fo:=Q2h zero9 R} from rfl,js.out];rfl
   have j6:(Q5e R 0).cells=[.bool false,.bool true,.bool false,.bool false,.bool false,.bool false,.bool false,.bool false,.bool false,.bool false,.bool false,.bool false,.bool g0,.bool g1,.bool g2,.bool g3,.bool g4,.bool g5,.bool g6,.bool g7,.bool g8]:=by
    rw[show Q5e R 0={({zeroHd with rch:=true}:Hd)with fo:=Q2h zero9 R} from rfl,js.out];rfl
   have l1:(ldH (.pointer (some ⟨wr.heap.size,0,none⟩))).run Tryz.prog W.drew=.ok (.agg #[.bool false,.bool true,.bool false,.bool false,.bool false,.bool false,.bool false,.bool false,.bool false,.bool false,.bool false,.bool false,.bool g0,.bool g1,.bool g2,.bool g3,.bool g4,.bool g5,.bool g6,.bool g7,.bool g8]) W.drew:=by
    rw[← jf];refine z9l (y2j R 0) ?_;intro j v hj;have:W.drew.heap[wr.heap.size]? = some (.cells (hdA (Q5e R 0)) 200 (0,0)):=jh.out;rw[Q0b this,qBy];simpa [hdA]using hj
   have jj:=j2;have j8:=j0;have j4:=hid j5;have ke:=j5.size;have jt:=hid j6;clear j5 j2 j0 hW jf j6 jh h1 jo k8;obtain⟨v',w3,jq,j3,j1,jb⟩:=z24 (P:=Tryz.prog) (W.alloc (.cells #[.bool false,.bool true,.bool false,.bool false,.bool false,.bool false,.bool false,.bool false,.bool false,.bool false,.bool false,.bool false,.bool g0,.bool g1,.bool g2,.bool g3,.bool g4,.bool g5,.bool g6,.bool g7,.bool g8] 200)).drew (w.heap.size+2) 153 153 200 i0 _ 21 21 Tryz.underlying153 jz k2 k4 k5 rfl (by decide) (.slice ha 0 hc) 0 (Q0y Hd.cells (Q0z R 0)) (by have:=j4.own.alloc (.cells #[.bool false,.bool true,.bool false,.bool false,.bool false,.bool false,.bool false,.bool false,.bool false,.bool false,.bool false,.bool false,.bool g0,.bool g1,.bool g2,.bool g3,.bool g4,.bool g5,.bool g6,.bool g7,.bool g8] 200);rw[z1y]at this;exact this) ⟨W.heap.size,0,none⟩ 1 1 (Q5e R 0).cells (by rw[jt.out];rfl) (z0m (by rw[jt.out])) (by intro u hu;exact(qCn.1 (z1w (Q5e R 0))) u (by simpa [hdA]using hu)) (by unfold maxLen;omega) (by omega) (by simp[World.drew];omega);obtain⟨jm,j9,jr⟩:=z0c j3;have ja:w3.heap[w.heap.size+1]? = some (.cells #[.int .i64 R,.int .i64 H,.slice pa ps.length pc,.slice ha 0 hc] 155 (0,0)):=by
    rw[j1.block _ (by show _<(W.alloc _).heap.size;simp;have:=j4.size;omega) (fun e=>by have:=(j4.own.lt _ e.symm).1;omega)];exact z0b j4.blk
   have c3:w3.cell? ⟨w.heap.size+1,3,none⟩=some (.slice ha 0 hc):=(Q0b ja 3);have f3:=Q0f ja 3;have j7:=hid (j4.add (y2j R 0) (((mRf _ W).alloc _).drew) (by rw[z1y];exact j3) j1);have jc:Hid ((w3.setCell ⟨w.heap.size+1,3,none⟩ v').heap[w.heap.size]? = some (.cells #[.int .i64 R,.int .i64 H,.slice pa ps.length pc] 42 (0,0))):=(Mod.mono j7.2 (T:=fun k=>w.heap.size+1<=k) (fun _ _ h=>h)).at jj.out (by omega);have jd:Hid (Q0a w (w3.setCell ⟨w.heap.size+1,3,none⟩ v')):=Mod.trans' j8.out j7.2 (fun k hk h=>by omega);clear j3 j1 jb ja;subst jr;go_region;all_goals
    go_wp2;go_roundw
    case rel =>
     refine⟨0+1,.slice jm (0+1) j9,by go_num,by omega,?_,jd.out,jc.out⟩;rw[HI.out];exact j7.1
    exact ju.out
  have b1:((i:Int)==0)=false:=by simp;omega
  have hW:Q0a wr (wr.alloc (.cells #[.bool false,.bool false,.bool false,.bool false,.bool false,.bool false,.bool false,.bool false,.bool false,.bool false,.bool false,.bool false,.bool false,.bool false,.bool false,.bool false,.bool false,.bool false,.bool false,.bool false,.bool false] 200 (0,0))):=(mRf _ wr).alloc _;have j5:=HF.fresh hW;have k3:=j5.cell 3;simp at k3;have l1:(ldH (.pointer (some ⟨wr.heap.size,0,none⟩))).run Tryz.prog (wr.alloc (.cells #[.bool false,.bool false,.bool false,.bool false,.bool false,.bool false,.bool false,.bool false,.bool false,.bool false,.bool false,.bool false,.bool false,.bool false,.bool false,.bool false,.bool false,.bool false,.bool false,.bool false,.bool false] 200 (0,0))).drew=.ok (.agg #[.bool false,.bool false,.bool false,.bool false,.bool false,.bool false,.bool false,.bool false,.bool false,.bool false,.bool false,.bool false,.bool false,.bool false,.bool false,.bool false,.bool false,.bool false,.bool false,.bool false,.bool false]) (wr.alloc (.cells #[.bool false,.bool false,.bool false,.bool false,.bool false,.bool false,.bool false,.bool false,.bool false,.bool false,.bool false,.bool false,.bool false,.bool false,.bool false,.bool false,.bool false,.bool false,.bool false,.bool false,.bool false] 200 (0,0))).drew :=
   z9l (h:=zeroHd) z2u (z0t (z54 wr zeroHd _) rfl)
  have k7:Hid (Q5e R i=zeroHd):=by unfold Hid Q5e;rw[qAa hz]
  go_wp2;have j2:=hid (z0b (o:=.cells #[.bool false,.bool false,.bool false,.bool false,.bool false,.bool false,.bool false,.bool false,.bool false,.bool false,.bool false,.bool false,.bool false,.bool false,.bool false,.bool false,.bool false,.bool false,.bool false,.bool false,.bool false] 200 (0,0)) jg.out);have j0:=hid (jk.trans hW);have k1:wr.heap.size<(wr.alloc (.cells #[.bool false,.bool false,.bool false,.bool false,.bool false,.bool false,.bool false,.bool false,.bool false,.bool false,.bool false,.bool false,.bool false,.bool false,.bool false,.bool false,.bool false,.bool false,.bool false,.bool false,.bool false] 200 (0,0))).heap.size:=by simp
  generalize wr.alloc (.cells #[.bool false,.bool false,.bool false,.bool false,.bool false,.bool false,.bool false,.bool false,.bool false,.bool false,.bool false,.bool false,.bool false,.bool false,.bool false,.bool false,.bool false,.bool false,.bool false,.bool false,.bool false] 200 (0,0))=W at j5 k3 l1 j2 j0 k1 ⊢;have jj:=j2;have j8:=j0;have j4:=hid j5;have ke:=j5.size;clear j5 j2 j0 hW;obtain⟨v',w3,jq,j3,j1,jb⟩:=z24 (P:=Tryz.prog) (W.alloc (.cells #[.bool false,.bool false,.bool false,.bool false,.bool false,.bool false,.bool false,.bool false,.bool false,.bool false,.bool false,.bool false,.bool false,.bool false,.bool false,.bool false,.bool false,.bool false,.bool false,.bool false,.bool false] 200)).drew (w.heap.size+2) 153 153 200 i0 _ 21 21 Tryz.underlying153 jz k2 k4 k5 rfl (by decide) (.slice ha i hc) i (Q0y Hd.cells (Q0z R i)) (by have:=j4.own.alloc (.cells #[.bool false,.bool false,.bool false,.bool false,.bool false,.bool false,.bool false,.bool false,.bool false,.bool false,.bool false,.bool false,.bool false,.bool false,.bool false,.bool false,.bool false,.bool false,.bool false,.bool false,.bool false] 200);rw[z1y]at this;exact this) ⟨W.heap.size,0,none⟩ 1 1 zeroHd.cells rfl (z0m rfl) (by intro u hu;simp[zeroHd,Hd.cells,bls,zero9]at hu;subst hu;rfl) (by unfold maxLen;omega) (by omega) (by simp[World.drew];omega);obtain⟨jm,j9,jr⟩:=z0c j3;have ja:w3.heap[w.heap.size+1]? = some (.cells #[.int .i64 R,.int .i64 H,.slice pa ps.length pc,.slice ha i hc] 155 (0,0)):=by
   rw[j1.block _ (by show _<(W.alloc _).heap.size;simp;have:=j4.size;omega) (fun e=>by have:=(j4.own.lt _ e.symm).1;omega)];exact z0b j4.blk
  have c3:w3.cell? ⟨w.heap.size+1,3,none⟩=some (.slice ha i hc):=(Q0b ja 3);have f3:=Q0f ja 3;have j7:=hid (j4.add z2u (((mRf _ W).alloc _).drew) (by rw[z1y];exact j3) j1);have jc:Hid ((w3.setCell ⟨w.heap.size+1,3,none⟩ v').heap[w.heap.size]? = some (.cells #[.int .i64 R,.int .i64 H,.slice pa ps.length pc] 42 (0,0))):=(Mod.mono j7.2 (T:=fun k=>w.heap.size+1<=k) (fun _ _ h=>h)).at jj.out (by omega);have jd:Hid (Q0a w (w3.setCell ⟨w.heap.size+1,3,none⟩ v')):=Mod.trans' j8.out j7.2 (fun k hk h=>by omega);clear j3 j1 jb ja;subst jr;go_region;all_goals
   go_wp2;go_roundw
   case rel =>
    refine⟨i+1,.slice jm (i+1) j9,by go_num,by omega,?_,jd.out,jc.out⟩;rw[HI.out,k7.out];exact j7.1
   exact ju.out
 have ka:i=H:=by omega
 have kg:¬(i:Int)<(H:Int):=by omega
 subst ka;have ji:=hid (y60 wr (w.heap.size+1) R i _ _ ps _ hF hps);clear hF jp je;go_wp2_with (first
  |(go_at_call 100;refine ji.mono ?_;rintro e w1⟨rfl,jw,kc⟩))
 go_ret;have jy:Q0a w w1:=Mod.trans' jk.out kc (fun k hk h=>by have:=(HF.own.lt k h).1;omega);first
  |exact⟨_,_,rfl,jy,jw⟩
  |exact⟨_,rfl,jy,_,jw⟩
abbrev IntOwn(w:World)(base:Nat)(v:Value)(l:List Int):Prop:=w.ownsRow base 3 1 v l.length (Q9p l)
def Q7p(s:ByteArray):List Hd:=Q33 (Q0p (Q0c s).1) (Q0z ((Q0g (Q0c s).1).length:Nat) (Q0j (Q0c s).1).length)
theorem z9i:∀(l:List Ln) (acc:List Wd),(Q14 l acc).length<=acc.length+l.length
 | [],acc=>by simp[Q14]
 |x::l,acc=>by
  unfold Q14;have h1:=z9i l acc;have h2:=z9i l (acc++[x.front]);simp only[qP,qBk,qEq]at h1 h2 ⊢;split
  ·omega
  split<;>omega
theorem y5w{s:ByteArray}(h:(Q0u s).1=0):(Q0g (Q0c s).1).length<=800/\(Q0j (Q0c s).1).length<=800/\(Q0p (Q0c s).1).length<=800:=by
 have j1:=z5g h;have j0:=(z1k s).1;have h1:=z9i (Q0c s).1 [];have h2:=qCc Q0x (Q0c s).1;have h3:=qCc (fun x=>!Q0x x) (Q0c s).1;unfold Q0g Q0j Q0p Q05;simp only[qAv,qEq]at *;omega
end Go.Proofs.YtbdpfmalabgmbaaGreat
