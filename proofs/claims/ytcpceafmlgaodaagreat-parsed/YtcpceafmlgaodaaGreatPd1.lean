import Derived.Test.YtcpceafmlgaodaaGreatCk7
namespace Go.Proofs.YtcpceafmlgaodaaGreat
open Go.RowKit
set_option maxRecDepth 99999
set_option maxHeartbeats 0
set_option linter.all false
def Q1l(ds:List Wd)(ls:List Int):Nat:=ds.findIdx (fun x=>x.ls==ls)
theorem z4w(w:World)(v:Value)(xs:List Wd)(dd:Wd)(hL:Q3u w v xs)(hx8:∀x∈xs,x.ls.length=8)(hn:xs.length<=100000)(hl:dd.ls.length=8) :
  Calls Tryz.prog 81 #[v,.agg dd.cells.toArray] w fun e w'=>e=.returned (.int .i64 (Q1l xs dd.ls))/\Q0a w w':=by
 obtain⟨p,ls⟩:=dd;obtain⟨b1,b2,b3,b4,b5,b6,b7,b8,rfl⟩:=Q59 hl;have e1:(Wd.cells ⟨p,[b1,b2,b3,b4,b5,b6,b7,b8]⟩).toArray=Q61 p b1 b2 b3 b4 b5 b6 b7 b8:=rfl;rw[e1];obtain⟨ao,cap,hv⟩:=z0d hL.own;subst hv;have HL:=hid hL;have j4:=hid hx8;clear hL e1 hl hx8;go_enter Tryz.func81,Tryz.ntmps81
 go_wp2;go_loopw [8] (fun x8 wr=>∃(k:Nat),x8=.int .i64 k/\k<=xs.length/\(∀j (hj:j<k) (hx:j<xs.length),xs[j].ls≠[b1,b2,b3,b4,b5,b6,b7,b8])/\Q0a w wr/\wr.heap[w.heap.size]? = some (.cells (Q61 p b1 b2 b3 b4 b5 b6 b7 b8) 111 (0,0)))
   (fun x _=>100001-(intOf x).toNat)
 case atStart=>exact⟨0,rfl,by omega,fun j hj=>by omega,(mRf _ w).alloc _,z0a _ _⟩
 obtain⟨k,rfl,hk,hall,hfr,hb⟩:=hrel;have HA:=hid hall;have j3:=hid (Q15 (B:=100001) k (by omega));have HB:=hid hb;have c1:=Q0b hb;clear hall hb;by_cases hlt:k<xs.length
 ·obtain⟨g,cap',hv'⟩:=Joins.ownsRow_form HL.own (by omega);rw[qI]at hv';obtain⟨rfl,_,rfl⟩:=hv';have j2:=hid (HL.fresh hfr);have j0:=fun j hj=>j2.cell k j hlt hj;have hA:=j4.out xs[k] (by simp);obtain⟨a1,a2,a3,a4,a5,a6,a7,a8,hls⟩:=Q59 hA;have j1:=hid hls;have d1:wr.cell? ⟨g,k*9+1,none⟩=some (.int .u8 a1):=by rw[j0 1 (by omega)];simp[Wd.cells,hls]
  have d2:wr.cell? ⟨g,k*9+2,none⟩=some (.int .u8 a2):=by rw[j0 2 (by omega)];simp[Wd.cells,hls]
  have d3:wr.cell? ⟨g,k*9+3,none⟩=some (.int .u8 a3):=by rw[j0 3 (by omega)];simp[Wd.cells,hls]
  have d4:wr.cell? ⟨g,k*9+4,none⟩=some (.int .u8 a4):=by rw[j0 4 (by omega)];simp[Wd.cells,hls]
  have d5:wr.cell? ⟨g,k*9+5,none⟩=some (.int .u8 a5):=by rw[j0 5 (by omega)];simp[Wd.cells,hls]
  have d6:wr.cell? ⟨g,k*9+6,none⟩=some (.int .u8 a6):=by rw[j0 6 (by omega)];simp[Wd.cells,hls]
  have d7:wr.cell? ⟨g,k*9+7,none⟩=some (.int .u8 a7):=by rw[j0 7 (by omega)];simp[Wd.cells,hls]
  have d8:wr.cell? ⟨g,k*9+8,none⟩=some (.int .u8 a8):=by rw[j0 8 (by omega)];simp[Wd.cells,hls]
  obtain⟨qq,hqq,q8⟩:∃qq,qq=([a1,a2,a3,a4,a5,a6,a7,a8]==[b1,b2,b3,b4,b5,b6,b7,b8])/\∀w,(Op.equalIn 10000 109 (.agg #[.int .u8 a1,.int .u8 a2,.int .u8 a3,.int .u8 a4,.int .u8 a5,.int .u8 a6,.int .u8 a7,.int .u8 a8]) (.agg #[.int .u8 b1,.int .u8 b2,.int .u8 b3,.int .u8 b4,.int .u8 b5,.int .u8 b6,.int .u8 b7,.int .u8 b8])).run Tryz.prog w=.ok qq w:=⟨_,rfl,fun w=>arr8 9998 w a1 a2 a3 a4 a5 a6 a7 a8 b1 b2 b3 b4 b5 b6 b7 b8⟩;have HQ:=hid hqq;clear hqq;have g8:=guard8;clear j0 hA hls;go_wp2;go_quiet (fail);cases qq
  ·clear q8 g8;go_wp2;go_roundw
   case rel =>
    refine⟨k+1,by go_num,by omega,?_,Mod.of_heap hfr rfl rfl rfl rfl,HB.out⟩;intro j hj hx;by_cases e:j=k
    ·subst e;rw[j1.out];intro e2;have:=HQ.out;rw[e2]at this;simp at this
    exact HA.out j (by omega) hx
   exact j3.out
  clear q8 g8;go_wp2;go_ret;refine⟨z1h ?_,Mod.of_heap hfr rfl rfl rfl rfl⟩;have:Q1l xs [b1,b2,b3,b4,b5,b6,b7,b8]=k:=by
   unfold Q1l;rw[List.findIdx_eq hlt];refine⟨?_,?_⟩
   ·rw[j1.out];exact HQ.symm
   intro j hj;simpa using HA.out j hj (by omega)
  rw[this]
 have j5:k=xs.length:=by omega
 subst j5;go_wp2;go_ret;refine⟨z1h ?_,hfr⟩;have:Q1l xs [b1,b2,b3,b4,b5,b6,b7,b8]=xs.length:=by
  unfold Q1l;apply qCv;intro x hx;obtain⟨j,hj,rfl⟩:=qAv hx;simpa using HA.out j hj hj
 rw[this]
theorem infoWd:(Tryz.prog.info? 111).map (fun i=>(i.zero,i.size,i.bytes))=some (some (.agg (Wd.cells ⟨0,zero8⟩).toArray),9,16):=by kernel_rfl
theorem infoWd':∃i,Tryz.prog.info? 111=some i/\i.zero=some (.agg (Wd.cells ⟨0,zero8⟩).toArray)/\i.size=9/\i.bytes=16:=nfoE infoWd
abbrev Q5v(p a b c d e f g k:Int):List Value:=[.int .i64 p,.int .u8 a,.int .u8 b,.int .u8 c,.int .u8 d,.int .u8 e,.int .u8 f,.int .u8 g,.int .u8 k]
theorem Q6g{α:Type}{xs:List α}{i:Nat}(h:i<xs.length):xs.take (i+1)=xs.take i++[xs[i]]:=by rw[qCc,qE h];rfl
def Q0f(lns:List Ln):List Wd:=(lns.filter Q07).map Ln.front
theorem y9t(w:World)(v:Value)(xs:List LV)(hL:Q1s w v xs)(hn:xs.length<=1000)(hfb:∀x∈xs,FB x) :
  Calls Tryz.prog 46 #[v] w fun e w'=>∃v',e=.returned v'/\w'.ownsRow w.heap.size 111 9 v' (Q0f (xs.map LV.ln)).length (Q00 Wd.cells (Q0f (xs.map LV.ln)))/\Q0a w w':=by
 obtain⟨ao,cap,hv⟩:=z0d hL.own;subst hv;have HL:=hid hL;have j9:=hid hfb;obtain⟨i0,hi0,hz0,hz1,hz2⟩:=infoWd';clear hL hfb;go_enter Tryz.func46,Tryz.ntmps46
 go_wp2;go_loopw [3,4,7] (fun x3 _ x7 wr=>∃(i:Nat),x7=.int .i64 i/\i<=xs.length/\wr.ownsRow w.heap.size 111 9 x3 (Q0f ((xs.take i).map LV.ln)).length (Q00 Wd.cells (Q0f ((xs.take i).map LV.ln)))/\Q0a w wr)
   (fun _ _ x _=>1001-(intOf x).toNat)
 case atStart=>exact⟨0,rfl,by omega,World.ownsRow_nil _ _ _ _,mRf _ _⟩
 obtain⟨i,rfl,hi,hown,hfr⟩:=hrel;have j6:=hid (Q15 (B:=1001) i (by omega));have jh:(Q0f ((xs.take i).map LV.ln)).length<=1000:=by
  have:=qCw Q07 ((xs.take i).map LV.ln);simp only[Q0f,qAo,qBo]at *;omega
 have jd:Hid (∀hlt:i<xs.length,Q0f ((xs.take (i+1)).map LV.ln)=Q0f ((xs.take i).map LV.ln)++(if Q07 xs[i].ln then [xs[i].ln.front] else [])):=by
  intro hlt;rw[Q6g hlt,qBf,qCf];unfold Q0f;rw[qBu,qBf];cases h:Q07 xs[i].ln<;>simp only[qAj,h,qBb,qAp,qF,List.filter_nil,List.map_nil,qCl,qAt]
 have jc:Hid (i=xs.length->(xs.take i)=xs):=fun h=>by rw[h,qAr]
 generalize hy:Q0f ((xs.take i).map LV.ln)=ys at *;have HY:=hid hy;have HO:=hid hown;have j4:=hid hown.lt;obtain⟨ro,rc,hro⟩:=z0d hown;clear hown hy;subst hro;by_cases hlt:i<xs.length
 ·obtain⟨g,cap',hv'⟩:=Joins.ownsRow_form HL.own (by omega);rw[qI]at hv';obtain⟨rfl,_,rfl⟩:=hv';have j3:=hid (HL.fresh hfr);have j8:=j3.row.range i hlt;have hA:=j3.each xs[i] (by simp);have j7:=j9.out xs[i] (by simp);have j0:=hid (jd.out hlt);have j1:=fun w1 (hf:Q0a wr w1)=>(j3.fresh hf).frontRange i hlt;generalize hX:xs[i]=x at *;clear hX;have j5:=fun w=>z2p x w hA.front j7;have ji:Hid (Q07 x.ln=!Q14 x.ln.front):=rfl;rw[← ji.out]at j5;have jk:=hid hA.one;obtain⟨⟨⟨pp,ls⟩,sk,nsx,stx,enx,sy⟩,vn,vs⟩:=x;obtain⟨a1,a2,a3,a4,a5,a6,a7,a8,e8⟩:=Q59 hA.front;dsimp only at e8;subst e8;obtain⟨no,nc,hvn⟩:=z0d hA.nodes.own;obtain⟨so,sc,hvs⟩:=z0d hA.syms.own;dsimp only at hvn hvs;subst hvn;subst hvs;have RU:=hid j5;have RG:Hid (wr.rangeAt g (i*14) (Q7k pp a1 a2 a3 a4 a5 a6 a7 a8 sk (.slice no nsx.length nc) stx enx (.slice so sy.length sc))):=j8;have je:Hid (∀w1,Q0a wr w1->w1.rangeAt g (i*14) (Q5v pp a1 a2 a3 a4 a5 a6 a7 a8)):=j1;have j2:Hid (∀w,Calls Tryz.prog 48 #[.agg (lnArr pp a1 a2 a3 a4 a5 a6 a7 a8 sk (.slice no nsx.length nc) stx enx (.slice so sy.length sc))] w fun e w'=>e=.returned (.bool (Q07 ⟨⟨pp,[a1,a2,a3,a4,a5,a6,a7,a8]⟩,sk,nsx,stx,enx,sy⟩))/\Q0a w w'):=RU.out;clear j5 RU j8 j1 hA j7;cases hr:Q07 ⟨⟨pp,[a1,a2,a3,a4,a5,a6,a7,a8]⟩,sk,nsx,stx,enx,sy⟩
  ·rw[hr]at j2 j0;simp only[qF,qAp,qAt]at j0;go_wp2_with (first
    |(go_at_call 48;refine(j2.out _).mono ?_;rintro e w1⟨rfl,hf⟩)
    |(refine wpList_load_mid rfl 116 _ rfl g (i*14) rfl (Q7k pp a1 a2 a3 a4 a5 a6 a7 a8 sk (.slice no nsx.length nc) stx enx (.slice so sy.length sc)) _ RG.out Tryz.underlying116 rfl Q1j ?_))
   go_roundw
   case rel =>
    refine⟨i+1,by go_num,by omega,?_,hfr.trans hf⟩;rw[j0.out];exact z0c HO.out (fun g hg=>hf.block g (j4.out g hg).2 (fun x=>x))
   exact j6.out
  rw[hr]at j2 j0;simp only[qBb]at j0;go_wp2_with (first
   |(at_builtin;refine z0g _ rfl _ _ 107 rfl w.heap.size 111 i0 _ 9 16 Tryz.underlying107 hi0 hz0 hz1 hz2 rfl (by decide) _ _ _ rfl (ja.alloc _) ⟨w1.heap.size,0,none⟩ 1 1 (Q5v pp a1 a2 a3 a4 a5 a6 a7 a8) rfl rfl (z0l rfl) (by intro u hu;simp at hu;rcases hu with rfl|rfl|rfl|rfl|rfl|rfl|rfl|rfl|rfl<;>rfl) (by unfold maxLen;omega) (by omega) (by have:=hfr.size;simp;omega) ?_)
   |(refine wpList_load_mid rfl 111 _ rfl g (i*14) rfl (Q5v pp a1 a2 a3 a4 a5 a6 a7 a8) _ (je.out _ hf) Tryz.underlying111 rfl Q2o ?_)
   |(go_at_call 48;refine(j2.out _).mono ?_;rintro e w1⟨rfl,hf⟩;have hz:wr.heap.size<=w1.heap.size:=hf.size;have ja:=hid (z0c HO.out (fun g hg=>hf.block g (j4.out g hg).2 (fun x=>x))))
   |(refine wpList_load_mid rfl 116 _ rfl g (i*14) rfl (Q7k pp a1 a2 a3 a4 a5 a6 a7 a8 sk (.slice no nsx.length nc) stx enx (.slice so sy.length sc)) _ RG.out Tryz.underlying116 rfl Q1j ?_))
  intro v' w2 hown2 hgrow hblk;have jf:Q0a w w2:=Mod.grown (S:=fun _=>False) ((hfr.trans hf).alloc _) hgrow (fun k hk hlt=>by have:=(j4.out k hk).1;omega);have jb:=hid hown2;clear hown2 hgrow hblk;go_wp2;go_roundw
  case rel =>
   refine⟨i+1,by go_num,by omega,?_,jf⟩;rw[j0.out,z0y,qP,qAf];exact jb.out
  exact j6.out
 have jg:i=xs.length:=by omega
 have jj:=jc.out jg;go_wp2;go_ret;refine⟨_,rfl,?_,hfr⟩;rw[← jj,HY.out];exact HO.out
def Q11:List Ln->List Wd->List Wd
 | [],hs=>hs
 |x::l,hs=>if Q07 x then Q11 l hs else if Q1l hs x.front.ls<hs.length then Q11 l hs else Q11 l (hs++[x.front])
def Q0h(lns:List Ln):List Wd:=Q11 lns []
theorem y25(ds:List Wd)(ls:List Int):Q1l ds ls<=ds.length:=by unfold Q1l;exact List.findIdx_le_length
theorem x2q(w:World)(v:Value)(xs:List LV)(hL:Q1s w v xs)(hn:xs.length<=1000)(hfb:∀x∈xs,FB x) :
  Calls Tryz.prog 47 #[v] w fun e w'=>∃v',e=.returned v'/\w'.ownsRow w.heap.size 111 9 v' (Q0h (xs.map LV.ln)).length (Q00 Wd.cells (Q0h (xs.map LV.ln)))/\Q0a w w'/\(∀d∈Q0h (xs.map LV.ln),d.ls.length=8)/\(Q0h (xs.map LV.ln)).length<=xs.length:=by
 obtain⟨ao,cap,hv⟩:=z0d hL.own;subst hv;have HL:=hid hL;have jd:=hid hfb;obtain⟨i0,hi0,hz0,hz1,hz2⟩:=infoWd';generalize hRES:Q0h (xs.map LV.ln)=RES;have HR:=hid hRES;clear hL hfb hRES;go_enter Tryz.func47,Tryz.ntmps47
 go_wp2;go_loopw [3,4,5,8] (fun x3 _ _ x8 wr=>∃(i:Nat) (acc:List Wd),x8=.int .i64 i/\i<=xs.length/\acc.length<=i/\(∀d∈acc,d.ls.length=8)/\Q11 ((xs.drop i).map LV.ln) acc=RES/\wr.ownsRow w.heap.size 111 9 x3 acc.length (Q00 Wd.cells acc)/\Q0a w wr)
   (fun _ _ _ x _=>1001-(intOf x).toNat)
 case atStart=>exact⟨0,[],rfl,by omega,by simp,by simp,HR.out,World.ownsRow_nil _ _ _ _,mRf _ _⟩
 obtain⟨i,ys,rfl,hi,hlen,h8,hres,hown,hfr⟩:=hrel;have j6:=hid (Q15 (B:=1001) i (by omega));have HO:=hid hown;have j2:=hid hown.lt;have H8:=hid h8;obtain⟨ro,rc,hro⟩:=z0d hown;clear hown h8;subst hro;by_cases hlt:i<xs.length
 ·rw[qC hlt,qCl]at hres;unfold Q11 at hres;obtain⟨g,cap',hv'⟩:=Joins.ownsRow_form HL.own (by omega);rw[qI]at hv';obtain⟨rfl,_,rfl⟩:=hv';have j5:=hid (HL.fresh hfr);have ja:=j5.row.range i hlt;have hA:=j5.each xs[i] (by simp);have j9:=jd.out xs[i] (by simp);have j1:=fun w1 (hf:Q0a wr w1)=>(j5.fresh hf).frontRange i hlt;generalize hX:xs[i]=x at hres ja hA j9 j1;clear hX;have j8:=fun w=>z2p x w hA.front j9;have ji:Hid (Q07 x.ln=!Q14 x.ln.front):=rfl;rw[← ji.out]at j8;have jb:=fun(w:World) (v:Value) (h:Q3u w v ys)=>z4w w v ys x.ln.front h H8.out (by omega) hA.front;have jl:=hid hA.one;obtain⟨⟨⟨pp,ls⟩,sk,nsx,stx,enx,sy⟩,vn,vs⟩:=x;obtain⟨a1,a2,a3,a4,a5,a6,a7,a8,e8⟩:=Q59 hA.front;dsimp only at e8;subst e8;obtain⟨no,nc,hvn⟩:=z0d hA.nodes.own;obtain⟨so,sc,hvs⟩:=z0d hA.syms.own;dsimp only at hvn hvs;subst hvn;subst hvs;have RU:=hid j8;have RG:Hid (wr.rangeAt g (i*14) (Q7k pp a1 a2 a3 a4 a5 a6 a7 a8 sk (.slice no nsx.length nc) stx enx (.slice so sy.length sc))):=ja;have j7:Hid (∀w1,Q0a wr w1->w1.rangeAt g (i*14) (Q5v pp a1 a2 a3 a4 a5 a6 a7 a8)):=j1;have j3:Hid (∀w,Calls Tryz.prog 48 #[.agg (lnArr pp a1 a2 a3 a4 a5 a6 a7 a8 sk (.slice no nsx.length nc) stx enx (.slice so sy.length sc))] w fun e w'=>e=.returned (.bool (Q07 ⟨⟨pp,[a1,a2,a3,a4,a5,a6,a7,a8]⟩,sk,nsx,stx,enx,sy⟩))/\Q0a w w'):=RU.out;have FW:Hid (∀(w:World) (v:Value),Q3u w v ys->Calls Tryz.prog 81 #[v,.agg (Q61 pp a1 a2 a3 a4 a5 a6 a7 a8)] w fun e w'=>e=.returned (.int .i64 (Q1l ys [a1,a2,a3,a4,a5,a6,a7,a8]))/\Q0a w w'):=jb;clear j8 RU ja j1 hA j9 jb;dsimp only at hres;cases hr:Q07 ⟨⟨pp,[a1,a2,a3,a4,a5,a6,a7,a8]⟩,sk,nsx,stx,enx,sy⟩
  ·rw[hr]at j3 hres;simp only[qF,qAp]at hres;have jk:=y25 ys [a1,a2,a3,a4,a5,a6,a7,a8];generalize Q1l ys [a1,a2,a3,a4,a5,a6,a7,a8]=wf at hres FW jk;have jc:Hid (∀w1,Q0a wr w1->Q3u w1 (.slice ro ys.length rc) ys):=fun w1 hf=>⟨z0f (z0c HO.out (fun g hg=>hf.block g (j2.out g hg).2 (fun x=>x))) (qBg _),fun x hx=>Wd.cells_len (H8.out x hx)⟩;by_cases hwf:wf<ys.length
   ·rw[qAb hwf]at hres;have j0:=hid hres;have jm:((wf:Int)==(ys.length:Int))=false:=by simp;omega
    clear hres;go_wp2_with (first
     |(go_at_call 81;refine(FW.out _ _ (jc.out _ hf)).mono ?_;rintro e w2⟨rfl,hf2⟩)
     |(refine wpList_load_mid rfl 111 _ rfl g (i*14) rfl (Q5v pp a1 a2 a3 a4 a5 a6 a7 a8) _ (j7.out _ hf) Tryz.underlying111 rfl Q2o ?_)
     |(go_at_call 48;refine(j3.out _).mono ?_;rintro e w1⟨rfl,hf⟩)
     |(refine wpList_load_mid rfl 116 _ rfl g (i*14) rfl (Q7k pp a1 a2 a3 a4 a5 a6 a7 a8 sk (.slice no nsx.length nc) stx enx (.slice so sy.length sc)) _ RG.out Tryz.underlying116 rfl Q1j ?_))
    go_roundw
    case rel =>
     refine⟨i+1,ys,by go_num,by omega,by omega,H8.out,j0.out,?_,(hfr.trans hf).trans hf2⟩;exact z0c HO.out (fun g hg=>(hf.trans hf2).block g (j2.out g hg).2 (fun x=>x))
    exact j6.out
   rw[qAa hwf]at hres;have j0:=hid hres;have jj:wf=ys.length:=by omega
   subst jj;clear hres;go_wp2_with (first
    |(at_builtin;refine z0g _ rfl _ _ 107 rfl w.heap.size 111 i0 _ 9 16 Tryz.underlying107 hi0 hz0 hz1 hz2 rfl (by decide) _ _ _ rfl (je.alloc _) ⟨w2.heap.size,0,none⟩ 1 1 (Q5v pp a1 a2 a3 a4 a5 a6 a7 a8) rfl rfl (z0l rfl) (by intro u hu;simp at hu;rcases hu with rfl|rfl|rfl|rfl|rfl|rfl|rfl|rfl|rfl<;>rfl) (by unfold maxLen;omega) (by omega) (by have:=hfr.size;have:=hf.size;have:=hf2.size;simp;omega) ?_)
    |(refine wpList_load_mid rfl 111 _ rfl g (i*14) rfl (Q5v pp a1 a2 a3 a4 a5 a6 a7 a8) _ (j7.out _ (hf.trans hf2)) Tryz.underlying111 rfl Q2o ?_)
    |(go_at_call 81;refine(FW.out _ _ (jc.out _ hf)).mono ?_;rintro e w2⟨rfl,hf2⟩;have je:=hid (z0c HO.out (fun g hg=>(hf.trans hf2).block g (j2.out g hg).2 (fun x=>x))))
    |(refine wpList_load_mid rfl 111 _ rfl g (i*14) rfl (Q5v pp a1 a2 a3 a4 a5 a6 a7 a8) _ (j7.out _ hf) Tryz.underlying111 rfl Q2o ?_)
    |(go_at_call 48;refine(j3.out _).mono ?_;rintro e w1⟨rfl,hf⟩)
    |(refine wpList_load_mid rfl 116 _ rfl g (i*14) rfl (Q7k pp a1 a2 a3 a4 a5 a6 a7 a8 sk (.slice no nsx.length nc) stx enx (.slice so sy.length sc)) _ RG.out Tryz.underlying116 rfl Q1j ?_))
   intro v' w3 hown2 hgrow hblk;have jg:Q0a w w3:=Mod.grown (S:=fun _=>False) (((hfr.trans hf).trans hf2).alloc _) hgrow (fun k hk hlt=>by have:=(j2.out k hk).1;omega);have jf:=hid hown2;clear hown2 hgrow hblk;go_wp2;go_roundw
   case rel =>
    refine⟨i+1,ys++[⟨pp,[a1,a2,a3,a4,a5,a6,a7,a8]⟩],by go_num,by omega,by simp;omega,?_,j0.out,?_,jg⟩
    ·intro d hd;simp only[qU,qM]at hd;rcases hd with hd|rfl
     ·exact H8.out d hd
     rfl
    rw[z0y,qP,qAf];exact jf.out
   exact j6.out
  rw[hr]at j3 hres;simp only[qBb]at hres;have j0:=hid hres;clear hres;go_wp2_with (first
   |(go_at_call 48;refine(j3.out _).mono ?_;rintro e w1⟨rfl,hf⟩)
   |(refine wpList_load_mid rfl 116 _ rfl g (i*14) rfl (Q7k pp a1 a2 a3 a4 a5 a6 a7 a8 sk (.slice no nsx.length nc) stx enx (.slice so sy.length sc)) _ RG.out Tryz.underlying116 rfl Q1j ?_))
  go_roundw
  case rel =>
   refine⟨i+1,ys,by go_num,by omega,by omega,H8.out,j0.out,?_,hfr.trans hf⟩;exact z0c HO.out (fun g hg=>hf.block g (j2.out g hg).2 (fun x=>x))
  exact j6.out
 have jh:i=xs.length:=by omega
 rw[jh,qBw]at hres;have j4:ys=RES:=hres;subst j4;clear hres;go_wp2;go_ret;exact⟨_,rfl,HO.out,hfr,H8.out,by omega⟩
def Q9f(names heads:List Wd)(d:Wd):Sy:=⟨Q14 d,if Q14 d then(Q1l heads d.ls:Int) else(Q1l names d.ls:Int)⟩
def Q7x(names heads:List Wd)(x:Ln):Pr:=⟨(Q1l heads x.front.ls:Int),x.syms.map (Q9f names heads)⟩
theorem infoSy:(Tryz.prog.info? 69).map (fun i=>(i.zero,i.size,i.bytes))=some (some (.agg #[.bool false,.int .i64 0]),2,16):=by kernel_rfl
theorem infoSy':∃i,Tryz.prog.info? 69=some i/\i.zero=some (.agg #[.bool false,.int .i64 0])/\i.size=2/\i.bytes=16:=nfoE infoSy
theorem szSy2:(Tryz.prog.info? 69).map (·.size)=some 2:=by kernel_rfl
theorem szPr2:(Tryz.prog.info? 118).map (·.size)=some 2:=by kernel_rfl
theorem y2e(w:World)(x:LV)(vn vh:Value)(names heads:List Wd)(hA:x.At w)(hfb:∀d∈x.ln.syms,0<=d.ls.getD 0 0/\d.ls.getD 0 0<=255)(hsl:x.ln.syms.length<=1000)
  (hN:Q3u w vn names) (hN8:∀d∈names,d.ls.length=8) (hNl:names.length<=1000) (hH:Q3u w vh heads) (hH8:∀d∈heads,d.ls.length=8) (hHl:heads.length<=1000) :
  Calls Tryz.prog 49 #[.agg x.cells.toArray,vn,vh] w fun e w'=>∃v',e=.returned (.agg #[.int .i64 (Q7x names heads x.ln).head,v'])/\Q0a w w'/\w'.ownsRow w.heap.size 69 2 v' (Q7x names heads x.ln).syms.length (Q00 Sy.cells (Q7x names heads x.ln).syms):=by
 obtain⟨i0,hi0,iz0,iz1,iz2⟩:=infoSy';have FN:=hid (fun(w:World) (h:Q3u w vn names) (d:Wd) (hd:d.ls.length=8)=>z4w w vn names d h hN8 (by omega) hd);have FH:=hid (fun(w:World) (h:Q3u w vh heads) (d:Wd) (hd:d.ls.length=8)=>z4w w vh heads d h hH8 (by omega) hd);have HN:=hid hN;have HH:=hid hH;have jn:=hid hfb;have js:∀d∈x.ln.syms,d.ls.length=8:=fun d hd=>by
  have:=hA.syms.wf d hd;simpa [Wd.cells]using this
 have jq:=hid js;have j8:=hid hA.syms;have jb:=hid hA.front;have RG:Hid (∀o:Obj,((w.alloc (.cells x.cells.toArray 116 (0,0))).alloc o).rangeAt w.heap.size 0 x.ln.front.cells):=by
  intro o j v hj;rw[Q0b (heap_alloc2_old _ _ _)];simp only[LV.cells,qBi,qCb];rw[qAe (qS hj).1];exact hj
 obtain⟨so,sc,hvs⟩:=z0d hA.syms.own;have j5:x.cells.toArray[13]? = some (.slice so x.ln.syms.length sc):=by rw[LV.at13 hA.front,hvs]
 rw[hvs]at j8;generalize x.cells.toArray=xa at j5 RG;have ju:(Q7x names heads x.ln).head=(Q1l heads x.ln.front.ls:Int):=rfl;have jv:(Q7x names heads x.ln).syms=x.ln.syms.map (Q9f names heads):=rfl;rw[ju,jv,qAo];generalize hfw:Q1l heads x.ln.front.ls=hw;have jo:=hid hfw;generalize x.ln.front=fr at jb RG jo;generalize x.ln.syms=sy at jn jq j8 hsl j5;have jc:=hid j5;clear hA hfb hN hN8 hH hH8 js hvs ju jv hfw j5;go_enter Tryz.func49,Tryz.ntmps49
 go_wp2_with (first
  |(go_at_call 81;refine(FH.out _ (HH.fresh (((mRf _ w).alloc _).alloc _)) fr jb.out).mono ?_;rw[jo.out];rintro e w1⟨rfl,hf1⟩;have jr:=hid (hf1.at (heap_alloc2_old _ _ _) (fun x=>x));have k0:=hid (hf1.at (heap_alloc2_new _ _ _) (fun x=>x));have j5:=Q0b jr.out 13;rw[jc.out]at j5;have jw:=hf1.size)
  |(refine wpList_load_mid rfl 111 _ rfl w.heap.size 0 rfl fr.cells _ (RG.out _) Tryz.underlying111 rfl (by rw[Wd.cells_len jb.out];exact Q2o) ?_))
 have jx:Hid (Q0a w w1):=Mod.trans (((mRf _ w).alloc _).alloc _) hf1;have k6:w.heap.size+2<=w1.heap.size:=by simp at jw;omega
 clear jr j5 jw;go_loopw [8,10,11,19] (fun x8 _ _ x19 wr=>∃(i:Nat),x19=.int .i64 i/\i<=sy.length/\wr.ownsRow (w.heap.size+2) 69 2 x8 ((sy.take i).map (Q9f names heads)).length (Q00 Sy.cells ((sy.take i).map (Q9f names heads)))/\Q0a w wr/\wr.heap[w.heap.size+1]? = some (.cells #[.int .i64 0,.slice none 0 0] 118 (0,0))/\w.heap.size+2<=wr.heap.size)
   (fun _ _ _ x _=>1001-(intOf x).toNat)
 case atStart=>exact⟨0,rfl,by omega,World.ownsRow_nil _ _ _ _,jx.out,k0.out,k6⟩
 obtain⟨i,rfl,hi,hown,hfr,hb1,hzr⟩:=hrel;have jp:=hid (Q15 (B:=1001) i (by omega));have j7:=hid hb1;have k2:((sy.take i).map (Q9f names heads)).length<=1000:=by simp;omega
 have jz:Hid (∀hlt:i<sy.length,(sy.take (i+1)).map (Q9f names heads)=(sy.take i).map (Q9f names heads)++[Q9f names heads sy[i]]):=by
  intro hlt;rw[Q6g hlt,qBf,qCf]
 have jy:Hid (i=sy.length->(sy.take i)=sy):=fun h=>by rw[h,qAr]
 generalize hy:(sy.take i).map (Q9f names heads)=ys at *;have HY:=hid hy;have HO:=hid hown;have j3:=hid hown.lt;obtain⟨ro,rc,hro⟩:=z0d hown;clear hown hy hb1;subst hro;by_cases hlt:i<sy.length
 ·have k7:(i:Int)<(sy.length:Int):=by omega
  obtain⟨gs,sc',hv'⟩:=Joins.ownsRow_form j8.own (by omega);rw[qI]at hv';obtain⟨rfl,_,rfl⟩:=hv';have jj:=(j8.fresh hfr).range i hlt;have j2:=jz.out hlt;have j6:=jq.out sy[i] (by simp);have jt:=jn.out sy[i] (by simp);have jf:=fun w=>z5g sy[i] w j6 jt;have ja:=fun w h=>FN.out w h sy[i] j6;have j9:=fun w h=>FH.out w h sy[i] j6;rw[show Q9f names heads sy[i]=(⟨Q14 sy[i],if Q14 sy[i] then(Q1l heads sy[i].ls:Int) else(Q1l names sy[i].ls:Int)⟩:Sy) from rfl]at j2;generalize hX:sy[i]=d at jj j2 jf ja j9 j6;clear hX jt;obtain⟨pp,ls⟩:=d;obtain⟨a1,a2,a3,a4,a5,a6,a7,a8,e8⟩:=Q59 j6;dsimp only at e8;subst e8;have RS:Hid (wr.rangeAt gs (i*9) (Q5v pp a1 a2 a3 a4 a5 a6 a7 a8)):=jj;have IH:Hid (∀w,Calls Tryz.prog 82 #[.agg (Q61 pp a1 a2 a3 a4 a5 a6 a7 a8)] w fun e w'=>e=.returned (.bool (Q14 ⟨pp,[a1,a2,a3,a4,a5,a6,a7,a8]⟩))/\Q0a w w'):=jf;have jm:Hid (∀(w:World),Q3u w vn names->Calls Tryz.prog 81 #[vn,.agg (Q61 pp a1 a2 a3 a4 a5 a6 a7 a8)] w fun e w'=>e=.returned (.int .i64 (Q1l names [a1,a2,a3,a4,a5,a6,a7,a8]))/\Q0a w w'):=ja;have jl:Hid (∀(w:World),Q3u w vh heads->Calls Tryz.prog 81 #[vh,.agg (Q61 pp a1 a2 a3 a4 a5 a6 a7 a8)] w fun e w'=>e=.returned (.int .i64 (Q1l heads [a1,a2,a3,a4,a5,a6,a7,a8]))/\Q0a w w'):=j9;dsimp only at j2;generalize Q14 ⟨pp,[a1,a2,a3,a4,a5,a6,a7,a8]⟩=hb at j2 IH;generalize Q1l names [a1,a2,a3,a4,a5,a6,a7,a8]=wn at j2 jm;generalize Q1l heads [a1,a2,a3,a4,a5,a6,a7,a8]=wh at j2 jl;have j1:=hid j2;clear jj j2 jf ja j9 j6;cases hb
  ·simp only[qF,qAp]at j1;go_wp2_with (first
    |(at_builtin;refine z0g _ rfl _ _ 71 rfl (w.heap.size+2) 69 i0 _ 2 16 Tryz.underlying71 hi0 iz0 iz1 iz2 rfl (by decide) _ _ _ rfl (jd.alloc _) ⟨w3.heap.size,0,none⟩ 1 1 [.bool false,.int .i64 wn] rfl rfl (by have q:=@z0l (w3.setCell ⟨w2.heap.size,1,none⟩ (.int .i64 wn)) #[.bool false,.int .i64 wn] [.bool false,.int .i64 wn] 69 rfl;rw[Proofs.YtcpceafmlgaodaaGreat.heap_setCell_size]at q;exact q) (by intro u hu;simp at hu;rcases hu with rfl|rfl<;>rfl) (by unfold maxLen;omega) (by omega) (by simp;omega) ?_)
    |(refine wpList_load_row rfl 69 _ rfl w2.heap.size rfl _ _ _ _ jh.out Tryz.underlying69 rfl szSy2 ?_)
    |(go_at_call 81;refine(jm.out _ (HN.fresh ((hfr.trans (Mod.trans ((mRf _ wr).alloc _) hf2)).alloc _))).mono ?_;rintro e w3⟨rfl,hf3⟩;have k5:w2.heap.size<w3.heap.size:=(by have:=hf3.size;simp at this;omega);have j4:=hid (hf3.at (z0a w2 _) (fun x=>x));have c2:=Q0b j4.out 1;have f2:=Q0g j4.out 1;have jh:Hid ((w3.setCell ⟨w2.heap.size,1,none⟩ (.int .i64 wn)).heap[w2.heap.size]? = some (.cells #[.bool false,.int .i64 wn] 69 (0,0))):=(by unfold Hid;rw[zhs j4.out];rfl);have j0:Hid (Q0a wr (w3.setCell ⟨w2.heap.size,1,none⟩ (.int .i64 wn))):=(Mod.trans ((Mod.trans ((mRf _ wr).alloc _) hf2).alloc _) hf3).setCell (by intro q;dsimp only at q;omega) _;have jd:=hid (z0c HO.out (fun g hg=>j0.block g (j3.out g hg).2 (fun x=>x))))
    |(refine wpList_load_row rfl 111 _ rfl wr.heap.size rfl _ _ _ _ (z0b (hf2.at (z0a _ _) (fun x=>x))) Tryz.underlying111 rfl Q2o ?_)
    |(go_at_call 82;refine(IH.out _).mono ?_;rintro e w2⟨rfl,hf2⟩;have k4:wr.heap.size<w2.heap.size:=(by have:=hf2.size;simp at this;omega))
    |(refine wpList_load_row rfl 111 _ rfl wr.heap.size rfl _ _ _ _ (z0a _ _) Tryz.underlying111 rfl Q2o ?_)
    |(refine wpList_load_mid rfl 111 _ rfl gs (i*9) rfl (Q5v pp a1 a2 a3 a4 a5 a6 a7 a8) _ RS.out Tryz.underlying111 rfl Q2o ?_))
   intro v' w4 hown2 hgrow hblk;have jg:Q0a w w4:=Mod.grown (S:=fun _=>False) ((hfr.trans j0.out).alloc _) hgrow (fun k hk hlt=>by have:=(j3.out k hk).1;omega);have ji:Hid (w4.heap[w.heap.size+1]? = some (.cells #[.int .i64 0,.slice none 0 0] 118 (0,0))):=by
    unfold Hid;rw[hgrow.block (w.heap.size+1) (by have:=j0.size;simp;simp at this;omega) (fun e=>by have:=(j3.out _ e.symm).1;omega)];exact z0b (j0.at j7.out (fun x=>x))
   have jk:w.heap.size+2<=w4.heap.size:=by have h1:=hgrow.size;have h2:=j0.size;simp at h1 h2;omega
   have je:=hid hown2;clear hown2 hgrow hblk;go_wp2;go_roundw
   case rel =>
    refine⟨i+1,by go_num,by omega,?_,jg,ji.out,jk⟩;rw[j1.out,z0y,qP,qAf];exact je.out
   exact jp.out
  simp only[qBb]at j1;go_wp2_with (first
   |(at_builtin;refine z0g _ rfl _ _ 71 rfl (w.heap.size+2) 69 i0 _ 2 16 Tryz.underlying71 hi0 iz0 iz1 iz2 rfl (by decide) _ _ _ rfl (jd.alloc _) ⟨w3.heap.size,0,none⟩ 1 1 [.bool true,.int .i64 wh] rfl rfl (by have q:=@z0l (w3.setCell ⟨w2.heap.size,1,none⟩ (.int .i64 wh)) #[.bool true,.int .i64 wh] [.bool true,.int .i64 wh] 69 rfl;rw[Proofs.YtcpceafmlgaodaaGreat.heap_setCell_size]at q;exact q) (by intro u hu;simp at hu;rcases hu with rfl|rfl<;>rfl) (by unfold maxLen;omega) (by omega) (by simp;omega) ?_)
   |(refine wpList_load_row rfl 69 _ rfl w2.heap.size rfl _ _ _ _ jh.out Tryz.underlying69 rfl szSy2 ?_)
   |(go_at_call 81;refine(jl.out _ (HH.fresh ((hfr.trans (Mod.trans ((mRf _ wr).alloc _) hf2)).alloc _))).mono ?_;rintro e w3⟨rfl,hf3⟩;have k5:w2.heap.size<w3.heap.size:=(by have:=hf3.size;simp at this;omega);have j4:=hid (hf3.at (z0a w2 _) (fun x=>x));have c2:=Q0b j4.out 1;have f2:=Q0g j4.out 1;have jh:Hid ((w3.setCell ⟨w2.heap.size,1,none⟩ (.int .i64 wh)).heap[w2.heap.size]? = some (.cells #[.bool true,.int .i64 wh] 69 (0,0))):=(by unfold Hid;rw[zhs j4.out];rfl);have j0:Hid (Q0a wr (w3.setCell ⟨w2.heap.size,1,none⟩ (.int .i64 wh))):=(Mod.trans ((Mod.trans ((mRf _ wr).alloc _) hf2).alloc _) hf3).setCell (by intro q;dsimp only at q;omega) _;have jd:=hid (z0c HO.out (fun g hg=>j0.block g (j3.out g hg).2 (fun x=>x))))
   |(refine wpList_load_row rfl 111 _ rfl wr.heap.size rfl _ _ _ _ (z0b (hf2.at (z0a _ _) (fun x=>x))) Tryz.underlying111 rfl Q2o ?_)
   |(go_at_call 82;refine(IH.out _).mono ?_;rintro e w2⟨rfl,hf2⟩;have k4:wr.heap.size<w2.heap.size:=(by have:=hf2.size;simp at this;omega))
   |(refine wpList_load_row rfl 111 _ rfl wr.heap.size rfl _ _ _ _ (z0a _ _) Tryz.underlying111 rfl Q2o ?_)
   |(refine wpList_load_mid rfl 111 _ rfl gs (i*9) rfl (Q5v pp a1 a2 a3 a4 a5 a6 a7 a8) _ RS.out Tryz.underlying111 rfl Q2o ?_))
  intro v' w4 hown2 hgrow hblk;have jg:Q0a w w4:=Mod.grown (S:=fun _=>False) ((hfr.trans j0.out).alloc _) hgrow (fun k hk hlt=>by have:=(j3.out k hk).1;omega);have ji:Hid (w4.heap[w.heap.size+1]? = some (.cells #[.int .i64 0,.slice none 0 0] 118 (0,0))):=by
   unfold Hid;rw[hgrow.block (w.heap.size+1) (by have:=j0.size;simp;simp at this;omega) (fun e=>by have:=(j3.out _ e.symm).1;omega)];exact z0b (j0.at j7.out (fun x=>x))
  have jk:w.heap.size+2<=w4.heap.size:=by have h1:=hgrow.size;have h2:=j0.size;simp at h1 h2;omega
  have je:=hid hown2;clear hown2 hgrow hblk;go_wp2;go_roundw
  case rel =>
   refine⟨i+1,by go_num,by omega,?_,jg,ji.out,jk⟩;rw[j1.out,z0y,qP,qAf];exact je.out
  exact jp.out
 have k1:i=sy.length:=by omega
 have k3:=jy.out k1;have k8:¬(i:Int)<(sy.length:Int):=by omega
 go_wp2_with (first
  |(refine wpList_store_row rfl 118 _ _ rfl (w.heap.size+1) #[.int .i64 hw,.slice ro ys.length rc] rfl rfl _ _ j7.out szPr2 rfl (all_oneCell_toArray (cs:=[.int .i64 hw,.slice ro ys.length rc]) (by intro v hv;simp at hv;rcases hv with rfl|rfl<;>rfl)) ?_))
 refine bodyPost_ret (results_cell_row rfl _ _ (w.heap.size+1) 118 #[.int .i64 hw,.slice ro ys.length rc] (0,0) _ rfl (setRow_heap _ _ _ _ _ _ j7.out) Tryz.underlying118 rfl szPr2) rfl ⟨_,rfl,hfr.setRow (by simp) _,?_⟩;rw[k3]at HY;have e1:(List.map (Q9f names heads) sy)=ys:=HY.out;have e2:sy.length=ys.length:=by rw[← e1];simp
 rw[e1,e2];exact z0f (z0c HO.out (fun g hg=>setRow_other _ _ _ _ (by have:=(j3.out g hg).1;omega))) (by omega)
def Q04(lns:List Ln):List Ln:=lns.filter fun x=>!Q07 x
def Q0q(lns:List Ln):List Pr:=(Q04 lns).map (Q7x (Q0f lns) (Q0h lns))
theorem infoPr:(Tryz.prog.info? 118).map (fun i=>(i.zero,i.size,i.bytes))=some (some (.agg #[.int .i64 0,.slice none 0 0]),2,32):=by kernel_rfl
theorem infoPr':∃i,Tryz.prog.info? 118=some i/\i.zero=some (.agg #[.int .i64 0,.slice none 0 0])/\i.size=2/\i.bytes=32:=nfoE infoPr
theorem Q9g:(Tryz.prog.info? 41).map (·.size)=some 3:=by kernel_rfl
abbrev SyOwn(w:World)(base:Nat)(v:Value)(l:List Sy):Prop:=w.ownsRow base 69 2 v l.length (Q00 Sy.cells l)
theorem SyOwn.at'{w:World}{base:Nat}{v:Value}{l:List Sy}(h:SyOwn w base v l):Q5z w w.heap.size v l:=by
 obtain⟨ao,cap,hv⟩:=z0d h;have hr:Q2e Sy.cells 2 69 w v l:=⟨z0f h (qBg _),fun x _=>rfl⟩;have j0:=h.lt;rcases h.2 with⟨h1,h2⟩|⟨g,cap',cur,h1,h2,h3,h4,h5,_⟩
 ·subst h1;have:l=[]:=qBs h2;subst this;exact⟨none,0,rfl,by simp,by unfold maxLen;omega,fun i hi=>by simp at hi⟩
 subst h1;refine⟨some ⟨g,0,none⟩,cap',rfl,h4,h5,fun i hi=>⟨g,0,rfl,(j0 g rfl).2,?_⟩⟩;rw[qBi];exact hr.range i hi
structure PRel(w wr:World)(B:Nat)(v:Value)(pvs:List PV):Prop where
 base:w.heap.size+1<=B
 own:wr.ownsRow B 118 2 v pvs.length (Q00 PV.cells pvs)
 each:∀p∈pvs,SyOwn wr 0 p.vs p.pr.syms
 dis:∀p∈pvs,∀k,v.ownBlock=some k->p.vs.ownBlock≠some k
 fresh:Q0a w wr
 blk:wr.heap[w.heap.size]? = some (.cells #[.int .i64 0,.int .i64 0,.slice none 0 0] 41 (0,0))
theorem PRel.fresh'{w wr w1:World}{B:Nat}{v:Value}{pvs:List PV}(h:PRel w wr B v pvs)(hf:Q0a wr w1):PRel w w1 B v pvs :=
 ⟨h.base,z0c h.own (fun g hg=>hf.block g (h.own.lt g hg).2 (fun x=>x)),fun p hp=>z0c (h.each p hp) (fun g hg=>hf.block g ((h.each p hp).lt g hg).2 (fun x=>x)),h.dis,h.fresh.trans hf,hf.at h.blk (fun x=>x)⟩
theorem PRel.next{w wr W w2:World}{B:Nat}{v v':Value}{pvs:List PV}{p:PV}(h:PRel w wr B v pvs)(hf:Q0a wr W)(hp:SyOwn W wr.heap.size p.vs p.pr.syms)
  (hown:w2.ownsRow B 118 2 v' (pvs.length+1) (Q00 PV.cells pvs++p.cells)) (hg:W.grownBy w2 v.ownBlock)
  (hblk:∀k,v'.ownBlock=some k->v.ownBlock=some k∨W.heap.size<=k):PRel w w2 B v' (pvs++[p]):=by
 have hW:=h.fresh' hf;have j1:∀k,v.ownBlock=some k->k<wr.heap.size:=fun k hk=>(h.own.lt k hk).2;have j0:∀k,v.ownBlock=some k->w.heap.size+1<=k:=fun k hk=>qCd h.base (h.own.lt k hk).1;have j2:∀k,v.ownBlock=some k->p.vs.ownBlock≠some k:=fun k hk e=>by
  have h1:=(hp.lt k e).1;have h2:=j1 k hk;omega
 refine⟨h.base,?_,?_,?_,?_,?_⟩
 ·rw[z0y,qP,qAf];exact hown
 ·intro q hq;simp only[qU,qM]at hq;rcases hq with hq|rfl
  ·exact z0c (hW.each q hq) (fun g hgq=>hg.block g ((hW.each q hq).lt g hgq).2 (fun e=>h.dis q hq g e.symm hgq))
  exact z0f (z0c hp (fun g hgq=>hg.block g (hp.lt g hgq).2 (fun e=>j2 g e.symm hgq))) (qBg _)
 ·intro q hq k hk e;simp only[qU,qM]at hq;rcases hblk k hk with h1|h1
  ·rcases hq with hq|rfl
   ·exact h.dis q hq k h1 e
   exact j2 k h1 e
  rcases hq with hq|rfl
  ·have:=((hW.each q hq).lt k e).2;omega
  have:=(hp.lt k e).2;omega
 ·exact Mod.grown (S:=fun _=>False) hW.fresh hg (fun k hk hlt=>by have:=j0 k hk;omega)
 rw[hg.block _ (z0j hW.blk) (fun e=>by have:=j0 _ e.symm;omega)];exact hW.blk
theorem PRel.prs{w wr:World}{B:Nat}{v:Value}{pvs:List PV}(h:PRel w wr B v pvs)(cs:Array Value):Q3c (wr.setRow w.heap.size cs) (wr.setRow w.heap.size cs).heap.size v pvs:=by
 have j1:(wr.setRow w.heap.size cs).heap.size=wr.heap.size:=by simp
 have j0:∀p∈pvs,∀g,p.vs.ownBlock=some g->g≠w.heap.size:=fun p hp g hg e=>by
  rcases(h.each p hp).2 with⟨h1,_⟩|⟨g',cap,cur,h1,_,h3,_⟩
  ·rw[h1]at hg;cases hg
  rw[h1]at hg;simp[Value.ownBlock]at hg;subst hg;subst e;rw[h.blk]at h3;simp at h3
 refine⟨⟨z0f (z0c h.own (fun g hg=>setRow_other _ _ _ _ (by have:=(h.own.lt g hg).1;have:=h.base;omega))) (qBg _),fun x _=>rfl⟩,fun g hg=>?_,fun p hp=>?_⟩
 ·rw[j1];exact(h.own.lt g hg).2
 exact SyOwn.at' (base:=0) (z0c (h.each p hp) (fun g hg=>setRow_other _ _ _ _ (j0 p hp g hg)))
def TabRet(lns:List Ln)(w:World)(e:Ending)(w':World):Prop :=
 ∃vp pvs,e=.returned (.agg #[.int .i64 (Q0f lns).length,.int .i64 (Q0h lns).length,vp])/\Q0a w w'/\pvs.map PV.pr=Q0q lns/\Q3c w' w'.heap.size vp pvs
end Go.Proofs.YtcpceafmlgaodaaGreat
