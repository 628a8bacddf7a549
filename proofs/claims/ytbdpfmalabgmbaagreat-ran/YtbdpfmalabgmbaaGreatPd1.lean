import Derived.Test.YtbdpfmalabgmbaaGreatCk7
import Derived.Test.YtbdpfmalabgmbaaGreatSe3
namespace Go.Proofs.YtbdpfmalabgmbaaGreat
open Go.RowKit
set_option maxRecDepth 99999
set_option maxHeartbeats 0
set_option linter.all false
def Q1m(ds:List Wd)(ls:List Int):Nat:=ds.findIdx (fun x=>x.ls==ls)
theorem z4y(w:World)(v:Value)(xs:List Wd)(dd:Wd)(hL:Q30 w v xs)(hx8:∀x∈xs,x.ls.length=8)(hn:xs.length<=100000)(hl:dd.ls.length=8) :
  Calls Tryz.prog 59 #[v,.agg dd.cells.toArray] w fun e w'=>e=.returned (.int .i64 (Q1m xs dd.ls))/\Q0a w w':=by
 obtain⟨p,ls⟩:=dd;obtain⟨b1,b2,b3,b4,b5,b6,b7,b8,rfl⟩:=Q59 hl;have e1:(Wd.cells ⟨p,[b1,b2,b3,b4,b5,b6,b7,b8]⟩).toArray=Q7e p b1 b2 b3 b4 b5 b6 b7 b8:=rfl;rw[e1];obtain⟨ao,cap,hv⟩:=z0c hL.own;subst hv;have HL:=hid hL;have ja:=hid hx8;clear hL e1 hl hx8;go_enter Tryz.func59,Tryz.ntmps59
 go_wp2;go_loopw [8] (fun x8 wr=>∃(k:Nat),x8=.int .i64 k/\k<=xs.length/\(∀j (hj:j<k) (hx:j<xs.length),xs[j].ls≠[b1,b2,b3,b4,b5,b6,b7,b8])/\Q0a w wr/\wr.heap[w.heap.size]? = some (.cells (Q7e p b1 b2 b3 b4 b5 b6 b7 b8) 76 (0,0)))
   (fun x _=>100001-(intOf x).toNat)
 case atStart=>exact⟨0,rfl,by omega,fun j hj=>by omega,(mRf _ w).alloc _,z0a _ _⟩
 obtain⟨k,rfl,hk,j2,j3,hb⟩:=hrel;have HA:=hid j2;have j9:=hid (Q19 (B:=100001) k (by omega));have HB:=hid hb;have c1:=Q0b hb;clear j2 hb;by_cases j5:k<xs.length
 ·obtain⟨g,jb,j7⟩:=Joins.ownsRow_form HL.own (by omega);rw[qI]at j7;obtain⟨rfl,_,rfl⟩:=j7;have j8:=hid (HL.fresh j3);have j0:=fun j hj=>j8.cell k j j5 hj;have hA:=ja.out xs[k] (by simp);obtain⟨a1,a2,a3,a4,a5,a6,a7,a8,j1⟩:=Q59 hA;have j4:=hid j1;have d1:wr.cell? ⟨g,k*9+1,none⟩=some (.int .u8 a1):=by rw[j0 1 (by omega)];simp[Wd.cells,j1]
  have d2:wr.cell? ⟨g,k*9+2,none⟩=some (.int .u8 a2):=by rw[j0 2 (by omega)];simp[Wd.cells,j1]
  have d3:wr.cell? ⟨g,k*9+3,none⟩=some (.int .u8 a3):=by rw[j0 3 (by omega)];simp[Wd.cells,j1]
  have d4:wr.cell? ⟨g,k*9+4,none⟩=some (.int .u8 a4):=by rw[j0 4 (by omega)];simp[Wd.cells,j1]
  have d5:wr.cell? ⟨g,k*9+5,none⟩=some (.int .u8 a5):=by rw[j0 5 (by omega)];simp[Wd.cells,j1]
  have d6:wr.cell? ⟨g,k*9+6,none⟩=some (.int .u8 a6):=by rw[j0 6 (by omega)];simp[Wd.cells,j1]
  have d7:wr.cell? ⟨g,k*9+7,none⟩=some (.int .u8 a7):=by rw[j0 7 (by omega)];simp[Wd.cells,j1]
  have d8:wr.cell? ⟨g,k*9+8,none⟩=some (.int .u8 a8):=by rw[j0 8 (by omega)];simp[Wd.cells,j1]
  obtain⟨qq,j6,q8⟩:∃qq,qq=([a1,a2,a3,a4,a5,a6,a7,a8]==[b1,b2,b3,b4,b5,b6,b7,b8])/\∀w,(Op.equalIn 10000 74 (.agg #[.int .u8 a1,.int .u8 a2,.int .u8 a3,.int .u8 a4,.int .u8 a5,.int .u8 a6,.int .u8 a7,.int .u8 a8]) (.agg #[.int .u8 b1,.int .u8 b2,.int .u8 b3,.int .u8 b4,.int .u8 b5,.int .u8 b6,.int .u8 b7,.int .u8 b8])).run Tryz.prog w=.ok qq w:=⟨_,rfl,fun w=>arr8 9998 w a1 a2 a3 a4 a5 a6 a7 a8 b1 b2 b3 b4 b5 b6 b7 b8⟩;have HQ:=hid j6;clear j6;have g8:=guard8;clear j0 hA j1;go_wp2;go_quiet (fail);cases qq
  ·clear q8 g8;go_wp2;go_roundw
   case rel =>
    refine⟨k+1,by go_num,by omega,?_,Mod.of_heap j3 rfl rfl rfl rfl,HB.out⟩;intro j hj hx;by_cases e:j=k
    ·subst e;rw[j4.out];intro e2;have:=HQ.out;rw[e2]at this;simp at this
    exact HA.out j (by omega) hx
   exact j9.out
  clear q8 g8;go_wp2;go_ret;refine⟨z1i ?_,Mod.of_heap j3 rfl rfl rfl rfl⟩;have:Q1m xs [b1,b2,b3,b4,b5,b6,b7,b8]=k:=by
   unfold Q1m;rw[List.findIdx_eq j5];refine⟨?_,?_⟩
   ·rw[j4.out];exact HQ.symm
   intro j hj;simpa using HA.out j hj (by omega)
  rw[this]
 have jc:k=xs.length:=by omega
 subst jc;go_wp2;go_ret;refine⟨z1i ?_,j3⟩;have:Q1m xs [b1,b2,b3,b4,b5,b6,b7,b8]=xs.length:=by
  unfold Q1m;apply qDt;intro x hx;obtain⟨j,hj,rfl⟩:=qBf hx;simpa using HA.out j hj hj
 rw[this]
theorem infoWd:(Tryz.prog.info? 76).map (fun i=>(i.zero,i.size,i.bytes))=some (some (.agg (Wd.cells ⟨0,zero8⟩).toArray),9,16):=by kernel_rfl
theorem infoWd':∃i,Tryz.prog.info? 76=some i/\i.zero=some (.agg (Wd.cells ⟨0,zero8⟩).toArray)/\i.size=9/\i.bytes=16:=nfoE infoWd
abbrev Q55(p a b c d e f g k:Int):List Value:=[.int .i64 p,.int .u8 a,.int .u8 b,.int .u8 c,.int .u8 d,.int .u8 e,.int .u8 f,.int .u8 g,.int .u8 k]
theorem Q6e{α:Type}{xs:List α}{i:Nat}(h:i<xs.length):xs.take (i+1)=xs.take i++[xs[i]]:=by rw[qCu,qE h];rfl
def Q0g(lns:List Ln):List Wd:=(lns.filter Q0x).map Ln.front
theorem x0h(w:World)(v:Value)(xs:List LV)(hL:Q0s w v xs)(hn:xs.length<=1000)(hfb:∀x∈xs,FB x) :
  Calls Tryz.prog 28 #[v] w fun e w'=>∃v',e=.returned v'/\w'.ownsRow w.heap.size 76 9 v' (Q0g (xs.map LV.ln)).length (Q0y Wd.cells (Q0g (xs.map LV.ln)))/\Q0a w w':=by
 obtain⟨ao,cap,hv⟩:=z0c hL.own;subst hv;have HL:=hid hL;have jl:=hid hfb;obtain⟨i0,jt,jz,k0,k1⟩:=infoWd';clear hL hfb;go_enter Tryz.func28,Tryz.ntmps28
 go_wp2;go_loopw [3,4,7] (fun x3 _ x7 wr=>∃(i:Nat),x7=.int .i64 i/\i<=xs.length/\wr.ownsRow w.heap.size 76 9 x3 (Q0g ((xs.take i).map LV.ln)).length (Q0y Wd.cells (Q0g ((xs.take i).map LV.ln)))/\Q0a w wr)
   (fun _ _ x _=>1001-(intOf x).toNat)
 case atStart=>exact⟨0,rfl,by omega,qAh _ _ _ _,mRf _ _⟩
 obtain⟨i,rfl,hi,j1,j8⟩:=hrel;have jf:=hid (Q19 (B:=1001) i (by omega));have jv:(Q0g ((xs.take i).map LV.ln)).length<=1000:=by
  have:=qCc Q0x ((xs.take i).map LV.ln);simp only[Q0g,qAv,qCo]at *;omega
 have jp:Hid (∀j4:i<xs.length,Q0g ((xs.take (i+1)).map LV.ln)=Q0g ((xs.take i).map LV.ln)++(if Q0x xs[i].ln then [xs[i].ln.front] else [])):=by
  intro j4;rw[Q6e j4,qBp,qDb];unfold Q0g;rw[qBx,qBp];cases h:Q0x xs[i].ln<;>simp only[qAq,h,qBn,qAz,qF,List.filter_nil,List.map_nil,qDl,qBd]
 have jo:Hid (i=xs.length->(xs.take i)=xs):=fun h=>by rw[h,qAw]
 generalize hy:Q0g ((xs.take i).map LV.ln)=ys at *;have HY:=hid hy;have HO:=hid j1;have jc:=hid j1.lt;obtain⟨ro,rc,jx⟩:=z0c j1;clear j1 hy;subst jx;by_cases j4:i<xs.length
 ·obtain⟨g,jr,ji⟩:=Joins.ownsRow_form HL.own (by omega);rw[qI]at ji;obtain⟨rfl,_,rfl⟩:=ji;have jb:=hid (HL.fresh j8);have jh:=jb.row.range i j4;have hA:=jb.each xs[i] (by simp);have jg:=jl.out xs[i] (by simp);have j0:=hid (jp.out j4);have j9:=fun w1 (hf:Q0a wr w1)=>(jb.fresh hf).frontRange i j4;generalize hX:xs[i]=x at *;clear hX;have jd:=fun w=>z2l x w hA.front jg;have jw:Hid (Q0x x.ln=!Q16 x.ln.front):=rfl;rw[← jw.out]at jd;have k2:=hid hA.one;obtain⟨⟨⟨pp,ls⟩,sk,j6,j7,j5,sy⟩,vn,vs⟩:=x;obtain⟨a1,a2,a3,a4,a5,a6,a7,a8,e8⟩:=Q59 hA.front;dsimp only at e8;subst e8;obtain⟨no,nc,jj⟩:=z0c hA.nodes.own;obtain⟨so,sc,jk⟩:=z0c hA.syms.own;dsimp only at jj jk;subst jj;subst jk;have RU:=hid jd;have RG:Hid (wr.rangeAt g (i*14) (Q5m pp a1 a2 a3 a4 a5 a6 a7 a8 sk (.slice no j6.length nc) j7 j5 (.slice so sy.length sc))):=jh;have jq:Hid (∀w1,Q0a wr w1->w1.rangeAt g (i*14) (Q55 pp a1 a2 a3 a4 a5 a6 a7 a8)):=j9;have ja:Hid (∀w,Calls Tryz.prog 30 #[.agg (lnArr pp a1 a2 a3 a4 a5 a6 a7 a8 sk (.slice no j6.length nc) j7 j5 (.slice so sy.length sc))] w fun e w'=>e=.returned (.bool (Q0x ⟨⟨pp,[a1,a2,a3,a4,a5,a6,a7,a8]⟩,sk,j6,j7,j5,sy⟩))/\Q0a w w'):=RU.out;clear jd RU jh j9 hA jg;cases hr:Q0x ⟨⟨pp,[a1,a2,a3,a4,a5,a6,a7,a8]⟩,sk,j6,j7,j5,sy⟩
  ·rw[hr]at ja j0;simp only[qF,qAz,qBd]at j0;go_wp2_with (first
    |(go_at_call 30;refine(ja.out _).mono ?_;rintro e w1⟨rfl,hf⟩)
    |(refine qAe rfl 81 _ rfl g (i*14) rfl (Q5m pp a1 a2 a3 a4 a5 a6 a7 a8 sk (.slice no j6.length nc) j7 j5 (.slice so sy.length sc)) _ RG.out qAm rfl Q1e ?_))
   go_roundw
   case rel =>
    refine⟨i+1,by go_num,by omega,?_,j8.trans hf⟩;rw[j0.out];exact z0d HO.out (fun g hg=>hf.block g (jc.out g hg).2 id)
   exact jf.out
  rw[hr]at ja j0;simp only[qBn]at j0;go_wp2_with (first
   |(at_builtin;refine z0f _ rfl _ _ 72 rfl w.heap.size 76 i0 _ 9 16 Tryz.underlying72 jt jz k0 k1 rfl (by decide) _ _ _ rfl (jm.alloc _) ⟨w1.heap.size,0,none⟩ 1 1 (Q55 pp a1 a2 a3 a4 a5 a6 a7 a8) rfl rfl (z0m rfl) (by intro u hu;simp at hu;rcases hu with rfl|rfl|rfl|rfl|rfl|rfl|rfl|rfl|rfl<;>rfl) (by unfold maxLen;omega) (by omega) (by have:=j8.size;simp;omega) ?_)
   |(refine qAe rfl 76 _ rfl g (i*14) rfl (Q55 pp a1 a2 a3 a4 a5 a6 a7 a8) _ (jq.out _ hf) qAx rfl Q2s ?_)
   |(go_at_call 30;refine(ja.out _).mono ?_;rintro e w1⟨rfl,hf⟩;have hz:wr.heap.size<=w1.heap.size:=hf.size;have jm:=hid (z0d HO.out (fun g hg=>hf.block g (jc.out g hg).2 id)))
   |(refine qAe rfl 81 _ rfl g (i*14) rfl (Q5m pp a1 a2 a3 a4 a5 a6 a7 a8 sk (.slice no j6.length nc) j7 j5 (.slice so sy.length sc)) _ RG.out qAm rfl Q1e ?_))
  intro v' w2 j3 j2 je;have js:Q0a w w2:=Mod.grown (S:=fun _=>False) ((j8.trans hf).alloc _) j2 (fun k hk j4=>by have:=(jc.out k hk).1;omega);have jn:=hid j3;clear j3 j2 je;go_wp2;go_roundw
  case rel =>
   refine⟨i+1,by go_num,by omega,?_,js⟩;rw[j0.out,z0v,qP,qAj];exact jn.out
  exact jf.out
 have ju:i=xs.length:=by omega
 have jy:=jo.out ju;go_wp2;go_ret;refine⟨_,rfl,?_,j8⟩;rw[← jy,HY.out];exact HO.out
def Q14:List Ln->List Wd->List Wd
 | [],hs=>hs
 |x::l,hs=>if Q0x x then Q14 l hs else if Q1m hs x.front.ls<hs.length then Q14 l hs else Q14 l (hs++[x.front])
def Q0j(lns:List Ln):List Wd:=Q14 lns []
theorem y3n(ds:List Wd)(ls:List Int):Q1m ds ls<=ds.length:=by unfold Q1m;exact List.findIdx_le_length
theorem x28(w:World)(v:Value)(xs:List LV)(hL:Q0s w v xs)(hn:xs.length<=1000)(hfb:∀x∈xs,FB x) :
  Calls Tryz.prog 29 #[v] w fun e w'=>∃v',e=.returned v'/\w'.ownsRow w.heap.size 76 9 v' (Q0j (xs.map LV.ln)).length (Q0y Wd.cells (Q0j (xs.map LV.ln)))/\Q0a w w'/\(∀d∈Q0j (xs.map LV.ln),d.ls.length=8)/\(Q0j (xs.map LV.ln)).length<=xs.length:=by
 obtain⟨ao,cap,hv⟩:=z0c hL.own;subst hv;have HL:=hid hL;have js:=hid hfb;obtain⟨i0,jx,k4,k5,k6⟩:=infoWd';generalize hRES:Q0j (xs.map LV.ln)=RES;have HR:=hid hRES;clear hL hfb hRES;go_enter Tryz.func29,Tryz.ntmps29
 go_wp2;go_loopw [3,4,5,8] (fun x3 _ _ x8 wr=>∃(i:Nat) (acc:List Wd),x8=.int .i64 i/\i<=xs.length/\acc.length<=i/\(∀d∈acc,d.ls.length=8)/\Q14 ((xs.drop i).map LV.ln) acc=RES/\wr.ownsRow w.heap.size 76 9 x3 acc.length (Q0y Wd.cells acc)/\Q0a w wr)
   (fun _ _ _ x _=>1001-(intOf x).toNat)
 case atStart=>exact⟨0,[],rfl,by omega,by simp,by simp,HR.out,qAh _ _ _ _,mRf _ _⟩
 obtain⟨i,ys,rfl,hi,jz,h8,j0,j2,ja⟩:=hrel;have jg:=hid (Q19 (B:=1001) i (by omega));have HO:=hid j2;have jb:=hid j2.lt;have H8:=hid h8;obtain⟨ro,rc,k1⟩:=z0c j2;clear j2 h8;subst k1;by_cases je:i<xs.length
 ·rw[qC je,qDl]at j0;unfold Q14 at j0;obtain⟨g,jv,jo⟩:=Joins.ownsRow_form HL.own (by omega);rw[qI]at jo;obtain⟨rfl,_,rfl⟩:=jo;have jf:=hid (HL.fresh ja);have jl:=jf.row.range i je;have hA:=jf.each xs[i] (by simp);have jj:=js.out xs[i] (by simp);have j7:=fun w1 (hf:Q0a wr w1)=>(jf.fresh hf).frontRange i je;generalize hX:xs[i]=x at j0 jl hA jj j7;clear hX;have ji:=fun w=>z2l x w hA.front jj;have k0:Hid (Q0x x.ln=!Q16 x.ln.front):=rfl;rw[← k0.out]at ji;have jm:=fun(w:World) (v:Value) (h:Q30 w v ys)=>z4y w v ys x.ln.front h H8.out (by omega) hA.front;have k7:=hid hA.one;obtain⟨⟨⟨pp,ls⟩,sk,j8,j9,j5,sy⟩,vn,vs⟩:=x;obtain⟨a1,a2,a3,a4,a5,a6,a7,a8,e8⟩:=Q59 hA.front;dsimp only at e8;subst e8;obtain⟨no,nc,jp⟩:=z0c hA.nodes.own;obtain⟨so,sc,jq⟩:=z0c hA.syms.own;dsimp only at jp jq;subst jp;subst jq;have RU:=hid ji;have RG:Hid (wr.rangeAt g (i*14) (Q5m pp a1 a2 a3 a4 a5 a6 a7 a8 sk (.slice no j8.length nc) j9 j5 (.slice so sy.length sc))):=jl;have jh:Hid (∀w1,Q0a wr w1->w1.rangeAt g (i*14) (Q55 pp a1 a2 a3 a4 a5 a6 a7 a8)):=j7;have jc:Hid (∀w,Calls Tryz.prog 30 #[.agg (lnArr pp a1 a2 a3 a4 a5 a6 a7 a8 sk (.slice no j8.length nc) j9 j5 (.slice so sy.length sc))] w fun e w'=>e=.returned (.bool (Q0x ⟨⟨pp,[a1,a2,a3,a4,a5,a6,a7,a8]⟩,sk,j8,j9,j5,sy⟩))/\Q0a w w'):=RU.out;have FW:Hid (∀(w:World) (v:Value),Q30 w v ys->Calls Tryz.prog 59 #[v,.agg (Q7e pp a1 a2 a3 a4 a5 a6 a7 a8)] w fun e w'=>e=.returned (.int .i64 (Q1m ys [a1,a2,a3,a4,a5,a6,a7,a8]))/\Q0a w w'):=jm;clear ji RU jl j7 hA jj jm;dsimp only at j0;cases hr:Q0x ⟨⟨pp,[a1,a2,a3,a4,a5,a6,a7,a8]⟩,sk,j8,j9,j5,sy⟩
  ·rw[hr]at jc j0;simp only[qF,qAz]at j0;have k3:=y3n ys [a1,a2,a3,a4,a5,a6,a7,a8];generalize Q1m ys [a1,a2,a3,a4,a5,a6,a7,a8]=wf at j0 FW k3;have jn:Hid (∀w1,Q0a wr w1->Q30 w1 (.slice ro ys.length rc) ys):=fun w1 hf=>⟨z0g (z0d HO.out (fun g hg=>hf.block g (jb.out g hg).2 id)) (qBq _),fun x hx=>Wd.cells_len (H8.out x hx)⟩;by_cases jr:wf<ys.length
   ·rw[qAb jr]at j0;have j1:=hid j0;have k8:((wf:Int)==(ys.length:Int))=false:=by simp;omega
    clear j0;go_wp2_with (first
     |(go_at_call 59;refine(FW.out _ _ (jn.out _ hf)).mono ?_;rintro e w2⟨rfl,j6⟩)
     |(refine qAe rfl 76 _ rfl g (i*14) rfl (Q55 pp a1 a2 a3 a4 a5 a6 a7 a8) _ (jh.out _ hf) qAx rfl Q2s ?_)
     |(go_at_call 30;refine(jc.out _).mono ?_;rintro e w1⟨rfl,hf⟩)
     |(refine qAe rfl 81 _ rfl g (i*14) rfl (Q5m pp a1 a2 a3 a4 a5 a6 a7 a8 sk (.slice no j8.length nc) j9 j5 (.slice so sy.length sc)) _ RG.out qAm rfl Q1e ?_))
    go_roundw
    case rel =>
     refine⟨i+1,ys,by go_num,by omega,by omega,H8.out,j1.out,?_,(ja.trans hf).trans j6⟩;exact z0d HO.out (fun g hg=>(hf.trans j6).block g (jb.out g hg).2 id)
    exact jg.out
   rw[qAa jr]at j0;have j1:=hid j0;have k2:wf=ys.length:=by omega
   subst k2;clear j0;go_wp2_with (first
    |(at_builtin;refine z0f _ rfl _ _ 72 rfl w.heap.size 76 i0 _ 9 16 Tryz.underlying72 jx k4 k5 k6 rfl (by decide) _ _ _ rfl (jt.alloc _) ⟨w2.heap.size,0,none⟩ 1 1 (Q55 pp a1 a2 a3 a4 a5 a6 a7 a8) rfl rfl (z0m rfl) (by intro u hu;simp at hu;rcases hu with rfl|rfl|rfl|rfl|rfl|rfl|rfl|rfl|rfl<;>rfl) (by unfold maxLen;omega) (by omega) (by have:=ja.size;have:=hf.size;have:=j6.size;simp;omega) ?_)
    |(refine qAe rfl 76 _ rfl g (i*14) rfl (Q55 pp a1 a2 a3 a4 a5 a6 a7 a8) _ (jh.out _ (hf.trans j6)) qAx rfl Q2s ?_)
    |(go_at_call 59;refine(FW.out _ _ (jn.out _ hf)).mono ?_;rintro e w2⟨rfl,j6⟩;have jt:=hid (z0d HO.out (fun g hg=>(hf.trans j6).block g (jb.out g hg).2 id)))
    |(refine qAe rfl 76 _ rfl g (i*14) rfl (Q55 pp a1 a2 a3 a4 a5 a6 a7 a8) _ (jh.out _ hf) qAx rfl Q2s ?_)
    |(go_at_call 30;refine(jc.out _).mono ?_;rintro e w1⟨rfl,hf⟩)
    |(refine qAe rfl 81 _ rfl g (i*14) rfl (Q5m pp a1 a2 a3 a4 a5 a6 a7 a8 sk (.slice no j8.length nc) j9 j5 (.slice so sy.length sc)) _ RG.out qAm rfl Q1e ?_))
   intro v' w3 j4 j3 jk;have jw:Q0a w w3:=Mod.grown (S:=fun _=>False) (((ja.trans hf).trans j6).alloc _) j3 (fun k hk je=>by have:=(jb.out k hk).1;omega);have ju:=hid j4;clear j4 j3 jk;go_wp2;go_roundw
   case rel =>
    refine⟨i+1,ys++[⟨pp,[a1,a2,a3,a4,a5,a6,a7,a8]⟩],by go_num,by omega,by simp;omega,?_,j1.out,?_,jw⟩
    ·intro d hd;simp only[qU,qM]at hd;rcases hd with hd|rfl
     ·exact H8.out d hd
     rfl
    rw[z0v,qP,qAj];exact ju.out
   exact jg.out
  rw[hr]at jc j0;simp only[qBn]at j0;have j1:=hid j0;clear j0;go_wp2_with (first
   |(go_at_call 30;refine(jc.out _).mono ?_;rintro e w1⟨rfl,hf⟩)
   |(refine qAe rfl 81 _ rfl g (i*14) rfl (Q5m pp a1 a2 a3 a4 a5 a6 a7 a8 sk (.slice no j8.length nc) j9 j5 (.slice so sy.length sc)) _ RG.out qAm rfl Q1e ?_))
  go_roundw
  case rel =>
   refine⟨i+1,ys,by go_num,by omega,by omega,H8.out,j1.out,?_,ja.trans hf⟩;exact z0d HO.out (fun g hg=>hf.block g (jb.out g hg).2 id)
  exact jg.out
 have jy:i=xs.length:=by omega
 rw[jy,qCy]at j0;have jd:ys=RES:=j0;subst jd;clear j0;go_wp2;go_ret;exact⟨_,rfl,HO.out,ja,H8.out,by omega⟩
def Q9v(names heads:List Wd)(d:Wd):Sy:=⟨Q16 d,if Q16 d then(Q1m heads d.ls:Int) else(Q1m names d.ls:Int)⟩
def Q8a(names heads:List Wd)(x:Ln):Pr:=⟨(Q1m heads x.front.ls:Int),x.syms.map (Q9v names heads)⟩
theorem infoSy:(Tryz.prog.info? 93).map (fun i=>(i.zero,i.size,i.bytes))=some (some (.agg #[.bool false,.int .i64 0]),2,16):=by kernel_rfl
theorem infoSy':∃i,Tryz.prog.info? 93=some i/\i.zero=some (.agg #[.bool false,.int .i64 0])/\i.size=2/\i.bytes=16:=nfoE infoSy
theorem szSy2:(Tryz.prog.info? 93).map (·.size)=some 2:=by kernel_rfl
theorem szPr2:(Tryz.prog.info? 85).map (·.size)=some 2:=by kernel_rfl
theorem y2w(w:World)(x:LV)(vn vh:Value)(names heads:List Wd)(hA:x.At w)(hfb:∀d∈x.ln.syms,0<=d.ls.getD 0 0/\d.ls.getD 0 0<=255)(hsl:x.ln.syms.length<=1000)
  (hN:Q30 w vn names) (hN8:∀d∈names,d.ls.length=8) (hNl:names.length<=1000) (hH:Q30 w vh heads) (hH8:∀d∈heads,d.ls.length=8) (hHl:heads.length<=1000) :
  Calls Tryz.prog 31 #[.agg x.cells.toArray,vn,vh] w fun e w'=>∃v',e=.returned (.agg #[.int .i64 (Q8a names heads x.ln).head,v'])/\Q0a w w'/\w'.ownsRow w.heap.size 93 2 v' (Q8a names heads x.ln).syms.length (Q0y Sy.cells (Q8a names heads x.ln).syms):=by
 obtain⟨i0,k5,ka,kb,kc⟩:=infoSy';have FN:=hid (fun(w:World) (h:Q30 w vn names) (d:Wd) (hd:d.ls.length=8)=>z4y w vn names d h hN8 (by omega) hd);have FH:=hid (fun(w:World) (h:Q30 w vh heads) (d:Wd) (hd:d.ls.length=8)=>z4y w vh heads d h hH8 (by omega) hd);have HN:=hid hN;have HH:=hid hH;have jx:=hid hfb;have k2:∀d∈x.ln.syms,d.ls.length=8:=fun d hd=>by
  have:=hA.syms.wf d hd;simpa [Wd.cells]using this
 have k0:=hid k2;have jg:=hid hA.syms;have jk:=hid hA.front;have RG:Hid (∀o:Obj,((w.alloc (.cells x.cells.toArray 81 (0,0))).alloc o).rangeAt w.heap.size 0 x.ln.front.cells):=by
  intro o j v hj;rw[Q0b (qBg _ _ _)];simp only[LV.cells,qBy,qDp];rw[qAl (qS hj).1];exact hj
 obtain⟨so,sc,jt⟩:=z0c hA.syms.own;have jc:x.cells.toArray[13]? = some (.slice so x.ln.syms.length sc):=by rw[LV.at13 hA.front,jt]
 rw[jt]at jg;generalize x.cells.toArray=xa at jc RG;have k6:(Q8a names heads x.ln).head=(Q1m heads x.ln.front.ls:Int):=rfl;have k7:(Q8a names heads x.ln).syms=x.ln.syms.map (Q9v names heads):=rfl;rw[k6,k7,qAv];generalize hfw:Q1m heads x.ln.front.ls=hw;have jy:=hid hfw;generalize x.ln.front=fr at jk RG jy;generalize x.ln.syms=sy at jx k0 jg hsl jc;have jl:=hid jc;clear hA hfb hN hN8 hH hH8 k2 jt k6 k7 hfw jc;go_enter Tryz.func31,Tryz.ntmps31
 go_wp2_with (first
  |(go_at_call 59;refine(FH.out _ (HH.fresh (((mRf _ w).alloc _).alloc _)) fr jk.out).mono ?_;rw[jy.out];rintro e w1⟨rfl,jh⟩;have k1:=hid (jh.at (qBg _ _ _) id);have kg:=hid (jh.at (qBa _ _ _) id);have jc:=Q0b k1.out 13;rw[jl.out]at jc;have k9:=jh.size)
  |(refine qAe rfl 76 _ rfl w.heap.size 0 rfl fr.cells _ (RG.out _) qAx rfl (by rw[Wd.cells_len jk.out];exact Q2s) ?_))
 have kd:Hid (Q0a w w1):=Mod.trans (((mRf _ w).alloc _).alloc _) jh;have kn:w.heap.size+2<=w1.heap.size:=by simp at k9;omega
 clear k1 jc k9;go_loopw [8,10,11,19] (fun x8 _ _ x19 wr=>∃(i:Nat),x19=.int .i64 i/\i<=sy.length/\wr.ownsRow (w.heap.size+2) 93 2 x8 ((sy.take i).map (Q9v names heads)).length (Q0y Sy.cells ((sy.take i).map (Q9v names heads)))/\Q0a w wr/\wr.heap[w.heap.size+1]? = some (.cells #[.int .i64 0,.slice none 0 0] 85 (0,0))/\w.heap.size+2<=wr.heap.size)
   (fun _ _ _ x _=>1001-(intOf x).toNat)
 case atStart=>exact⟨0,rfl,by omega,qAh _ _ _ _,kd.out,kg.out,kn⟩
 obtain⟨i,rfl,hi,j5,je,k3,kq⟩:=hrel;have jz:=hid (Q19 (B:=1001) i (by omega));have jf:=hid k3;have ki:((sy.take i).map (Q9v names heads)).length<=1000:=by simp;omega
 have kf:Hid (∀jb:i<sy.length,(sy.take (i+1)).map (Q9v names heads)=(sy.take i).map (Q9v names heads)++[Q9v names heads sy[i]]):=by
  intro jb;rw[Q6e jb,qBp,qDb]
 have ke:Hid (i=sy.length->(sy.take i)=sy):=fun h=>by rw[h,qAw]
 generalize hy:(sy.take i).map (Q9v names heads)=ys at *;have HY:=hid hy;have HO:=hid j5;have j7:=hid j5.lt;obtain⟨ro,rc,kj⟩:=z0c j5;clear j5 hy k3;subst kj;by_cases jb:i<sy.length
 ·have ko:(i:Int)<(sy.length:Int):=by omega
  obtain⟨gs,kr,k8⟩:=Joins.ownsRow_form jg.own (by omega);rw[qI]at k8;obtain⟨rfl,_,rfl⟩:=k8;have js:=(jg.fresh je).range i jb;have j6:=kf.out jb;have jd:=k0.out sy[i] (by simp);have k4:=jx.out sy[i] (by simp);have jo:=fun w=>z5m sy[i] w jd k4;have jj:=fun w h=>FN.out w h sy[i] jd;have ji:=fun w h=>FH.out w h sy[i] jd;rw[show Q9v names heads sy[i]=(⟨Q16 sy[i],if Q16 sy[i] then(Q1m heads sy[i].ls:Int) else(Q1m names sy[i].ls:Int)⟩:Sy) from rfl]at j6;generalize hX:sy[i]=d at js j6 jo jj ji jd;clear hX k4;obtain⟨pp,ls⟩:=d;obtain⟨a1,a2,a3,a4,a5,a6,a7,a8,e8⟩:=Q59 jd;dsimp only at e8;subst e8;have RS:Hid (wr.rangeAt gs (i*9) (Q55 pp a1 a2 a3 a4 a5 a6 a7 a8)):=js;have IH:Hid (∀w,Calls Tryz.prog 60 #[.agg (Q7e pp a1 a2 a3 a4 a5 a6 a7 a8)] w fun e w'=>e=.returned (.bool (Q16 ⟨pp,[a1,a2,a3,a4,a5,a6,a7,a8]⟩))/\Q0a w w'):=jo;have jw:Hid (∀(w:World),Q30 w vn names->Calls Tryz.prog 59 #[vn,.agg (Q7e pp a1 a2 a3 a4 a5 a6 a7 a8)] w fun e w'=>e=.returned (.int .i64 (Q1m names [a1,a2,a3,a4,a5,a6,a7,a8]))/\Q0a w w'):=jj;have jv:Hid (∀(w:World),Q30 w vh heads->Calls Tryz.prog 59 #[vh,.agg (Q7e pp a1 a2 a3 a4 a5 a6 a7 a8)] w fun e w'=>e=.returned (.int .i64 (Q1m heads [a1,a2,a3,a4,a5,a6,a7,a8]))/\Q0a w w'):=ji;dsimp only at j6;generalize Q16 ⟨pp,[a1,a2,a3,a4,a5,a6,a7,a8]⟩=hb at j6 IH;generalize Q1m names [a1,a2,a3,a4,a5,a6,a7,a8]=wn at j6 jw;generalize Q1m heads [a1,a2,a3,a4,a5,a6,a7,a8]=wh at j6 jv;have j3:=hid j6;clear js j6 jo jj ji jd;cases hb
  ·simp only[qF,qAz]at j3;go_wp2_with (first
    |(at_builtin;refine z0f _ rfl _ _ 83 rfl (w.heap.size+2) 93 i0 _ 2 16 Tryz.underlying83 k5 ka kb kc rfl (by decide) _ _ _ rfl (jm.alloc _) ⟨w3.heap.size,0,none⟩ 1 1 [.bool false,.int .i64 wn] rfl rfl (by have q:=@z0m (w3.setCell ⟨w2.heap.size,1,none⟩ (.int .i64 wn)) #[.bool false,.int .i64 wn] [.bool false,.int .i64 wn] 93 rfl;rw[Proofs.YtbdpfmalabgmbaaGreat.heap_setCell_size]at q;exact q) (by intro u hu;simp at hu;rcases hu with rfl|rfl<;>rfl) (by unfold maxLen;omega) (by omega) (by simp;omega) ?_)
    |(refine qAf rfl 93 _ rfl w2.heap.size rfl _ _ _ _ jq.out qCf rfl szSy2 ?_)
    |(go_at_call 59;refine(jw.out _ (HN.fresh ((je.trans (Mod.trans ((mRf _ wr).alloc _) j4)).alloc _))).mono ?_;rintro e w3⟨rfl,ja⟩;have km:w2.heap.size<w3.heap.size:=(by have:=ja.size;simp at this;omega);have j8:=hid (ja.at (z0a w2 _) id);have c2:=Q0b j8.out 1;have f2:=Q0f j8.out 1;have jq:Hid ((w3.setCell ⟨w2.heap.size,1,none⟩ (.int .i64 wn)).heap[w2.heap.size]? = some (.cells #[.bool false,.int .i64 wn] 93 (0,0))):=(by unfold Hid;rw[zhs j8.out];rfl);have j2:Hid (Q0a wr (w3.setCell ⟨w2.heap.size,1,none⟩ (.int .i64 wn))):=(Mod.trans ((Mod.trans ((mRf _ wr).alloc _) j4).alloc _) ja).setCell (by intro q;dsimp only at q;omega) _;have jm:=hid (z0d HO.out (fun g hg=>j2.block g (j7.out g hg).2 id)))
    |(refine qAf rfl 76 _ rfl wr.heap.size rfl _ _ _ _ (z0b (j4.at (z0a _ _) id)) qAx rfl Q2s ?_)
    |(go_at_call 60;refine(IH.out _).mono ?_;rintro e w2⟨rfl,j4⟩;have kl:wr.heap.size<w2.heap.size:=(by have:=j4.size;simp at this;omega))
    |(refine qAf rfl 76 _ rfl wr.heap.size rfl _ _ _ _ (z0a _ _) qAx rfl Q2s ?_)
    |(refine qAe rfl 76 _ rfl gs (i*9) rfl (Q55 pp a1 a2 a3 a4 a5 a6 a7 a8) _ RS.out qAx rfl Q2s ?_))
   intro v' w4 j1 j0 j9;have jp:Q0a w w4:=Mod.grown (S:=fun _=>False) ((je.trans j2.out).alloc _) j0 (fun k hk jb=>by have:=(j7.out k hk).1;omega);have jr:Hid (w4.heap[w.heap.size+1]? = some (.cells #[.int .i64 0,.slice none 0 0] 85 (0,0))):=by
    unfold Hid;rw[j0.block (w.heap.size+1) (by have:=j2.size;simp;simp at this;omega) (fun e=>by have:=(j7.out _ e.symm).1;omega)];exact z0b (j2.at jf.out id)
   have ju:w.heap.size+2<=w4.heap.size:=by have h1:=j0.size;have h2:=j2.size;simp at h1 h2;omega
   have jn:=hid j1;clear j1 j0 j9;go_wp2;go_roundw
   case rel =>
    refine⟨i+1,by go_num,by omega,?_,jp,jr.out,ju⟩;rw[j3.out,z0v,qP,qAj];exact jn.out
   exact jz.out
  simp only[qBn]at j3;go_wp2_with (first
   |(at_builtin;refine z0f _ rfl _ _ 83 rfl (w.heap.size+2) 93 i0 _ 2 16 Tryz.underlying83 k5 ka kb kc rfl (by decide) _ _ _ rfl (jm.alloc _) ⟨w3.heap.size,0,none⟩ 1 1 [.bool true,.int .i64 wh] rfl rfl (by have q:=@z0m (w3.setCell ⟨w2.heap.size,1,none⟩ (.int .i64 wh)) #[.bool true,.int .i64 wh] [.bool true,.int .i64 wh] 93 rfl;rw[Proofs.YtbdpfmalabgmbaaGreat.heap_setCell_size]at q;exact q) (by intro u hu;simp at hu;rcases hu with rfl|rfl<;>rfl) (by unfold maxLen;omega) (by omega) (by simp;omega) ?_)
   |(refine qAf rfl 93 _ rfl w2.heap.size rfl _ _ _ _ jq.out qCf rfl szSy2 ?_)
   |(go_at_call 59;refine(jv.out _ (HH.fresh ((je.trans (Mod.trans ((mRf _ wr).alloc _) j4)).alloc _))).mono ?_;rintro e w3⟨rfl,ja⟩;have km:w2.heap.size<w3.heap.size:=(by have:=ja.size;simp at this;omega);have j8:=hid (ja.at (z0a w2 _) id);have c2:=Q0b j8.out 1;have f2:=Q0f j8.out 1;have jq:Hid ((w3.setCell ⟨w2.heap.size,1,none⟩ (.int .i64 wh)).heap[w2.heap.size]? = some (.cells #[.bool true,.int .i64 wh] 93 (0,0))):=(by unfold Hid;rw[zhs j8.out];rfl);have j2:Hid (Q0a wr (w3.setCell ⟨w2.heap.size,1,none⟩ (.int .i64 wh))):=(Mod.trans ((Mod.trans ((mRf _ wr).alloc _) j4).alloc _) ja).setCell (by intro q;dsimp only at q;omega) _;have jm:=hid (z0d HO.out (fun g hg=>j2.block g (j7.out g hg).2 id)))
   |(refine qAf rfl 76 _ rfl wr.heap.size rfl _ _ _ _ (z0b (j4.at (z0a _ _) id)) qAx rfl Q2s ?_)
   |(go_at_call 60;refine(IH.out _).mono ?_;rintro e w2⟨rfl,j4⟩;have kl:wr.heap.size<w2.heap.size:=(by have:=j4.size;simp at this;omega))
   |(refine qAf rfl 76 _ rfl wr.heap.size rfl _ _ _ _ (z0a _ _) qAx rfl Q2s ?_)
   |(refine qAe rfl 76 _ rfl gs (i*9) rfl (Q55 pp a1 a2 a3 a4 a5 a6 a7 a8) _ RS.out qAx rfl Q2s ?_))
  intro v' w4 j1 j0 j9;have jp:Q0a w w4:=Mod.grown (S:=fun _=>False) ((je.trans j2.out).alloc _) j0 (fun k hk jb=>by have:=(j7.out k hk).1;omega);have jr:Hid (w4.heap[w.heap.size+1]? = some (.cells #[.int .i64 0,.slice none 0 0] 85 (0,0))):=by
   unfold Hid;rw[j0.block (w.heap.size+1) (by have:=j2.size;simp;simp at this;omega) (fun e=>by have:=(j7.out _ e.symm).1;omega)];exact z0b (j2.at jf.out id)
  have ju:w.heap.size+2<=w4.heap.size:=by have h1:=j0.size;have h2:=j2.size;simp at h1 h2;omega
  have jn:=hid j1;clear j1 j0 j9;go_wp2;go_roundw
  case rel =>
   refine⟨i+1,by go_num,by omega,?_,jp,jr.out,ju⟩;rw[j3.out,z0v,qP,qAj];exact jn.out
  exact jz.out
 have kh:i=sy.length:=by omega
 have kk:=ke.out kh;have kp:¬(i:Int)<(sy.length:Int):=by omega
 go_wp2_with (first
  |(refine qAg rfl 85 _ _ rfl (w.heap.size+1) #[.int .i64 hw,.slice ro ys.length rc] rfl rfl _ _ jf.out szPr2 rfl (qCq (cs:=[.int .i64 hw,.slice ro ys.length rc]) (by intro v hv;simp at hv;rcases hv with rfl|rfl<;>rfl)) ?_))
 refine qAc (qCg rfl _ _ (w.heap.size+1) 85 #[.int .i64 hw,.slice ro ys.length rc] (0,0) _ rfl (qAn _ _ _ _ _ _ jf.out) qCz rfl szPr2) rfl ⟨_,rfl,je.setRow (by simp) _,?_⟩;rw[kk]at HY;have e1:(List.map (Q9v names heads) sy)=ys:=HY.out;have e2:sy.length=ys.length:=by rw[← e1];simp
 rw[e1,e2];exact z0g (z0d HO.out (fun g hg=>qCx _ _ _ _ (by have:=(j7.out g hg).1;omega))) (by omega)
def Q05(lns:List Ln):List Ln:=lns.filter fun x=>!Q0x x
def Q0p(lns:List Ln):List Pr:=(Q05 lns).map (Q8a (Q0g lns) (Q0j lns))
theorem infoPr:(Tryz.prog.info? 85).map (fun i=>(i.zero,i.size,i.bytes))=some (some (.agg #[.int .i64 0,.slice none 0 0]),2,32):=by kernel_rfl
theorem infoPr':∃i,Tryz.prog.info? 85=some i/\i.zero=some (.agg #[.int .i64 0,.slice none 0 0])/\i.size=2/\i.bytes=32:=nfoE infoPr
theorem szTab:(Tryz.prog.info? 42).map (·.size)=some 3:=by kernel_rfl
abbrev SyOwn(w:World)(base:Nat)(v:Value)(l:List Sy):Prop:=w.ownsRow base 93 2 v l.length (Q0y Sy.cells l)
theorem SyOwn.at'{w:World}{base:Nat}{v:Value}{l:List Sy}(h:SyOwn w base v l):Q58 w w.heap.size v l:=by
 obtain⟨ao,cap,hv⟩:=z0c h;have hr:Q18 Sy.cells 2 93 w v l:=⟨z0g h (qBq _),fun x _=>rfl⟩;have j1:=h.lt;rcases h.2 with⟨h1,h2⟩|⟨g,j0,j2,h1,h2,h3,h4,h5,_⟩
 ·subst h1;have:l=[]:=qCm h2;subst this;exact⟨none,0,rfl,by simp,by unfold maxLen;omega,fun i hi=>by simp at hi⟩
 subst h1;refine⟨some ⟨g,0,none⟩,j0,rfl,h4,h5,fun i hi=>⟨g,0,rfl,(j1 g rfl).2,?_⟩⟩;rw[qBy];exact hr.range i hi
structure PRel(w wr:World)(B:Nat)(v:Value)(pvs:List PV):Prop where
 base:w.heap.size+1<=B
 own:wr.ownsRow B 85 2 v pvs.length (Q0y PV.cells pvs)
 each:∀p∈pvs,SyOwn wr 0 p.vs p.pr.syms
 dis:∀p∈pvs,∀k,v.ownBlock=some k->p.vs.ownBlock≠some k
 fresh:Q0a w wr
 blk:wr.heap[w.heap.size]? = some (.cells #[.int .i64 0,.int .i64 0,.slice none 0 0] 42 (0,0))
theorem PRel.fresh'{w wr w1:World}{B:Nat}{v:Value}{pvs:List PV}(h:PRel w wr B v pvs)(hf:Q0a wr w1):PRel w w1 B v pvs :=
 ⟨h.base,z0d h.own (fun g hg=>hf.block g (h.own.lt g hg).2 id),fun p hp=>z0d (h.each p hp) (fun g hg=>hf.block g ((h.each p hp).lt g hg).2 id),h.dis,h.fresh.trans hf,hf.at h.blk id⟩
theorem PRel.next{w wr W w2:World}{B:Nat}{v v':Value}{pvs:List PV}{p:PV}(h:PRel w wr B v pvs)(hf:Q0a wr W)(hp:SyOwn W wr.heap.size p.vs p.pr.syms)
  (hown:w2.ownsRow B 85 2 v' (pvs.length+1) (Q0y PV.cells pvs++p.cells)) (hg:W.grownBy w2 v.ownBlock)
  (hblk:∀k,v'.ownBlock=some k->v.ownBlock=some k∨W.heap.size<=k):PRel w w2 B v' (pvs++[p]):=by
 have hW:=h.fresh' hf;have j1:∀k,v.ownBlock=some k->k<wr.heap.size:=fun k hk=>(h.own.lt k hk).2;have j0:∀k,v.ownBlock=some k->w.heap.size+1<=k:=fun k hk=>qDa h.base (h.own.lt k hk).1;have j2:∀k,v.ownBlock=some k->p.vs.ownBlock≠some k:=fun k hk e=>by
  have h1:=(hp.lt k e).1;have h2:=j1 k hk;omega
 refine⟨h.base,?_,?_,?_,?_,?_⟩
 ·rw[z0v,qP,qAj];exact hown
 ·intro q hq;simp only[qU,qM]at hq;rcases hq with hq|rfl
  ·exact z0d (hW.each q hq) (fun g hgq=>hg.block g ((hW.each q hq).lt g hgq).2 (fun e=>h.dis q hq g e.symm hgq))
  exact z0g (z0d hp (fun g hgq=>hg.block g (hp.lt g hgq).2 (fun e=>j2 g e.symm hgq))) (qBq _)
 ·intro q hq k hk e;simp only[qU,qM]at hq;rcases hblk k hk with h1|h1
  ·rcases hq with hq|rfl
   ·exact h.dis q hq k h1 e
   exact j2 k h1 e
  rcases hq with hq|rfl
  ·have:=((hW.each q hq).lt k e).2;omega
  have:=(hp.lt k e).2;omega
 ·exact Mod.grown (S:=fun _=>False) hW.fresh hg (fun k hk hlt=>by have:=j0 k hk;omega)
 rw[hg.block _ (z0j hW.blk) (fun e=>by have:=j0 _ e.symm;omega)];exact hW.blk
theorem PRel.prs{w wr:World}{B:Nat}{v:Value}{pvs:List PV}(h:PRel w wr B v pvs)(cs:Array Value):Q2e (wr.setRow w.heap.size cs) (wr.setRow w.heap.size cs).heap.size v pvs:=by
 have j1:(wr.setRow w.heap.size cs).heap.size=wr.heap.size:=by simp
 have j0:∀p∈pvs,∀g,p.vs.ownBlock=some g->g≠w.heap.size:=fun p hp g hg e=>by
  rcases(h.each p hp).2 with⟨h1,_⟩|⟨g',cap,j2,h1,_,h3,_⟩
  ·rw[h1]at hg;cases hg
  rw[h1]at hg;simp[Value.ownBlock]at hg;subst hg;subst e;rw[h.blk]at h3;simp at h3
 refine⟨⟨z0g (z0d h.own (fun g hg=>qCx _ _ _ _ (by have:=(h.own.lt g hg).1;have:=h.base;omega))) (qBq _),fun x _=>rfl⟩,fun g hg=>?_,fun p hp=>?_⟩
 ·rw[j1];exact(h.own.lt g hg).2
 exact SyOwn.at' (base:=0) (z0d (h.each p hp) (fun g hg=>qCx _ _ _ _ (j0 p hp g hg)))
def TabRet(lns:List Ln)(w:World)(e:Ending)(w':World):Prop :=
 ∃vp pvs,e=.returned (.agg #[.int .i64 (Q0g lns).length,.int .i64 (Q0j lns).length,vp])/\Q0a w w'/\pvs.map PV.pr=Q0p lns/\Q2e w' w'.heap.size vp pvs
end Go.Proofs.YtbdpfmalabgmbaaGreat
