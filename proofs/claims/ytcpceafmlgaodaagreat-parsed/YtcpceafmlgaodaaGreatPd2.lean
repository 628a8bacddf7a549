import Derived.Test.YtcpceafmlgaodaaGreatCk4
namespace Go.Proofs.YtcpceafmlgaodaaGreat
open Go.RowKit
set_option maxRecDepth 100000
set_option maxHeartbeats 16000000
set_option linter.unusedVariables false
set_option linter.unusedSimpArgs false
theorem infoWd:(Tryz.prog.info? 111).map(fun i=>(i.zero,i.size,i.bytes))=some(some(.agg(Wd.cells⟨0,Q5l⟩).toArray),9,16):=by kernel_rfl
theorem infoWd':∃i,Tryz.prog.info? 111=some i/\i.zero=some(.agg(Wd.cells⟨0,Q5l⟩).toArray)/\i.size=9/\i.bytes=16:=by
 have h:=infoWd;cases hq:Tryz.prog.info? 111 with
 |none=>simp[hq]at h
 |some i=>simp[hq]at h;exact⟨i,rfl,h.1,h.2.1,h.2.2⟩
abbrev Q50(p a b c d e f g k:Int):List Value:=[.int .i64 p,.int .u8 a,.int .u8 b,.int .u8 c,.int .u8 d,.int .u8 e,.int .u8 f,.int .u8 g,.int .u8 k]
theorem Q6g{α:Type}{xs:List α}{i:Nat}(h:i<xs.length):xs.take(i+1)=xs.take i++[xs[i]]:=by rw[List.take_add_one,qE h];rfl
def Q0g(lns:List Ln):List Wd:=(lns.filter Q1g).map Ln.front
theorem y9q(w:World)(v:Value)(xs:List LV)(hL:Q1x w v xs)(hn:xs.length<=1000)(hfb:∀x∈xs,FB x) :
  Calls Tryz.prog 46#[v]w fun e w'=>∃v',e=.returned v'/\w'.ownsRow w.heap.size 111 9 v'(Q0g(xs.map LV.ln)).length(Q01 Wd.cells(Q0g(xs.map LV.ln)))/\Q0a w w':=by
 obtain⟨ao,cap,hv⟩:=z0d hL.own;subst hv;have HL:=hid hL;have jf:=hid hfb;obtain⟨i0,hi0,hz0,hz1,hz2⟩:=infoWd';clear hL hfb;go_enter Tryz.func46,Tryz.ntmps46
 go_wp2;go_loopw [3,4,7](fun x3 _ x7 wr=>∃(i:Nat),x7=.int .i64 i/\i<=xs.length/\wr.ownsRow w.heap.size 111 9 x3(Q0g((xs.take i).map LV.ln)).length(Q01 Wd.cells(Q0g((xs.take i).map LV.ln)))/\Q0a w wr)
   (fun _ _ x _=>1001-(intOf x).toNat)
 case atStart=>exact⟨0,rfl,by omega,World.ownsRow_nil _ _ _ _,mRf _ _⟩
 obtain⟨i,rfl,hi,hown,hfr⟩:=hrel;have j8:=hid(Q2a(B:=1001)i(by omega));have je:(Q0g((xs.take i).map LV.ln)).length<=1000:=by
  have:=List.length_filter_le Q1g((xs.take i).map LV.ln);simp only[Q0g,List.length_map,List.length_take]at *;omega
 have j9:Hid(∀hlt:i<xs.length,Q0g((xs.take(i+1)).map LV.ln)=Q0g((xs.take i).map LV.ln)++(if Q1g xs[i].ln then [xs[i].ln.front]else [])):=by
  intro hlt;rw[Q6g hlt,List.map_append,List.map_singleton];unfold Q0g;rw[List.filter_append,List.map_append];cases h:Q1g xs[i].ln<;>simp only[List.filter_cons,h,if_true,if_false,Bool.false_eq_true,List.filter_nil,List.map_nil,List.map_cons,List.append_nil]
 have jc:Hid(i=xs.length->(xs.take i)=xs):=fun h=>by rw[h,List.take_length]
 generalize hy:Q0g((xs.take i).map LV.ln)=ys at *;have HY:=hid hy;have HO:=hid hown;have j5:=hid hown.lt;obtain⟨ro,rc,hro⟩:=z0d hown;clear hown hy;subst hro;by_cases hlt:i<xs.length
 ·obtain⟨g,cap',hv'⟩:=Q1d.ownsRow_form HL.out.own(by omega);rw[qI]at hv';obtain⟨rfl,_,rfl⟩:=hv';have j3:=hid(HL.out.fresh hfr);have j6:=j3.out.row.range i hlt;have hA:=j3.out.each xs[i](by simp);have j7:=jf.out xs[i](by simp);have j0:=hid(j9.out hlt);have j1:=fun w1(hf:Q0a wr w1)=>(j3.out.fresh hf).frontRange i hlt;generalize hX:xs[i]=x at *;clear hX;have j4:=fun w=>z2v x w hA.front j7;have jb:Hid(Q1g x.ln=!headB x.ln.front):=rfl;rw[← jb.out]at j4;have jk:=hid hA.one;obtain⟨⟨⟨pp,ls⟩,sk,nsx,stx,enx,sy⟩,vn,vs⟩:=x;obtain⟨a1,a2,a3,a4,a5,a6,a7,a8,e8⟩:=Q6m hA.front;dsimp only at e8;subst e8;obtain⟨no,nc,hvn⟩:=z0d hA.nodes.own;obtain⟨so,sc,hvs⟩:=z0d hA.syms.own;dsimp only at hvn hvs;subst hvn;subst hvs;have RU:=hid j4;have RG:Hid(wr.rangeAt g(i*14)(Q7n pp a1 a2 a3 a4 a5 a6 a7 a8 sk(.slice no nsx.length nc)stx enx(.slice so sy.length sc))):=j6;have ja:Hid(∀w1,Q0a wr w1->w1.rangeAt g(i*14)(Q50 pp a1 a2 a3 a4 a5 a6 a7 a8)):=j1;have j2:Hid(∀w,Calls Tryz.prog 48#[.agg(lnArr pp a1 a2 a3 a4 a5 a6 a7 a8 sk(.slice no nsx.length nc)stx enx(.slice so sy.length sc))]w fun e w'=>e=.returned(.bool(Q1g⟨⟨pp,[a1,a2,a3,a4,a5,a6,a7,a8]⟩,sk,nsx,stx,enx,sy⟩))/\Q0a w w'):=RU.out;clear j4 RU j6 j1 hA j7;cases hr:Q1g⟨⟨pp,[a1,a2,a3,a4,a5,a6,a7,a8]⟩,sk,nsx,stx,enx,sy⟩
  ·rw[hr]at j2 j0;simp only[Bool.false_eq_true,if_false,List.append_nil]at j0;go_wp2_with(first
    |(go_at_call 48;refine(j2.out _).mono ?_;rintro e w1⟨rfl,hf⟩)
    |(refine wpList_load_mid rfl 116 _ rfl g(i*14)rfl(Q7n pp a1 a2 a3 a4 a5 a6 a7 a8 sk(.slice no nsx.length nc)stx enx(.slice so sy.length sc))_ RG.out Tryz.underlying116 rfl Q1m ?_))
   go_roundw
   case rel =>
    refine⟨i+1,by go_num,by omega,?_,hfr.trans hf⟩;rw[j0.out];exact z0c HO.out(fun g hg=>hf.block g(j5.out g hg).2(fun x=>x))
   exact j8.out
  rw[hr]at j2 j0;simp only[if_true]at j0;go_wp2_with(first
   |(at_builtin;refine z0g _ rfl _ _ 107 rfl w.heap.size 111 i0 _ 9 16 Tryz.underlying107 hi0 hz0 hz1 hz2 rfl(by decide)_ _ _ rfl(ji.out.alloc _)⟨w1.heap.size,0,none⟩1 1(Q50 pp a1 a2 a3 a4 a5 a6 a7 a8)rfl rfl(z0l rfl)(by intro u hu;simp at hu;rcases hu with rfl|rfl|rfl|rfl|rfl|rfl|rfl|rfl|rfl<;>rfl)(by unfold maxLen;omega)(by omega)(by have:=hfr.size;simp;omega)?_)
   |(refine wpList_load_mid rfl 111 _ rfl g(i*14)rfl(Q50 pp a1 a2 a3 a4 a5 a6 a7 a8)_(ja.out _ hf)Tryz.underlying111 rfl Q2v ?_)
   |(go_at_call 48;refine(j2.out _).mono ?_;rintro e w1⟨rfl,hf⟩;have hz:wr.heap.size<=w1.heap.size:=hf.size;have ji:=hid(z0c HO.out(fun g hg=>hf.block g(j5.out g hg).2(fun x=>x))))
   |(refine wpList_load_mid rfl 116 _ rfl g(i*14)rfl(Q7n pp a1 a2 a3 a4 a5 a6 a7 a8 sk(.slice no nsx.length nc)stx enx(.slice so sy.length sc))_ RG.out Tryz.underlying116 rfl Q1m ?_))
  intro v' w2 hown2 hgrow hblk;have jh:Q0a w w2:=Mod.grown(S:=fun _=>False)((hfr.trans hf).alloc _)hgrow(fun k hk hlt=>by have:=(j5.out k hk).1;omega);have jj:=hid hown2;clear hown2 hgrow hblk;go_wp2;go_roundw
  case rel =>
   refine⟨i+1,by go_num,by omega,?_,jh⟩;rw[j0.out,z0y,List.length_append,List.length_singleton];exact jj.out
  exact j8.out
 have jd:i=xs.length:=by omega
 have jg:=jc.out jd;go_wp2;go_ret;refine⟨_,rfl,?_,hfr⟩;rw[← jg,HY.out];exact HO.out
def Q17:List Ln->List Wd->List Wd
 | [],hs=>hs
 |x::l,hs=>if Q1g x then Q17 l hs else if Q1p hs x.front.ls<hs.length then Q17 l hs else Q17 l(hs++[x.front])
def Q0i(lns:List Ln):List Wd:=Q17 lns []
theorem y2v(ds:List Wd)(ls:List Int):Q1p ds ls<=ds.length:=by unfold Q1p;exact List.findIdx_le_length
theorem x1q(w:World)(v:Value)(xs:List LV)(hL:Q1x w v xs)(hn:xs.length<=1000)(hfb:∀x∈xs,FB x) :
  Calls Tryz.prog 47#[v]w fun e w'=>∃v',e=.returned v'/\w'.ownsRow w.heap.size 111 9 v'(Q0i(xs.map LV.ln)).length(Q01 Wd.cells(Q0i(xs.map LV.ln)))/\Q0a w w'/\(∀d∈Q0i(xs.map LV.ln),d.ls.length=8)/\(Q0i(xs.map LV.ln)).length<=xs.length:=by
 obtain⟨ao,cap,hv⟩:=z0d hL.own;subst hv;have HL:=hid hL;have jg:=hid hfb;obtain⟨i0,hi0,hz0,hz1,hz2⟩:=infoWd';generalize hRES:Q0i(xs.map LV.ln)=RES;have HR:=hid hRES;clear hL hfb hRES;go_enter Tryz.func47,Tryz.ntmps47
 go_wp2;go_loopw [3,4,5,8](fun x3 _ _ x8 wr=>∃(i:Nat)(acc:List Wd),x8=.int .i64 i/\i<=xs.length/\acc.length<=i/\(∀d∈acc,d.ls.length=8)/\Q17((xs.drop i).map LV.ln)acc=RES/\wr.ownsRow w.heap.size 111 9 x3 acc.length(Q01 Wd.cells acc)/\Q0a w wr)
   (fun _ _ _ x _=>1001-(intOf x).toNat)
 case atStart=>exact⟨0,[],rfl,by omega,by simp,by simp,HR.out,World.ownsRow_nil _ _ _ _,mRf _ _⟩
 obtain⟨i,ys,rfl,hi,hlen,h8,hres,hown,hfr⟩:=hrel;have ja:=hid(Q2a(B:=1001)i(by omega));have HO:=hid hown;have j4:=hid hown.lt;have H8:=hid h8;obtain⟨ro,rc,hro⟩:=z0d hown;clear hown h8;subst hro;by_cases hlt:i<xs.length
 ·rw[qC hlt,List.map_cons]at hres;unfold Q17 at hres;obtain⟨g,cap',hv'⟩:=Q1d.ownsRow_form HL.out.own(by omega);rw[qI]at hv';obtain⟨rfl,_,rfl⟩:=hv';have j6:=hid(HL.out.fresh hfr);have j7:=j6.out.row.range i hlt;have hA:=j6.out.each xs[i](by simp);have j8:=jg.out xs[i](by simp);have j1:=fun w1(hf:Q0a wr w1)=>(j6.out.fresh hf).frontRange i hlt;generalize hX:xs[i]=x at hres j7 hA j8 j1;clear hX;have j9:=fun w=>z2v x w hA.front j8;have jd:Hid(Q1g x.ln=!headB x.ln.front):=rfl;rw[← jd.out]at j9;have jc:=fun(w:World)(v:Value)(h:Q33 w v ys)=>z4z w v ys x.ln.front h H8.out(by omega)hA.front;have jl:=hid hA.one;obtain⟨⟨⟨pp,ls⟩,sk,nsx,stx,enx,sy⟩,vn,vs⟩:=x;obtain⟨a1,a2,a3,a4,a5,a6,a7,a8,e8⟩:=Q6m hA.front;dsimp only at e8;subst e8;obtain⟨no,nc,hvn⟩:=z0d hA.nodes.own;obtain⟨so,sc,hvs⟩:=z0d hA.syms.own;dsimp only at hvn hvs;subst hvn;subst hvs;have RU:=hid j9;have RG:Hid(wr.rangeAt g(i*14)(Q7n pp a1 a2 a3 a4 a5 a6 a7 a8 sk(.slice no nsx.length nc)stx enx(.slice so sy.length sc))):=j7;have j5:Hid(∀w1,Q0a wr w1->w1.rangeAt g(i*14)(Q50 pp a1 a2 a3 a4 a5 a6 a7 a8)):=j1;have j2:Hid(∀w,Calls Tryz.prog 48#[.agg(lnArr pp a1 a2 a3 a4 a5 a6 a7 a8 sk(.slice no nsx.length nc)stx enx(.slice so sy.length sc))]w fun e w'=>e=.returned(.bool(Q1g⟨⟨pp,[a1,a2,a3,a4,a5,a6,a7,a8]⟩,sk,nsx,stx,enx,sy⟩))/\Q0a w w'):=RU.out;have FW:Hid(∀(w:World)(v:Value),Q33 w v ys->Calls Tryz.prog 81#[v,.agg(Q68 pp a1 a2 a3 a4 a5 a6 a7 a8)]w fun e w'=>e=.returned(.int .i64(Q1p ys [a1,a2,a3,a4,a5,a6,a7,a8]))/\Q0a w w'):=jc;clear j9 RU j7 j1 hA j8 jc;dsimp only at hres;cases hr:Q1g⟨⟨pp,[a1,a2,a3,a4,a5,a6,a7,a8]⟩,sk,nsx,stx,enx,sy⟩
  ·rw[hr]at j2 hres;simp only[Bool.false_eq_true,if_false]at hres;have je:=y2v ys [a1,a2,a3,a4,a5,a6,a7,a8];generalize Q1p ys [a1,a2,a3,a4,a5,a6,a7,a8]=wf at hres FW je;have jb:Hid(∀w1,Q0a wr w1->Q33 w1(.slice ro ys.length rc)ys):=fun w1 hf=>⟨z0f(z0c HO.out(fun g hg=>hf.block g(j4.out g hg).2(fun x=>x)))(Nat.zero_le _),fun x hx=>Wd.cells_len(H8.out x hx)⟩;by_cases hwf:wf<ys.length
   ·rw[if_pos hwf]at hres;have j0:=hid hres;have jm:((wf:Int)==(ys.length:Int))=false:=by simp;omega
    clear hres;go_wp2_with(first
     |(go_at_call 81;refine(FW.out _ _(jb.out _ hf)).mono ?_;rintro e w2⟨rfl,hf2⟩)
     |(refine wpList_load_mid rfl 111 _ rfl g(i*14)rfl(Q50 pp a1 a2 a3 a4 a5 a6 a7 a8)_(j5.out _ hf)Tryz.underlying111 rfl Q2v ?_)
     |(go_at_call 48;refine(j2.out _).mono ?_;rintro e w1⟨rfl,hf⟩)
     |(refine wpList_load_mid rfl 116 _ rfl g(i*14)rfl(Q7n pp a1 a2 a3 a4 a5 a6 a7 a8 sk(.slice no nsx.length nc)stx enx(.slice so sy.length sc))_ RG.out Tryz.underlying116 rfl Q1m ?_))
    go_roundw
    case rel =>
     refine⟨i+1,ys,by go_num,by omega,by omega,H8.out,j0.out,?_,(hfr.trans hf).trans hf2⟩;exact z0c HO.out(fun g hg=>(hf.trans hf2).block g(j4.out g hg).2(fun x=>x))
    exact ja.out
   rw[if_neg hwf]at hres;have j0:=hid hres;have jh:wf=ys.length:=by omega
   subst jh;clear hres;go_wp2_with(first
    |(at_builtin;refine z0g _ rfl _ _ 107 rfl w.heap.size 111 i0 _ 9 16 Tryz.underlying107 hi0 hz0 hz1 hz2 rfl(by decide)_ _ _ rfl(jj.out.alloc _)⟨w2.heap.size,0,none⟩1 1(Q50 pp a1 a2 a3 a4 a5 a6 a7 a8)rfl rfl(z0l rfl)(by intro u hu;simp at hu;rcases hu with rfl|rfl|rfl|rfl|rfl|rfl|rfl|rfl|rfl<;>rfl)(by unfold maxLen;omega)(by omega)(by have:=hfr.size;have:=hf.size;have:=hf2.size;simp;omega)?_)
    |(refine wpList_load_mid rfl 111 _ rfl g(i*14)rfl(Q50 pp a1 a2 a3 a4 a5 a6 a7 a8)_(j5.out _(hf.trans hf2))Tryz.underlying111 rfl Q2v ?_)
    |(go_at_call 81;refine(FW.out _ _(jb.out _ hf)).mono ?_;rintro e w2⟨rfl,hf2⟩;have jj:=hid(z0c HO.out(fun g hg=>(hf.trans hf2).block g(j4.out g hg).2(fun x=>x))))
    |(refine wpList_load_mid rfl 111 _ rfl g(i*14)rfl(Q50 pp a1 a2 a3 a4 a5 a6 a7 a8)_(j5.out _ hf)Tryz.underlying111 rfl Q2v ?_)
    |(go_at_call 48;refine(j2.out _).mono ?_;rintro e w1⟨rfl,hf⟩)
    |(refine wpList_load_mid rfl 116 _ rfl g(i*14)rfl(Q7n pp a1 a2 a3 a4 a5 a6 a7 a8 sk(.slice no nsx.length nc)stx enx(.slice so sy.length sc))_ RG.out Tryz.underlying116 rfl Q1m ?_))
   intro v' w3 hown2 hgrow hblk;have ji:Q0a w w3:=Mod.grown(S:=fun _=>False)(((hfr.trans hf).trans hf2).alloc _)hgrow(fun k hk hlt=>by have:=(j4.out k hk).1;omega);have jk:=hid hown2;clear hown2 hgrow hblk;go_wp2;go_roundw
   case rel =>
    refine⟨i+1,ys++[⟨pp,[a1,a2,a3,a4,a5,a6,a7,a8]⟩],by go_num,by omega,by simp;omega,?_,j0.out,?_,ji⟩
    ·intro d hd;simp only[List.mem_append,List.mem_singleton]at hd;rcases hd with hd|rfl
     ·exact H8.out d hd
     rfl
    rw[z0y,List.length_append,List.length_singleton];exact jk.out
   exact ja.out
  rw[hr]at j2 hres;simp only[if_true]at hres;have j0:=hid hres;clear hres;go_wp2_with(first
   |(go_at_call 48;refine(j2.out _).mono ?_;rintro e w1⟨rfl,hf⟩)
   |(refine wpList_load_mid rfl 116 _ rfl g(i*14)rfl(Q7n pp a1 a2 a3 a4 a5 a6 a7 a8 sk(.slice no nsx.length nc)stx enx(.slice so sy.length sc))_ RG.out Tryz.underlying116 rfl Q1m ?_))
  go_roundw
  case rel =>
   refine⟨i+1,ys,by go_num,by omega,by omega,H8.out,j0.out,?_,hfr.trans hf⟩;exact z0c HO.out(fun g hg=>hf.block g(j4.out g hg).2(fun x=>x))
  exact ja.out
 have jf:i=xs.length:=by omega
 rw[jf,List.drop_length]at hres;have j3:ys=RES:=hres;subst j3;clear hres;go_wp2;go_ret;exact⟨_,rfl,HO.out,hfr,H8.out,by omega⟩
def Q9l(names heads:List Wd)(d:Wd):Sy:=⟨Q3m d,if Q3m d then(Q1p heads d.ls:Int)else(Q1p names d.ls:Int)⟩
def Q75(names heads:List Wd)(x:Ln):Pr:=⟨(Q1p heads x.front.ls:Int),x.syms.map(Q9l names heads)⟩
theorem infoSy:(Tryz.prog.info? 69).map(fun i=>(i.zero,i.size,i.bytes))=some(some(.agg#[.bool false,.int .i64 0]),2,16):=by kernel_rfl
theorem infoSy':∃i,Tryz.prog.info? 69=some i/\i.zero=some(.agg#[.bool false,.int .i64 0])/\i.size=2/\i.bytes=16:=by
 have h:=infoSy;cases hq:Tryz.prog.info? 69 with
 |none=>simp[hq]at h
 |some i=>simp[hq]at h;exact⟨i,rfl,h.1,h.2.1,h.2.2⟩
theorem szSy2:(Tryz.prog.info? 69).map(·.size)=some 2:=by kernel_rfl
theorem szPr2:(Tryz.prog.info? 118).map(·.size)=some 2:=by kernel_rfl
theorem y2x(w:World)(x:LV)(vn vh:Value)(names heads:List Wd)(hA:x.At w)(hfb:∀d∈x.ln.syms,0<=d.ls.getD 0 0/\d.ls.getD 0 0<=255)(hsl:x.ln.syms.length<=1000)
  (hN:Q33 w vn names)(hN8:∀d∈names,d.ls.length=8)(hNl:names.length<=1000)(hH:Q33 w vh heads)(hH8:∀d∈heads,d.ls.length=8)(hHl:heads.length<=1000) :
  Calls Tryz.prog 49#[.agg x.cells.toArray,vn,vh]w fun e w'=>∃v',e=.returned(.agg#[.int .i64(Q75 names heads x.ln).head,v'])/\Q0a w w'/\w'.ownsRow w.heap.size 69 2 v'(Q75 names heads x.ln).syms.length(Q01 Sy.cells(Q75 names heads x.ln).syms):=by
 obtain⟨i0,hi0,iz0,iz1,iz2⟩:=infoSy';have FN:=hid(fun(w:World)(h:Q33 w vn names)(d:Wd)(hd:d.ls.length=8)=>z4z w vn names d h hN8(by omega)hd);have FH:=hid(fun(w:World)(h:Q33 w vh heads)(d:Wd)(hd:d.ls.length=8)=>z4z w vh heads d h hH8(by omega)hd);have HN:=hid hN;have HH:=hid hH;have jq:=hid hfb;have jv:∀d∈x.ln.syms,d.ls.length=8:=fun d hd=>by
  have:=hA.syms.wf d hd;simpa [Wd.cells]using this
 have jw:=hid jv;have j8:=hid hA.syms;have jg:=hid hA.front;have RG:Hid(∀o:Obj,((w.alloc(.cells x.cells.toArray 116(0,0))).alloc o).rangeAt w.heap.size 0 x.ln.front.cells):=by
  intro o j v hj;rw[Q0b(heap_alloc2_old _ _ _)];simp only[LV.cells,Nat.zero_add,List.getElem?_toArray];rw[List.getElem?_append_left(qS hj).1];exact hj
 obtain⟨so,sc,hvs⟩:=z0d hA.syms.own;have j4:x.cells.toArray[13]? = some(.slice so x.ln.syms.length sc):=by rw[LV.at13 hA.front,hvs]
 rw[hvs]at j8;generalize x.cells.toArray=xa at j4 RG;have jn:(Q75 names heads x.ln).head=(Q1p heads x.ln.front.ls:Int):=rfl;have jt:(Q75 names heads x.ln).syms=x.ln.syms.map(Q9l names heads):=rfl;rw[jn,jt,List.length_map];generalize hfw:Q1p heads x.ln.front.ls=hw;have jm:=hid hfw;generalize x.ln.front=fr at jg RG jm;generalize x.ln.syms=sy at jq jw j8 hsl j4;have ji:=hid j4;clear hA hfb hN hN8 hH hH8 jv hvs jn jt hfw j4;go_enter Tryz.func49,Tryz.ntmps49
 go_wp2_with(first
  |(go_at_call 81;refine(FH.out _(HH.out.fresh(((mRf _ w).alloc _).alloc _))fr jg.out).mono ?_;rw[jm.out];rintro e w1⟨rfl,hf1⟩;have jr:=hid(hf1.at(heap_alloc2_old _ _ _)(fun x=>x));have k4:=hid(hf1.at(heap_alloc2_new _ _ _)(fun x=>x));have j4:=Q0b jr.out 13;rw[ji.out]at j4;have jo:=hf1.size)
  |(refine wpList_load_mid rfl 111 _ rfl w.heap.size 0 rfl fr.cells _(RG.out _)Tryz.underlying111 rfl(by rw[Wd.cells_len jg.out];exact Q2v)?_))
 have k5:Hid(Q0a w w1):=Mod.trans(((mRf _ w).alloc _).alloc _)hf1;have k0:w.heap.size+2<=w1.heap.size:=by simp at jo;omega
 clear jr j4 jo;go_loopw [8,10,11,19](fun x8 _ _ x19 wr=>∃(i:Nat),x19=.int .i64 i/\i<=sy.length/\wr.ownsRow(w.heap.size+2)69 2 x8((sy.take i).map(Q9l names heads)).length(Q01 Sy.cells((sy.take i).map(Q9l names heads)))/\Q0a w wr/\wr.heap[w.heap.size+1]? = some(.cells#[.int .i64 0,.slice none 0 0]118(0,0))/\w.heap.size+2<=wr.heap.size)
   (fun _ _ _ x _=>1001-(intOf x).toNat)
 case atStart=>exact⟨0,rfl,by omega,World.ownsRow_nil _ _ _ _,k5.out,k4.out,k0⟩
 obtain⟨i,rfl,hi,hown,hfr,hb1,hzr⟩:=hrel;have ju:=hid(Q2a(B:=1001)i(by omega));have j7:=hid hb1;have k1:((sy.take i).map(Q9l names heads)).length<=1000:=by simp;omega
 have jx:Hid(∀hlt:i<sy.length,(sy.take(i+1)).map(Q9l names heads)=(sy.take i).map(Q9l names heads)++[Q9l names heads sy[i]]):=by
  intro hlt;rw[Q6g hlt,List.map_append,List.map_singleton]
 have jy:Hid(i=sy.length->(sy.take i)=sy):=fun h=>by rw[h,List.take_length]
 generalize hy:(sy.take i).map(Q9l names heads)=ys at *;have HY:=hid hy;have HO:=hid hown;have j5:=hid hown.lt;obtain⟨ro,rc,hro⟩:=z0d hown;clear hown hy hb1;subst hro;by_cases hlt:i<sy.length
 ·have k8:(i:Int)<(sy.length:Int):=by omega
  obtain⟨gs,sc',hv'⟩:=Q1d.ownsRow_form j8.out.own(by omega);rw[qI]at hv';obtain⟨rfl,_,rfl⟩:=hv';have jc:=(j8.out.fresh hfr).range i hlt;have j2:=jx.out hlt;have j6:=jw.out sy[i](by simp);have jl:=jq.out sy[i](by simp);have jk:=fun w=>z5k sy[i]w j6 jl;have j9:=fun w h=>FN.out w h sy[i]j6;have je:=fun w h=>FH.out w h sy[i]j6;rw[show Q9l names heads sy[i]=(⟨Q3m sy[i],if Q3m sy[i]then(Q1p heads sy[i].ls:Int)else(Q1p names sy[i].ls:Int)⟩:Sy)from rfl]at j2;generalize hX:sy[i]=d at jc j2 jk j9 je j6;clear hX jl;obtain⟨pp,ls⟩:=d;obtain⟨a1,a2,a3,a4,a5,a6,a7,a8,e8⟩:=Q6m j6;dsimp only at e8;subst e8;have RS:Hid(wr.rangeAt gs(i*9)(Q50 pp a1 a2 a3 a4 a5 a6 a7 a8)):=jc;have IH:Hid(∀w,Calls Tryz.prog 82#[.agg(Q68 pp a1 a2 a3 a4 a5 a6 a7 a8)]w fun e w'=>e=.returned(.bool(Q3m⟨pp,[a1,a2,a3,a4,a5,a6,a7,a8]⟩))/\Q0a w w'):=jk;have js:Hid(∀(w:World),Q33 w vn names->Calls Tryz.prog 81#[vn,.agg(Q68 pp a1 a2 a3 a4 a5 a6 a7 a8)]w fun e w'=>e=.returned(.int .i64(Q1p names [a1,a2,a3,a4,a5,a6,a7,a8]))/\Q0a w w'):=j9;have jp:Hid(∀(w:World),Q33 w vh heads->Calls Tryz.prog 81#[vh,.agg(Q68 pp a1 a2 a3 a4 a5 a6 a7 a8)]w fun e w'=>e=.returned(.int .i64(Q1p heads [a1,a2,a3,a4,a5,a6,a7,a8]))/\Q0a w w'):=je;dsimp only at j2;generalize Q3m⟨pp,[a1,a2,a3,a4,a5,a6,a7,a8]⟩=hb at j2 IH;generalize Q1p names [a1,a2,a3,a4,a5,a6,a7,a8]=wn at j2 js;generalize Q1p heads [a1,a2,a3,a4,a5,a6,a7,a8]=wh at j2 jp;have j1:=hid j2;clear jc j2 jk j9 je j6;cases hb
  ·simp only[Bool.false_eq_true,if_false]at j1;go_wp2_with(first
    |(at_builtin;refine z0g _ rfl _ _ 71 rfl(w.heap.size+2)69 i0 _ 2 16 Tryz.underlying71 hi0 iz0 iz1 iz2 rfl(by decide)_ _ _ rfl(jf.out.alloc _)⟨w3.heap.size,0,none⟩1 1 [.bool false,.int .i64 wn]rfl rfl(by have q:=@z0l(w3.setCell⟨w2.heap.size,1,none⟩(.int .i64 wn))#[.bool false,.int .i64 wn] [.bool false,.int .i64 wn]69 rfl;rw[Proofs.YtcpceafmlgaodaaGreat.heap_setCell_size]at q;exact q)(by intro u hu;simp at hu;rcases hu with rfl|rfl<;>rfl)(by unfold maxLen;omega)(by omega)(by simp;omega)?_)
    |(refine wpList_load_row rfl 69 _ rfl w2.heap.size rfl _ _ _ _ jd.out Tryz.underlying69 rfl szSy2 ?_)
    |(go_at_call 81;refine(js.out _(HN.out.fresh((hfr.trans(Mod.trans((mRf _ wr).alloc _)hf2)).alloc _))).mono ?_;rintro e w3⟨rfl,hf3⟩;have k6:w2.heap.size<w3.heap.size:=(by have:=hf3.size;simp at this;omega);have j3:=hid(hf3.at(z0a w2 _)(fun x=>x));have c2:=Q0b j3.out 1;have f2:=Q0h j3.out 1;have jd:Hid((w3.setCell⟨w2.heap.size,1,none⟩(.int .i64 wn)).heap[w2.heap.size]? = some(.cells#[.bool false,.int .i64 wn]69(0,0))):=(by unfold Hid;rw[zhs j3.out];rfl);have j0:Hid(Q0a wr(w3.setCell⟨w2.heap.size,1,none⟩(.int .i64 wn))):=(Mod.trans((Mod.trans((mRf _ wr).alloc _)hf2).alloc _)hf3).setCell(by intro q;dsimp only at q;omega)_;have jf:=hid(z0c HO.out(fun g hg=>j0.out.block g(j5.out g hg).2(fun x=>x))))
    |(refine wpList_load_row rfl 111 _ rfl wr.heap.size rfl _ _ _ _(z0b(hf2.at(z0a _ _)(fun x=>x)))Tryz.underlying111 rfl Q2v ?_)
    |(go_at_call 82;refine(IH.out _).mono ?_;rintro e w2⟨rfl,hf2⟩;have k3:wr.heap.size<w2.heap.size:=(by have:=hf2.size;simp at this;omega))
    |(refine wpList_load_row rfl 111 _ rfl wr.heap.size rfl _ _ _ _(z0a _ _)Tryz.underlying111 rfl Q2v ?_)
    |(refine wpList_load_mid rfl 111 _ rfl gs(i*9)rfl(Q50 pp a1 a2 a3 a4 a5 a6 a7 a8)_ RS.out Tryz.underlying111 rfl Q2v ?_))
   intro v' w4 hown2 hgrow hblk;have jb:Q0a w w4:=Mod.grown(S:=fun _=>False)((hfr.trans j0.out).alloc _)hgrow(fun k hk hlt=>by have:=(j5.out k hk).1;omega);have jh:Hid(w4.heap[w.heap.size+1]? = some(.cells#[.int .i64 0,.slice none 0 0]118(0,0))):=by
    unfold Hid;rw[hgrow.block(w.heap.size+1)(by have:=j0.out.size;simp;simp at this;omega)(fun e=>by have:=(j5.out _ e.symm).1;omega)];exact z0b(j0.out.at j7.out(fun x=>x))
   have ja:w.heap.size+2<=w4.heap.size:=by have h1:=hgrow.size;have h2:=j0.out.size;simp at h1 h2;omega
   have jj:=hid hown2;clear hown2 hgrow hblk;go_wp2;go_roundw
   case rel =>
    refine⟨i+1,by go_num,by omega,?_,jb,jh.out,ja⟩;rw[j1.out,z0y,List.length_append,List.length_singleton];exact jj.out
   exact ju.out
  simp only[if_true]at j1;go_wp2_with(first
   |(at_builtin;refine z0g _ rfl _ _ 71 rfl(w.heap.size+2)69 i0 _ 2 16 Tryz.underlying71 hi0 iz0 iz1 iz2 rfl(by decide)_ _ _ rfl(jf.out.alloc _)⟨w3.heap.size,0,none⟩1 1 [.bool true,.int .i64 wh]rfl rfl(by have q:=@z0l(w3.setCell⟨w2.heap.size,1,none⟩(.int .i64 wh))#[.bool true,.int .i64 wh] [.bool true,.int .i64 wh]69 rfl;rw[Proofs.YtcpceafmlgaodaaGreat.heap_setCell_size]at q;exact q)(by intro u hu;simp at hu;rcases hu with rfl|rfl<;>rfl)(by unfold maxLen;omega)(by omega)(by simp;omega)?_)
   |(refine wpList_load_row rfl 69 _ rfl w2.heap.size rfl _ _ _ _ jd.out Tryz.underlying69 rfl szSy2 ?_)
   |(go_at_call 81;refine(jp.out _(HH.out.fresh((hfr.trans(Mod.trans((mRf _ wr).alloc _)hf2)).alloc _))).mono ?_;rintro e w3⟨rfl,hf3⟩;have k6:w2.heap.size<w3.heap.size:=(by have:=hf3.size;simp at this;omega);have j3:=hid(hf3.at(z0a w2 _)(fun x=>x));have c2:=Q0b j3.out 1;have f2:=Q0h j3.out 1;have jd:Hid((w3.setCell⟨w2.heap.size,1,none⟩(.int .i64 wh)).heap[w2.heap.size]? = some(.cells#[.bool true,.int .i64 wh]69(0,0))):=(by unfold Hid;rw[zhs j3.out];rfl);have j0:Hid(Q0a wr(w3.setCell⟨w2.heap.size,1,none⟩(.int .i64 wh))):=(Mod.trans((Mod.trans((mRf _ wr).alloc _)hf2).alloc _)hf3).setCell(by intro q;dsimp only at q;omega)_;have jf:=hid(z0c HO.out(fun g hg=>j0.out.block g(j5.out g hg).2(fun x=>x))))
   |(refine wpList_load_row rfl 111 _ rfl wr.heap.size rfl _ _ _ _(z0b(hf2.at(z0a _ _)(fun x=>x)))Tryz.underlying111 rfl Q2v ?_)
   |(go_at_call 82;refine(IH.out _).mono ?_;rintro e w2⟨rfl,hf2⟩;have k3:wr.heap.size<w2.heap.size:=(by have:=hf2.size;simp at this;omega))
   |(refine wpList_load_row rfl 111 _ rfl wr.heap.size rfl _ _ _ _(z0a _ _)Tryz.underlying111 rfl Q2v ?_)
   |(refine wpList_load_mid rfl 111 _ rfl gs(i*9)rfl(Q50 pp a1 a2 a3 a4 a5 a6 a7 a8)_ RS.out Tryz.underlying111 rfl Q2v ?_))
  intro v' w4 hown2 hgrow hblk;have jb:Q0a w w4:=Mod.grown(S:=fun _=>False)((hfr.trans j0.out).alloc _)hgrow(fun k hk hlt=>by have:=(j5.out k hk).1;omega);have jh:Hid(w4.heap[w.heap.size+1]? = some(.cells#[.int .i64 0,.slice none 0 0]118(0,0))):=by
   unfold Hid;rw[hgrow.block(w.heap.size+1)(by have:=j0.out.size;simp;simp at this;omega)(fun e=>by have:=(j5.out _ e.symm).1;omega)];exact z0b(j0.out.at j7.out(fun x=>x))
  have ja:w.heap.size+2<=w4.heap.size:=by have h1:=hgrow.size;have h2:=j0.out.size;simp at h1 h2;omega
  have jj:=hid hown2;clear hown2 hgrow hblk;go_wp2;go_roundw
  case rel =>
   refine⟨i+1,by go_num,by omega,?_,jb,jh.out,ja⟩;rw[j1.out,z0y,List.length_append,List.length_singleton];exact jj.out
  exact ju.out
 have jz:i=sy.length:=by omega
 have k2:=jy.out jz;have k7:¬(i:Int)<(sy.length:Int):=by omega
 go_wp2_with(first
  |(refine wpList_store_row rfl 118 _ _ rfl(w.heap.size+1)#[.int .i64 hw,.slice ro ys.length rc]rfl rfl _ _ j7.out szPr2 rfl(all_oneCell_toArray(cs:=[.int .i64 hw,.slice ro ys.length rc])(by intro v hv;simp at hv;rcases hv with rfl|rfl<;>rfl))?_))
 refine bodyPost_ret(results_cell_row rfl _ _(w.heap.size+1)118#[.int .i64 hw,.slice ro ys.length rc](0,0)_ rfl(setRow_heap _ _ _ _ _ _ j7.out)Tryz.underlying118 rfl szPr2)rfl⟨_,rfl,hfr.setRow(by simp)_,?_⟩;rw[k2]at HY;have e1:(List.map(Q9l names heads)sy)=ys:=HY.out;have e2:sy.length=ys.length:=by rw[← e1];simp
 rw[e1,e2];exact z0f(z0c HO.out(fun g hg=>setRow_other _ _ _ _(by have:=(j5.out g hg).1;omega)))(by omega)
def Q06(lns:List Ln):List Ln:=lns.filter fun x=>!ruleB x
def Q0r(lns:List Ln):List Pr:=(Q06 lns).map(Q75(Q0g lns)(Q0i lns))
theorem infoPr:(Tryz.prog.info? 118).map(fun i=>(i.zero,i.size,i.bytes))=some(some(.agg#[.int .i64 0,.slice none 0 0]),2,32):=by kernel_rfl
theorem infoPr':∃i,Tryz.prog.info? 118=some i/\i.zero=some(.agg#[.int .i64 0,.slice none 0 0])/\i.size=2/\i.bytes=32:=by
 have h:=infoPr;cases hq:Tryz.prog.info? 118 with
 |none=>simp[hq]at h
 |some i=>simp[hq]at h;exact⟨i,rfl,h.1,h.2.1,h.2.2⟩
theorem Q9r:(Tryz.prog.info? 41).map(·.size)=some 3:=by kernel_rfl
abbrev Q74(w:World)(base:Nat)(v:Value)(l:List Sy):Prop:=w.ownsRow base 69 2 v l.length(Q01 Sy.cells l)
theorem Q74.at'{w:World}{base:Nat}{v:Value}{l:List Sy}(h:Q74 w base v l):Q59 w w.heap.size v l:=by
 obtain⟨ao,cap,hv⟩:=z0d h;have hr:Q2k Sy.cells 2 69 w v l:=⟨z0f h(Nat.zero_le _),fun x _=>rfl⟩;have j0:=h.lt;rcases h.2 with⟨h1,h2⟩|⟨g,cap',cur,h1,h2,h3,h4,h5,_⟩
 ·subst h1;have:l=[]:=List.eq_nil_of_length_eq_zero h2;subst this;exact⟨none,0,rfl,by simp,by unfold maxLen;omega,fun i hi=>by simp at hi⟩
 subst h1;refine⟨some⟨g,0,none⟩,cap',rfl,h4,h5,fun i hi=>⟨g,0,rfl,(j0 g rfl).2,?_⟩⟩;rw[Nat.zero_add];exact hr.range i hi
structure PRel(w wr:World)(B:Nat)(v:Value)(pvs:List PV):Prop where
 base:w.heap.size+1<=B
 own:wr.ownsRow B 118 2 v pvs.length(Q01 PV.cells pvs)
 each:∀p∈pvs,Q74 wr 0 p.vs p.pr.syms
 dis:∀p∈pvs,∀k,v.ownBlock=some k->p.vs.ownBlock≠some k
 fresh:Q0a w wr
 blk:wr.heap[w.heap.size]? = some(.cells#[.int .i64 0,.int .i64 0,.slice none 0 0]41(0,0))
theorem PRel.fresh'{w wr w1:World}{B:Nat}{v:Value}{pvs:List PV}(h:PRel w wr B v pvs)(hf:Q0a wr w1):PRel w w1 B v pvs :=
 ⟨h.base,z0c h.own(fun g hg=>hf.block g(h.own.lt g hg).2(fun x=>x)),fun p hp=>z0c(h.each p hp)(fun g hg=>hf.block g((h.each p hp).lt g hg).2(fun x=>x)),h.dis,h.fresh.trans hf,hf.at h.blk(fun x=>x)⟩
theorem PRel.next{w wr W w2:World}{B:Nat}{v v':Value}{pvs:List PV}{p:PV}(h:PRel w wr B v pvs)(hf:Q0a wr W)(hp:Q74 W wr.heap.size p.vs p.pr.syms)
  (hown:w2.ownsRow B 118 2 v'(pvs.length+1)(Q01 PV.cells pvs++p.cells))(hg:W.grownBy w2 v.ownBlock)
  (hblk:∀k,v'.ownBlock=some k->v.ownBlock=some k∨W.heap.size<=k):PRel w w2 B v'(pvs++[p]):=by
 have hW:=h.fresh' hf;have j1:∀k,v.ownBlock=some k->k<wr.heap.size:=fun k hk=>(h.own.lt k hk).2;have j0:∀k,v.ownBlock=some k->w.heap.size+1<=k:=fun k hk=>Nat.le_trans h.base(h.own.lt k hk).1;have j2:∀k,v.ownBlock=some k->p.vs.ownBlock≠some k:=fun k hk e=>by
  have h1:=(hp.lt k e).1;have h2:=j1 k hk;omega
 refine⟨h.base,?_,?_,?_,?_,?_⟩
 ·rw[z0y,List.length_append,List.length_singleton];exact hown
 ·intro q hq;simp only[List.mem_append,List.mem_singleton]at hq;rcases hq with hq|rfl
  ·exact z0c(hW.each q hq)(fun g hgq=>hg.block g((hW.each q hq).lt g hgq).2(fun e=>h.dis q hq g e.symm hgq))
  exact z0f(z0c hp(fun g hgq=>hg.block g(hp.lt g hgq).2(fun e=>j2 g e.symm hgq)))(Nat.zero_le _)
 ·intro q hq k hk e;simp only[List.mem_append,List.mem_singleton]at hq;rcases hblk k hk with h1|h1
  ·rcases hq with hq|rfl
   ·exact h.dis q hq k h1 e
   exact j2 k h1 e
  rcases hq with hq|rfl
  ·have:=((hW.each q hq).lt k e).2;omega
  have:=(hp.lt k e).2;omega
 ·exact Mod.grown(S:=fun _=>False)hW.fresh hg(fun k hk hlt=>by have:=j0 k hk;omega)
 rw[hg.block _(z0j hW.blk)(fun e=>by have:=j0 _ e.symm;omega)];exact hW.blk
theorem PRel.prs{w wr:World}{B:Nat}{v:Value}{pvs:List PV}(h:PRel w wr B v pvs)(cs:Array Value):Q3p(wr.setRow w.heap.size cs)(wr.setRow w.heap.size cs).heap.size v pvs:=by
 have j0:(wr.setRow w.heap.size cs).heap.size=wr.heap.size:=by simp
 have j1:∀p∈pvs,∀g,p.vs.ownBlock=some g->g≠w.heap.size:=fun p hp g hg e=>by
  rcases(h.each p hp).2 with⟨h1,_⟩|⟨g',cap,cur,h1,_,h3,_⟩
  ·rw[h1]at hg;cases hg
  rw[h1]at hg;simp[Value.ownBlock]at hg;subst hg;subst e;rw[h.blk]at h3;simp at h3
 refine⟨⟨z0f(z0c h.own(fun g hg=>setRow_other _ _ _ _(by have:=(h.own.lt g hg).1;have:=h.base;omega)))(Nat.zero_le _),fun x _=>rfl⟩,fun g hg=>?_,fun p hp=>?_⟩
 ·rw[j0];exact(h.own.lt g hg).2
 exact Q74.at'(base:=0)(z0c(h.each p hp)(fun g hg=>setRow_other _ _ _ _(j1 p hp g hg)))
def TabRet(lns:List Ln)(w:World)(e:Ending)(w':World):Prop :=
 ∃vp pvs,e=.returned(.agg#[.int .i64(Q0g lns).length,.int .i64(Q0i lns).length,vp])/\Q0a w w'/\pvs.map PV.pr=Q0r lns/\Q3p w' w'.heap.size vp pvs
end Go.Proofs.YtcpceafmlgaodaaGreat
