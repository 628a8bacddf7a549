import Derived.Test.YtcpceafmlgaodaaGreatMua
namespace Go.Proofs.YtcpceafmlgaodaaGreat
open Go.RowKit
set_option maxRecDepth 99999
set_option maxHeartbeats 0
set_option linter.all false
def Q0p(hs:List Hd)(ps:List Pr):List (List Bool):=ps.map fun p=>Q8b hs p.head p.syms
abbrev Q8s(w:World)(base:Nat)(v:Value)(al:List (List Bool)):Prop:=w.ownsRow base 130 9 v al.length (Q00 bls al)
theorem infoTk:(Tryz.prog.info? 130).map (fun i=>(i.zero,i.size,i.bytes))=some (some (.agg (tkA zero9)),9,9):=by kernel_rfl
theorem infoTk':∃i,Tryz.prog.info? 130=some i/\i.zero=some (.agg (tkA zero9))/\i.size=9/\i.bytes=9:=nfoE infoTk
abbrev Q21(a0 a1 a2 a3 a4 a5 a6 a7 a8:Bool):Array Value:=#[.bool a0,.bool a1,.bool a2,.bool a3,.bool a4,.bool a5,.bool a6,.bool a7,.bool a8]
theorem x1g(l:List Bool):∀u∈bls l,u.oneCell'=true:=by
 intro u hu;simp[bls]at hu;rcases hu with⟨_,rfl⟩|⟨_,rfl⟩<;>rfl
theorem z55(w:World)(b:Nat)(R H:Int)(vp vh:Value)(ps:List PV)(hs:List Hd)(h:FA w b R H vp vh ps hs)(hps:ps.length<=1000) :
  Calls Tryz.prog 51 #[Q25 b] w fun e w'=>∃v,e=.returned v/\Q0a w w'/\Q8s w' w.heap.size v (Q0p hs (Q0j ps)):=by
 have jd:=hid h;obtain⟨i0,hi0,iz0,iz1,iz2⟩:=infoTk';obtain⟨ao,cap,hv⟩:=z0d h.prs.row.own;subst hv;have k2:=h.cell 2;simp at k2;clear h;go_enter Tryz.func51,Tryz.ntmps51
 go_wp2;go_loopw [3,5,6,7,8,15] (fun x3 _ _ _ _ x15 wr=>∃(i:Nat),x15=.int .i64 i/\i<=ps.length/\Q8s wr w.heap.size x3 (Q0p hs (Q0j (ps.take i)))/\Q0a w wr)
   (fun _ _ _ _ _ x _=>ps.length+1-(intOf x).toNat)
 case atStart=>exact⟨0,rfl,by omega,World.ownsRow_nil _ _ _ _,mRf _ w⟩
 obtain⟨i,rfl,hi,hown,hfr⟩:=hrel;have jb:=hid (Q15 (B:=ps.length+1) i (by omega));have j4:=hid hfr;have hF:=jd.fresh hfr;have HF:=hid hF;have jh:(Q0p hs (Q0j (ps.take i))).length<=1000:=by simp[Q0p,Q0j];omega
 have je:Hid (i=ps.length->ps.take i=ps):=fun e=>by rw[e,qAr]
 have jf:Hid (∀hlt:i<ps.length,Q0p hs (Q0j (ps.take (i+1)))=Q0p hs (Q0j (ps.take i))++[Q8b hs ps[i].pr.head ps[i].pr.syms]):=fun hlt=>by
  rw[Q6g hlt];unfold Q0p Q0j;rw[qBf,qBf];rfl
 generalize hy:Q0p hs (Q0j (ps.take i))=ys at *;have HY:=hid hy;have HO:=hid hown;have j7:=hid hown.lt;obtain⟨ro,rc,hro⟩:=z0d hown;subst hro;clear hown hy;by_cases hlt:i<ps.length
 ·have jm:(i:Int)<(ps.length:Int):=by omega
  obtain⟨gp,cap',hv'⟩:=Joins.ownsRow_form hF.prs.row.own (by omega);rw[qI]at hv';obtain⟨rfl,_,rfl⟩:=hv';have RG:Hid (wr.rangeAt gp (i*2) [.int .i64 ps[i].pr.head,ps[i].vs]):=hF.prs.row.range i hlt;have jl:=hF.size;have j5:=hid (hF.fresh ((mRf _ wr).alloc (.cells #[.int .i64 ps[i].pr.head,ps[i].vs] 118 (0,0))));have j6:=hid (j5.prs.syms ps[i] (by simp));have j0:=jf.out hlt;generalize ps[i].pr=pr at j0 RG j6 j5;generalize ps[i].vs=pvs at RG j6 j5;obtain⟨ph,psy⟩:=pr;dsimp only at j0 RG j6 j5;obtain⟨sao,scap,hsv,_⟩:=j6.out;subst hsv;have j1:=hid (z09 hF.ok psy zero9 rfl);have j2:=hid (z0k hF.ok ph);have BA:=hid (z52 _ b R H _ vh ps hs b _ psy j5.out (by simp;omega) j6.out);have GA:=hid (fun w (h:FA w b R H (.slice (some ⟨gp,0,none⟩) ps.length cap) vh ps hs)=>z4i w b R H _ vh ps hs ph h);unfold Q8b at j0;generalize Q2m hs psy zero9=bg at j0 j1 BA;generalize Q1i hs ph=hd at j0 j2 GA;obtain⟨bg1,bg2⟩:=bg;dsimp only at j0 j1 BA;clear hF hfr;cases bg2
  ·simp only[qF,qAp]at j0;have j3:=hid j0;obtain⟨a0,a1,a2,a3,a4,a5,a6,a7,a8,e9⟩:=Q7a j1.out;subst e9;clear j0;go_wp2_with (first
    |(at_builtin;refine z0g _ rfl _ _ 122 rfl w.heap.size 130 i0 _ 9 9 Tryz.underlying122 hi0 iz0 iz1 iz2 rfl (by decide) _ _ _ rfl (j8.alloc _) ⟨w1.heap.size+1,0,none⟩ 1 1 (bls [a0,a1,a2,a3,a4,a5,a6,a7,a8]) rfl rfl (z2s rfl) (x1g _) (by unfold maxLen;omega) (by omega) (by have h3:=j4.size;have h4:=hf1.size;simp at h4;simp;omega) ?_)
    |(refine wpList_load_row rfl 130 _ rfl w1.heap.size rfl _ (Q21 a0 a1 a2 a3 a4 a5 a6 a7 a8) _ _ (z0a _ _) Tryz.underlying130 rfl Q7s ?_)
    |(refine z0e rfl 130 _ _ rfl w1 _ (Q21 a0 a1 a2 a3 a4 a5 a6 a7 a8) _ rfl rfl rfl Q7s rfl (z1g [a0,a1,a2,a3,a4,a5,a6,a7,a8]) ?_)
    |(go_at_call 53;refine BA.mono ?_;rintro e w1⟨rfl,hf1⟩;have j8:=hid ((z0c HO.out (fun g hg=>(Mod.trans ((mRf (fun _=>False) wr).alloc _) hf1).block g (j7.out g hg).2 (fun x=>x))).alloc (.cells (Q21 a0 a1 a2 a3 a4 a5 a6 a7 a8) 130 (0,0))))
    |(refine wpList_load_mid rfl 118 _ rfl gp (i*2) rfl [.int .i64 ph,.slice sao psy.length scap] _ RG.out Tryz.underlying118 rfl Q98 ?_))
   intro v' w5 hown2 hgrow hblk;have ja:Q0a w w5:=Mod.grown (S:=fun _=>False) (((j4.alloc _).trans hf1).alloc _ |>.alloc _) hgrow (fun k hk hlt=>by have:=(j7.out k hk).1;omega);have j9:=hid hown2;clear hown2 hgrow hblk;go_wp2;go_roundw
   case rel =>
    refine⟨i+1,by go_num,by omega,?_,ja⟩;unfold Q8s;rw[j3.out,z0y,qP,qAf];exact j9.out
   exact jb.out
  simp only[qBb]at j0;have jc:=hid (z04 j1.out j2.fo);have TU:=hid (fun w=>z1b w bg1 hd.fo j1.out j2.fo);generalize orL bg1 hd.fo=OO at j0 jc TU;have j3:=hid j0;obtain⟨a0,a1,a2,a3,a4,a5,a6,a7,a8,e9⟩:=Q7a jc.out;subst e9;clear j0;go_wp2_with (first
   |(at_builtin;refine z0g _ rfl _ _ 122 rfl w.heap.size 130 i0 _ 9 9 Tryz.underlying122 hi0 iz0 iz1 iz2 rfl (by decide) _ _ _ rfl (j8.alloc _) ⟨w3.heap.size,0,none⟩ 1 1 (bls [a0,a1,a2,a3,a4,a5,a6,a7,a8]) rfl rfl (by have q:=@z0l (w3.setRow w1.heap.size (Q21 a0 a1 a2 a3 a4 a5 a6 a7 a8)) (Q21 a0 a1 a2 a3 a4 a5 a6 a7 a8) (bls [a0,a1,a2,a3,a4,a5,a6,a7,a8]) 130 rfl;rw[ji]at q;exact q) (x1g _) (by unfold maxLen;omega) (by omega) (by have h3:=j4.size;have h4:=f3.size;simp at h4;simp;omega) ?_)
   |(refine wpList_load_row rfl 130 _ rfl w1.heap.size rfl _ (Q21 a0 a1 a2 a3 a4 a5 a6 a7 a8) _ _ jk.out Tryz.underlying130 rfl Q7s ?_)
   |(refine wpList_store_row rfl 130 _ _ rfl w1.heap.size (Q21 a0 a1 a2 a3 a4 a5 a6 a7 a8) rfl rfl _ _ t3.out Q7s (Q0k (z0u j1.out) rfl) (z1g [a0,a1,a2,a3,a4,a5,a6,a7,a8]) ?_)
   |(go_at_call 54;refine(TU.out _).mono ?_;rintro e w3⟨rfl,hf3⟩;have t3:=hid (hf3.at (z0b t2.out) (fun x=>x));have f3:Hid (Q0a wr (w3.setRow w1.heap.size (Q21 a0 a1 a2 a3 a4 a5 a6 a7 a8))):=(Mod.trans (f2.alloc _) hf3).setRow (by intro q;omega) _;have jk:=hid (setRow_heap _ _ _ (Q21 a0 a1 a2 a3 a4 a5 a6 a7 a8) _ _ t3.out);have ji:(w3.setRow w1.heap.size (Q21 a0 a1 a2 a3 a4 a5 a6 a7 a8)).heap.size=w3.heap.size:=(by simp);have j8:=hid (z0c HO.out (fun g hg=>f3.block g (j7.out g hg).2 (fun x=>x))))
   |(refine wpList_load_mid rfl 130 _ rfl w2.heap.size 12 rfl (bls hd.fo) _ (Q4o j2.out (z0a _ _)) Tryz.underlying130 rfl (Q5j j2.fo) ?_)
   |(refine wpList_load_row rfl 130 _ rfl w1.heap.size rfl _ _ _ _ (z0b t2.out) Tryz.underlying130 rfl (Q0s j1.out) ?_)
   |(refine z0e rfl 179 _ _ rfl w2 _ (hdA hd) _ rfl rfl rfl (Q1n j2.out) (Q0k rfl (z07 j2.out)) (z1t _) ?_)
   |(go_at_call 84;refine(GA.out _ (HF.fresh (f1.alloc _))).mono ?_;rintro e w2⟨rfl,hf2⟩;have jp:w1.heap.size<w2.heap.size:=(by have:=hf2.size;simp at this;omega);have f2:Hid (Q0a wr w2):=Mod.trans (f1.alloc _) hf2;have t2:=hid (hf2.at (z0a w1 _) (fun x=>x)))
   |(refine z0e rfl 130 _ _ rfl w1 _ (tkA bg1) _ rfl rfl rfl (Q0s j1.out) (Q0k rfl (z0u j1.out)) (z1g _) ?_)
   |(go_at_call 53;refine BA.mono ?_;rintro e w1⟨rfl,hf1⟩;have jo:wr.heap.size<w1.heap.size:=(by have:=hf1.size;simp at this;omega);have f1:Hid (Q0a wr w1):=Mod.trans ((mRf _ wr).alloc _) hf1;have k1:(w1.alloc (.cells (tkA bg1) 130 (0,0))).cell? ⟨wr.heap.size,0,none⟩=some (.int .i64 ph):=(by rw[Q0b (z0b (hf1.at (z0a _ _) (fun x=>x))) 0];rfl))
   |(refine wpList_load_mid rfl 118 _ rfl gp (i*2) rfl [.int .i64 ph,.slice sao psy.length scap] _ RG.out Tryz.underlying118 rfl Q98 ?_))
  intro v' w5 hown2 hgrow hblk;have ja:Q0a w w5:=Mod.grown (S:=fun _=>False) ((j4.trans f3.out).alloc _) hgrow (fun k hk hlt=>by have:=(j7.out k hk).1;omega);have j9:=hid hown2;clear hown2 hgrow hblk;go_wp2;go_roundw
  case rel =>
   refine⟨i+1,by go_num,by omega,?_,ja⟩;unfold Q8s;rw[j3.out,z0y,qP,qAf];exact j9.out
  exact jb.out
 have jg:i=ps.length:=by omega
 have jn:¬(i:Int)<(ps.length:Int):=by omega
 have jj:=je.out jg;clear hF hfr;go_wp2;go_ret;refine⟨_,rfl,j4.out,?_⟩;rw[← jj,HY.out];exact HO.out
def ldT(v:Value):Sem Value:=Instr.loadAt 130 v
theorem x6e(v:Value):Instr.loadAt 130 v=ldT v:=rfl
theorem x9s{w:World}{g o:Nat}{l:List Bool}(hl:l.length=9)(hr:w.rangeAt g o (bls l)):(ldT (.pointer (some ⟨g,o,none⟩))).run Tryz.prog w=.ok (.agg (tkA l)) w :=
 run_loadAt_mid w g o _ _ _ hr Tryz.underlying130 rfl (Q5j hl)
def ovL(n t:Int):List (Pr × List Bool)->Nat->List Int
 | [],_=>[]
 |p::l,i=>if p.1.head=n/\Q8y p.2 t=true then(i:Int)::ovL n t l (i+1) else ovL n t l (i+1)
theorem y6t(n t:Int):∀(l:List (Pr × List Bool)) (i:Nat),(ovL n t l i).length<=l.length
 | [],_=>by simp[ovL]
 |p::l,i=>by
  unfold ovL;have:=y6t n t l (i+1);split<;>simp<;>omega
attribute [local go_sem ↓] x6e
theorem z6g(w:World)(R H:Int)(vp:Value)(ps:List PV)(hp:Q3c w w.heap.size vp ps)(hps:ps.length<=1000)(va:Value)(al:List (List Bool))(base:Nat)(ha:Q8s w base va al)(hal:al.length=ps.length)(ha9:∀a∈al,a.length=9)(n t:Int) :
  Calls Tryz.prog 52 #[.agg #[.int .i64 R,.int .i64 H,vp],va,.int .i64 n,.int .i64 t] w fun e w'=>∃v,e=.returned v/\Q0a w w'/\IntOwn w' w.heap.size v (ovL n t ((Q0j ps).zip al) 0):=by
 obtain⟨i0,hi0,iz0,iz1,iz2⟩:=infoI';have HP:=hid hp;obtain⟨pa,pc,hvp⟩:=z0d hp.row.own;subst hvp;obtain⟨aa,ac,hva⟩:=z0d ha;subst hva;have jd:Hid (Q2e bls 9 130 w (.slice aa al.length ac) al):=⟨z0f ha (qBg _),fun x hx=>by simp[bls,ha9 x hx]⟩;have jc:=hid ha9;generalize hR:ovL n t ((Q0j ps).zip al) 0=RES;have HR:=hid hR;rw[hal];have j4:=hid hal;clear hp ha ha9 hR hal;go_enter Tryz.func52,Tryz.ntmps52
 go_wp2;go_loopw [9,10,11,15] (fun x9 _ _ x15 wr=>∃(i:Nat) (acc:List Int),x15=.int .i64 i/\i<=ps.length/\acc.length<=i/\acc++ovL n t (((Q0j ps).zip al).drop i) i=RES/\IntOwn wr w.heap.size x9 acc/\Q0a w wr)
   (fun _ _ _ x _=>1001-(intOf x).toNat)
 case atStart=>exact⟨0,[],rfl,by omega,by simp,HR.out,World.ownsRow_nil _ _ _ _,(mRf _ w).alloc _⟩
 obtain⟨i,acc,rfl,hi,hacc,hres,hown,hfr⟩:=hrel;have j5:=hid (Q15 (B:=1001) i (by omega));have j1:=hid hfr;have HO:=hid hown;have j6:=hid hown.lt;obtain⟨ro,rc,hro⟩:=z0d hown;subst hro;clear hown;by_cases hlt:i<ps.length
 ·have jh:(i:Int)<(ps.length:Int):=by omega
  have j8:i<al.length:=by have:=j4.out;omega
  have jb:i<((Q0j ps).zip al).length:=by have:=j4.out;simp[Q0j];omega
  rw[qC jb]at hres;have ja:((Q0j ps).zip al)[i]=(ps[i].pr,al[i]):=by simp[Q0j]
  rw[ja]at hres;unfold ovL at hres;dsimp only at hres;have j3:=HP.kept (qR _) hfr (fun _ _ x=>x);obtain⟨gp,cap',hv'⟩:=Joins.ownsRow_form j3.row.own (by omega);rw[qI]at hv';obtain⟨rfl,_,rfl⟩:=hv';have RG:Hid (wr.rangeAt gp (i*2) [.int .i64 ps[i].pr.head,ps[i].vs]):=j3.row.range i hlt;obtain⟨sao,scap,hsv,_⟩:=j3.syms ps[i] (by simp);have j7:=(jd.fresh hfr);obtain⟨ga,ac',hva'⟩:=Joins.ownsRow_form j7.own (by omega);rw[qI]at hva';obtain⟨rfl,_,rfl⟩:=hva';have j9:=j7.range i j8;have h9:=jc.out al[i] (by simp);have TH:=hid (fun w=>x7o w al[i] t h9);generalize hpl:ps[i].pr.syms.length=pl at hsv;generalize ps[i].pr.head=ph at hres RG;rw[hsv]at RG;have l1:(ldT (.pointer (some ⟨ga,i*9,none⟩))).run Tryz.prog (wr.alloc (.cells #[.int .i64 ph,.slice sao pl scap] 118 (0,0)))=.ok (.agg (tkA al[i])) (wr.alloc (.cells #[.int .i64 ph,.slice sao pl scap] 118 (0,0))) :=
   x9s h9 (World.rangeAt_alloc j9 _)
  generalize al[i]=ai at hres TH l1;have b4:decide ((i:Int)<(ps.length:Int))=true:=by simpa using jh
  clear j3 j7 j9 h9 hfr ja j8 jb;by_cases hh:ph=n
  ·subst hh;generalize Q8y ai t=tv at hres TH;cases tv
   ·rw[qAa (by simp)]at hres;have j0:=hid hres;clear hres;go_wp2_with (first
     |(go_at_call 85;refine(TH.out _).mono ?_;rintro e w1⟨rfl,hf1⟩)
     |(refine wpList_load_mid rfl 118 _ rfl gp (i*2) rfl [.int .i64 ph,.slice sao pl scap] _ RG.out Tryz.underlying118 rfl Q98 ?_))
    go_roundw
    case rel =>
     refine⟨i+1,acc,by go_num,by omega,by omega,j0.out,?_,(j1.alloc _).trans hf1⟩;exact z0c HO.out (fun g hg=>(Mod.trans ((mRf (fun _=>False) wr).alloc _) hf1).block g (j6.out g hg).2 (fun x=>x))
    exact j5.out
   rw[qAb ⟨rfl,rfl⟩]at hres;have j0:=hid hres;clear hres;go_wp2_with (first
    |(at_builtin;refine z0g _ rfl _ _ 22 rfl w.heap.size 3 i0 _ 1 8 Tryz.underlying22 hi0 iz0 iz1 iz2 rfl (by decide) _ _ _ rfl (je.alloc _) ⟨w1.heap.size,0,none⟩ 1 1 [.int .i64 i] rfl rfl (z0l rfl) (by intro u hu;simp at hu;subst hu;rfl) (by unfold maxLen;omega) (by omega) (by have h3:=j1.size;have h4:=hf1.size;simp at h4;simp;omega) ?_)
    |(go_at_call 85;refine(TH.out _).mono ?_;rintro e w1⟨rfl,hf1⟩;have je:=hid (z0c HO.out (fun g hg=>(Mod.trans ((mRf (fun _=>False) wr).alloc _) hf1).block g (j6.out g hg).2 (fun x=>x))))
    |(refine wpList_load_mid rfl 118 _ rfl gp (i*2) rfl [.int .i64 ph,.slice sao pl scap] _ RG.out Tryz.underlying118 rfl Q98 ?_))
   intro v' w5 hown2 hgrow hblk;have jg:Q0a w w5:=Mod.grown (S:=fun _=>False) (((j1.alloc _).trans hf1).alloc _) hgrow (fun k hk hlt=>by have:=(j6.out k hk).1;omega);have jf:=hid hown2;clear hown2 hgrow hblk;go_wp2;go_roundw
   case rel =>
    refine⟨i+1,acc++[(i:Int)],by go_num,by omega,by simp;omega,by rw[qAh];exact j0.out,?_,jg⟩;unfold IntOwn;rw[qP,qAf,show Q5w (acc++[(i:Int)])=Q5w acc++[.int .i64 i] from by simp];exact jf.out
   exact j5.out
  have b1:(ph==n)=false:=by simp[hh]
  rw[qAa (fun h=>hh h.1)]at hres;have j0:=hid hres;clear hres;go_wp2_with (first
   |(refine wpList_load_mid rfl 118 _ rfl gp (i*2) rfl [.int .i64 ph,.slice sao pl scap] _ RG.out Tryz.underlying118 rfl Q98 ?_))
  go_roundw
  case rel =>
   refine⟨i+1,acc,by go_num,by omega,by omega,j0.out,?_,j1.alloc _⟩;exact HO.alloc _
  exact j5.out
 have jj:i=ps.length:=by omega
 have ji:¬(i:Int)<(ps.length:Int):=by omega
 rw[qAi (by have:=j4.out;simp[Q0j];omega)]at hres;have j2:acc=RES:=by simpa [ovL]using hres
 subst j2;clear hres hfr;go_wp2;go_ret;exact⟨_,rfl,j1.out,HO.out⟩
structure Cl where
 h:Int
 t:Int
 a:Int
 b:Int
def Cl.cells(c:Cl):List Value:=[.int .i64 c.h,.int .i64 c.t,.int .i64 c.a,.int .i64 c.b]
def Q6b(n t:Int):List Int->List Cl
 | []=>[]
 |f::r=>(r.map fun s=>⟨n,t,f,s⟩)++Q6b n t r
def clT(z:List (Pr × List Bool))(n R:Nat):Nat->Nat->List Cl
 |0,_=>[]
 |f+1,t=>if t<=R then Q6b n t (ovL n t z 0)++clT z n R f (t+1) else []
def clN(z:List (Pr × List Bool))(R H:Nat):Nat->Nat->List Cl
 |0,_=>[]
 |f+1,n=>if n<H then clT z n R (R+2) 0++clN z R H f (n+1) else []
def Q55(z:List (Pr × List Bool))(R H:Nat):List Cl:=clN z R H (H+1) 0
theorem y4m(n t:Int):∀l:List Int,(Q6b n t l).length<=l.length*l.length
 | []=>by simp[Q6b]
 |f::r=>by
  have ih:=y4m n t r;simp only[Q6b,qP,qAo,qAy];have:(r.length+1)*(r.length+1)=r.length*r.length+2*r.length+1:=by
   rw[qDt,Nat.mul_add];omega
  omega
theorem v0f(z:List (Pr × List Bool))(hz:z.length<=1000)(n t:Int):(Q6b n t (ovL n t z 0)).length<=1000000:=by
 have h1:=y4m n t (ovL n t z 0);have h2:=y6t n t z 0;have h3:(ovL n t z 0).length*(ovL n t z 0).length<=1000*1000:=Nat.mul_le_mul (by omega) (by omega);omega
theorem x1o(z:List (Pr × List Bool))(hz:z.length<=1000)(n R:Nat):∀(f t:Nat),(clT z n R f t).length<=f*1000000
 |0,_=>by simp[clT]
 |f+1,t=>by
  unfold clT;have h1:=v0f z hz n t;have h2:=x1o z hz n R f (t+1);split
  ·rw[qP];omega
  simp
theorem y59(z:List (Pr × List Bool))(hz:z.length<=1000)(R H:Nat)(hR:R<=1000):∀(f n:Nat),(clN z R H f n).length<=f*1002000000
 |0,_=>by simp[clN]
 |f+1,n=>by
  unfold clN;have h1:=x1o z hz n R (R+2) 0;have h2:=y59 z hz R H hR f (n+1);split
  ·rw[qP];omega
  simp
abbrev Q6x(w:World)(base:Nat)(v:Value)(l:List Cl):Prop:=w.ownsRow base 94 4 v l.length (Q00 Cl.cells l)
theorem infoCl:(Tryz.prog.info? 94).map (fun i=>(i.zero,i.size,i.bytes))=some (some (.agg #[.int .i64 0,.int .i64 0,.int .i64 0,.int .i64 0]),4,32):=by kernel_rfl
theorem infoCl':∃i,Tryz.prog.info? 94=some i/\i.zero=some (.agg #[.int .i64 0,.int .i64 0,.int .i64 0,.int .i64 0])/\i.size=4/\i.bytes=32:=nfoE infoCl
theorem z4l{w:World}{base:Nat}{g n cap:Nat}{l:List Int}(h:IntOwn w base (.slice (some ⟨g,0,none⟩) n cap) l)(i:Nat)(hi:i<l.length):w.cell? ⟨g,i,none⟩=some (.int .i64 l[i]):=by
 have:=h.cells (g:=g) rfl i (.int .i64 l[i]) (by simp[hi]);rwa [Addr.add_mid,qBi]at this
theorem y5z(w:World)(R H:Nat)(vp:Value)(ps:List PV)(hp:Q3c w w.heap.size vp ps)(hps:ps.length<=1000)(hH:H<=1000)(hR:R<=1000)(hok:∀x∈Q3w (Q0j ps) (Q0v R H),x.ok) :
  Calls Tryz.prog 21 #[.agg #[.int .i64 R,.int .i64 H,vp]] w fun e w'=>∃v,e=.returned v/\Q0a w w'/\Q6x w' w.heap.size v (Q55 ((Q0j ps).zip (Q0p (Q3w (Q0j ps) (Q0v R H)) (Q0j ps))) R H):=by
 obtain⟨i0,hi0,iz0,iz1,iz2⟩:=infoCl';obtain⟨pa,pc,hvp⟩:=z0d hp.row.own;subst hvp;have HP:=hid hp;have FI:=hid (y3u (w.alloc (.cells #[.int .i64 R,.int .i64 H,.slice pa ps.length pc] 41 (0,0))) R H (.slice pa ps.length pc) ps ((hp.kept (qR _) ((mRf (fun _=>False) w).alloc _) (fun _ _ x=>x)).up (by simp)) hps hH hR);generalize Q3w (Q0j ps) (Q0v R H)=AL at FI hok;have jp:((Q0j ps).zip (Q0p AL (Q0j ps))).length<=1000:=by simp[Q0p,Q0j];omega
 have jm:(Q0p AL (Q0j ps)).length=ps.length:=by simp[Q0p,Q0j]
 have jl:∀a∈Q0p AL (Q0j ps),a.length=9:=fun a ha=>by
  obtain⟨p,_,rfl⟩:=qBp.1 ha;exact z3d hok _ _
 have k8:=y59 _ jp R H hR (H+1) 0;generalize hRES:Q55 ((Q0j ps).zip (Q0p AL (Q0j ps))) R H=RES;have j1:=hid hRES;have k9:RES.length<=1003002000000:=by
  rw[← hRES];unfold Q55;omega
 clear hp hRES k8 hok;go_enter Tryz.func21,Tryz.ntmps21
 go_wp2_with (first
  |(go_at_call 51;refine(z55 w1 b R H (.slice pa ps.length pc) vh ps AL hF1 hps).mono ?_;rintro e w2⟨va,rfl,hf2,hoa⟩)
  |(go_at_call 50;refine FI.mono ?_;rintro e w1⟨b,vh,rfl,hf1,hF1⟩))
 have j2:=hid (hf2.at (hf1.at (z0a _ _) (fun x=>x)) (fun x=>x));have j7:Hid (Q0a w w2):=Mod.trans ((mRf _ w).alloc _) (hf1.trans hf2);have kc:=hid hoa;have PO:=hid (fun(W:World) (hW:Q0a w2 W) (n t:Nat)=>z6g W R H (.slice pa ps.length pc) ps ((HP.kept (qR _) (j7.trans hW) (fun _ _ x=>x)).up ((j7.trans hW).size)) hps va (Q0p AL (Q0j ps)) _ (z0c hoa (fun g hg=>hW.block g (hoa.lt g hg).2 (fun x=>x))) jm jl (n:Int) (t:Int));have ks:=hf2.size;have ka:=j7.size;generalize(Q0j ps).zip (Q0p AL (Q0j ps))=z at j1 jp PO;clear hoa hF1 hf1 hf2 FI jm jl;go_loopw [5,6,7,8,9,10,12,36,46] (fun x5 x6 _ _ _ _ _ _ _ wr=>∃(n:Nat) (acc:List Cl),x6=.int .i64 n/\n<=H/\acc++clN z R H (H+1-n) n=RES/\Q6x wr w2.heap.size x5 acc/\Q0a w2 wr)
   (fun _ x _ _ _ _ _ _ _ _=>H+1-(intOf x).toNat)
 case atStart=>exact⟨0,[],rfl,by omega,j1.out,World.ownsRow_nil _ _ _ _,mRf _ _⟩
 obtain⟨n,acc,rfl,hn,hres,hown,hfr⟩:=hrel;have jx:=hid (Q15 (B:=H+1) n (by omega));have jh:=hid hfr;have c1:=Q0b (hfr.at j2.out (fun x=>x)) 1;have c0:=Q0b (hfr.at j2.out (fun x=>x)) 0;simp at c1 c0;obtain⟨ro,rc,hro⟩:=z0d hown;have HO:=hid hown;subst hro;clear hown hfr;by_cases hlt:n<H
 ·have kl:(n:Int)<(H:Int):=by omega
  rw[show H+1-n=(H-n)+1 by omega]at hres;unfold clN at hres;rw[qAb hlt]at hres;have k2:=hid hres;clear hres;obtain⟨wn,hwn⟩:∃wn,wn=wr:=⟨_,rfl⟩;subst hwn;go_wp2;go_loopw [5,7,8,9,10,12,36,46] (fun x5 x7 _ _ _ _ _ _ wr=>∃(t:Nat) (acc:List Cl),x7=.int .i64 t/\t<=R+1/\acc++(clT z n R (R+2-t) t++clN z R H (H-n) (n+1))=RES/\Q6x wr w2.heap.size x5 acc/\Q0a w2 wr)
    (fun _ x _ _ _ _ _ _ _=>R+2-(intOf x).toNat)
  case atStart=>exact⟨0,acc,rfl,by omega,k2.out,HO.out,jh.out⟩
  obtain⟨t,acc,rfl,ht,hres,hown,hfr⟩:=hrel;have jy:=hid (Q15 (B:=R+2) t (by omega));have j4:=hid hfr;have kd:=z0j (hfr.at j2.out (fun x=>x));have c1:=Q0b (hfr.at j2.out (fun x=>x)) 1;have c0:=Q0b (hfr.at j2.out (fun x=>x)) 0;have c2:=Q0b (hfr.at j2.out (fun x=>x)) 2;simp at c1 c0 c2;obtain⟨so,sc,hso⟩:=z0d hown;have j8:=hid hown;subst hso;clear hown hfr;by_cases hlt2:t<=R
  ·have ko:(t:Int)<=(R:Int):=by omega
   rw[show R+2-t=(R+1-t)+1 by omega]at hres;unfold clT at hres;rw[qAb hlt2,qAh]at hres;obtain⟨wt,hwt⟩:∃wt,wt=wr:=⟨_,rfl⟩;subst hwt;have jk:=hid (PO.out wt j4.out n t);generalize hov:ovL (n:Int) (t:Int) z 0=able at hres jk;have k3:able.length<=1000:=by rw[← hov];have:=y6t n t z 0;omega
   generalize hREST:clT z n R (R+1-t) (t+1)++clN z R H (H-n) (n+1)=REST at hres;have j6:=hid hREST;clear hREST;have jf:=hid hres;clear hres hov;have jv:=j4;go_wp2_with (first
    |(go_at_call 52;refine jk.mono ?_;rintro e w3⟨v8,rfl,hf3,ho8⟩;obtain⟨a8,c8,e8⟩:=z0d ho8;subst e8;have k0:=hid ho8;have jt:=hid (j4.trans hf3);have k1:=hid (z0c j8.out (fun g hg=>hf3.block g (j8.lt g hg).2 (fun x=>x)));have js:Hid (∀k,(Value.slice so acc.length sc).ownBlock=some k->(Value.slice a8 able.length c8).ownBlock≠some k):=(fun k hk e=>by have q1:=(j8.lt k hk).2;have q2:=(ho8.lt k e).1;omega);clear ho8 hf3)
    |(refine wpList_load_row rfl 41 _ rfl w.heap.size rfl _ #[.int .i64 R,.int .i64 H,.slice pa ps.length pc] _ _ (j4.at j2.out (fun x=>x)) Tryz.underlying41 rfl Q9g ?_))
   clear c0 c1 c2;go_loopw [5,9,10,12,36,46] (fun x5 _ _ _ x36 _ wr=>∃(i:Nat) (acc:List Cl),x36=.int .i64 i/\i<=able.length/\acc++(Q6b n t (able.drop i)++REST)=RES/\Q6x wr w2.heap.size x5 acc/\IntOwn wr wt.heap.size (.slice a8 able.length c8) able/\(∀k,x5.ownBlock=some k->(Value.slice a8 able.length c8).ownBlock≠some k)/\Q0a w2 wr)
     (fun _ _ _ _ x _ _=>1001-(intOf x).toNat)
   case atStart=>exact⟨0,acc,rfl,by omega,jf.out,k1.out,k0.out,js.out,jt.out⟩
   obtain⟨i,acc,rfl,hi,hres,hown,ho8,hdi,hfr⟩:=hrel;have ji:=hid (Q15 (B:=1001) i (by omega));have jb:=hid hfr;have jc:=hid hown;have j5:=hid ho8;have j3:=hid hdi;obtain⟨qo,qc,hqo⟩:=z0d hown;subst hqo;clear hown hfr hdi;by_cases hlti:i<able.length
   ·have kg:(i:Int)<(able.length:Int):=by omega
    obtain⟨g8,c8',hv8⟩:=Joins.ownsRow_form ho8 (by omega);rw[qI]at hv8;obtain⟨rfl,_,rfl⟩:=hv8;have k4:able.length<=c8:=by
     rcases ho8.2 with⟨h1,_⟩|⟨g',cap',cur,h1,_,_,h4,_⟩
     ·cases h1
     rw[qI]at h1;omega
    have kf:c8<=2 ^ 63-1:=by
     rcases ho8.2 with⟨h1,_⟩|⟨g',cap',cur,h1,_,_,_,h5,_⟩
     ·cases h1
     rw[qI]at h1;unfold maxLen at h5;omega
    have d1:=z4l ho8 i hlti;rw[qC hlti]at hres;unfold Q6b at hres;rw[qAh]at hres;generalize able[i]=fst at hres d1;generalize hR2:Q6b n t (able.drop (i+1))++REST=REST2 at hres;have jj:=hid hR2;have j9:=hid hres;clear hres ho8 hR2;obtain⟨wi,hwi⟩:∃wi,wi=wr:=⟨_,rfl⟩;subst hwi;rcases(show c8=i+1∨¬c8=i+1 by omega)with hc8|hc8
    ·have jo:able.length=i+1:=by omega
     have HE:Hid (acc++REST2=RES):=by
      have:=j9.out;rw[qAi (by omega)]at this;unfold Hid;simpa using this
     have h0:able.length-(i+1)=0:=by omega
     subst hc8;have kb:=hid jo;clear jo;go_wp2;go_loopw [5,12,46] (fun x5 _ x46 wr=>x5=.slice qo acc.length qc/\x46=.int .i64 0/\wr=wi)
       (fun _ _ _ _=>0)
     case atStart=>exact⟨rfl,rfl,rfl⟩
     obtain⟨rfl,rfl,hwr⟩:=hrel;subst hwr;go_wp2;go_roundw
     case rel=>exact⟨i+1,acc,by go_num,by omega,by rw[jj.out];exact HE.out,jc.out,j5.out,j3.out,jb.out⟩
     exact ji.out
    have ke:¬c8-(i+1)=0:=by omega
    go_wp2;go_loopw [5,12,46] (fun x5 _ x46 wr=>∃(j:Nat) (acc:List Cl),x46=.int .i64 j/\j<=able.length-(i+1)/\acc++((((able.drop (i+1)).drop j).map fun s=>(⟨n,t,fst,s⟩:Cl))++REST2)=RES/\Q6x wr w2.heap.size x5 acc/\IntOwn wr wt.heap.size (.slice (some ⟨g8,0,none⟩) able.length c8) able/\(∀k,x5.ownBlock=some k->(Value.slice (some ⟨g8,0,none⟩) able.length c8).ownBlock≠some k)/\Q0a w2 wr)
      (fun _ _ x _=>1001-(intOf x).toNat)
    case atStart=>exact⟨0,acc,rfl,by omega,j9.out,jc.out,j5.out,j3.out,jb.out⟩
    obtain⟨j,acc,rfl,hj,hres,hown,ho8,hdi,hfr⟩:=hrel;have jw:=hid (Q15 (B:=1001) j (by omega));have jg:=hid hfr;have jd:=hid hown;have j0:=hid ho8;have ja:=hid hdi;have jn:acc.length<=RES.length:=by rw[← hres];simp
    obtain⟨qo,qc,hqo⟩:=z0d hown;subst hqo;have kr:=hfr.size;clear hown hfr hdi;by_cases hltj:j<able.length-(i+1)
    ·have ki:(j:Int)<((able.length-(i+1):Nat):Int):=by omega
     have k5:j<(able.drop (i+1)).length:=by simp;omega
     rw[qC k5,qCl]at hres;have d2:=z4l ho8 (i+1+j) (by omega);have k6:(able.drop (i+1))[j]=able[i+1+j]'(by omega):=by simp
     rw[k6]at hres;generalize able[i+1+j]'(by omega)=snd at hres d2;have je:=hid hres;clear hres ho8;go_wp2_with (first
      |(at_builtin;refine z0g _ rfl _ _ 55 rfl w2.heap.size 94 i0 _ 4 32 Tryz.underlying55 hi0 iz0 iz1 iz2 rfl (by decide) _ _ _ rfl (jd.alloc _) ⟨wr.heap.size,0,none⟩ 1 1 [.int .i64 n,.int .i64 t,.int .i64 fst,.int .i64 snd] rfl rfl (z0l rfl) (by intro u hu;simp at hu;rcases hu with rfl|rfl|rfl|rfl<;>rfl) (by unfold maxLen;omega) (by omega) (by simp;omega) ?_))
     intro v' w5 hown2 hgrow hblk;have ju:Hid (Q0a w2 w5):=Mod.grown (S:=fun _=>False) (jg.alloc _) hgrow (fun k hk hlt=>by have:=(jd.lt k hk).1;omega);have jq:Hid (IntOwn w5 wt.heap.size (.slice (some ⟨g8,0,none⟩) able.length c8) able):=z0c (j0.alloc _) (fun g hg=>hgrow.block g ((j0.alloc _).lt g hg).2 (fun e=>ja.out g e.symm hg));have jr:Hid (∀k,v'.ownBlock=some k->(Value.slice (some ⟨g8,0,none⟩) able.length c8).ownBlock≠some k):=fun k hk e=>by
      rcases hblk k hk with q1|q1
      ·exact ja.out k q1 e
      have q2:=(j0.lt k e).2;first|omega|(simp at q1;omega)
     have jz:=hid hown2;clear hown2 hgrow hblk;go_wp2;go_roundw
     case rel =>
      refine⟨j+1,acc++[⟨n,t,fst,snd⟩],by go_num,by omega,?_,?_,jq.out,jr.out,ju.out⟩
      ·rw[qAh];exact je.out
      unfold Q6x;rw[z0y,qP,qAf];exact jz.out
     exact jw.out
    have kk:j=able.length-(i+1):=by omega
    have kj:¬(j:Int)<((able.length-(i+1):Nat):Int):=by omega
    rw[qAi (by simp;omega),List.map_nil,qBq]at hres;have je:=hid hres;clear hres ho8;go_wp2;go_roundw
    case rel=>exact⟨i+1,acc,by go_num,by omega,by rw[jj.out];exact je.out,jd.out,j0.out,ja.out,jg.out⟩
    exact ji.out
   have k7:i=able.length:=by omega
   have kh:¬(i:Int)<(able.length:Int):=by omega
   rw[k7,qBw]at hres;have j9:Hid (acc++REST=RES):=by unfold Hid;simpa [Q6b]using hres
   clear hres ho8;go_wp2;go_roundw
   case rel=>exact⟨t+1,acc,by go_num,by omega,by rw[show R+2-(t+1)=R+1-t by omega,j6.out];exact j9.out,jc.out,jb.out⟩
   exact jy.out
  have kq:t=R+1:=by omega
  have kp:¬(t:Int)<=(R:Int):=by omega
  rw[show R+2-t=1 by omega]at hres;unfold clT at hres;rw[qAa hlt2,qBq]at hres;have jf:=hid hres;clear hres;go_wp2;go_roundw
  case rel=>exact⟨n+1,acc,by go_num,by omega,by rw[show H+1-(n+1)=H-n by omega];exact jf.out,j8.out,j4.out⟩
  exact jx.out
 have kn:n=H:=by omega
 have km:¬(n:Int)<(H:Int):=by omega
 rw[show H+1-n=1 by omega]at hres;unfold clN at hres;rw[qAa hlt,qAt]at hres;subst hres;go_wp2;go_ret;exact⟨_,rfl,j7.trans jh.out,z0f HO.out ka⟩
def Q26(s:ByteArray):List Cl:=Q55 ((Q0q (Q0c s).1).zip (Q0p (Q7p s) (Q0q (Q0c s).1))) (Q0f (Q0c s).1).length (Q0h (Q0c s).1).length
section
variable {ps:List Pr}{R H:Nat}{hs:List Hd}
end
theorem isAggI(w:World):(isAgg 3).run Tryz.prog w=.ok false w:=by
 unfold isAgg;rw[Sem.run_bind,run_underlying Tryz.underlying3];rfl
theorem partI(xs:Array Value)(i:Nat)(v:Value)(h:xs[i]? = some v)(w:World):(part 3 xs i).run Tryz.prog w=.ok v w:=by
 simp[part,isAggI,h]
def NS(ps:List Pr):Nat->Int->Bool
 |0,_=>false
 |n+1,X=>ps.any fun p=>p.head==X&&p.syms.all fun s=>s.isH&&NS ps n s.num
def Q3s(N:Int->Bool)(F:Int->Bool)(t:Nat):List Sy->Bool
 | []=>false
 |s::l=>(if s.isH then F s.num else s.num==(t:Int))||(s.isH&&N s.num&&Q3s N F t l)
def FS(ps:List Pr)(N:Int->Bool)(t:Nat):Nat->Int->Bool
 |0,_=>false
 |n+1,X=>ps.any fun p=>p.head==X&&Q3s N (FS ps N t n) t p.syms
def Q35(N:Int->Bool)(s:Sy):Bool:=s.isH&&N s.num
theorem z3z{N F F':Int->Bool}{t:Nat}(h:∀X,F X=true->F' X=true):∀l:List Sy,Q3s N F t l=true->Q3s N F' t l=true
 | [],e=>e
 |s::l,e=>by
  unfold Q3s at e ⊢;cases hs:s.isH
  ·rw[hs]at e;simpa using e
  rw[hs]at e;simp only[qBb,qBa,qAk,qAc]at e ⊢;rcases e with e|⟨e1,e2⟩
  ·exact .inl (h _ e)
  exact .inr ⟨e1,z3z h l e2⟩
theorem z1q{N F:Int->Bool}{t:Nat}:∀{l:List Sy},Q3s N F t l=true->∃a s b,l=a++s::b/\a.all (Q35 N)=true/\(if s.isH then F s.num else s.num==(t:Int))=true
 | [],e=>by cases e
 |s::l,e=>by
  unfold Q3s at e;simp only[qAk,qAc]at e;rcases e with e|⟨e1,e2⟩
  ·exact⟨[],s,l,rfl,rfl,e⟩
  obtain⟨a,s',b,h1,h2,h3⟩:=z1q e2;refine⟨s::a,s',b,by rw[h1];rfl,?_,h3⟩;simp[Q35,e1.1,e1.2,h2]
theorem z22{N F:Int->Bool}{t:Nat}(s:Sy)(b:List Sy)(h:(if s.isH then F s.num else s.num==(t:Int))=true):∀a:List Sy,a.all (Q35 N)=true->Q3s N F t (a++s::b)=true
 | [],_=>by simp only[qBq,Q3s,qAk];exact .inl h
 |x::a,e=>by
  simp only[qCp,qAc]at e;simp only[qAw,Q3s,qAk,qAc];have e1:=e.1;simp only[Q35,qAc]at e1;exact .inr ⟨e1,z22 s b h a e.2⟩
theorem z2o{N F:Int->Bool}{t:Nat}:∀(a b:List Sy),Q3s N F t (a++b)=(Q3s N F t a||(a.all (Q35 N)&&Q3s N F t b))
 | [],b=>by simp[Q3s]
 |x::a,b=>by
  simp only[qAw,Q3s,z2o a b,qCp,Q35];cases x.isH<;>cases N x.num<;>simp[Bool.or_assoc]
theorem y50(ps:List Pr):∀(n:Nat) (X:Int),NS ps n X=true->NS ps (n+1) X=true
 |0,_,h=>by cases h
 |n+1,X,h=>by
  unfold NS at h ⊢;rw[qAq]at h ⊢;obtain⟨p,hp,h⟩:=h;refine⟨p,hp,?_⟩;simp only[qAc,qAn]at h ⊢;exact⟨h.1,fun s hs=>⟨(h.2 s hs).1,y50 ps n _ (h.2 s hs).2⟩⟩
theorem x1a(ps:List Pr)(N:Int->Bool)(t:Nat):∀(n:Nat) (X:Int),FS ps N t n X=true->FS ps N t (n+1) X=true
 |0,_,h=>by cases h
 |n+1,X,h=>by
  unfold FS at h ⊢;rw[qAq]at h ⊢;obtain⟨p,hp,h⟩:=h;refine⟨p,hp,?_⟩;simp only[qAc]at h ⊢;exact⟨h.1,z3z (x1a ps N t n) _ h.2⟩
theorem x5w(l:List Bool):Q9b l<=l.length:=by unfold Q9b;exact qCw _ _
theorem y3m{H:Nat}{a:Nat->List Bool}(hl:∀n,(a n).length=H)(hm:∀n,leB (a n) (a (n+1)))(hs:∀n,a n=a (n+1)->a (n+1)=a (n+2)):∀m,leB (a m) (a H):=by
 have h1:∀n,a n=a (n+1)∨Q9b (a n)+n<=H:=by
  intro n;induction n with
  |zero=>right;have:=x5w (a 0);rw[hl 0]at this;omega
  |succ n ih =>
   by_cases e:a n=a (n+1)
   ·exact .inl (hs n e)
   right;have:=(y1u (hm n)).2 e;rcases ih with ih|ih
   ·exact absurd ih e
   omega
 have h2:a H=a (H+1):=by
  by_cases e:a H=a (H+1)
  ·exact e
  have:=(y1u (hm H)).2 e;rcases h1 H with h|h
  ·exact absurd h e
  omega
 have h3:∀k,a (H+k)=a (H+k+1):=by
  intro k;induction k with
  |zero=>exact h2
  |succ k ih=>exact hs _ ih
 have h4:∀k,a (H+k)=a H:=by
  intro k;induction k with
  |zero=>rfl
  |succ k ih=>rw[← ih];exact(h3 k).symm
 have h5:∀k m,m+k=H->leB (a m) (a H):=by
  intro k;induction k with
  |zero =>
   intro m e;have:m=H:=by omega
   subst this;exact z17 _
  |succ k ih=>intro m e;exact z43 (hm m) (ih (m+1) (by omega))
 intro m;by_cases e:m<=H
 ·exact h5 (H-m) m (by omega)
 have:=h4 (m-H);rw[show H+(m-H)=m by omega]at this;rw[this];exact z17 _
def Q4z(H:Nat)(f:Int->Bool):List Bool:=(List.range H).map fun i=>f (i:Nat)
theorem z30{H:Nat}{f:Int->Bool}{X:Int}(h0:0<=X)(h1:X<H):(Q4z H f).getD X.toNat false=f X:=by
 have e:((X.toNat:Nat):Int)=X:=by omega
 unfold Q4z;rw[qD,qBe,qEg (by omega)];simp[e]
theorem y3j{H:Nat}{f g:Int->Bool}(h:∀X,f X=true->g X=true):leB (Q4z H f) (Q4z H g):=by
 unfold Q4z;generalize List.range H=l;induction l with
 |nil=>trivial
 |cons x l ih=>exact⟨h _,ih⟩
theorem y3i{H:Nat}{f g:Int->Bool}(h:Q4z H f=Q4z H g){X:Int}(h0:0<=X)(h1:X<H):f X=g X:=by
 rw[← z30 h0 h1 (f:=f),h,z30 h0 h1]
theorem z8h{H:Nat}{f g:Int->Bool}(h:∀X,0<=X->X<H->f X=g X):Q4z H f=Q4z H g:=by
 unfold Q4z;apply qEh;intro i hi;have:=List.mem_range.1 hi;exact h _ (by omega) (by omega)
theorem z3y{α:Type}{l:List α}{f g:α->Bool}(h:∀x∈l,f x=g x):l.any f=l.any g:=by
 induction l with
 |nil=>rfl
 |cons x l ih=>simp only[List.any_cons,h x (by simp),ih (fun y hy=>h y (by simp[hy]))]
theorem z3x{α:Type}{l:List α}{f g:α->Bool}(h:∀x∈l,f x=g x):l.all f=l.all g:=by
 induction l with
 |nil=>rfl
 |cons x l ih=>simp only[qCp,h x (by simp),ih (fun y hy=>h y (by simp[hy]))]
theorem y0m{N F F':Int->Bool}{t:Nat}:∀(l:List Sy),(∀s∈l,s.isH=true->F s.num=F' s.num)->Q3s N F t l=Q3s N F' t l
 | [],_=>rfl
 |s::l,h=>by
  unfold Q3s;rw[y0m l (fun x hx=>h x (by simp[hx]))];cases hs:s.isH
  ·rfl
  rw[h s (by simp) hs]
variable {ps:List Pr}{R H:Nat}
theorem v02(hT:Q1b ps R H)(n:Nat)(X:Int)(h0:0<=X)(h1:X<H)(h:NS ps n X=true):NS ps H X=true:=by
 have hc:=y3m (a:=fun n=>Q4z H (NS ps n)) (H:=H) (fun n=>by simp[Q4z]) (fun n=>y3j (y50 ps n)) (by
  intro n e;refine z8h (fun X _ _=>?_);show NS ps (n+1) X=NS ps (n+2) X;unfold NS;refine z3y (fun p hp=>?_);congr 1;refine z3x (fun s hs=>?_);cases hsh:s.isH
  ·rfl
  have:=hT.sy p hp s hs;rw[hsh]at this;simp only[qBb]at this;rw[y3i e this.1 this.2]) n
 have:=z4v hc X.toNat (by rw[z30 h0 h1];exact h);rwa [z30 h0 h1]at this
theorem x73(hT:Q1b ps R H)(N:Int->Bool)(t:Nat)(n:Nat)(X:Int)(h0:0<=X)(h1:X<H)(h:FS ps N t n X=true):FS ps N t H X=true:=by
 have hc:=y3m (a:=fun n=>Q4z H (FS ps N t n)) (H:=H) (fun n=>by simp[Q4z]) (fun n=>y3j (x1a ps N t n)) (by
  intro n e;refine z8h (fun X _ _=>?_);show FS ps N t (n+1) X=FS ps N t (n+2) X;unfold FS;refine z3y (fun p hp=>?_);congr 1;refine y0m _ (fun s hs hsh=>?_);have:=hT.sy p hp s hs;rw[hsh]at this;simp only[qBb]at this;exact y3i e this.1 this.2) n
 have:=z4v hc X.toNat (by rw[z30 h0 h1];exact h);rwa [z30 h0 h1]at this
end Go.Proofs.YtcpceafmlgaodaaGreat
