import Derived.Test.YtcpceafmlgaodaaGreatSe1
namespace Go.Proofs.YtcpceafmlgaodaaGreat
open Go.RowKit
set_option maxRecDepth 99999
set_option maxHeartbeats 0
set_option linter.all false
theorem z0m{P:Program}{fn:Func}{p u:Tmp}{ty:TypeId}(h:fn.results=#[.cell p ty,.tmp u])(tmps:Array Value)(w:World)(g:Nat)(t:TypeId)(cs:Array Value)(fr:Nat × Nat)(d:TypeDesc)
    (hp:tmps.getD p undef=.pointer (some ⟨g,0,none⟩)) (hg:w.heap[g]? = some (.cells cs t fr))
    (hu:P.underlying ty=some d) (hd:(match d with | .struct _ | .array _ _=>true|_=>false)=true) (hi:(P.info? ty).map (·.size)=some cs.size) :
    (results fn tmps).run P w=.ok (.tuple #[.agg cs,tmps.getD u undef]) w:=by
  have j0:tmps[p]?.getD undef=.pointer (some ⟨g,0,none⟩):=by simpa using hp
  simp[results,h,j0,asAddr,run_loadVar_row w g t ty cs fr d hg hu hd hi]
def Q2m(hs:List Hd):List Sy->List Bool->List Bool × Bool
  | [],acc=>(acc,true)
  | s :: l,acc=>if s.isH=false then(Q2b acc s.num,false) else
      if(Q1i hs s.num).nul=false then(orL acc (Q1i hs s.num).fi,false) else Q2m hs l (orL acc (Q1i hs s.num).fi)
theorem z09{hs:List Hd}(h:∀x∈hs,x.ok):∀(l:List Sy) (acc:List Bool),acc.length=9->(Q2m hs l acc).1.length=9
  | [],acc,ha=>ha
  |s::l,acc,ha=>by
    unfold Q2m;split
    · exact z2m ha
    split
    · exact z04 ha (z0k h _).fi
    exact z09 h l _ (z04 ha (z0k h _).fi)
theorem Q6n{w:World}{g:Nat}{h:Hd}{t:TypeId}(k:h.ok)(hb:w.heap[g]? = some (.cells (hdA h) t (0,0))):w.rangeAt g 3 (bls h.fi):=fun j v hj=>by
  rw[Q0b hb];have j0:=(qS hj).1;simp only[hdA,Hd.cells,qCb];have e:3+j=j+1+1+1:=by omega
  rw[e];simp only[qEm];rw[qAe j0];exact hj
theorem Q4o{w:World}{g:Nat}{h:Hd}{t:TypeId}(k:h.ok)(hb:w.heap[g]? = some (.cells (hdA h) t (0,0))):w.rangeAt g 12 (bls h.fo):=fun j v hj=>by
  rw[Q0b hb];simp only[hdA,Hd.cells,qCb];have e:12+j=j+9+1+1+1:=by omega
  rw[e];simp only[qEm];rw[qAg (by simp[bls,k.fi])];simpa [bls,k.fi]using hj
theorem Q93:(Tryz.prog.info? 69).map (·.size)=some 2:=by kernel_rfl
theorem z52(w:World)(b:Nat)(R H:Int)(vp vh:Value)(ps:List PV)(hs:List Hd)(B:Nat)(vs:Value)(syms:List Sy)(h:FA w b R H vp vh ps hs)(hB:B<=w.heap.size)(hsy:Q5z w B vs syms) :
    Calls Tryz.prog 53 #[Q25 b,vs] w fun e w'=>e=.returned (.tuple #[.agg (tkA (Q2m hs syms zero9).1),.bool (Q2m hs syms zero9).2])/\Q0a w w':=by
  have HF:=hid h;have jb:=hid h.ok;have jf:=hid hsy;obtain⟨ao,cap,hv,hc1,hc2,hcells⟩:=hsy;subst hv;unfold maxLen at hc2;have HC:=hid hcells;generalize hR:Q2m hs syms zero9=RES;have HR:=hid hR;have j9:Hid (RES.1.length=9):=by unfold Hid;rw[← hR];exact z09 h.ok _ _ rfl
  have hb:=z0j h.blk;clear hcells hR h;go_enter Tryz.func53,Tryz.ntmps53
  go_wp2;go_loopw [8,9,12] (fun x8 x9 x12 wr=>∃(i:Nat) (acc:List Bool),x12=.int .i64 i/\i<=syms.length/\acc.length=9/\Q2m hs (syms.drop i) acc=RES/\Q0a w wr/\wr.heap[w.heap.size]? = some (.cells (tkA zero9) 130 (0,0))/\wr.heap[w.heap.size+1]? = some (.cells (tkA acc) 130 (0,0)))
      (fun _ _ x _=>syms.length+1-(intOf x).toNat)
  case atStart =>
    refine⟨0,zero9,rfl,by omega,rfl,HR.out,((mRf _ w).alloc _).alloc _,heap_alloc2_old _ _ _,heap_alloc2_new _ _ _⟩
  obtain⟨i,acc,rfl,hi,hacc,hres,hfr,hb0,hb1⟩:=hrel;have ja:=hid (Q15 (B:=syms.length+1) i (by omega));have j4:=hid hb0;have j3:=hid hb1;have HA:=hid hacc;have jd:=z0j hb0;have je:=z0j hb1;have j5:=hid hfr;clear hb0 hb1 hacc;by_cases hlt:i<syms.length
  · rw[qC hlt]at hres
    obtain⟨g,o,rfl,hgB,hrg⟩:=HC.out i hlt;have RG:Hid (wr.rangeAt g (o+i*2) [.bool syms[i].isH,.int .i64 syms[i].num]):=z0t hrg (hfr.block g (by omega) (fun x=>x));unfold Q2m at hres;generalize syms[i].isH=sh at hres RG;generalize syms[i].num=sn at hres RG;have jg:(i:Int)<(syms.length:Int):=by omega
    clear hrg hfr;cases sh
    · rw[qAb rfl]at hres
      have j0:=hid hres;have j6:=hid (z2m (n:=sn) HA.out);clear hres;go_wp2_with (first
        |(refine wpList_load_mid rfl 69 _ rfl g (o+i*2) rfl [.bool false,.int .i64 sn] _ RG.out Tryz.underlying69 rfl Q93 ?_)
        |(refine wpList_load_row rfl 130 _ rfl (w.heap.size+1) rfl _ _ _ _ (z0b j3.out) Tryz.underlying130 rfl (Q0s HA.out) ?_)
        |(go_at_call 56;refine(z95 _ acc sn HA.out).mono ?_;rintro e w1⟨rfl,hf1⟩)
        |(refine wpList_store_row rfl 130 _ _ rfl w.heap.size _ rfl rfl _ _ (hf1.at (z0b j4.out) (fun x=>x)) (Q0s j6.out) (Q0k rfl (z0u j6.out)) (z1g _) ?_))
      refine bodyPost_ret (z0m rfl _ _ w.heap.size 130 _ (0,0) _ rfl (setRow_heap _ _ _ _ _ _ (hf1.at (z0b j4.out) (fun x=>x))) Tryz.underlying130 rfl (Q0s j6.out)) rfl ⟨?_,?_⟩
      · rw[← j0.out];rfl
      exact(Mod.trans (j5.alloc _) hf1).setRow (by simp) _
    rw[qAa (by simp)]at hres;have j1:=hid (z0k jb.out sn);have GA:=hid (fun w (h:FA w b R H vp vh ps hs)=>z4i w b R H vp vh ps hs sn h);generalize Q1i hs sn=hd at hres j1 GA;have j2:=hid (z04 HA.out j1.fi);have j8:=hid ((HF.fresh j5.out).fresh ((mRf _ wr).alloc (.cells #[.bool true,.int .i64 sn] 69 (0,0))));cases hn:hd.nul
    · rw[qAb hn]at hres
      have j0:=hid hres;clear hres;go_wp2_with (first
        |(refine wpList_load_mid rfl 69 _ rfl g (o+i*2) rfl [.bool true,.int .i64 sn] _ RG.out Tryz.underlying69 rfl Q93 ?_)
        |(go_at_call 84;refine(GA.out _ j8.out).mono ?_;rintro e w1⟨rfl,hf1⟩;have j7:=hf1.size)
        |(refine z0e rfl 179 _ _ rfl w1 _ (hdA hd) _ rfl rfl rfl (Q1n j1.out) (Q0k rfl (z07 j1.out)) (z1t _) ?_)
        |(refine wpList_load_row rfl 130 _ rfl (w.heap.size+1) rfl _ _ _ _ (z0b (hf1.at (z0b j3.out) (fun x=>x))) Tryz.underlying130 rfl (Q0s HA.out) ?_)
        |(refine wpList_load_mid rfl 130 _ rfl w1.heap.size 3 rfl (bls hd.fi) _ (Q6n j1.out (z0a _ _)) Tryz.underlying130 rfl (Q5j j1.fi) ?_)
        |(go_at_call 54;refine(z1b _ acc hd.fi HA.out j1.fi).mono ?_;rintro e w2⟨rfl,hf2⟩;have kk:(w2.setRow (w.heap.size+1) (tkA (orL acc hd.fi))).cell? ⟨w1.heap.size,0,none⟩=some (.bool hd.nul):=(by rw[Q0b (z0r (hf2.at (z0a w1 _) (fun x=>x)) (by simp at j7;omega)) 0];exact y0v hd);rw[hn]at kk)
        |(refine wpList_store_row rfl 130 _ _ rfl (w.heap.size+1) _ rfl rfl _ _ (hf2.at (z0b (hf1.at (z0b j3.out) (fun x=>x))) (fun x=>x)) (Q0s j2.out) (Q0k (z0u HA.out) (z0u j2.out)) (z1g _) ?_)
        |(refine wpList_load_row rfl 130 _ rfl (w.heap.size+1) rfl _ _ _ _ (setRow_heap _ _ _ _ _ _ (hf2.at (z0b (hf1.at (z0b j3.out) (fun x=>x))) (fun x=>x))) Tryz.underlying130 rfl (Q0s j2.out) ?_)
        |(refine wpList_store_row rfl 130 _ _ rfl w.heap.size _ rfl rfl _ _ (z0r (hf2.at (z0b (hf1.at (z0b j4.out) (fun x=>x))) (fun x=>x)) (by omega)) (Q0s j2.out) (Q0k rfl (z0u j2.out)) (z1g _) ?_))
      refine bodyPost_ret (z0m rfl _ _ w.heap.size 130 _ (0,0) _ rfl (setRow_heap _ _ _ _ _ _ (z0r (hf2.at (z0b (hf1.at (z0b j4.out) (fun x=>x))) (fun x=>x)) (by omega))) Tryz.underlying130 rfl (Q0s j2.out)) rfl ⟨?_,?_⟩
      · rw[← j0.out];rfl
      exact((Mod.trans (Mod.trans (j5.alloc _) hf1 |>.alloc _) hf2).setRow (by simp) _).setRow (by simp) _
    rw[qAa (by simp[hn])]at hres;have j0:=hid hres;clear hres;go_wp2_with (first
      |(refine wpList_load_mid rfl 69 _ rfl g (o+i*2) rfl [.bool true,.int .i64 sn] _ RG.out Tryz.underlying69 rfl Q93 ?_)
      |(go_at_call 84;refine(GA.out _ j8.out).mono ?_;rintro e w1⟨rfl,hf1⟩;have j7:=hf1.size)
      |(refine z0e rfl 179 _ _ rfl w1 _ (hdA hd) _ rfl rfl rfl (Q1n j1.out) (Q0k rfl (z07 j1.out)) (z1t _) ?_)
      |(refine wpList_load_row rfl 130 _ rfl (w.heap.size+1) rfl _ _ _ _ (z0b (hf1.at (z0b j3.out) (fun x=>x))) Tryz.underlying130 rfl (Q0s HA.out) ?_)
      |(refine wpList_load_mid rfl 130 _ rfl w1.heap.size 3 rfl (bls hd.fi) _ (Q6n j1.out (z0a _ _)) Tryz.underlying130 rfl (Q5j j1.fi) ?_)
      |(go_at_call 54;refine(z1b _ acc hd.fi HA.out j1.fi).mono ?_;rintro e w2⟨rfl,hf2⟩;have kk:(w2.setRow (w.heap.size+1) (tkA (orL acc hd.fi))).cell? ⟨w1.heap.size,0,none⟩=some (.bool hd.nul):=(by rw[Q0b (z0r (hf2.at (z0a w1 _) (fun x=>x)) (by simp at j7;omega)) 0];exact y0v hd);rw[hn]at kk)
      |(refine wpList_store_row rfl 130 _ _ rfl (w.heap.size+1) _ rfl rfl _ _ (hf2.at (z0b (hf1.at (z0b j3.out) (fun x=>x))) (fun x=>x)) (Q0s j2.out) (Q0k (z0u HA.out) (z0u j2.out)) (z1g _) ?_))
    go_roundw
    case rel =>
      refine⟨i+1,orL acc hd.fi,by go_num,by omega,j2.out,j0.out,?_,?_,?_⟩
      · exact(Mod.trans (Mod.trans (j5.alloc _) hf1 |>.alloc _) hf2).setRow (by simp) _
      · exact z0r (hf2.at (z0b (hf1.at (z0b j4.out) (fun x=>x))) (fun x=>x)) (by omega)
      exact setRow_heap _ _ _ _ _ _ (hf2.at (z0b (hf1.at (z0b j3.out) (fun x=>x))) (fun x=>x))
    exact ja.out
  have jc:i=syms.length:=by omega
  rw[jc,qBw]at hres;unfold Q2m at hres;have j0:=hid hres;have jh:¬(i:Int)<(syms.length:Int):=by omega
  clear hres hfr;go_wp2_with (first
    |(refine wpList_load_row rfl 130 _ rfl (w.heap.size+1) rfl _ _ _ _ j3.out Tryz.underlying130 rfl (Q0s HA.out) ?_)
    |(refine wpList_store_row rfl 130 _ _ rfl w.heap.size _ rfl rfl _ _ j4.out (Q0s HA.out) (Q0k rfl (z0u HA.out)) (z1g _) ?_))
  refine bodyPost_ret (z0m rfl _ _ w.heap.size 130 _ (0,0) _ rfl (setRow_heap _ _ _ _ _ _ j4.out) Tryz.underlying130 rfl (Q0s HA.out)) rfl ⟨?_,?_⟩
  · rw[← j0.out];rfl
  exact j5.setRow (by simp) _
def fruB(hs:List Hd)(s:Sy):Bool:=!s.isH||(Q1i hs s.num).fru
def Q4y(hs:List Hd)(l:List Sy):Bool:=l.all (fruB hs)
theorem y9k(w:World)(b:Nat)(R H:Int)(vp vh:Value)(ps:List PV)(hs:List Hd)(B:Nat)(vs:Value)(syms:List Sy)(h:FA w b R H vp vh ps hs)(hB:B<=w.heap.size)(hsy:Q5z w B vs syms) :
    Calls Tryz.prog 122 #[Q25 b,vs] w fun e w'=>e=.returned (.bool (Q4y hs syms))/\Q0a w w':=by
  have HF:=hid h;have j5:=hid h.ok;obtain⟨ao,cap,hv,hc1,hc2,hcells⟩:=hsy;subst hv;unfold maxLen at hc2;have HC:=hid hcells;generalize hR:Q4y hs syms=RES;have HR:=hid hR;clear hcells hR h;go_enter Tryz.func122,Tryz.ntmps122
  go_wp2;go_loopw [6,7,10] (fun x6 x7 x10 wr=>∃(i:Nat),x10=.int .i64 i/\i<=syms.length/\Q4y hs (syms.drop i)=RES/\Q0a w wr)
      (fun _ _ x _=>syms.length+1-(intOf x).toNat)
  case atStart=>exact⟨0,rfl,by omega,HR.out,mRf _ w⟩
  obtain⟨i,rfl,hi,hres,hfr⟩:=hrel;have j4:=hid (Q15 (B:=syms.length+1) i (by omega));have j1:=hid hfr;by_cases hlt:i<syms.length
  · rw[qC hlt]at hres
    obtain⟨g,o,rfl,hgB,hrg⟩:=HC.out i hlt;have RG:Hid (wr.rangeAt g (o+i*2) [.bool syms[i].isH,.int .i64 syms[i].num]):=z0t hrg (hfr.block g (by omega) (fun x=>x));unfold Q4y at hres;rw[qCp]at hres;unfold fruB at hres;generalize syms[i].isH=sh at hres RG;generalize syms[i].num=sn at hres RG;have j7:(i:Int)<(syms.length:Int):=by omega
    clear hrg hfr;cases sh
    · simp only[Bool.not_false,Bool.true_or,qBa]at hres
      have j0:=hid hres;clear hres;go_wp2_with (first
        |(refine wpList_load_mid rfl 69 _ rfl g (o+i*2) rfl [.bool false,.int .i64 sn] _ RG.out Tryz.underlying69 rfl Q93 ?_))
      go_roundw
      case rel=>exact⟨i+1,by go_num,by omega,j0.out,j1.alloc _⟩
      exact j4.out
    simp only[Bool.not_true,qCj]at hres;have j2:=hid (z0k j5.out sn);have GA:=hid (fun w (h:FA w b R H vp vh ps hs)=>z4i w b R H vp vh ps hs sn h);generalize Q1i hs sn=hd at hres j2 GA;have j3:=hid ((HF.fresh j1.out).fresh ((mRf _ wr).alloc (.cells #[.bool true,.int .i64 sn] 69 (0,0))));cases hn:hd.fru
    · rw[hn,qCi]at hres
      have j0:=hid hres;clear hres;go_wp2_with (first
        |(refine wpList_load_mid rfl 69 _ rfl g (o+i*2) rfl [.bool true,.int .i64 sn] _ RG.out Tryz.underlying69 rfl Q93 ?_)
        |(go_at_call 84;refine(GA.out _ j3.out).mono ?_;rintro e w1⟨rfl,hf1⟩;have kk:(w1.alloc (.cells (hdA hd) 179 (0,0))).cell? ⟨w1.heap.size,2,none⟩=some (.bool hd.fru):=(by rw[Q0b (z0a w1 _) 2];exact y32 hd);rw[hn]at kk)
        |(refine z0e rfl 179 _ _ rfl w1 _ (hdA hd) _ rfl rfl rfl (Q1n j2.out) (Q0k rfl (z07 j2.out)) (z1t _) ?_))
      go_ret;exact⟨z0s j0.out,Mod.trans (j1.alloc _) hf1 |>.alloc _⟩
    rw[hn,qBa]at hres;have j0:=hid hres;clear hres;go_wp2_with (first
      |(refine wpList_load_mid rfl 69 _ rfl g (o+i*2) rfl [.bool true,.int .i64 sn] _ RG.out Tryz.underlying69 rfl Q93 ?_)
      |(go_at_call 84;refine(GA.out _ j3.out).mono ?_;rintro e w1⟨rfl,hf1⟩;have kk:(w1.alloc (.cells (hdA hd) 179 (0,0))).cell? ⟨w1.heap.size,2,none⟩=some (.bool hd.fru):=(by rw[Q0b (z0a w1 _) 2];exact y32 hd);rw[hn]at kk)
      |(refine z0e rfl 179 _ _ rfl w1 _ (hdA hd) _ rfl rfl rfl (Q1n j2.out) (Q0k rfl (z07 j2.out)) (z1t _) ?_))
    go_roundw
    case rel=>exact⟨i+1,by go_num,by omega,j0.out,Mod.trans (j1.alloc _) hf1 |>.alloc _⟩
    exact j4.out
  have j6:i=syms.length:=by omega
  rw[j6,qBw]at hres;have j0:=hid hres;have j8:¬(i:Int)<(syms.length:Int):=by omega
  clear hres hfr;go_wp2;go_ret;exact⟨by rw[← j0.out];rfl,j1.out⟩
def Q0j(ps:List PV):List Pr:=ps.map PV.pr
def Q3e(hs:List Hd)(p:Pr):List Hd × Bool :=
  let h:=Q1i hs p.head
  let r:=Q2m hs p.syms zero9
  let h':Hd:={h with nul:=h.nul||r.2,fi:=orL h.fi r.1}
  (Q7m hs p.head h',Q6v hs p.head h')
def Q5a:List Pr->List Hd->Bool->List Hd × Bool
  | [],hs,g=>(hs,g)
  |p::l,hs,g=>Q5a l (Q3e hs p).1 (g||(Q3e hs p).2)
def Q4n(hs:List Hd)(p:Pr):List Hd × Bool :=
  let h:=Q1i hs p.head
  let h':Hd:={h with fru:=h.fru||Q4y hs p.syms}
  (Q7m hs p.head h',Q6v hs p.head h')
def Q41:List Pr->List Hd->Bool->List Hd × Bool
  | [],hs,g=>(hs,g)
  |p::l,hs,g=>Q41 l (Q4n hs p).1 (g||(Q4n hs p).2)
theorem y6x{hs:List Hd}(h:∀x∈hs,x.ok)(n:Int){y:Hd}(hy:y.ok):∀x∈Q7m hs n y,x.ok:=by
  intro x hx;unfold Q7m at hx;split at hx
  · rcases qEe hx with h1|h1
    · exact h x h1
    rw[h1];exact hy
  exact h x hx
theorem x65(hs:List Hd)(n:Int)(y:Hd):(Q7m hs n y).length=hs.length:=by unfold Q7m;split<;>simp
theorem Q98:(Tryz.prog.info? 118).map (·.size)=some 2:=by kernel_rfl
variable {w w':World}{b:Nat}{R H:Int}{vp vh:Value}{ps:List PV}{hs:List Hd}
theorem FA.size(h:FA w b R H vp vh ps hs):b<w.heap.size:=z0j h.blk
theorem FA.kept(h:FA w b R H vp vh ps hs){S:Nat->Prop}(hm:Mod S w w')(hS:∀k,S k->w.heap.size<=k):FA w' b R H vp vh ps hs :=
  h.fresh ⟨hm.os,hm.tape,hm.output,hm.size,fun k hk _=>hm.block k hk (fun x=>by have:=hS k x;omega)⟩
theorem y10(h:Hd)(v:Bool):(hdA h).setIfInBounds 0 (.bool v)=hdA {h with nul:=v}:=by simp[hdA,Hd.cells]
theorem x9n(h:Hd)(v:Bool):(hdA h).setIfInBounds 1 (.bool v)=hdA {h with rch:=v}:=by simp[hdA,Hd.cells]
theorem x9o(h:Hd)(v:Bool):(hdA h).setIfInBounds 2 (.bool v)=hdA {h with fru:=v}:=by simp[hdA,Hd.cells]
theorem y75{h:Hd}(k:h.ok){l:List Bool}(hl:l.length=9):Q42 (hdA h) 3 (bls l)=hdA {h with fi:=l}:=by
  obtain⟨n,r,f,fi,fo⟩:=h;obtain⟨a0,a1,a2,a3,a4,a5,a6,a7,a8,e⟩:=Q7a k.fi;obtain⟨b0,b1,b2,b3,b4,b5,b6,b7,b8,e2⟩:=Q7a k.fo;obtain⟨c0,c1,c2,c3,c4,c5,c6,c7,c8,e3⟩:=Q7a hl;dsimp only at e e2;subst e;subst e2;subst e3;simp[hdA,Hd.cells,bls,Q42]
theorem z59{h:Hd}(k:h.ok){l:List Bool}(hl:l.length=9):Q42 (hdA h) 12 (bls l)=hdA {h with fo:=l}:=by
  obtain⟨n,r,f,fi,fo⟩:=h;obtain⟨a0,a1,a2,a3,a4,a5,a6,a7,a8,e⟩:=Q7a k.fi;obtain⟨b0,b1,b2,b3,b4,b5,b6,b7,b8,e2⟩:=Q7a k.fo;obtain⟨c0,c1,c2,c3,c4,c5,c6,c7,c8,e3⟩:=Q7a hl;dsimp only at e e2;subst e;subst e2;subst e3;simp[hdA,Hd.cells,bls,Q42]
theorem z4k{w:World}{g:Nat}{h:Hd}{t:TypeId}(k:h.ok)(hb:w.heap[g]? = some (.cells (hdA h) t (0,0))){o n:Nat}(ho:o+n<=21):w.there g o n:=fun j hj=>by
  refine⟨?_,Q0g hb _⟩;rw[Q0b hb];have:=z07 k;simp[this];omega
theorem z0z{w:World}{g o:Nat}{vs:List Value}{b:Nat}{p:Nat}(hb:b≠g):(w.setCells g o vs).cell? ⟨b,p,none⟩=w.cell? ⟨b,p,none⟩ :=
  World.cell?_setCells_out g vs o w ⟨b,p,none⟩ (fun e=>absurd e hb)
def Q18(v:Value):Nat->Prop:=fun k=>v.ownBlock=some k
theorem x2h(w:World)(b:Nat)(R H:Int)(vp vh:Value)(ps:List PV)(hs:List Hd)(h:FA w b R H vp vh ps hs)(hps:ps.length<=1000) :
    Calls Tryz.prog 110 #[Q25 b] w fun e w'=>e=.returned (.bool (Q5a (Q0j ps) hs false).2)/\FA w' b R H vp vh ps (Q5a (Q0j ps) hs false).1/\Mod (Q18 vh) w w':=by
  have jf:=hid h;obtain⟨ao,cap,hv⟩:=z0d h.prs.row.own;subst hv;have k2:=h.cell 2;simp at k2;generalize hR:Q5a (Q0j ps) hs false=RES;have HR:=hid hR;clear hR h;go_enter Tryz.func110,Tryz.ntmps110
  go_wp2;go_loopw [3,5,6,7,8,15] (fun x3 _ _ _ _ x15 wr=>∃(i:Nat) (gr:Bool) (hs':List Hd),x3=.bool gr/\x15=.int .i64 i/\i<=ps.length/\FA wr b R H (.slice ao ps.length cap) vh ps hs'/\Q5a (Q0j (ps.drop i)) hs' gr=RES/\Mod (Q18 vh) w wr)
      (fun _ _ _ _ _ x _=>ps.length+1-(intOf x).toNat)
  case atStart=>exact⟨0,false,hs,rfl,rfl,by omega,jf.out,HR.out,mRf _ w⟩
  obtain⟨i,gr,hs',rfl,rfl,hi,hF,hres,hmod⟩:=hrel;have jb:=hid (Q15 (B:=ps.length+1) i (by omega));have j3:=hid hmod;have HF:=hid hF;clear hmod;by_cases hlt:i<ps.length
  · have jk:(i:Int)<(ps.length:Int):=by omega
    rw[qC hlt]at hres;obtain⟨gp,cap',hv'⟩:=Joins.ownsRow_form hF.prs.row.own (by omega);rw[qI]at hv';obtain⟨rfl,_,rfl⟩:=hv';have RG:Hid (wr.rangeAt gp (i*2) [.int .i64 ps[i].pr.head,ps[i].vs]):=hF.prs.row.range i hlt;have jj:=hF.size;have j4:=hid (hF.fresh ((mRf _ wr).alloc (.cells #[.int .i64 ps[i].pr.head,ps[i].vs] 118 (0,0))));have j9:=hid (j4.prs.syms ps[i] (by simp));unfold Q0j at hres;rw[qCl]at hres;unfold Q5a Q3e at hres;generalize ps[i].pr=pr at hres RG j9 j4;generalize ps[i].vs=pvs at RG j9 j4;obtain⟨ph,psy⟩:=pr;dsimp only at hres RG j9 j4;obtain⟨sao,scap,hsv,_⟩:=j9.out;subst hsv;have j2:=hid (z09 hF.ok psy zero9 rfl);have j1:=hid (z0k hF.ok ph);have BA:=hid (z52 _ b R H _ vh ps hs' b _ psy j4.out (by simp;omega) j9.out);have GA:=hid (fun w (h:FA w b R H (.slice (some ⟨gp,0,none⟩) ps.length cap) vh ps hs')=>z4i w b R H _ vh ps hs' ph h);have PA:=hid (fun w (x:Hd) (hx:x.ok) (h:FA w b R H (.slice (some ⟨gp,0,none⟩) ps.length cap) vh ps hs')=>y2f w b R H _ vh ps hs' ph x hx h);generalize Q2m hs' psy zero9=bg at hres j2 BA;generalize Q1i hs' ph=hd at hres j1 GA;obtain⟨bg1,bg2⟩:=bg;dsimp only at hres j2 BA;have j5:=hid (z04 j1.fi j2.out);clear hF;generalize hnn:(hd.nul||bg2)=nn at hres;have j8:Hid (Hd.ok {hd with nul:=nn}):=⟨j1.fi,j1.fo⟩;have jc:Hid (Hd.ok {hd with nul:=nn,fi:=orL hd.fi bg1}):=⟨j5.out,j1.fo⟩;generalize hpb:Q6v hs' ph {hd with nul:=nn,fi:=orL hd.fi bg1}=pb at hres;have je:=hid hpb;have j0:=hid hres;clear hres hpb;cases hn:hd.nul
    · have e1:nn=bg2:=by rw[← hnn,hn];rfl
      clear hnn;subst e1;go_wp2_with (first
        |(refine wpList_load_mid rfl 118 _ rfl gp (i*2) rfl [.int .i64 ph,.slice sao psy.length scap] _ RG.out Tryz.underlying118 rfl Q98 ?_)
        |(go_at_call 53;refine BA.mono ?_;rintro e w1⟨rfl,hf1⟩;have jh:wr.heap.size<w1.heap.size:=(by have:=hf1.size;simp at this;omega);have k1:(w1.alloc (.cells (tkA bg1) 130 (0,0))).cell? ⟨wr.heap.size,0,none⟩=some (.int .i64 ph):=(by rw[Q0b (z0b (hf1.at (z0a _ _) (fun x=>x))) 0];rfl))
        |(refine z0e rfl 130 _ _ rfl w1 _ (tkA bg1) _ rfl rfl rfl (Q0s j2.out) (Q0k rfl (z0u j2.out)) (z1g _) ?_)
        |(go_at_call 84;refine(GA.out _ (j4.fresh (hf1.alloc _))).mono ?_;rintro e w2⟨rfl,hf2⟩;have ji:w1.heap.size<w2.heap.size:=(by have:=hf2.size;simp at this;omega);have kk:(w2.alloc (.cells (hdA hd) 179 (0,0))).cell? ⟨w2.heap.size,0,none⟩=some (.bool hd.nul):=(by rw[Q0b (z0a w2 _) 0];exact y0v hd);rw[hn]at kk)
        |(refine z0e rfl 179 _ _ rfl w2 _ (hdA hd) _ rfl rfl rfl (Q1n j1.out) (Q0k rfl (z07 j1.out)) (z1t _) ?_)
        |(refine wpList_load_mid rfl 130 _ rfl w2.heap.size 3 rfl (bls hd.fi) _ (Q6n (h:={hd with nul:=nn}) j8.out (by rw[← y10];exact z0a _ _)) Tryz.underlying130 rfl (Q5j j1.fi) ?_)
        |(refine wpList_load_row rfl 130 _ rfl w1.heap.size rfl _ _ _ _ (z0b (hf2.at (z0a _ _) (fun x=>x))) Tryz.underlying130 rfl (Q0s j2.out) ?_)
        |(go_at_call 54;refine(z1b _ hd.fi bg1 j1.fi j2.out).mono ?_;rintro e w3⟨rfl,hf3⟩;have j6:=hid (hf3.at (z0a w2 _) (fun x=>x));rw[y10]at j6;have k4:(w3.setCells w2.heap.size 3 (tkA (orL hd.fi bg1)).toList).cell? ⟨wr.heap.size,0,none⟩=some (.int .i64 ph):=(by rw[z0z (by omega),Q0b (hf3.at (z0b (hf2.at (z0b (hf1.at (z0a _ _) (fun x=>x))) (fun x=>x))) (fun x=>x)) 0];rfl);have jd:Hid ((w3.setCells w2.heap.size 3 (tkA (orL hd.fi bg1)).toList).heap[w2.heap.size]? = some (.cells (hdA {hd with nul:=nn,fi:=orL hd.fi bg1}) 179 (0,0))):=(by unfold Hid;rw[z0p _ _ _ _ _ _ _ j6.out];rw[← y75 j8.out j5.out];rfl);have j7:Hid (Q0a wr (w3.setCells w2.heap.size 3 (tkA (orL hd.fi bg1)).toList)):=Mod.setCells (by intro q;omega) _ _ _ (Mod.trans (Mod.trans (Mod.trans ((mRf _ wr).alloc _) hf1 |>.alloc _) hf2 |>.alloc _) hf3))
        |(refine wpList_store_mid rfl 130 _ _ rfl w2.heap.size 3 (tkA (orL hd.fi bg1)) rfl rfl (by rw[z0u j5.out];exact z4k j8.out j6.out (by omega)) (Q0s j5.out) (z1g _) ?_)
        |(refine wpList_load_row rfl 179 _ rfl w2.heap.size rfl _ _ _ _ jd.out Tryz.underlying179 rfl (Q1n jc.out) ?_)
        |(go_at_call 121;refine(PA.out _ {hd with nul:=nn,fi:=orL hd.fi bg1} jc.out (HF.fresh j7.out)).mono ?_;rintro e w4⟨rfl,hF4,hm4⟩;rw[je.out]))
      · have hq:pb=true:=by assumption
        go_roundw
        case rel =>
          refine⟨i+1,true,_,rfl,by go_num,by omega,hF4,?_,Mod.trans j3.out (Mod.trans (Mod.mono j7.out (fun _ _ x=>x.elim)) hm4)⟩;have:=j0.out;rw[hq,qDm]at this;exact this
        exact jb.out
      have hq:pb=false:=by assumption
      go_roundw
      case rel =>
        refine⟨i+1,gr,_,rfl,by go_num,by omega,hF4,?_,Mod.trans j3.out (Mod.trans (Mod.mono j7.out (fun _ _ x=>x.elim)) hm4)⟩;have:=j0.out;rw[hq,qCk]at this;exact this
      exact jb.out
    have e1:nn=true:=by rw[← hnn,hn];rfl
    clear hnn;subst e1;go_wp2_with (first
      |(refine wpList_load_mid rfl 118 _ rfl gp (i*2) rfl [.int .i64 ph,.slice sao psy.length scap] _ RG.out Tryz.underlying118 rfl Q98 ?_)
      |(go_at_call 53;refine BA.mono ?_;rintro e w1⟨rfl,hf1⟩;have jh:wr.heap.size<w1.heap.size:=(by have:=hf1.size;simp at this;omega);have k1:(w1.alloc (.cells (tkA bg1) 130 (0,0))).cell? ⟨wr.heap.size,0,none⟩=some (.int .i64 ph):=(by rw[Q0b (z0b (hf1.at (z0a _ _) (fun x=>x))) 0];rfl))
      |(refine z0e rfl 130 _ _ rfl w1 _ (tkA bg1) _ rfl rfl rfl (Q0s j2.out) (Q0k rfl (z0u j2.out)) (z1g _) ?_)
      |(go_at_call 84;refine(GA.out _ (j4.fresh (hf1.alloc _))).mono ?_;rintro e w2⟨rfl,hf2⟩;have ji:w1.heap.size<w2.heap.size:=(by have:=hf2.size;simp at this;omega);have kk:(w2.alloc (.cells (hdA hd) 179 (0,0))).cell? ⟨w2.heap.size,0,none⟩=some (.bool hd.nul):=(by rw[Q0b (z0a w2 _) 0];exact y0v hd);rw[hn]at kk)
      |(refine z0e rfl 179 _ _ rfl w2 _ (hdA hd) _ rfl rfl rfl (Q1n j1.out) (Q0k rfl (z07 j1.out)) (z1t _) ?_)
      |(refine wpList_load_mid rfl 130 _ rfl w2.heap.size 3 rfl (bls hd.fi) _ (Q6n (h:={hd with nul:=true}) j8.out (by rw[← y10];exact z0a _ _)) Tryz.underlying130 rfl (Q5j j1.fi) ?_)
      |(refine wpList_load_row rfl 130 _ rfl w1.heap.size rfl _ _ _ _ (z0b (hf2.at (z0a _ _) (fun x=>x))) Tryz.underlying130 rfl (Q0s j2.out) ?_)
      |(go_at_call 54;refine(z1b _ hd.fi bg1 j1.fi j2.out).mono ?_;rintro e w3⟨rfl,hf3⟩;have j6:=hid (hf3.at (z0a w2 _) (fun x=>x));rw[y10]at j6;have k4:(w3.setCells w2.heap.size 3 (tkA (orL hd.fi bg1)).toList).cell? ⟨wr.heap.size,0,none⟩=some (.int .i64 ph):=(by rw[z0z (by omega),Q0b (hf3.at (z0b (hf2.at (z0b (hf1.at (z0a _ _) (fun x=>x))) (fun x=>x))) (fun x=>x)) 0];rfl);have jd:Hid ((w3.setCells w2.heap.size 3 (tkA (orL hd.fi bg1)).toList).heap[w2.heap.size]? = some (.cells (hdA {hd with nul:=true,fi:=orL hd.fi bg1}) 179 (0,0))):=(by unfold Hid;rw[z0p _ _ _ _ _ _ _ j6.out];rw[← y75 j8.out j5.out];rfl);have j7:Hid (Q0a wr (w3.setCells w2.heap.size 3 (tkA (orL hd.fi bg1)).toList)):=Mod.setCells (by intro q;omega) _ _ _ (Mod.trans (Mod.trans (Mod.trans ((mRf _ wr).alloc _) hf1 |>.alloc _) hf2 |>.alloc _) hf3))
      |(refine wpList_store_mid rfl 130 _ _ rfl w2.heap.size 3 (tkA (orL hd.fi bg1)) rfl rfl (by rw[z0u j5.out];exact z4k j8.out j6.out (by omega)) (Q0s j5.out) (z1g _) ?_)
      |(refine wpList_load_row rfl 179 _ rfl w2.heap.size rfl _ _ _ _ jd.out Tryz.underlying179 rfl (Q1n jc.out) ?_)
      |(go_at_call 121;refine(PA.out _ {hd with nul:=true,fi:=orL hd.fi bg1} jc.out (HF.fresh j7.out)).mono ?_;rintro e w4⟨rfl,hF4,hm4⟩;rw[je.out]))
    · have hq:pb=true:=by assumption
      go_roundw
      case rel =>
        refine⟨i+1,true,_,rfl,by go_num,by omega,hF4,?_,Mod.trans j3.out (Mod.trans (Mod.mono j7.out (fun _ _ x=>x.elim)) hm4)⟩;have:=j0.out;rw[hq,qDm]at this;exact this
      exact jb.out
    have hq:pb=false:=by assumption
    go_roundw
    case rel =>
      refine⟨i+1,gr,_,rfl,by go_num,by omega,hF4,?_,Mod.trans j3.out (Mod.trans (Mod.mono j7.out (fun _ _ x=>x.elim)) hm4)⟩;have:=j0.out;rw[hq,qCk]at this;exact this
    exact jb.out
  have jg:i=ps.length:=by omega
  rw[jg,qBw]at hres;have ja:(hs',gr)=RES:=hres;have j0:=hid ja;have jl:¬(i:Int)<(ps.length:Int):=by omega
  clear hres hF;go_wp2;go_ret;exact⟨z0s (by rw[← j0.out]),by rw[← j0.out];exact HF.out,j3.out⟩
theorem y3z{w:World}{b:Nat}{c:Array Value}{e:TypeId}(h:w.heap[b]? = some (.cells c e (0,0)))(o:Nat):w.frozen? ⟨b,o,none⟩=false:=Q0g h o
theorem x2j(w:World)(b:Nat)(R H:Int)(vp vh:Value)(ps:List PV)(hs:List Hd)(h:FA w b R H vp vh ps hs)(hps:ps.length<=1000) :
    Calls Tryz.prog 113 #[Q25 b] w fun e w'=>e=.returned (.bool (Q41 (Q0j ps) hs false).2)/\FA w' b R H vp vh ps (Q41 (Q0j ps) hs false).1/\Mod (Q18 vh) w w':=by
  have jd:=hid h;obtain⟨ao,cap,hv⟩:=z0d h.prs.row.own;subst hv;have k2:=h.cell 2;simp at k2;generalize hR:Q41 (Q0j ps) hs false=RES;have HR:=hid hR;clear hR h;go_enter Tryz.func113,Tryz.ntmps113
  go_wp2;go_loopw [3,5,6,13] (fun x3 _ _ x13 wr=>∃(i:Nat) (gr:Bool) (hs':List Hd),x3=.bool gr/\x13=.int .i64 i/\i<=ps.length/\FA wr b R H (.slice ao ps.length cap) vh ps hs'/\Q41 (Q0j (ps.drop i)) hs' gr=RES/\Mod (Q18 vh) w wr)
      (fun _ _ _ x _=>ps.length+1-(intOf x).toNat)
  case atStart=>exact⟨0,false,hs,rfl,rfl,by omega,jd.out,HR.out,mRf _ w⟩
  obtain⟨i,gr,hs',rfl,rfl,hi,hF,hres,hmod⟩:=hrel;have j8:=hid (Q15 (B:=ps.length+1) i (by omega));have j1:=hid hmod;have HF:=hid hF;clear hmod;by_cases hlt:i<ps.length
  · have ji:(i:Int)<(ps.length:Int):=by omega
    rw[qC hlt]at hres;obtain⟨gp,cap',hv'⟩:=Joins.ownsRow_form hF.prs.row.own (by omega);rw[qI]at hv';obtain⟨rfl,_,rfl⟩:=hv';have RG:Hid (wr.rangeAt gp (i*2) [.int .i64 ps[i].pr.head,ps[i].vs]):=hF.prs.row.range i hlt;have jf:=hF.size;have j4:=hid (hF.fresh ((mRf _ wr).alloc (.cells #[.int .i64 ps[i].pr.head,ps[i].vs] 118 (0,0))));have j5:=hid (hF.prs.syms ps[i] (by simp));unfold Q0j at hres;rw[qCl]at hres;unfold Q41 Q4n at hres;generalize ps[i].pr=pr at hres RG j5 j4;generalize ps[i].vs=pvs at RG j5 j4;obtain⟨ph,psy⟩:=pr;dsimp only at hres RG j5 j4;obtain⟨sao,scap,hsv,_⟩:=j5.out;subst hsv;have j2:=hid (z0k hF.ok ph);have AA:=hid (fun w1 (hf:Q0a wr w1)=>y9k w1 b R H _ vh ps hs' b _ psy (HF.fresh hf) (by have:=hf.size;omega) (j5.kept (qEa jf) hf (fun _ _ x=>x)));have GA:=hid (fun w (h:FA w b R H (.slice (some ⟨gp,0,none⟩) ps.length cap) vh ps hs')=>z4i w b R H _ vh ps hs' ph h);have PA:=hid (fun w (x:Hd) (hx:x.ok) (h:FA w b R H (.slice (some ⟨gp,0,none⟩) ps.length cap) vh ps hs')=>y2f w b R H _ vh ps hs' ph x hx h);generalize Q1i hs' ph=hd at hres j2 GA;clear hF;cases hal:Q4y hs' psy
    · rw[hal]at hres AA
      have je:({hd with fru:=hd.fru||false}:Hd)=hd:=by simp
      rw[je]at hres;generalize hpb:Q6v hs' ph hd=pb at hres;have j9:=hid hpb;have j0:=hid hres;clear hres hpb;go_wp2_with (first
        |(refine wpList_load_mid rfl 118 _ rfl gp (i*2) rfl [.int .i64 ph,.slice sao psy.length scap] _ RG.out Tryz.underlying118 rfl Q98 ?_)
        |(go_at_call 84;refine(GA.out _ j4.out).mono ?_;rintro e w1⟨rfl,hf1⟩;have jh:wr.heap.size<w1.heap.size:=(by have:=hf1.size;simp at this;omega);have k1:(w1.alloc (.cells (hdA hd) 179 (0,0))).cell? ⟨wr.heap.size,1,none⟩=some (.slice sao psy.length scap):=(by rw[Q0b (z0b (hf1.at (z0a _ _) (fun x=>x))) 1];rfl);have j6:Hid (Q0a wr (w1.alloc (.cells (hdA hd) 179 (0,0)))):=(Mod.trans ((mRf _ wr).alloc _) hf1 |>.alloc _))
        |(refine z0e rfl 179 _ _ rfl w1 _ (hdA hd) _ rfl rfl rfl (Q1n j2.out) (Q0k rfl (z07 j2.out)) (z1t _) ?_)
        |(go_at_call 122;refine(AA.out _ j6.out).mono ?_;rintro e w2⟨rfl,hf2⟩;have j3:=hid (Mod.trans j6.out hf2);have jb:=hid (hf2.at (z0a w1 _) (fun x=>x));have k4:w2.cell? ⟨wr.heap.size,0,none⟩=some (.int .i64 ph):=(by rw[Q0b (hf2.at (z0b (hf1.at (z0a _ _) (fun x=>x))) (fun x=>x)) 0];rfl))
        |(refine wpList_load_row rfl 179 _ rfl w1.heap.size rfl _ _ _ _ jb.out Tryz.underlying179 rfl (Q1n j2.out) ?_)
        |(go_at_call 121;refine(PA.out _ hd j2.out (HF.fresh j3.out)).mono ?_;rintro e w4⟨rfl,hF4,hm4⟩;rw[j9.out]))
      · have hq:pb=true:=by assumption
        go_roundw
        case rel =>
          refine⟨i+1,true,_,rfl,by go_num,by omega,hF4,?_,Mod.trans j1.out (Mod.trans (Mod.mono j3.out (fun _ _ x=>x.elim)) hm4)⟩;have:=j0.out;rw[hq,qDm]at this;exact this
        exact j8.out
      have hq:pb=false:=by assumption
      go_roundw
      case rel =>
        refine⟨i+1,gr,_,rfl,by go_num,by omega,hF4,?_,Mod.trans j1.out (Mod.trans (Mod.mono j3.out (fun _ _ x=>x.elim)) hm4)⟩;have:=j0.out;rw[hq,qCk]at this;exact this
      exact j8.out
    rw[hal]at hres AA;rw[qDm]at hres;have jc:Hid (Hd.ok {hd with fru:=true}):=⟨j2.fi,j2.fo⟩;generalize hpb:Q6v hs' ph {hd with fru:=true}=pb at hres;have j9:=hid hpb;have j0:=hid hres;clear hres hpb;go_wp2_with (first
      |(refine wpList_load_mid rfl 118 _ rfl gp (i*2) rfl [.int .i64 ph,.slice sao psy.length scap] _ RG.out Tryz.underlying118 rfl Q98 ?_)
      |(go_at_call 84;refine(GA.out _ j4.out).mono ?_;rintro e w1⟨rfl,hf1⟩;have jh:wr.heap.size<w1.heap.size:=(by have:=hf1.size;simp at this;omega);have k1:(w1.alloc (.cells (hdA hd) 179 (0,0))).cell? ⟨wr.heap.size,1,none⟩=some (.slice sao psy.length scap):=(by rw[Q0b (z0b (hf1.at (z0a _ _) (fun x=>x))) 1];rfl);have j6:Hid (Q0a wr (w1.alloc (.cells (hdA hd) 179 (0,0)))):=(Mod.trans ((mRf _ wr).alloc _) hf1 |>.alloc _))
      |(refine z0e rfl 179 _ _ rfl w1 _ (hdA hd) _ rfl rfl rfl (Q1n j2.out) (Q0k rfl (z07 j2.out)) (z1t _) ?_)
      |(go_at_call 122;refine(AA.out _ j6.out).mono ?_;rintro e w2⟨rfl,hf2⟩;have j3:=hid ((Mod.trans j6.out hf2).setCell (p:=⟨w1.heap.size,2,none⟩) (by intro q;simp at q;omega) (.bool true));have ja:=hid (hf2.at (z0a w1 _) (fun x=>x));have c3:=Q0b ja.out 2;rw[y32]at c3;have z3:=y3z ja.out 2;have jb:Hid ((w2.setCell ⟨w1.heap.size,2,none⟩ (.bool true)).heap[w1.heap.size]? = some (.cells (hdA {hd with fru:=true}) 179 (0,0))):=(by unfold Hid;rw[zhs ja.out,x9o]);have k4:(w2.setCell ⟨w1.heap.size,2,none⟩ (.bool true)).cell? ⟨wr.heap.size,0,none⟩=some (.int .i64 ph):=(by rw[Q0b (z0i (hf2.at (z0b (hf1.at (z0a _ _) (fun x=>x))) (fun x=>x)) (by dsimp only;omega)) 0];rfl))
      |(refine wpList_load_row rfl 179 _ rfl w1.heap.size rfl _ _ _ _ jb.out Tryz.underlying179 rfl (Q1n jc.out) ?_)
      |(go_at_call 121;refine(PA.out _ {hd with fru:=true} jc.out (HF.fresh j3.out)).mono ?_;rintro e w4⟨rfl,hF4,hm4⟩;rw[j9.out]))
    · have hq:pb=true:=by assumption
      go_roundw
      case rel =>
        refine⟨i+1,true,_,rfl,by go_num,by omega,hF4,?_,Mod.trans j1.out (Mod.trans (Mod.mono j3.out (fun _ _ x=>x.elim)) hm4)⟩;have:=j0.out;rw[hq,qDm]at this;exact this
      exact j8.out
    have hq:pb=false:=by assumption
    go_roundw
    case rel =>
      refine⟨i+1,gr,_,rfl,by go_num,by omega,hF4,?_,Mod.trans j1.out (Mod.trans (Mod.mono j3.out (fun _ _ x=>x.elim)) hm4)⟩;have:=j0.out;rw[hq,qCk]at this;exact this
    exact j8.out
  have jg:i=ps.length:=by omega
  rw[jg,qBw]at hres;have j7:(hs',gr)=RES:=hres;have j0:=hid j7;have jj:¬(i:Int)<(ps.length:Int):=by omega
  clear hres hF;go_wp2;go_ret;exact⟨z0s (by rw[← j0.out]),by rw[← j0.out];exact HF.out,j1.out⟩
def Q3f:List Sy->List Hd->Bool->List Hd × Bool
  | [],hs,g=>(hs,g)
  | s :: l,hs,g=>if s.isH=false then Q3f l hs g else
      Q3f l (Q7m hs s.num {Q1i hs s.num with rch:=true}) (g||Q6v hs s.num {Q1i hs s.num with rch:=true})
def Q3j:List Pr->List Hd->Bool->List Hd × Bool
  | [],hs,g=>(hs,g)
  |p::l,hs,g=>if(Q1i hs p.head).rch=false then Q3j l hs g else Q3j l (Q3f p.syms hs g).1 (Q3f p.syms hs g).2
theorem x2k(w:World)(b:Nat)(R H:Int)(vp vh:Value)(ps:List PV)(hs:List Hd)(h:FA w b R H vp vh ps hs)(hps:ps.length<=1000) :
    Calls Tryz.prog 112 #[Q25 b] w fun e w'=>e=.returned (.bool (Q3j (Q0j ps) hs false).2)/\FA w' b R H vp vh ps (Q3j (Q0j ps) hs false).1/\Mod (Q18 vh) w w':=by
  have jg:=hid h;obtain⟨ao,cap,hv⟩:=z0d h.prs.row.own;subst hv;have k2:=h.cell 2;simp at k2;generalize hR:Q3j (Q0j ps) hs false=RES;have HR:=hid hR;clear hR h;go_enter Tryz.func112,Tryz.ntmps112
  go_wp2;go_loopw [3,5,6,8,9,16,30] (fun x3 _ _ _ _ x16 _ wr=>∃(i:Nat) (gr:Bool) (hs':List Hd),x3=.bool gr/\x16=.int .i64 i/\i<=ps.length/\FA wr b R H (.slice ao ps.length cap) vh ps hs'/\Q3j (Q0j (ps.drop i)) hs' gr=RES/\Mod (Q18 vh) w wr)
      (fun _ _ _ _ _ x _ _=>ps.length+1-(intOf x).toNat)
  case atStart=>exact⟨0,false,hs,rfl,rfl,by omega,jg.out,HR.out,mRf _ w⟩
  obtain⟨i,gr,hs',rfl,rfl,hi,hF,hres,hmod⟩:=hrel;obtain⟨wo,hwo⟩:∃wo,wo=wr:=⟨_,rfl⟩;subst hwo;have je:=hid (Q15 (B:=ps.length+1) i (by omega));have j4:=hid hmod;have HF:=hid hF;clear hmod;by_cases hlt:i<ps.length
  · have jq:(i:Int)<(ps.length:Int):=by omega
    rw[qC hlt]at hres;obtain⟨gp,cap',hv'⟩:=Joins.ownsRow_form hF.prs.row.own (by omega);rw[qI]at hv';obtain⟨rfl,_,rfl⟩:=hv';have RG:Hid (wo.rangeAt gp (i*2) [.int .i64 ps[i].pr.head,ps[i].vs]):=hF.prs.row.range i hlt;have jp:=hF.size;have j5:=hid (hF.fresh ((mRf _ wo).alloc (.cells #[.int .i64 ps[i].pr.head,ps[i].vs] 118 (0,0))));have j7:Hid (∀(w1:World) (hs1:List Hd),FA w1 b R H (.slice (some ⟨gp,0,none⟩) ps.length cap) vh ps hs1->Q5z w1 b ps[i].vs ps[i].pr.syms):=fun w1 hs1 h=>h.prs.syms ps[i] (by simp);unfold Q0j at hres;rw[qCl]at hres;unfold Q3j at hres;generalize ps[i].pr=pr at hres RG j7 j5;generalize ps[i].vs=pvs at RG j7 j5;obtain⟨ph,psy⟩:=pr;dsimp only at hres RG j7 j5;obtain⟨sao,scap,hsv,hsc1,hsc2,_⟩:=j7.out _ _ hF;subst hsv;unfold maxLen at hsc2;have j6:=hid (z0k hF.ok ph);have GA:=hid (fun w (h:FA w b R H (.slice (some ⟨gp,0,none⟩) ps.length cap) vh ps hs')=>z4i w b R H _ vh ps hs' ph h);generalize Q1i hs' ph=hd at hres j6 GA;clear hF;cases hn:hd.rch
    · rw[qAb hn]at hres
      have j2:=hid hres;clear hres;go_wp2_with (first
        |(refine wpList_load_mid rfl 118 _ rfl gp (i*2) rfl [.int .i64 ph,.slice sao psy.length scap] _ RG.out Tryz.underlying118 rfl Q98 ?_)
        |(go_at_call 84;refine(GA.out _ j5.out).mono ?_;rintro e w1⟨rfl,hf1⟩;have k1:(w1.alloc (.cells (hdA hd) 179 (0,0))).cell? ⟨w1.heap.size,1,none⟩=some (.bool hd.rch):=(by rw[Q0b (z0a _ _) 1];exact y31 hd);rw[hn]at k1;have j8:Hid (Q0a wo (w1.alloc (.cells (hdA hd) 179 (0,0)))):=(Mod.trans ((mRf _ wo).alloc _) hf1 |>.alloc _))
        |(refine z0e rfl 179 _ _ rfl w1 _ (hdA hd) _ rfl rfl rfl (Q1n j6.out) (Q0k rfl (z07 j6.out)) (z1t _) ?_))
      go_roundw
      case rel=>exact⟨i+1,gr,hs',rfl,by go_num,by omega,HF.fresh j8.out,j2.out,Mod.trans j4.out (Mod.mono j8.out (fun _ _ x=>x.elim))⟩
      exact je.out
    rw[qAa (by simp[hn])]at hres;generalize hRR:Q3f psy hs' gr=RR at hres;have jj:=hid hRR;have j2:=hid hres;clear hres hRR;go_wp2_with (first
      |(refine wpList_load_mid rfl 118 _ rfl gp (i*2) rfl [.int .i64 ph,.slice sao psy.length scap] _ RG.out Tryz.underlying118 rfl Q98 ?_)
      |(go_at_call 84;refine(GA.out _ j5.out).mono ?_;rintro e w1⟨rfl,hf1⟩;have ju:wo.heap.size<w1.heap.size:=(by have:=hf1.size;simp at this;omega);have k1:(w1.alloc (.cells (hdA hd) 179 (0,0))).cell? ⟨w1.heap.size,1,none⟩=some (.bool hd.rch):=(by rw[Q0b (z0a _ _) 1];exact y31 hd);rw[hn]at k1;have k2:(w1.alloc (.cells (hdA hd) 179 (0,0))).cell? ⟨wo.heap.size,1,none⟩=some (.slice sao psy.length scap):=(by rw[Q0b (z0b (hf1.at (z0a _ _) (fun x=>x))) 1];rfl);have j8:Hid (Q0a wo (w1.alloc (.cells (hdA hd) 179 (0,0)))):=(Mod.trans ((mRf _ wo).alloc _) hf1 |>.alloc _))
      |(refine z0e rfl 179 _ _ rfl w1 _ (hdA hd) _ rfl rfl rfl (Q1n j6.out) (Q0k rfl (z07 j6.out)) (z1t _) ?_))
    go_loopw [3,8,9,30] (fun x3 _ _ x30 wr=>∃(j:Nat) (gr1:Bool) (hs1:List Hd),x3=.bool gr1/\x30=.int .i64 j/\j<=psy.length/\FA wr b R H (.slice (some ⟨gp,0,none⟩) ps.length cap) vh ps hs1/\Q3f (psy.drop j) hs1 gr1=RR/\Mod (Q18 vh) w wr)
      (fun _ _ _ x _=>psy.length+1-(intOf x).toNat)
    case atStart=>exact⟨0,gr,hs',rfl,rfl,by omega,HF.fresh j8.out,jj.out,Mod.trans j4.out (Mod.mono j8.out (fun _ _ x=>x.elim))⟩
    obtain⟨j,gr1,hs1,rfl,rfl,hj,hF1,hres1,hmod1⟩:=hrel;have jb:=hid (Q15 (B:=psy.length+1) j (by omega));have j9:=hid hmod1;have ja:=hid hF1;clear hmod1;by_cases hlj:j<psy.length
    · have js:(j:Int)<(psy.length:Int):=by omega
      rw[qC hlj]at hres1;obtain⟨ao2,cap2,hv2,hd1,hd2,hcells⟩:=j7.out _ _ hF1;rw[qI]at hv2;obtain⟨rfl,_,rfl⟩:=hv2;obtain⟨gs,os,rfl,hgs,hrs⟩:=hcells j hlj;have RS:Hid (wr.rangeAt gs (os+j*2) [.bool psy[j].isH,.int .i64 psy[j].num]):=hrs;unfold Q3f at hres1;generalize psy[j].isH=sh at hres1 RS;generalize psy[j].num=sn at hres1 RS;have jo:=hF1.size;clear hcells hrs;cases sh
      · rw[qAb rfl]at hres1
        have j0:=hid hres1;clear hres1 hF1;go_wp2_with (first
          |(refine wpList_load_mid rfl 69 _ rfl gs (os+j*2) rfl [.bool false,.int .i64 sn] _ RS.out Tryz.underlying69 rfl Q93 ?_))
        go_roundw
        case rel=>exact⟨j+1,gr1,hs1,rfl,by go_num,by omega,ja.fresh ((mRf _ wr).alloc _),j0.out,Mod.trans j9.out ((mRf _ wr).alloc _)⟩
        exact jb.out
      rw[qAa (by simp)]at hres1;have j3:=hid (z0k hF1.ok sn);have jd:=hid (fun w (h:FA w b R H (.slice (some ⟨gp,0,none⟩) ps.length cap) vh ps hs1)=>z4i w b R H _ vh ps hs1 sn h);have jk:=hid (fun w (x:Hd) (hx:x.ok) (h:FA w b R H (.slice (some ⟨gp,0,none⟩) ps.length cap) vh ps hs1)=>y2f w b R H _ vh ps hs1 sn x hx h);have jh:=hid (hF1.fresh ((mRf _ wr).alloc (.cells #[.bool true,.int .i64 sn] 69 (0,0))));generalize Q1i hs1 sn=hd1 at hres1 j3 jd;have jf:Hid (Hd.ok {hd1 with rch:=true}):=⟨j3.fi,j3.fo⟩;generalize hpb:Q6v hs1 sn {hd1 with rch:=true}=pb at hres1;have ji:=hid hpb;have j0:=hid hres1;clear hres1 hF1 hpb;go_wp2_with (first
        |(refine wpList_load_mid rfl 69 _ rfl gs (os+j*2) rfl [.bool true,.int .i64 sn] _ RS.out Tryz.underlying69 rfl Q93 ?_)
        |(go_at_call 84;refine(jd.out _ jh.out).mono ?_;rintro e w2⟨rfl,hf2⟩;have jv:wr.heap.size<w2.heap.size:=(by have:=hf2.size;simp at this;omega);have c3:(w2.alloc (.cells (hdA hd1) 179 (0,0))).cell? ⟨w2.heap.size,1,none⟩=some (.bool hd1.rch):=(by rw[Q0b (z0a _ _) 1];exact y31 hd1);have z3:=y3z (z0a w2 (.cells (hdA hd1) 179 (0,0))) 1;have jc:Hid (Q0a wr (w2.alloc (.cells ((hdA hd1).setIfInBounds 1 (.bool true)) 179 (0,0)))):=(Mod.trans ((mRf _ wr).alloc _) hf2 |>.alloc _);have jl:Hid ((w2.alloc (.cells ((hdA hd1).setIfInBounds 1 (.bool true)) 179 (0,0))).heap[w2.heap.size]? = some (.cells (hdA {hd1 with rch:=true}) 179 (0,0))):=(by unfold Hid;rw[x9n];exact z0a _ _);have k4:(w2.alloc (.cells ((hdA hd1).setIfInBounds 1 (.bool true)) 179 (0,0))).cell? ⟨wr.heap.size,1,none⟩=some (.int .i64 sn):=(by rw[Q0b (z0b (hf2.at (z0a _ _) (fun x=>x))) 1];rfl))
        |(refine z0e rfl 179 _ _ rfl w2 _ (hdA hd1) _ rfl rfl rfl (Q1n j3.out) (Q0k rfl (z07 j3.out)) (z1t _) ?_)
        |(refine wpList_load_row rfl 179 _ rfl w2.heap.size rfl _ _ _ _ jl.out Tryz.underlying179 rfl (Q1n jf.out) ?_)
        |(go_at_call 121;refine(jk.out _ {hd1 with rch:=true} jf.out (ja.fresh jc.out)).mono ?_;rintro e w4⟨rfl,hF4,hm4⟩;rw[ji.out]))
      · have hq:pb=true:=by assumption
        go_roundw
        case rel =>
          refine⟨j+1,true,_,rfl,by go_num,by omega,hF4,?_,Mod.trans j9.out (Mod.trans (Mod.mono jc.out (fun _ _ x=>x.elim)) hm4)⟩;have:=j0.out;rw[hq,qDm]at this;exact this
        exact jb.out
      have hq:pb=false:=by assumption
      go_roundw
      case rel =>
        refine⟨j+1,gr1,_,rfl,by go_num,by omega,hF4,?_,Mod.trans j9.out (Mod.trans (Mod.mono jc.out (fun _ _ x=>x.elim)) hm4)⟩;have:=j0.out;rw[hq,qCk]at this;exact this
      exact jb.out
    have jn:j=psy.length:=by omega
    rw[jn,qBw]at hres1;have j1:(hs1,gr1)=RR:=hres1;have j0:=hid j1;have jt:¬(j:Int)<(psy.length:Int):=by omega
    clear hres1 j1 hF1;go_wp2;go_roundw
    case rel =>
      refine⟨i+1,gr1,hs1,rfl,by go_num,by omega,ja.out,?_,j9.out⟩;have:=j2.out;rw[← j0.out]at this;exact this
    exact je.out
  have jm:i=ps.length:=by omega
  rw[jm,qBw]at hres;have j1:(hs',gr)=RES:=hres;have j2:=hid j1;have jr:¬(i:Int)<(ps.length:Int):=by omega
  clear hres hF;go_wp2;go_ret;exact⟨z0s (by rw[← j2.out]),by rw[← j2.out];exact HF.out,j4.out⟩
end Go.Proofs.YtcpceafmlgaodaaGreat
