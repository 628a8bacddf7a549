import Derived.Test.YteneagnhihcljaaGreatDoorSe3
namespace Go.Proofs.YteneagnhihcljaaGreatDoor
open Go.RowKit
set_option linter.unusedVariables false
set_option linter.unusedSimpArgs false

theorem results_row1 {P : Program} {fn : Func} {p u : Tmp} {ty : TypeId} (h : fn.results = #[.cell p ty, .tmp u]) (tmps : Array Value) (w : World) (g : Nat) (t : TypeId) (cs : Array Value) (fr : Nat × Nat) (d : TypeDesc)
    (hp : tmps.getD p undef = .pointer (some ⟨g, 0, none⟩)) (hg : w.heap[g]? = some (.cells cs t fr))
    (hu : P.underlying ty = some d) (hd : (match d with | .struct _ | .array _ _ => true | _ => false) = true) (hi : (P.info? ty).map (·.size) = some cs.size) :
    (results fn tmps).run P w = .ok (.tuple #[.agg cs, tmps.getD u undef]) w := by
  have hp' : tmps[p]?.getD undef = .pointer (some ⟨g, 0, none⟩) := by simpa using hp
  simp [results, h, hp', asAddr, run_loadVar_row w g t ty cs fr d hg hu hd hi]

def begF (hs : List Hd) : List Sy → List Bool → List Bool × Bool
  | [], acc => (acc, true)
  | s :: l, acc => if s.isH = false then (withT acc s.num, false) else
      if (getH hs s.num).nul = false then (orL acc (getH hs s.num).fi, false) else begF hs l (orL acc (getH hs s.num).fi)
theorem begF_len {hs : List Hd} (h : ∀ x ∈ hs, x.ok) : ∀ (l : List Sy) (acc : List Bool), acc.length = 9 → (begF hs l acc).1.length = 9
  | [], acc, ha => ha
  | s :: l, acc, ha => by
    unfold begF
    split
    · exact withT_len ha
    · split
      · exact orL_len ha (getH_ok h _).fi
      · exact begF_len h l _ (orL_len ha (getH_ok h _).fi)

theorem hdRangeFi {w : World} {g : Nat} {h : Hd} {t : TypeId} (k : h.ok) (hb : w.heap[g]? = some (.cells (hdA h) t (0, 0))) : w.rangeAt g 3 (bls h.fi) := fun j v hj => by
  rw [cellOf hb]
  have hlt := (List.getElem?_eq_some_iff.1 hj).1
  simp only [hdA, Hd.cells, List.getElem?_toArray]
  have e : 3 + j = j + 1 + 1 + 1 := by omega
  rw [e]
  simp only [List.getElem?_cons_succ]
  rw [List.getElem?_append_left hlt]; exact hj
theorem hdRangeFo {w : World} {g : Nat} {h : Hd} {t : TypeId} (k : h.ok) (hb : w.heap[g]? = some (.cells (hdA h) t (0, 0))) : w.rangeAt g 12 (bls h.fo) := fun j v hj => by
  rw [cellOf hb]
  simp only [hdA, Hd.cells, List.getElem?_toArray]
  have e : 12 + j = j + 9 + 1 + 1 + 1 := by omega
  rw [e]
  simp only [List.getElem?_cons_succ]
  rw [List.getElem?_append_right (by simp [bls, k.fi])]
  simpa [bls, k.fi] using hj

theorem szSy : (Tryz.prog.info? 84).map (·.size) = some 2 := by kernel_rfl

set_option maxRecDepth 20000 in
set_option maxHeartbeats 4000000 in
theorem begin_any (w : World) (b : Nat) (R H : Int) (vp vh : Value) (ps : List PV) (hs : List Hd) (B : Nat) (vs : Value) (syms : List Sy) (h : FA w b R H vp vh ps hs) (hB : B ≤ w.heap.size) (hsy : SymAt w B vs syms) :
    Calls Tryz.prog 45 #[bptr b, vs] w fun e w' => e = .returned (.tuple #[.agg (tkA (begF hs syms zero9).1), .bool (begF hs syms zero9).2]) ∧ Fresh w w' := by
  have HF := hid h
  have HOK := hid h.ok
  have HSY := hid hsy
  obtain ⟨ao, cap, hv, hc1, hc2, hcells⟩ := hsy
  subst hv
  unfold maxLen at hc2
  have HC := hid hcells
  generalize hR : begF hs syms zero9 = RES
  have HR := hid hR
  have HLen : Hid (RES.1.length = 9) := by unfold Hid; rw [← hR]; exact begF_len h.ok _ _ rfl
  have hb := heap_lt h.blk
  clear hcells hR h
  go_enter Tryz.func45, Tryz.ntmps45
  go_wp2
  go_loopw [8, 9, 12] (fun x8 x9 x12 wr => ∃ (i : Nat) (acc : List Bool), x12 = .int .i64 i ∧ i ≤ syms.length ∧ acc.length = 9 ∧ begF hs (syms.drop i) acc = RES ∧ Fresh w wr ∧ wr.heap[w.heap.size]? = some (.cells (tkA zero9) 110 (0, 0)) ∧ wr.heap[w.heap.size + 1]? = some (.cells (tkA acc) 110 (0, 0)))
      (fun _ _ x _ => syms.length + 1 - (intOf x).toNat)
  case atStart =>
    refine ⟨0, zero9, rfl, by omega, rfl, HR.out, ((Mod.refl _ w).alloc _).alloc _, heap_alloc2_old _ _ _, heap_alloc2_new _ _ _⟩
  case round =>
    obtain ⟨i, acc, rfl, hi, hacc, hres, hfr, hb0, hb1⟩ := hrel
    have HME := hid (meas (B := syms.length + 1) i (by omega))
    have HB0 := hid hb0
    have HB1 := hid hb1
    have HA := hid hacc
    have hlt0 := heap_lt hb0
    have hlt1 := heap_lt hb1
    have HFR := hid hfr
    clear hb0 hb1 hacc
    by_cases hlt : i < syms.length
    · rw [List.drop_eq_getElem_cons hlt] at hres
      obtain ⟨g, o, rfl, hgB, hrg⟩ := HC.out i hlt
      have RG : Hid (wr.rangeAt g (o + i * 2) [.bool syms[i].isH, .int .i64 syms[i].num]) := rangeAt_block hrg (hfr.block g (by omega) (fun x => x))
      unfold begF at hres
      generalize syms[i].isH = sh at hres RG
      generalize syms[i].num = sn at hres RG
      have hi1 : (i : Int) < (syms.length : Int) := by omega
      clear hrg hfr
      cases sh
      · rw [if_pos rfl] at hres
        have HRES := hid hres
        have HWL := hid (withT_len (n := sn) HA.out)
        clear hres
        go_wp2_with (first
          | (refine wpList_load_mid rfl 84 _ rfl g (o + i * 2) rfl [.bool false, .int .i64 sn] _ RG.out Tryz.underlying84 rfl szSy ?_)
          | (refine wpList_load_row rfl 110 _ rfl (w.heap.size + 1) rfl _ _ _ _ (heap_alloc_prev HB1.out) Tryz.underlying110 rfl (szTokOf HA.out) ?_)
          | (go_at_call 48; refine (twith_any _ acc sn HA.out).mono ?_; rintro e w1 ⟨rfl, hf1⟩)
          | (refine wpList_store_row rfl 110 _ _ rfl w.heap.size _ rfl rfl _ _ (hf1.at (heap_alloc_prev HB0.out) (fun x => x)) (szTokOf HWL.out) (sameSize rfl (tk_size HWL.out)) (tk_one _) ?_))
        refine bodyPost_ret (results_row1 rfl _ _ w.heap.size 110 _ (0, 0) _ rfl (setRow_heap _ _ _ _ _ _ (hf1.at (heap_alloc_prev HB0.out) (fun x => x))) Tryz.underlying110 rfl (szTokOf HWL.out)) rfl ⟨?_, ?_⟩
        · rw [← HRES.out]; rfl
        · exact (Mod.trans (HFR.out.alloc _) hf1).setRow (by simp) _
      · rw [if_neg (by simp)] at hres
        have HOH := hid (getH_ok HOK.out sn)
        have GA := hid (fun w (h : FA w b R H vp vh ps hs) => get_any w b R H vp vh ps hs sn h)
        generalize getH hs sn = hd at hres HOH GA
        have HOL := hid (orL_len HA.out HOH.out.fi)
        have HF2 := hid ((HF.out.fresh HFR.out).fresh ((Mod.refl _ wr).alloc (.cells #[.bool true, .int .i64 sn] 84 (0, 0))))
        cases hn : hd.nul
        · rw [if_pos hn] at hres
          have HRES := hid hres
          clear hres
          go_wp2_with (first
            | (refine wpList_load_mid rfl 84 _ rfl g (o + i * 2) rfl [.bool true, .int .i64 sn] _ RG.out Tryz.underlying84 rfl szSy ?_)
            | (go_at_call 66; refine (GA.out _ HF2.out).mono ?_; rintro e w1 ⟨rfl, hf1⟩; have hz1 := hf1.size)
            | (refine wpList_store_new rfl 139 _ _ rfl w1 _ (hdA hd) _ rfl rfl rfl (szHdOf HOH.out) (sameSize rfl (hd_size HOH.out)) (hd_one _) ?_)
            | (refine wpList_load_row rfl 110 _ rfl (w.heap.size + 1) rfl _ _ _ _ (heap_alloc_prev (hf1.at (heap_alloc_prev HB1.out) (fun x => x))) Tryz.underlying110 rfl (szTokOf HA.out) ?_)
            | (refine wpList_load_mid rfl 110 _ rfl w1.heap.size 3 rfl (bls hd.fi) _ (hdRangeFi HOH.out (heap_alloc_at _ _)) Tryz.underlying110 rfl (szTokL HOH.out.fi) ?_)
            | (go_at_call 46; refine (tunion_any _ acc hd.fi HA.out HOH.out.fi).mono ?_; rintro e w2 ⟨rfl, hf2⟩; have kk : (w2.setRow (w.heap.size + 1) (tkA (orL acc hd.fi))).cell? ⟨w1.heap.size, 0, none⟩ = some (.bool hd.nul) := (by rw [cellOf (heap_setRow_prev (hf2.at (heap_alloc_at w1 _) (fun x => x)) (by simp at hz1; omega)) 0]; exact hd_at0 hd); rw [hn] at kk)
            | (refine wpList_store_row rfl 110 _ _ rfl (w.heap.size + 1) _ rfl rfl _ _ (hf2.at (heap_alloc_prev (hf1.at (heap_alloc_prev HB1.out) (fun x => x))) (fun x => x)) (szTokOf HOL.out) (sameSize (tk_size HA.out) (tk_size HOL.out)) (tk_one _) ?_)
            | (refine wpList_load_row rfl 110 _ rfl (w.heap.size + 1) rfl _ _ _ _ (setRow_heap _ _ _ _ _ _ (hf2.at (heap_alloc_prev (hf1.at (heap_alloc_prev HB1.out) (fun x => x))) (fun x => x))) Tryz.underlying110 rfl (szTokOf HOL.out) ?_)
            | (refine wpList_store_row rfl 110 _ _ rfl w.heap.size _ rfl rfl _ _ (heap_setRow_prev (hf2.at (heap_alloc_prev (hf1.at (heap_alloc_prev HB0.out) (fun x => x))) (fun x => x)) (by omega)) (szTokOf HOL.out) (sameSize rfl (tk_size HOL.out)) (tk_one _) ?_))
          refine bodyPost_ret (results_row1 rfl _ _ w.heap.size 110 _ (0, 0) _ rfl (setRow_heap _ _ _ _ _ _ (heap_setRow_prev (hf2.at (heap_alloc_prev (hf1.at (heap_alloc_prev HB0.out) (fun x => x))) (fun x => x)) (by omega))) Tryz.underlying110 rfl (szTokOf HOL.out)) rfl ⟨?_, ?_⟩
          · rw [← HRES.out]; rfl
          · exact ((Mod.trans (Mod.trans (HFR.out.alloc _) hf1 |>.alloc _) hf2).setRow (by simp) _).setRow (by simp) _
        · rw [if_neg (by simp [hn])] at hres
          have HRES := hid hres
          clear hres
          go_wp2_with (first
            | (refine wpList_load_mid rfl 84 _ rfl g (o + i * 2) rfl [.bool true, .int .i64 sn] _ RG.out Tryz.underlying84 rfl szSy ?_)
            | (go_at_call 66; refine (GA.out _ HF2.out).mono ?_; rintro e w1 ⟨rfl, hf1⟩; have hz1 := hf1.size)
            | (refine wpList_store_new rfl 139 _ _ rfl w1 _ (hdA hd) _ rfl rfl rfl (szHdOf HOH.out) (sameSize rfl (hd_size HOH.out)) (hd_one _) ?_)
            | (refine wpList_load_row rfl 110 _ rfl (w.heap.size + 1) rfl _ _ _ _ (heap_alloc_prev (hf1.at (heap_alloc_prev HB1.out) (fun x => x))) Tryz.underlying110 rfl (szTokOf HA.out) ?_)
            | (refine wpList_load_mid rfl 110 _ rfl w1.heap.size 3 rfl (bls hd.fi) _ (hdRangeFi HOH.out (heap_alloc_at _ _)) Tryz.underlying110 rfl (szTokL HOH.out.fi) ?_)
            | (go_at_call 46; refine (tunion_any _ acc hd.fi HA.out HOH.out.fi).mono ?_; rintro e w2 ⟨rfl, hf2⟩; have kk : (w2.setRow (w.heap.size + 1) (tkA (orL acc hd.fi))).cell? ⟨w1.heap.size, 0, none⟩ = some (.bool hd.nul) := (by rw [cellOf (heap_setRow_prev (hf2.at (heap_alloc_at w1 _) (fun x => x)) (by simp at hz1; omega)) 0]; exact hd_at0 hd); rw [hn] at kk)
            | (refine wpList_store_row rfl 110 _ _ rfl (w.heap.size + 1) _ rfl rfl _ _ (hf2.at (heap_alloc_prev (hf1.at (heap_alloc_prev HB1.out) (fun x => x))) (fun x => x)) (szTokOf HOL.out) (sameSize (tk_size HA.out) (tk_size HOL.out)) (tk_one _) ?_))
          go_roundw
          case rel =>
            refine ⟨i + 1, orL acc hd.fi, by go_num, by omega, HOL.out, HRES.out, ?_, ?_, ?_⟩
            · exact (Mod.trans (Mod.trans (HFR.out.alloc _) hf1 |>.alloc _) hf2).setRow (by simp) _
            · exact heap_setRow_prev (hf2.at (heap_alloc_prev (hf1.at (heap_alloc_prev HB0.out) (fun x => x))) (fun x => x)) (by omega)
            · exact setRow_heap _ _ _ _ _ _ (hf2.at (heap_alloc_prev (hf1.at (heap_alloc_prev HB1.out) (fun x => x))) (fun x => x))
          case measure => exact HME.out
    · have hie : i = syms.length := by omega
      rw [hie, List.drop_length] at hres
      unfold begF at hres
      have HRES := hid hres
      have hi2 : ¬ (i : Int) < (syms.length : Int) := by omega
      clear hres hfr
      go_wp2_with (first
        | (refine wpList_load_row rfl 110 _ rfl (w.heap.size + 1) rfl _ _ _ _ HB1.out Tryz.underlying110 rfl (szTokOf HA.out) ?_)
        | (refine wpList_store_row rfl 110 _ _ rfl w.heap.size _ rfl rfl _ _ HB0.out (szTokOf HA.out) (sameSize rfl (tk_size HA.out)) (tk_one _) ?_))
      refine bodyPost_ret (results_row1 rfl _ _ w.heap.size 110 _ (0, 0) _ rfl (setRow_heap _ _ _ _ _ _ HB0.out) Tryz.underlying110 rfl (szTokOf HA.out)) rfl ⟨?_, ?_⟩
      · rw [← HRES.out]; rfl
      · exact HFR.out.setRow (by simp) _
end Go.Proofs.YteneagnhihcljaaGreatDoor
namespace Go.Proofs.YteneagnhihcljaaGreatDoor
open Go.RowKit
set_option linter.unusedVariables false
set_option linter.unusedSimpArgs false

def fruB (hs : List Hd) (s : Sy) : Bool := !s.isH || (getH hs s.num).fru
def allFru (hs : List Hd) (l : List Sy) : Bool := l.all (fruB hs)

set_option maxRecDepth 20000 in
set_option maxHeartbeats 4000000 in
theorem allFru_any (w : World) (b : Nat) (R H : Int) (vp vh : Value) (ps : List PV) (hs : List Hd) (B : Nat) (vs : Value) (syms : List Sy) (h : FA w b R H vp vh ps hs) (hB : B ≤ w.heap.size) (hsy : SymAt w B vs syms) :
    Calls Tryz.prog 88 #[bptr b, vs] w fun e w' => e = .returned (.bool (allFru hs syms)) ∧ Fresh w w' := by
  have HF := hid h
  have HOK := hid h.ok
  obtain ⟨ao, cap, hv, hc1, hc2, hcells⟩ := hsy
  subst hv
  unfold maxLen at hc2
  have HC := hid hcells
  generalize hR : allFru hs syms = RES
  have HR := hid hR
  clear hcells hR h
  go_enter Tryz.func88, Tryz.ntmps88
  go_wp2
  go_loopw [6, 7, 10] (fun x6 x7 x10 wr => ∃ (i : Nat), x10 = .int .i64 i ∧ i ≤ syms.length ∧ allFru hs (syms.drop i) = RES ∧ Fresh w wr)
      (fun _ _ x _ => syms.length + 1 - (intOf x).toNat)
  case atStart => exact ⟨0, rfl, by omega, HR.out, Mod.refl _ w⟩
  case round =>
    obtain ⟨i, rfl, hi, hres, hfr⟩ := hrel
    have HME := hid (meas (B := syms.length + 1) i (by omega))
    have HFR := hid hfr
    by_cases hlt : i < syms.length
    · rw [List.drop_eq_getElem_cons hlt] at hres
      obtain ⟨g, o, rfl, hgB, hrg⟩ := HC.out i hlt
      have RG : Hid (wr.rangeAt g (o + i * 2) [.bool syms[i].isH, .int .i64 syms[i].num]) := rangeAt_block hrg (hfr.block g (by omega) (fun x => x))
      unfold allFru at hres
      rw [List.all_cons] at hres
      unfold fruB at hres
      generalize syms[i].isH = sh at hres RG
      generalize syms[i].num = sn at hres RG
      have hi1 : (i : Int) < (syms.length : Int) := by omega
      clear hrg hfr
      cases sh
      · simp only [Bool.not_false, Bool.true_or, Bool.true_and] at hres
        have HRES := hid hres
        clear hres
        go_wp2_with (first
          | (refine wpList_load_mid rfl 84 _ rfl g (o + i * 2) rfl [.bool false, .int .i64 sn] _ RG.out Tryz.underlying84 rfl szSy ?_))
        go_roundw
        case rel => exact ⟨i + 1, by go_num, by omega, HRES.out, HFR.out.alloc _⟩
        case measure => exact HME.out
      · simp only [Bool.not_true, Bool.false_or] at hres
        have HOH := hid (getH_ok HOK.out sn)
        have GA := hid (fun w (h : FA w b R H vp vh ps hs) => get_any w b R H vp vh ps hs sn h)
        generalize getH hs sn = hd at hres HOH GA
        have HF2 := hid ((HF.out.fresh HFR.out).fresh ((Mod.refl _ wr).alloc (.cells #[.bool true, .int .i64 sn] 84 (0, 0))))
        cases hn : hd.fru
        · rw [hn, Bool.false_and] at hres
          have HRES := hid hres
          clear hres
          go_wp2_with (first
            | (refine wpList_load_mid rfl 84 _ rfl g (o + i * 2) rfl [.bool true, .int .i64 sn] _ RG.out Tryz.underlying84 rfl szSy ?_)
            | (go_at_call 66; refine (GA.out _ HF2.out).mono ?_; rintro e w1 ⟨rfl, hf1⟩; have kk : (w1.alloc (.cells (hdA hd) 139 (0, 0))).cell? ⟨w1.heap.size, 2, none⟩ = some (.bool hd.fru) := (by rw [cellOf (heap_alloc_at w1 _) 2]; exact hd_at2 hd); rw [hn] at kk)
            | (refine wpList_store_new rfl 139 _ _ rfl w1 _ (hdA hd) _ rfl rfl rfl (szHdOf HOH.out) (sameSize rfl (hd_size HOH.out)) (hd_one _) ?_))
          go_ret
          exact ⟨ret_bool HRES.out, Mod.trans (HFR.out.alloc _) hf1 |>.alloc _⟩
        · rw [hn, Bool.true_and] at hres
          have HRES := hid hres
          clear hres
          go_wp2_with (first
            | (refine wpList_load_mid rfl 84 _ rfl g (o + i * 2) rfl [.bool true, .int .i64 sn] _ RG.out Tryz.underlying84 rfl szSy ?_)
            | (go_at_call 66; refine (GA.out _ HF2.out).mono ?_; rintro e w1 ⟨rfl, hf1⟩; have kk : (w1.alloc (.cells (hdA hd) 139 (0, 0))).cell? ⟨w1.heap.size, 2, none⟩ = some (.bool hd.fru) := (by rw [cellOf (heap_alloc_at w1 _) 2]; exact hd_at2 hd); rw [hn] at kk)
            | (refine wpList_store_new rfl 139 _ _ rfl w1 _ (hdA hd) _ rfl rfl rfl (szHdOf HOH.out) (sameSize rfl (hd_size HOH.out)) (hd_one _) ?_))
          go_roundw
          case rel => exact ⟨i + 1, by go_num, by omega, HRES.out, Mod.trans (HFR.out.alloc _) hf1 |>.alloc _⟩
          case measure => exact HME.out
    · have hie : i = syms.length := by omega
      rw [hie, List.drop_length] at hres
      have HRES := hid hres
      have hi2 : ¬ (i : Int) < (syms.length : Int) := by omega
      clear hres hfr
      go_wp2
      go_ret
      exact ⟨by rw [← HRES.out]; rfl, HFR.out⟩

/-- the productions by themselves -/
def prsOf (ps : List PV) : List Pr := ps.map PV.pr
def growB1 (hs : List Hd) (p : Pr) : List Hd × Bool :=
  let h := getH hs p.head
  let r := begF hs p.syms zero9
  let h' : Hd := { h with nul := h.nul || r.2, fi := orL h.fi r.1 }
  (putF hs p.head h', putB hs p.head h')
def growBL : List Pr → List Hd → Bool → List Hd × Bool
  | [], hs, g => (hs, g)
  | p :: l, hs, g => growBL l (growB1 hs p).1 (g || (growB1 hs p).2)
def growF1 (hs : List Hd) (p : Pr) : List Hd × Bool :=
  let h := getH hs p.head
  let h' : Hd := { h with fru := h.fru || allFru hs p.syms }
  (putF hs p.head h', putB hs p.head h')
def growFL : List Pr → List Hd → Bool → List Hd × Bool
  | [], hs, g => (hs, g)
  | p :: l, hs, g => growFL l (growF1 hs p).1 (g || (growF1 hs p).2)
theorem putF_ok {hs : List Hd} (h : ∀ x ∈ hs, x.ok) (n : Int) {y : Hd} (hy : y.ok) : ∀ x ∈ putF hs n y, x.ok := by
  intro x hx
  unfold putF at hx
  split at hx
  · rcases List.mem_or_eq_of_mem_set hx with h1 | h1
    · exact h x h1
    · rw [h1]; exact hy
  · exact h x hx
theorem putF_len (hs : List Hd) (n : Int) (y : Hd) : (putF hs n y).length = hs.length := by unfold putF; split <;> simp

theorem szPV : (Tryz.prog.info? 73).map (·.size) = some 2 := by kernel_rfl
variable {w w' : World} {b : Nat} {R H : Int} {vp vh : Value} {ps : List PV} {hs : List Hd}
theorem FA.size (h : FA w b R H vp vh ps hs) : b < w.heap.size := heap_lt h.blk
theorem FA.kept (h : FA w b R H vp vh ps hs) {S : Nat → Prop} (hm : Mod S w w') (hS : ∀ k, S k → w.heap.size ≤ k) : FA w' b R H vp vh ps hs :=
  h.fresh ⟨hm.os, hm.tape, hm.output, hm.size, fun k hk _ => hm.block k hk (fun x => by have := hS k x; omega)⟩
end Go.Proofs.YteneagnhihcljaaGreatDoor
