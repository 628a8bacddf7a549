import Derived.Test.YtcpgklcimacngaaGreatCk3
namespace Go.Proofs.YtcpgklcimacngaaGreat
open Go.RowKit
set_option linter.unusedVariables false
set_option linter.unusedSimpArgs false

def symsL (lns : List Ln) (syms : List Wd) : Nat → Nat → Option Int
  | 0, _ => none
  | f + 1, j => match syms[j]? with | some d => if symB lns d then symsL lns syms f (j + 1) else some d.place | none => none
def symsBad (lns : List Ln) (syms : List Wd) : Option Int := symsL lns syms (syms.length + 1) 0
def wrongL (lns : List Ln) : Nat → Nat → Int
  | 0, _ => -1
  | f + 1, i => match lns[i]? with
    | some x => if ruleB x && aheadB lns i then x.front.place else (match symsBad lns x.syms with | some p => p | none => wrongL lns f (i + 1))
    | none => -1
def wrongName (lns : List Ln) : Int := wrongL lns (lns.length + 1) 0
theorem SymsAt.range {w : World} {g n cap : Nat} {ds : List Wd} (h : SymsAt w (.slice (some ⟨g, 0, none⟩) n cap) ds) (i : Nat) (hi : i < ds.length) : w.rangeAt g (i * 9) (ds[i]).cells := RowAt.range h i hi
/-- how many symbols a line may have here -/
def SB (x : LV) : Prop := x.ln.syms.length ≤ 1000

set_option maxRecDepth 20000 in
set_option maxHeartbeats 8000000 in
theorem wrongName_any (w : World) (v : Value) (xs : List LV) (hL : LinesAt w v xs) (hn : xs.length ≤ 1000) (hfb : ∀ x ∈ xs, FB x) (hsb : ∀ x ∈ xs, SB x) :
    Calls Tryz.prog 26 #[v] w fun e w' => e = .returned (.int .i64 (wrongName (xs.map LV.ln))) ∧ Fresh w w' := by
  obtain ⟨ao, cap, hv⟩ := own_form hL.own
  subst hv
  have HL := hid hL
  have HFB := hid hfb
  have HSB := hid hsb
  generalize hR : wrongName (xs.map LV.ln) = R
  have HR : Hid (wrongL (xs.map LV.ln) ((xs.map LV.ln).length + 1) 0 = R) := hR
  clear hL hfb hR hsb
  go_enter Tryz.func26, Tryz.ntmps26
  go_wp2
  go_loopw [9] (fun x9 wr => ∃ (f i : Nat), x9 = .int .i64 i ∧ wrongL (xs.map LV.ln) f i = R ∧ xs.length + 1 ≤ f + i ∧ i ≤ xs.length ∧ Fresh w wr)
      (fun x _ => 1001 - (intOf x).toNat)
  case atStart => exact ⟨_, 0, rfl, HR.out, by simp, by omega, Mod.refl _ _⟩
  case round =>
    obtain ⟨f, i, rfl, hR, hfu, hi, hfr⟩ := hrel
    obtain ⟨f, rfl⟩ : ∃ g, f = g + 1 := ⟨f - 1, by omega⟩
    unfold wrongL at hR
    have HME := hid (meas (B := 1001) i (by omega))
    by_cases hlt : i < xs.length
    · have hlt' : i < (xs.map LV.ln).length := by simpa using hlt
      rw [List.getElem?_eq_getElem hlt'] at hR
      simp only [List.getElem_map] at hR
      obtain ⟨g, cap', hv'⟩ := Joins.ownsRow_form HL.out.own (by omega)
      rw [Value.slice.injEq] at hv'
      obtain ⟨rfl, _, rfl⟩ := hv'
      have HL1 := hid (HL.out.fresh hfr)
      have RG := hid (HL1.out.row.range i hlt)
      have hA := HL1.out.each xs[i] (by simp)
      have HA := hid hA
      have HFr := hid hA.front
      have HFi := hid (HFB.out xs[i] (by simp))
      have hsb := HSB.out xs[i] (by simp)
      obtain ⟨so, sc, hvs⟩ := own_form hA.syms.own
      have HAH := hid (fun w hL => ahead_any w (.slice (some ⟨g, 0, none⟩) xs.length cap) xs i hL (by omega) hlt)
      have k13 := LV.at13 hA.front
      have k0 := LV.at0 xs[i]
      rw [hvs] at k13
      have HVS := hid hvs
      generalize hX : xs[i] = x at *
      clear hA hX hvs
      unfold SB at hsb
      have hrb : Hid (ruleB x.ln = !headB x.ln.front) := rfl
      have RU := hid (fun w => isRule_any x w HFr.out HFi.out)
      rw [← hrb.out] at RU
      cases hra : (ruleB x.ln && aheadB (xs.map LV.ln) i)
      · rw [hra] at hR
        simp only [Bool.false_eq_true, if_false] at hR
        have HRR := hid hR
        clear hR
        have hcase : (ruleB x.ln = false) ∨ (ruleB x.ln = true ∧ aheadB (xs.map LV.ln) i = false) := by
          cases h : ruleB x.ln
          · exact .inl rfl
          · rw [h] at hra; simpa using hra
        clear hra
        rcases hcase with hr | ⟨hr, hah⟩
        all_goals
          rw [hr] at RU
          go_wp2_with (first
            | (go_at_call 31; refine (RU.out _).mono ?_; rintro e w1 ⟨rfl, hf⟩; have HL2 := hid ((HL1.out.fresh ((Mod.refl _ wr).alloc (.cells x.cells.toArray 85 (0, 0)))).fresh hf); have kc := cellOf (hf.at (heap_alloc_at _ _) (fun x => x)); have HBL := hid (hf.at (heap_alloc_at _ _) (fun x => x)); have hfw := (hfr.alloc (.cells x.cells.toArray 85 (0, 0))).trans hf; have hfx : Fresh wr w1 := (Mod.alloc (Mod.refl _ wr) (.cells x.cells.toArray 85 (0, 0))).trans hf)
            | (go_at_call 51; refine (HAH.out _ HL2.out).mono ?_; rw [hah]; rintro e w2 ⟨rfl, hf2⟩; replace HL2 := hid (HL2.out.fresh hf2); clear kc; have kc := cellOf (hf2.at HBL.out (fun x => x)); replace HBL := hid (hf2.at HBL.out (fun x => x)); replace hfw := hfw.trans hf2; replace hfx := hfx.trans hf2)
            | (refine wpList_load_mid rfl 85 _ rfl g (i * 14) rfl x.cells _ RG.out Tryz.underlying85 rfl (by rw [LV.cells_len HFr.out]; exact szLine) ?_)
            | (refine wpList_store_new rfl 85 _ _ rfl wr _ _ _ rfl rfl rfl (szLineOf HFr.out) (sameSize rfl (LV.size HFr.out)) HA.out.one ?_)
            | (refine wpList_load_row rfl 85 _ rfl wr.heap.size rfl _ _ _ _ (heap_alloc_at _ _) Tryz.underlying85 rfl (szLineOf HFr.out) ?_))
          have HF1 := hid hfw
          have HF2 := hid hfx
          clear kc hfw hfx HBL
          generalize hS : symsBad (xs.map LV.ln) x.ln.syms = S at HRR
          have HS : Hid (symsL (xs.map LV.ln) x.ln.syms (x.ln.syms.length + 1) 0 = S) := hS
          clear hS
          obtain ⟨wo, hwo⟩ : ∃ wo, wo = wr := ⟨_, rfl⟩
          subst hwo
          go_loopw [29] (fun y wi => ∃ (ff j : Nat), y = .int .i64 j ∧ symsL (xs.map LV.ln) x.ln.syms ff j = S ∧ x.ln.syms.length + 1 ≤ ff + j ∧ j ≤ x.ln.syms.length ∧ Fresh w wi ∧ Fresh wo wi)
            (fun y _ => 1001 - (intOf y).toNat)
          case atStart => exact ⟨_, 0, rfl, HS.out, by omega, by omega, HF1.out, HF2.out⟩
          case round =>
            obtain ⟨ff, j, rfl, hS, hfj, hj, hwi, hri⟩ := hrel
            obtain ⟨ff, rfl⟩ : ∃ g, ff = g + 1 := ⟨ff - 1, by omega⟩
            unfold symsL at hS
            have HMJ := hid (meas (B := 1001) j (by omega))
            by_cases hlj : j < x.ln.syms.length
            · rw [List.getElem?_eq_getElem hlj] at hS
              simp only [] at hS
              obtain ⟨sg, sc', hv'⟩ := Joins.ownsRow_form HA.out.syms.own (by omega)
              rw [HVS.out, Value.slice.injEq] at hv'
              obtain ⟨rfl, _, rfl⟩ := hv'
              have hsy := HA.out.syms
              rw [HVS.out] at hsy
              have RG2 := hid (SymsAt.range (RowAt.fresh hsy hri) j hlj)
              have hw9 := hsy.wf _ (List.getElem_mem hlj)
              have hl8 : Hid (x.ln.syms[j].ls.length = 8) := by unfold Hid; simp [Wd.cells] at hw9; exact hw9
              have IS := hid (fun w hL => isSymbol_any w (.slice (some ⟨g, 0, none⟩) xs.length cap) xs x.ln.syms[j] hL (by omega) hl8.out)
              have HLi := hid (HL.out.fresh hwi)
              have kp : x.ln.syms[j].cells.toArray[0]? = some (.int .i64 x.ln.syms[j].place) := by simp [Wd.cells]
              generalize x.ln.syms[j] = dj at *
              clear hsy hw9
              cases hsb2 : symB (xs.map LV.ln) dj
              · rw [hsb2] at hS
                simp only [Bool.false_eq_true, if_false] at hS
                have HSS := hid hS
                clear hS
                go_wp2_with (first
                  | (go_at_call 52; refine (IS.out _ (HLi.out.fresh ((Mod.refl _ wr).alloc _))).mono ?_; rw [hsb2]; rintro e w5 ⟨rfl, hf5⟩; have kq := cellOf (hf5.at (heap_alloc_at _ _) (fun x => x)))
                  | (refine wpList_load_mid rfl 80 _ rfl sg (j * 9) rfl dj.cells _ RG2.out Tryz.underlying80 rfl (by rw [Wd.cells_len hl8.out]; exact szWord) ?_)
                  | (refine wpList_store_new rfl 80 _ _ rfl wr _ _ _ rfl rfl rfl (szWordOf hl8.out) (sameSize rfl (Wd.size hl8.out)) (Wd.one _) ?_)
                  | (refine wpList_load_row rfl 80 _ rfl wr.heap.size rfl _ _ _ _ (heap_alloc_at _ _) Tryz.underlying80 rfl (szWordOf hl8.out) ?_))
                go_ret
                have e1 := HRR.out
                rw [← HSS.out] at e1
                exact ⟨ret_int e1, (hwi.alloc _).trans hf5⟩
              · rw [hsb2] at hS
                simp only [if_true] at hS
                have HSS := hid hS
                clear hS
                go_wp2_with (first
                  | (go_at_call 52; refine (IS.out _ (HLi.out.fresh ((Mod.refl _ wr).alloc _))).mono ?_; rw [hsb2]; rintro e w5 ⟨rfl, hf5⟩)
                  | (refine wpList_load_mid rfl 80 _ rfl sg (j * 9) rfl dj.cells _ RG2.out Tryz.underlying80 rfl (by rw [Wd.cells_len hl8.out]; exact szWord) ?_)
                  | (refine wpList_store_new rfl 80 _ _ rfl wr _ _ _ rfl rfl rfl (szWordOf hl8.out) (sameSize rfl (Wd.size hl8.out)) (Wd.one _) ?_)
                  | (refine wpList_load_row rfl 80 _ rfl wr.heap.size rfl _ _ _ _ (heap_alloc_at _ _) Tryz.underlying80 rfl (szWordOf hl8.out) ?_))
                go_roundw
                case rel => exact ⟨ff, j + 1, by go_num, HSS.out, by omega, by omega, (hwi.alloc _).trans hf5, (hri.alloc _).trans hf5⟩
                case measure => exact HMJ.out
            · rw [List.getElem?_eq_none (by omega)] at hS
              simp only [] at hS
              have e1 := HRR.out
              rw [← hS] at e1
              simp only [] at e1
              have E1 := hid e1
              clear hS e1
              go_wp2
              go_roundw
              case rel => exact ⟨f, i + 1, by go_num, E1.out, by omega, by omega, hwi⟩
              case measure => exact HME.out
      · rw [hra] at hR
        simp only [if_true] at hR
        have HRR := hid hR
        simp only [Bool.and_eq_true] at hra
        obtain ⟨hr, hah⟩ := hra
        rw [hr] at RU
        clear hR
        go_wp2_with (first
          | (go_at_call 31; refine (RU.out _).mono ?_; rintro e w1 ⟨rfl, hf⟩; have HL2 := hid ((HL1.out.fresh ((Mod.refl _ wr).alloc (.cells x.cells.toArray 85 (0, 0)))).fresh hf))
          | (go_at_call 51; refine (HAH.out _ HL2.out).mono ?_; rw [hah]; rintro e w2 ⟨rfl, hf2⟩; have kc := cellOf (hf2.at (hf.at (heap_alloc_at _ _) (fun x => x)) (fun x => x)))
          | (refine wpList_load_mid rfl 85 _ rfl g (i * 14) rfl x.cells _ RG.out Tryz.underlying85 rfl (by rw [LV.cells_len HFr.out]; exact szLine) ?_)
          | (refine wpList_store_new rfl 85 _ _ rfl wr _ _ _ rfl rfl rfl (szLineOf HFr.out) (sameSize rfl (LV.size HFr.out)) HA.out.one ?_)
          | (refine wpList_load_row rfl 85 _ rfl wr.heap.size rfl _ _ _ _ (heap_alloc_at _ _) Tryz.underlying85 rfl (szLineOf HFr.out) ?_))
        go_ret
        exact ⟨ret_int HRR.out, ((hfr.alloc _).trans hf).trans hf2⟩
    · rw [List.getElem?_eq_none (by simp; omega)] at hR
      have HRR := hid hR
      clear hR
      go_wp2
      go_ret
      exact ⟨ret_int HRR.out, hfr⟩
end Go.Proofs.YtcpgklcimacngaaGreat
namespace Go.Proofs.YtcpgklcimacngaaGreat
open Go.RowKit
set_option linter.unusedVariables false
set_option linter.unusedSimpArgs false

def emptyB (x : Ln) : Bool := ruleB x && (longF x.ns x.st x.en ByteArray.empty 0 == 0)
def emptyL (lns : List Ln) : Nat → Nat → Int
  | 0, _ => -1
  | f + 1, i => match lns[i]? with | some x => if emptyB x then x.front.place else emptyL lns f (i + 1) | none => -1
def emptyF (lns : List Ln) : Int := emptyL lns (lns.length + 1) 0
theorem longest_zero (w : World) (v : Value) (st en : Int) (ns : List Node) (hN : NodesAt w v ns) (hn : ns.length ≤ 100000) :
    Calls Tryz.prog 53 #[patV v st en, .string ⟨#[]⟩, .int .i64 0] w fun e w' => e = .returned (.int .i64 (longF ns st en ByteArray.empty 0)) ∧ Fresh w w' := by
  have := longest_any w v st en ns ByteArray.empty 0 hN hn (by simp) (by omega)
  exact this

set_option maxRecDepth 20000 in
set_option maxHeartbeats 8000000 in
theorem empty_find (w : World) (v : Value) (xs : List LV) (hL : LinesAt w v xs) (hn : xs.length ≤ 1000) (hfb : ∀ x ∈ xs, FB x) :
    Calls Tryz.prog 27 #[v] w fun e w' => e = .returned (.int .i64 (emptyF (xs.map LV.ln))) ∧ Fresh w w' := by
  obtain ⟨ao, cap, hv⟩ := own_form hL.own
  subst hv
  have HL := hid hL
  have HFB := hid hfb
  generalize hR : emptyF (xs.map LV.ln) = R
  have HR : Hid (emptyL (xs.map LV.ln) ((xs.map LV.ln).length + 1) 0 = R) := hR
  clear hL hfb hR
  go_enter Tryz.func27, Tryz.ntmps27
  go_wp2
  go_loopw [7] (fun x9 wr => ∃ (f i : Nat), x9 = .int .i64 i ∧ emptyL (xs.map LV.ln) f i = R ∧ xs.length + 1 ≤ f + i ∧ i ≤ xs.length ∧ Fresh w wr)
      (fun x _ => 1001 - (intOf x).toNat)
  case atStart => exact ⟨_, 0, rfl, HR.out, by simp, by omega, Mod.refl _ _⟩
  case round =>
    obtain ⟨f, i, rfl, hR, hfu, hi, hfr⟩ := hrel
    obtain ⟨f, rfl⟩ : ∃ g, f = g + 1 := ⟨f - 1, by omega⟩
    unfold emptyL at hR
    have HME := hid (meas (B := 1001) i (by omega))
    by_cases hlt : i < xs.length
    · have hlt' : i < (xs.map LV.ln).length := by simpa using hlt
      rw [List.getElem?_eq_getElem hlt'] at hR
      simp only [List.getElem_map] at hR
      obtain ⟨g, cap', hv'⟩ := Joins.ownsRow_form HL.out.own (by omega)
      rw [Value.slice.injEq] at hv'
      obtain ⟨rfl, _, rfl⟩ := hv'
      have HL1 := hid (HL.out.fresh hfr)
      have RG := hid (HL1.out.row.range i hlt)
      have hA := HL1.out.each xs[i] (by simp)
      have HA := hid hA
      have HFr := hid hA.front
      have HFi := hid (HFB.out xs[i] (by simp))
      have k0 := LV.at0 xs[i]
      obtain ⟨k10, k11, k12⟩ := LV.at10 hA.front
      generalize hX : xs[i] = x at *
      clear hA hX
      have hrb : Hid (ruleB x.ln = !headB x.ln.front) := rfl
      have RU := hid (fun w => isRule_any x w HFr.out HFi.out)
      rw [← hrb.out] at RU
      have LG := hid (fun w hN => longest_zero w x.vn x.ln.st x.ln.en x.ln.ns hN (by have := HA.out.small; omega))
      unfold emptyB at hR
      generalize longF x.ln.ns x.ln.st x.ln.en ByteArray.empty 0 = lg at hR LG
      cases hr : ruleB x.ln
      · rw [hr] at hR RU
        simp only [Bool.false_and, Bool.false_eq_true, if_false] at hR
        have HRR := hid hR
        clear hR
        go_wp2_with (first
          | (go_at_call 31; refine (RU.out _).mono ?_; rintro e w1 ⟨rfl, hf⟩)
          | (refine wpList_load_mid rfl 85 _ rfl g (i * 14) rfl x.cells _ RG.out Tryz.underlying85 rfl (by rw [LV.cells_len HFr.out]; exact szLine) ?_)
          | (refine wpList_store_new rfl 85 _ _ rfl wr _ _ _ rfl rfl rfl (szLineOf HFr.out) (sameSize rfl (LV.size HFr.out)) HA.out.one ?_)
          | (refine wpList_load_row rfl 85 _ rfl wr.heap.size rfl _ _ _ _ (heap_alloc_at _ _) Tryz.underlying85 rfl (szLineOf HFr.out) ?_))
        go_roundw
        case rel => exact ⟨f, i + 1, by go_num, HRR.out, by omega, by omega, (hfr.alloc _).trans hf⟩
        case measure => exact HME.out
      · rw [hr] at hR RU
        simp only [Bool.true_and] at hR
        cases hlg : (lg == 0)
        all_goals
          rw [hlg] at hR
          simp only [Bool.false_eq_true, if_false, if_true] at hR
          have HRR := hid hR
          clear hR
          go_wp2_with (first
            | (go_at_call 31; refine (RU.out _).mono ?_; rintro e w1 ⟨rfl, hf⟩; have kc := cellOf (hf.at (heap_alloc_at _ _) (fun x => x)); have HBL := hid (hf.at (heap_alloc_at _ _) (fun x => x)); have HN1 := hid ((HA.out.nodes.fresh ((Mod.refl _ wr).alloc (.cells x.cells.toArray 85 (0, 0)))).fresh hf))
            | (go_at_call 53; refine (LG.out _ HN1.out).mono ?_; rintro e w2 ⟨rfl, hf2⟩; clear kc; have kc := cellOf (hf2.at HBL.out (fun x => x)))
            | (refine wpList_load_mid rfl 85 _ rfl g (i * 14) rfl x.cells _ RG.out Tryz.underlying85 rfl (by rw [LV.cells_len HFr.out]; exact szLine) ?_)
            | (refine wpList_store_new rfl 85 _ _ rfl wr _ _ _ rfl rfl rfl (szLineOf HFr.out) (sameSize rfl (LV.size HFr.out)) HA.out.one ?_)
            | (refine wpList_load_row rfl 85 _ rfl wr.heap.size rfl _ _ _ _ (heap_alloc_at _ _) Tryz.underlying85 rfl (szLineOf HFr.out) ?_))
        · go_roundw
          case rel => exact ⟨f, i + 1, by go_num, HRR.out, by omega, by omega, ((hfr.alloc _).trans hf).trans hf2⟩
          case measure => exact HME.out
        · go_ret
          exact ⟨ret_int HRR.out, ((hfr.alloc _).trans hf).trans hf2⟩
    · rw [List.getElem?_eq_none (by simp; omega)] at hR
      have HRR := hid hR
      clear hR
      go_wp2
      go_ret
      exact ⟨ret_int HRR.out, hfr⟩

def hasProd (lns : List Ln) : Bool := lns.any (fun x => !ruleB x)
set_option maxRecDepth 20000 in
set_option maxHeartbeats 8000000 in
theorem hasProd_any (w : World) (v : Value) (xs : List LV) (hL : LinesAt w v xs) (hn : xs.length ≤ 1000) (hfb : ∀ x ∈ xs, FB x) :
    Calls Tryz.prog 28 #[v] w fun e w' => e = .returned (.bool (hasProd (xs.map LV.ln))) ∧ Fresh w w' := by
  obtain ⟨ao, cap, hv⟩ := own_form hL.own
  subst hv
  have HL := hid hL
  have HFB := hid hfb
  clear hL hfb
  go_enter Tryz.func28, Tryz.ntmps28
  go_wp2
  go_loopw [6] (fun x9 wr => ∃ (i : Nat), x9 = .int .i64 i ∧ (∀ j (hj : j < xs.length), j < i → ruleB xs[j].ln = true) ∧ i ≤ xs.length ∧ Fresh w wr)
      (fun x _ => 1001 - (intOf x).toNat)
  case atStart => exact ⟨0, rfl, fun j _ h => by omega, by omega, Mod.refl _ _⟩
  case round =>
    obtain ⟨i, rfl, hall, hi, hfr⟩ := hrel
    have HME := hid (meas (B := 1001) i (by omega))
    have HAl := hid hall
    clear hall
    by_cases hlt : i < xs.length
    · obtain ⟨g, cap', hv'⟩ := Joins.ownsRow_form HL.out.own (by omega)
      rw [Value.slice.injEq] at hv'
      obtain ⟨rfl, _, rfl⟩ := hv'
      have HL1 := hid (HL.out.fresh hfr)
      have RG := hid (HL1.out.row.range i hlt)
      have HFr := hid (HL1.out.each xs[i] (by simp)).front
      have HFi := hid (HFB.out xs[i] (by simp))
      have hrb : Hid (ruleB xs[i].ln = !headB xs[i].ln.front) := rfl
      have RU := hid (fun w => isRule_any xs[i] w HFr.out HFi.out)
      rw [← hrb.out] at RU
      cases hr : ruleB xs[i].ln
      all_goals
        rw [hr] at RU
        have HRb := hid hr
        clear hr
        go_wp2_with (first
          | (go_at_call 31; refine (RU.out _).mono ?_; rintro e w1 ⟨rfl, hf⟩)
          | (refine wpList_load_mid rfl 85 _ rfl g (i * 14) rfl xs[i].cells _ RG.out Tryz.underlying85 rfl (by rw [LV.cells_len HFr.out]; exact szLine) ?_))
      · go_ret
        refine ⟨ret_bool ?_, hfr.trans hf⟩
        symm; unfold hasProd; rw [List.any_eq_true]
        exact ⟨xs[i].ln, List.mem_map.2 ⟨xs[i], List.getElem_mem hlt, rfl⟩, by rw [HRb.out]; rfl⟩
      · go_roundw
        case rel =>
          refine ⟨i + 1, by go_num, ?_, by omega, hfr.trans hf⟩
          intro j hj hji
          by_cases e : j = i
          · subst e; exact HRb.out
          · exact HAl.out j hj (by omega)
        case measure => exact HME.out
    · have hie : i = xs.length := by omega
      subst hie
      go_wp2
      go_ret
      refine ⟨ret_bool ?_, hfr⟩
      symm; unfold hasProd; rw [List.any_eq_false]
      intro x hx
      simp only [List.mem_map] at hx
      obtain ⟨y, hy, rfl⟩ := hx
      obtain ⟨j, hj, rfl⟩ := List.getElem_of_mem hy
      simp [HAl.out j hj hj]
end Go.Proofs.YtcpgklcimacngaaGreat
namespace Go.Proofs.YtcpgklcimacngaaGreat
open Go.RowKit
set_option linter.unusedVariables false
set_option linter.unusedSimpArgs false

abbrev lnList (p a b c d e f g k : Int) (sk : Bool) (vn : Value) (st en : Int) (vs : Value) : List Value := [.int .i64 p, .int .u8 a, .int .u8 b, .int .u8 c, .int .u8 d, .int .u8 e, .int .u8 f, .int .u8 g, .int .u8 k, .bool sk, vn, .int .i64 st, .int .i64 en, vs]

end Go.Proofs.YtcpgklcimacngaaGreat
namespace Go.Proofs.YtcpgklcimacngaaGreat
open Go.RowKit
set_option linter.unusedVariables false
set_option linter.unusedSimpArgs false

/-- What a line that was read is like. -/
structure LnOk (s : ByteArray) (x : Ln) : Prop where
  fb : 0 ≤ x.front.ls.getD 0 0 ∧ x.front.ls.getD 0 0 ≤ 255
  sb : (x.syms.length : Int) ≤ s.size
theorem zeroLn_ok (s : ByteArray) : LnOk s zeroLn := ⟨by simp [zeroLn, zero8], by simp [zeroLn]⟩
theorem rProdL_ok (s : ByteArray) (d : Wd) (hd : 0 ≤ d.ls.getD 0 0 ∧ d.ls.getD 0 0 ≤ 255) : ∀ (f : Nat) (next : Int) (syms : List Wd), 0 ≤ next → next ≤ s.size → (syms.length : Int) ≤ next → LnOk s (rProdL s d f next syms).1
  | 0, _, _, _, _, _ => zeroLn_ok s
  | f + 1, next, syms, h0, h1, h2 => by
    obtain ⟨b1, b2, b3⟩ := rWord_bd s (next + 1) (by omega)
    unfold rProdL
    split
    · split
      · exact zeroLn_ok s
      · rename_i h3
        have b4 := b3 (by simpa using h3)
        exact rProdL_ok s d hd f _ _ (by omega) (by omega) (by simp; omega)
    · split
      · exact zeroLn_ok s
      · exact ⟨hd, by dsimp only; omega⟩
theorem rLine_ok (s : ByteArray) (i : Int) (h0 : 0 ≤ i) (h1 : i ≤ s.size) : LnOk s (rLine s i).1 := by
  obtain ⟨b1, b2, b3⟩ := rWord_bd s i h0
  have hz := rWord_zero s i
  unfold rLine; split
  · exact zeroLn_ok s
  · rename_i h3
    have b4 := b3 (by simpa using h3)
    split
    · unfold rProd; split
      · exact zeroLn_ok s
      · have := atB_lt (s := s) (i := (rWord s i).2.1) (by omega)
        exact rProdL_ok s _ hz _ _ _ (by omega) (by omega) (by simp; omega)
    · unfold rRule; split
      · exact zeroLn_ok s
      · split
        · exact zeroLn_ok s
        · split
          · exact zeroLn_ok s
          · exact ⟨hz, by simp⟩
theorem rLinesL_ok (s : ByteArray) : ∀ (f : Nat) (i : Int) (acc : List Ln), 0 ≤ i → i ≤ s.size → (acc.length : Int) ≤ i → (∀ x ∈ acc, LnOk s x) → ((rLinesL s f i acc).1.length : Int) ≤ s.size ∧ ∀ x ∈ (rLinesL s f i acc).1, LnOk s x
  | 0, i, acc, h0, h1, h2, h3 => by simp [rLinesL]
  | f + 1, i, acc, h0, h1, h2, h3 => by
    obtain ⟨b1, b2, b3⟩ := rLine_bd s i h0 h1
    unfold rLinesL
    split
    · split
      · simp
      · rename_i h5
        have b4 := b3 (by simpa using h5)
        refine rLinesL_ok s f _ _ (by omega) (by omega) (by simp; omega) ?_
        intro x hx; rcases List.mem_append.1 hx with h | h
        · exact h3 x h
        · simp at h; subst h; exact rLine_ok s i h0 h1
    · exact ⟨by dsimp only; omega, h3⟩
theorem rLines_ok (s : ByteArray) : ((rLines s).1.length : Int) ≤ s.size ∧ ∀ x ∈ (rLines s).1, LnOk s x := rLinesL_ok s _ 0 [] (by omega) (by omega) (by simp) (by simp)

/-- the error and its place -/
def checkF (s : ByteArray) : Int × Int :=
  if 800 < s.size then (1, 0)
  else if (rLines s).2.2 = false then (2, (rLines s).2.1)
  else if tooMany (rLines s).1 ≠ -1 then (3, tooMany (rLines s).1)
  else if wrongName (rLines s).1 ≠ -1 then (4, wrongName (rLines s).1)
  else if emptyF (rLines s).1 ≠ -1 then (5, emptyF (rLines s).1)
  else if hasProd (rLines s).1 = false then (6, s.size)
  else (0, 0)
theorem checkF_eq (s : ByteArray) : checkF s = (if 800 < s.size then (1, 0)
  else if (rLines s).2.2 = false then (2, (rLines s).2.1)
  else if tooMany (rLines s).1 ≠ -1 then (3, tooMany (rLines s).1)
  else if wrongName (rLines s).1 ≠ -1 then (4, wrongName (rLines s).1)
  else if emptyF (rLines s).1 ≠ -1 then (5, emptyF (rLines s).1)
  else if hasProd (rLines s).1 = false then (6, s.size)
  else (0, 0)) := rfl
def CheckRet (s : ByteArray) (w : World) (e : Ending) (w' : World) : Prop :=
  ∃ v, e = .returned (.tuple #[v, .int .i64 (checkF s).1, .int .i64 (checkF s).2]) ∧ Fresh w w' ∧ (∃ xs, LinesAt w' v xs ∧ ((checkF s).1 ≠ 0 ∧ xs = [] ∧ v = .slice none 0 0 ∨ (checkF s).1 = 0 ∧ xs.map LV.ln = (rLines s).1))
theorem nilLines (w : World) : LinesAt w (.slice none 0 0) [] := ⟨World.ownsRow_nil _ _ _ _, fun _ h => by cases h⟩
theorem checkRet_bad {s : ByteArray} {w w' : World} {e : Ending} {a b : Int} (h : checkF s = (a, b)) (ha : a ≠ 0) (he : e = .returned (.tuple #[.slice none 0 0, .int .i64 a, .int .i64 b])) (hf : Fresh w w') : CheckRet s w e w' :=
  ⟨_, by rw [h]; exact he, hf, [], nilLines _, .inl ⟨by rw [h]; exact ha, rfl, rfl⟩⟩

set_option maxRecDepth 20000 in
set_option maxHeartbeats 8000000 in
theorem check_long (s : ByteArray) (w : World) (hs : s.size ≤ maxLen) (hl : 800 < s.size) :
    Calls Tryz.prog 11 #[.string s] w fun e w' => CheckRet s w e w' := by
  have hc : checkF s = (1, 0) := by unfold checkF; rw [if_pos hl]
  have HC := hid hc
  unfold maxLen at hs
  clear hc
  go_enter Tryz.func11, Tryz.ntmps11
  go_wp2
  go_ret3
  exact checkRet_bad HC.out (by decide) rfl (Mod.refl _ _)

set_option maxRecDepth 20000 in
set_option maxHeartbeats 8000000 in
theorem check_short (s : ByteArray) (w : World) (hl : ¬ 800 < s.size) :
    Calls Tryz.prog 11 #[.string s] w fun e w' => CheckRet s w e w' := by
  obtain ⟨hlen, hok⟩ := rLines_ok s
  have HOK := hid hok
  have hc := checkF_eq s
  rw [if_neg hl] at hc
  have RL := hid (fun w => readLines_any s w (by omega))
  have HRL : Hid ((rLines s).1 = (rLines s).1) := rfl
  cases hok1 : (rLines s).2.2
  · rw [if_pos hok1] at hc
    have HC := hid hc
    rw [hok1] at RL
    clear hc hok
    go_enter Tryz.func11, Tryz.ntmps11
    go_wp2_with (first
      | (go_at_call 24; refine (RL.out _).mono ?_; rintro e w1 ⟨v, xs, hx, rfl, hf1, hL⟩; obtain ⟨ao, cap, hv⟩ := own_form hL.own; subst hv; have HX := hid hx; clear hx))
    go_ret3
    exact checkRet_bad HC.out (by decide) rfl hf1
  · rw [if_neg (by simp [hok1])] at hc
    rw [hok1] at RL
    have key : ∀ xs : List LV, xs.map LV.ln = (rLines s).1 → xs.length ≤ 1000 ∧ (∀ x ∈ xs, FB x) ∧ (∀ x ∈ xs, SB x) := by
      intro xs hx
      have h1 : xs.length = (rLines s).1.length := by rw [← hx]; simp
      refine ⟨by omega, ?_, ?_⟩
      · intro x hxx; exact (HOK.out x.ln (by rw [← hx]; exact List.mem_map.2 ⟨x, hxx, rfl⟩)).fb
      · intro x hxx; have := (HOK.out x.ln (by rw [← hx]; exact List.mem_map.2 ⟨x, hxx, rfl⟩)).sb; unfold SB; omega
    have KEY := hid key
    clear key hok
    by_cases t1 : tooMany (rLines s).1 = -1
    · rw [if_neg (by simp [t1])] at hc
      by_cases t2 : wrongName (rLines s).1 = -1
      · rw [if_neg (by simp [t2])] at hc
        by_cases t3 : emptyF (rLines s).1 = -1
        · rw [if_neg (by simp [t3])] at hc
          have T1 := hid t1
          have T2 := hid t2
          have T3 := hid t3
          clear t1 t2 t3
          cases t4 : hasProd (rLines s).1
          · rw [if_pos t4] at hc
            have HC := hid hc
            have T4 := hid t4
            clear hc t4
            go_enter Tryz.func11, Tryz.ntmps11
            go_wp2_with (first
              | (go_at_call 24; refine (RL.out _).mono ?_; rintro e w1 ⟨v, xs, hx, rfl, hf1, hL⟩; obtain ⟨ao, cap, hv⟩ := own_form hL.own; subst hv; have HX := hid hx; obtain ⟨q1, q2, q3⟩ := KEY.out xs hx; have HL := hid hL; clear hL hx)
              | (go_at_call 25; refine (tooMany_any _ _ xs HL.out q1 q2).mono ?_; rw [HX.out, T1.out]; rintro e w2 ⟨rfl, hf2⟩; replace HL := hid (HL.out.fresh hf2); replace hf1 := hf1.trans hf2)
              | (go_at_call 26; refine (wrongName_any _ _ xs HL.out q1 q2 q3).mono ?_; rw [HX.out, T2.out]; rintro e w2 ⟨rfl, hf2⟩; replace HL := hid (HL.out.fresh hf2); replace hf1 := hf1.trans hf2)
              | (go_at_call 27; refine (empty_find _ _ xs HL.out q1 q2).mono ?_; rw [HX.out, T3.out]; rintro e w2 ⟨rfl, hf2⟩; replace HL := hid (HL.out.fresh hf2); replace hf1 := hf1.trans hf2)
              | (go_at_call 28; refine (hasProd_any _ _ xs HL.out q1 q2).mono ?_; rw [HX.out, T4.out]; rintro e w2 ⟨rfl, hf2⟩; replace HL := hid (HL.out.fresh hf2); replace hf1 := hf1.trans hf2))
            go_ret3
            exact checkRet_bad HC.out (by decide) rfl hf1
          · rw [if_neg (by simp [t4])] at hc
            have HC := hid hc
            have T4 := hid t4
            clear hc t4
            go_enter Tryz.func11, Tryz.ntmps11
            go_wp2_with (first
              | (go_at_call 24; refine (RL.out _).mono ?_; rintro e w1 ⟨v, xs, hx, rfl, hf1, hL⟩; obtain ⟨ao, cap, hv⟩ := own_form hL.own; subst hv; have HX := hid hx; obtain ⟨q1, q2, q3⟩ := KEY.out xs hx; have HL := hid hL; clear hL hx)
              | (go_at_call 25; refine (tooMany_any _ _ xs HL.out q1 q2).mono ?_; rw [HX.out, T1.out]; rintro e w2 ⟨rfl, hf2⟩; replace HL := hid (HL.out.fresh hf2); replace hf1 := hf1.trans hf2)
              | (go_at_call 26; refine (wrongName_any _ _ xs HL.out q1 q2 q3).mono ?_; rw [HX.out, T2.out]; rintro e w2 ⟨rfl, hf2⟩; replace HL := hid (HL.out.fresh hf2); replace hf1 := hf1.trans hf2)
              | (go_at_call 27; refine (empty_find _ _ xs HL.out q1 q2).mono ?_; rw [HX.out, T3.out]; rintro e w2 ⟨rfl, hf2⟩; replace HL := hid (HL.out.fresh hf2); replace hf1 := hf1.trans hf2)
              | (go_at_call 28; refine (hasProd_any _ _ xs HL.out q1 q2).mono ?_; rw [HX.out, T4.out]; rintro e w2 ⟨rfl, hf2⟩; replace HL := hid (HL.out.fresh hf2); replace hf1 := hf1.trans hf2))
            go_ret3
            exact ⟨_, by rw [HC.out]; rfl, hf1, xs, HL.out, .inr ⟨by rw [HC.out], HX.out⟩⟩
        · rw [if_pos t3] at hc
          have HC := hid hc
          have T1 := hid t1
          have T2 := hid t2
          have c3 : (emptyF (rLines s).1 != -1) = true := by simpa using t3
          clear hc t1 t2 t3
          go_enter Tryz.func11, Tryz.ntmps11
          go_wp2_with (first
            | (go_at_call 24; refine (RL.out _).mono ?_; rintro e w1 ⟨v, xs, hx, rfl, hf1, hL⟩; obtain ⟨ao, cap, hv⟩ := own_form hL.own; subst hv; have HX := hid hx; obtain ⟨q1, q2, q3⟩ := KEY.out xs hx; have HL := hid hL; clear hL hx)
            | (go_at_call 25; refine (tooMany_any _ _ xs HL.out q1 q2).mono ?_; rw [HX.out, T1.out]; rintro e w2 ⟨rfl, hf2⟩; replace HL := hid (HL.out.fresh hf2); replace hf1 := hf1.trans hf2)
            | (go_at_call 26; refine (wrongName_any _ _ xs HL.out q1 q2 q3).mono ?_; rw [HX.out, T2.out]; rintro e w2 ⟨rfl, hf2⟩; replace HL := hid (HL.out.fresh hf2); replace hf1 := hf1.trans hf2)
            | (go_at_call 27; refine (empty_find _ _ xs HL.out q1 q2).mono ?_; rw [HX.out]; rintro e w2 ⟨rfl, hf2⟩; replace HL := hid (HL.out.fresh hf2); replace hf1 := hf1.trans hf2))
          go_ret3
          exact checkRet_bad HC.out (by decide) rfl hf1
      · rw [if_pos t2] at hc
        have HC := hid hc
        have T1 := hid t1
        have c3 : (wrongName (rLines s).1 != -1) = true := by simpa using t2
        clear hc t1 t2
        go_enter Tryz.func11, Tryz.ntmps11
        go_wp2_with (first
          | (go_at_call 24; refine (RL.out _).mono ?_; rintro e w1 ⟨v, xs, hx, rfl, hf1, hL⟩; obtain ⟨ao, cap, hv⟩ := own_form hL.own; subst hv; have HX := hid hx; obtain ⟨q1, q2, q3⟩ := KEY.out xs hx; have HL := hid hL; clear hL hx)
          | (go_at_call 25; refine (tooMany_any _ _ xs HL.out q1 q2).mono ?_; rw [HX.out, T1.out]; rintro e w2 ⟨rfl, hf2⟩; replace HL := hid (HL.out.fresh hf2); replace hf1 := hf1.trans hf2)
          | (go_at_call 26; refine (wrongName_any _ _ xs HL.out q1 q2 q3).mono ?_; rw [HX.out]; rintro e w2 ⟨rfl, hf2⟩; replace HL := hid (HL.out.fresh hf2); replace hf1 := hf1.trans hf2))
        go_ret3
        exact checkRet_bad HC.out (by decide) rfl hf1
    · rw [if_pos t1] at hc
      have HC := hid hc
      have c3 : (tooMany (rLines s).1 != -1) = true := by simpa using t1
      clear hc t1
      go_enter Tryz.func11, Tryz.ntmps11
      go_wp2_with (first
        | (go_at_call 24; refine (RL.out _).mono ?_; rintro e w1 ⟨v, xs, hx, rfl, hf1, hL⟩; obtain ⟨ao, cap, hv⟩ := own_form hL.own; subst hv; have HX := hid hx; obtain ⟨q1, q2, q3⟩ := KEY.out xs hx; have HL := hid hL; clear hL hx)
        | (go_at_call 25; refine (tooMany_any _ _ xs HL.out q1 q2).mono ?_; rw [HX.out]; rintro e w2 ⟨rfl, hf2⟩; replace HL := hid (HL.out.fresh hf2); replace hf1 := hf1.trans hf2))
      go_ret3
      exact checkRet_bad HC.out (by decide) rfl hf1

theorem sheetCheck_any (s : ByteArray) (w : World) (hs : s.size ≤ maxLen) :
    Calls Tryz.prog 11 #[.string s] w fun e w' => CheckRet s w e w' := by
  by_cases hl : 800 < s.size
  · exact check_long s w hs hl
  · exact check_short s w hl

end Go.Proofs.YtcpgklcimacngaaGreat
