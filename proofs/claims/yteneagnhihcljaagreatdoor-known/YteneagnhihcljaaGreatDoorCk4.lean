import Derived.Test.YteneagnhihcljaaGreatDoorCk3
namespace Go.Proofs.YteneagnhihcljaaGreatDoor
open Go.RowKit
set_option linter.unusedVariables false
set_option linter.unusedSimpArgs false

def symsL (lns : List Ln) (syms : List Wd) : Nat → Nat → Option Int
  | 0, _ => none
  | f + 1, j => match syms[j]? with | some d => if symB lns d then symsL lns syms f (j + 1) else some d.place | none => none
def symsBad (lns : List Ln) (syms : List Wd) : Option Int := symsL lns syms (syms.length + 1) 0
def wrongL (lns : List Ln) : Nat → Nat → Int
  | 0, _ => -1
  | f + 1, i => match lns[i]? with
    | some x => if ruleB x && aheadB lns i then x.front.place else (match symsBad lns x.syms with | some p => p | none => wrongL lns f (i + 1))
    | none => -1
def wrongName (lns : List Ln) : Int := wrongL lns (lns.length + 1) 0
theorem SymsAt.range {w : World} {g n cap : Nat} {ds : List Wd} (h : SymsAt w (.slice (some ⟨g, 0, none⟩) n cap) ds) (i : Nat) (hi : i < ds.length) : w.rangeAt g (i * 9) (ds[i]).cells := RowAt.range h i hi
/-- how many symbols a line may have here -/
def SB (x : LV) : Prop := x.ln.syms.length ≤ 1000

set_option maxRecDepth 20000 in
set_option maxHeartbeats 8000000 in
theorem wrongName_any (w : World) (v : Value) (xs : List LV) (hL : LinesAt w v xs) (hn : xs.length ≤ 1000) (hfb : ∀ x ∈ xs, FB x) (hsb : ∀ x ∈ xs, SB x) :
    Calls Tryz.prog 20 #[v] w fun e w' => e = .returned (.int .i64 (wrongName (xs.map LV.ln))) ∧ Fresh w w' := by
  obtain ⟨ao, cap, hv⟩ := own_form hL.own
  subst hv
  have HL := hid hL
  have HFB := hid hfb
  have HSB := hid hsb
  generalize hR : wrongName (xs.map LV.ln) = R
  have HR : Hid (wrongL (xs.map LV.ln) ((xs.map LV.ln).length + 1) 0 = R) := hR
  clear hL hfb hR hsb
  go_enter Tryz.func20, Tryz.ntmps20
  go_wp2
  go_loopw [9] (fun x9 wr => ∃ (f i : Nat), x9 = .int .i64 i ∧ wrongL (xs.map LV.ln) f i = R ∧ xs.length + 1 ≤ f + i ∧ i ≤ xs.length ∧ Fresh w wr)
      (fun x _ => 1001 - (intOf x).toNat)
  case atStart => exact ⟨_, 0, rfl, HR.out, by simp, by omega, Mod.refl _ _⟩
  case round =>
    obtain ⟨f, i, rfl, hR, hfu, hi, hfr⟩ := hrel
    obtain ⟨f, rfl⟩ : ∃ g, f = g + 1 := ⟨f - 1, by omega⟩
    unfold wrongL at hR
    have HME := hid (meas (B := 1001) i (by omega))
    by_cases hlt : i < xs.length
    · have hlt' : i < (xs.map LV.ln).length := by simpa using hlt
      rw [List.getElem?_eq_getElem hlt'] at hR
      simp only [List.getElem_map] at hR
      obtain ⟨g, cap', hv'⟩ := Joins.ownsRow_form HL.out.own (by omega)
      rw [Value.slice.injEq] at hv'
      obtain ⟨rfl, _, rfl⟩ := hv'
      have HL1 := hid (HL.out.fresh hfr)
      have RG := hid (HL1.out.row.range i hlt)
      have hA := HL1.out.each xs[i] (by simp)
      have HA := hid hA
      have HFr := hid hA.front
      have HFi := hid (HFB.out xs[i] (by simp))
      have hsb := HSB.out xs[i] (by simp)
      obtain ⟨so, sc, hvs⟩ := own_form hA.syms.own
      have HAH := hid (fun w hL => ahead_any w (.slice (some ⟨g, 0, none⟩) xs.length cap) xs i hL (by omega) hlt)
      have k13 := LV.at13 hA.front
      have k0 := LV.at0 xs[i]
      rw [hvs] at k13
      have HVS := hid hvs
      generalize hX : xs[i] = x at *
      clear hA hX hvs
      unfold SB at hsb
      have hrb : Hid (ruleB x.ln = !headB x.ln.front) := rfl
      have RU := hid (fun w => isRule_any x w HFr.out HFi.out)
      rw [← hrb.out] at RU
      cases hra : (ruleB x.ln && aheadB (xs.map LV.ln) i)
      · rw [hra] at hR
        simp only [Bool.false_eq_true, if_false] at hR
        have HRR := hid hR
        clear hR
        have hcase : (ruleB x.ln = false) ∨ (ruleB x.ln = true ∧ aheadB (xs.map LV.ln) i = false) := by
          cases h : ruleB x.ln
          · exact .inl rfl
          · rw [h] at hra; simpa using hra
        clear hra
        rcases hcase with hr | ⟨hr, hah⟩
        all_goals
          rw [hr] at RU
          go_wp2_with (first
            | (go_at_call 25; refine (RU.out _).mono ?_; rintro e w1 ⟨rfl, hf⟩; have HL2 := hid ((HL1.out.fresh ((Mod.refl _ wr).alloc (.cells x.cells.toArray 69 (0, 0)))).fresh hf); have kc := cellOf (hf.at (heap_alloc_at _ _) (fun x => x)); have HBL := hid (hf.at (heap_alloc_at _ _) (fun x => x)); have hfw := (hfr.alloc (.cells x.cells.toArray 69 (0, 0))).trans hf; have hfx : Fresh wr w1 := (Mod.alloc (Mod.refl _ wr) (.cells x.cells.toArray 69 (0, 0))).trans hf)
            | (go_at_call 37; refine (HAH.out _ HL2.out).mono ?_; rw [hah]; rintro e w2 ⟨rfl, hf2⟩; replace HL2 := hid (HL2.out.fresh hf2); clear kc; have kc := cellOf (hf2.at HBL.out (fun x => x)); replace HBL := hid (hf2.at HBL.out (fun x => x)); replace hfw := hfw.trans hf2; replace hfx := hfx.trans hf2)
            | (refine wpList_load_mid rfl 69 _ rfl g (i * 14) rfl x.cells _ RG.out Tryz.underlying69 rfl (by rw [LV.cells_len HFr.out]; exact szLine) ?_)
            | (refine wpList_store_new rfl 69 _ _ rfl wr _ _ _ rfl rfl rfl (szLineOf HFr.out) (sameSize rfl (LV.size HFr.out)) HA.out.one ?_)
            | (refine wpList_load_row rfl 69 _ rfl wr.heap.size rfl _ _ _ _ (heap_alloc_at _ _) Tryz.underlying69 rfl (szLineOf HFr.out) ?_))
          have HF1 := hid hfw
          have HF2 := hid hfx
          clear kc hfw hfx HBL
          generalize hS : symsBad (xs.map LV.ln) x.ln.syms = S at HRR
          have HS : Hid (symsL (xs.map LV.ln) x.ln.syms (x.ln.syms.length + 1) 0 = S) := hS
          clear hS
          obtain ⟨wo, hwo⟩ : ∃ wo, wo = wr := ⟨_, rfl⟩
          subst hwo
          go_loopw [29] (fun y wi => ∃ (ff j : Nat), y = .int .i64 j ∧ symsL (xs.map LV.ln) x.ln.syms ff j = S ∧ x.ln.syms.length + 1 ≤ ff + j ∧ j ≤ x.ln.syms.length ∧ Fresh w wi ∧ Fresh wo wi)
            (fun y _ => 1001 - (intOf y).toNat)
          case atStart => exact ⟨_, 0, rfl, HS.out, by omega, by omega, HF1.out, HF2.out⟩
          case round =>
            obtain ⟨ff, j, rfl, hS, hfj, hj, hwi, hri⟩ := hrel
            obtain ⟨ff, rfl⟩ : ∃ g, ff = g + 1 := ⟨ff - 1, by omega⟩
            unfold symsL at hS
            have HMJ := hid (meas (B := 1001) j (by omega))
            by_cases hlj : j < x.ln.syms.length
            · rw [List.getElem?_eq_getElem hlj] at hS
              simp only [] at hS
              obtain ⟨sg, sc', hv'⟩ := Joins.ownsRow_form HA.out.syms.own (by omega)
              rw [HVS.out, Value.slice.injEq] at hv'
              obtain ⟨rfl, _, rfl⟩ := hv'
              have hsy := HA.out.syms
              rw [HVS.out] at hsy
              have RG2 := hid (SymsAt.range (RowAt.fresh hsy hri) j hlj)
              have hw9 := hsy.wf _ (List.getElem_mem hlj)
              have hl8 : Hid (x.ln.syms[j].ls.length = 8) := by unfold Hid; simp [Wd.cells] at hw9; exact hw9
              have IS := hid (fun w hL => isSymbol_any w (.slice (some ⟨g, 0, none⟩) xs.length cap) xs x.ln.syms[j] hL (by omega) hl8.out)
              have HLi := hid (HL.out.fresh hwi)
              have kp : x.ln.syms[j].cells.toArray[0]? = some (.int .i64 x.ln.syms[j].place) := by simp [Wd.cells]
              generalize x.ln.syms[j] = dj at *
              clear hsy hw9
              cases hsb2 : symB (xs.map LV.ln) dj
              · rw [hsb2] at hS
                simp only [Bool.false_eq_true, if_false] at hS
                have HSS := hid hS
                clear hS
                go_wp2_with (first
                  | (go_at_call 38; refine (IS.out _ (HLi.out.fresh ((Mod.refl _ wr).alloc _))).mono ?_; rw [hsb2]; rintro e w5 ⟨rfl, hf5⟩; have kq := cellOf (hf5.at (heap_alloc_at _ _) (fun x => x)))
                  | (refine wpList_load_mid rfl 64 _ rfl sg (j * 9) rfl dj.cells _ RG2.out Tryz.underlying64 rfl (by rw [Wd.cells_len hl8.out]; exact szWord) ?_)
                  | (refine wpList_store_new rfl 64 _ _ rfl wr _ _ _ rfl rfl rfl (szWordOf hl8.out) (sameSize rfl (Wd.size hl8.out)) (Wd.one _) ?_)
                  | (refine wpList_load_row rfl 64 _ rfl wr.heap.size rfl _ _ _ _ (heap_alloc_at _ _) Tryz.underlying64 rfl (szWordOf hl8.out) ?_))
                go_ret
                have e1 := HRR.out
                rw [← HSS.out] at e1
                exact ⟨ret_int e1, (hwi.alloc _).trans hf5⟩
              · rw [hsb2] at hS
                simp only [if_true] at hS
                have HSS := hid hS
                clear hS
                go_wp2_with (first
                  | (go_at_call 38; refine (IS.out _ (HLi.out.fresh ((Mod.refl _ wr).alloc _))).mono ?_; rw [hsb2]; rintro e w5 ⟨rfl, hf5⟩)
                  | (refine wpList_load_mid rfl 64 _ rfl sg (j * 9) rfl dj.cells _ RG2.out Tryz.underlying64 rfl (by rw [Wd.cells_len hl8.out]; exact szWord) ?_)
                  | (refine wpList_store_new rfl 64 _ _ rfl wr _ _ _ rfl rfl rfl (szWordOf hl8.out) (sameSize rfl (Wd.size hl8.out)) (Wd.one _) ?_)
                  | (refine wpList_load_row rfl 64 _ rfl wr.heap.size rfl _ _ _ _ (heap_alloc_at _ _) Tryz.underlying64 rfl (szWordOf hl8.out) ?_))
                go_roundw
                case rel => exact ⟨ff, j + 1, by go_num, HSS.out, by omega, by omega, (hwi.alloc _).trans hf5, (hri.alloc _).trans hf5⟩
                case measure => exact HMJ.out
            · rw [List.getElem?_eq_none (by omega)] at hS
              simp only [] at hS
              have e1 := HRR.out
              rw [← hS] at e1
              simp only [] at e1
              have E1 := hid e1
              clear hS e1
              go_wp2
              go_roundw
              case rel => exact ⟨f, i + 1, by go_num, E1.out, by omega, by omega, hwi⟩
              case measure => exact HME.out
      · rw [hra] at hR
        simp only [if_true] at hR
        have HRR := hid hR
        simp only [Bool.and_eq_true] at hra
        obtain ⟨hr, hah⟩ := hra
        rw [hr] at RU
        clear hR
        go_wp2_with (first
          | (go_at_call 25; refine (RU.out _).mono ?_; rintro e w1 ⟨rfl, hf⟩; have HL2 := hid ((HL1.out.fresh ((Mod.refl _ wr).alloc (.cells x.cells.toArray 69 (0, 0)))).fresh hf))
          | (go_at_call 37; refine (HAH.out _ HL2.out).mono ?_; rw [hah]; rintro e w2 ⟨rfl, hf2⟩; have kc := cellOf (hf2.at (hf.at (heap_alloc_at _ _) (fun x => x)) (fun x => x)))
          | (refine wpList_load_mid rfl 69 _ rfl g (i * 14) rfl x.cells _ RG.out Tryz.underlying69 rfl (by rw [LV.cells_len HFr.out]; exact szLine) ?_)
          | (refine wpList_store_new rfl 69 _ _ rfl wr _ _ _ rfl rfl rfl (szLineOf HFr.out) (sameSize rfl (LV.size HFr.out)) HA.out.one ?_)
          | (refine wpList_load_row rfl 69 _ rfl wr.heap.size rfl _ _ _ _ (heap_alloc_at _ _) Tryz.underlying69 rfl (szLineOf HFr.out) ?_))
        go_ret
        exact ⟨ret_int HRR.out, ((hfr.alloc _).trans hf).trans hf2⟩
    · rw [List.getElem?_eq_none (by simp; omega)] at hR
      have HRR := hid hR
      clear hR
      go_wp2
      go_ret
      exact ⟨ret_int HRR.out, hfr⟩
end Go.Proofs.YteneagnhihcljaaGreatDoor
namespace Go.Proofs.YteneagnhihcljaaGreatDoor
open Go.RowKit
set_option linter.unusedVariables false
set_option linter.unusedSimpArgs false

def emptyB (x : Ln) : Bool := ruleB x && (longF x.ns x.st x.en ByteArray.empty 0 == 0)
def emptyL (lns : List Ln) : Nat → Nat → Int
  | 0, _ => -1
  | f + 1, i => match lns[i]? with | some x => if emptyB x then x.front.place else emptyL lns f (i + 1) | none => -1
def emptyF (lns : List Ln) : Int := emptyL lns (lns.length + 1) 0
theorem longest_zero (w : World) (v : Value) (st en : Int) (ns : List Node) (hN : NodesAt w v ns) (hn : ns.length ≤ 100000) :
    Calls Tryz.prog 39 #[patV v st en, .string ⟨#[]⟩, .int .i64 0] w fun e w' => e = .returned (.int .i64 (longF ns st en ByteArray.empty 0)) ∧ Fresh w w' := by
  have := longest_any w v st en ns ByteArray.empty 0 hN hn (by simp) (by omega)
  exact this

set_option maxRecDepth 20000 in
set_option maxHeartbeats 8000000 in
theorem empty_find (w : World) (v : Value) (xs : List LV) (hL : LinesAt w v xs) (hn : xs.length ≤ 1000) (hfb : ∀ x ∈ xs, FB x) :
    Calls Tryz.prog 21 #[v] w fun e w' => e = .returned (.int .i64 (emptyF (xs.map LV.ln))) ∧ Fresh w w' := by
  obtain ⟨ao, cap, hv⟩ := own_form hL.own
  subst hv
  have HL := hid hL
  have HFB := hid hfb
  generalize hR : emptyF (xs.map LV.ln) = R
  have HR : Hid (emptyL (xs.map LV.ln) ((xs.map LV.ln).length + 1) 0 = R) := hR
  clear hL hfb hR
  go_enter Tryz.func21, Tryz.ntmps21
  go_wp2
  go_loopw [7] (fun x9 wr => ∃ (f i : Nat), x9 = .int .i64 i ∧ emptyL (xs.map LV.ln) f i = R ∧ xs.length + 1 ≤ f + i ∧ i ≤ xs.length ∧ Fresh w wr)
      (fun x _ => 1001 - (intOf x).toNat)
  case atStart => exact ⟨_, 0, rfl, HR.out, by simp, by omega, Mod.refl _ _⟩
  case round =>
    obtain ⟨f, i, rfl, hR, hfu, hi, hfr⟩ := hrel
    obtain ⟨f, rfl⟩ : ∃ g, f = g + 1 := ⟨f - 1, by omega⟩
    unfold emptyL at hR
    have HME := hid (meas (B := 1001) i (by omega))
    by_cases hlt : i < xs.length
    · have hlt' : i < (xs.map LV.ln).length := by simpa using hlt
      rw [List.getElem?_eq_getElem hlt'] at hR
      simp only [List.getElem_map] at hR
      obtain ⟨g, cap', hv'⟩ := Joins.ownsRow_form HL.out.own (by omega)
      rw [Value.slice.injEq] at hv'
      obtain ⟨rfl, _, rfl⟩ := hv'
      have HL1 := hid (HL.out.fresh hfr)
      have RG := hid (HL1.out.row.range i hlt)
      have hA := HL1.out.each xs[i] (by simp)
      have HA := hid hA
      have HFr := hid hA.front
      have HFi := hid (HFB.out xs[i] (by simp))
      have k0 := LV.at0 xs[i]
      obtain ⟨k10, k11, k12⟩ := LV.at10 hA.front
      generalize hX : xs[i] = x at *
      clear hA hX
      have hrb : Hid (ruleB x.ln = !headB x.ln.front) := rfl
      have RU := hid (fun w => isRule_any x w HFr.out HFi.out)
      rw [← hrb.out] at RU
      have LG := hid (fun w hN => longest_zero w x.vn x.ln.st x.ln.en x.ln.ns hN (by have := HA.out.small; omega))
      unfold emptyB at hR
      generalize longF x.ln.ns x.ln.st x.ln.en ByteArray.empty 0 = lg at hR LG
      cases hr : ruleB x.ln
      · rw [hr] at hR RU
        simp only [Bool.false_and, Bool.false_eq_true, if_false] at hR
        have HRR := hid hR
        clear hR
        go_wp2_with (first
          | (go_at_call 25; refine (RU.out _).mono ?_; rintro e w1 ⟨rfl, hf⟩)
          | (refine wpList_load_mid rfl 69 _ rfl g (i * 14) rfl x.cells _ RG.out Tryz.underlying69 rfl (by rw [LV.cells_len HFr.out]; exact szLine) ?_)
          | (refine wpList_store_new rfl 69 _ _ rfl wr _ _ _ rfl rfl rfl (szLineOf HFr.out) (sameSize rfl (LV.size HFr.out)) HA.out.one ?_)
          | (refine wpList_load_row rfl 69 _ rfl wr.heap.size rfl _ _ _ _ (heap_alloc_at _ _) Tryz.underlying69 rfl (szLineOf HFr.out) ?_))
        go_roundw
        case rel => exact ⟨f, i + 1, by go_num, HRR.out, by omega, by omega, (hfr.alloc _).trans hf⟩
        case measure => exact HME.out
      · rw [hr] at hR RU
        simp only [Bool.true_and] at hR
        cases hlg : (lg == 0)
        all_goals
          rw [hlg] at hR
          simp only [Bool.false_eq_true, if_false, if_true] at hR
          have HRR := hid hR
          clear hR
          go_wp2_with (first
            | (go_at_call 25; refine (RU.out _).mono ?_; rintro e w1 ⟨rfl, hf⟩; have kc := cellOf (hf.at (heap_alloc_at _ _) (fun x => x)); have HBL := hid (hf.at (heap_alloc_at _ _) (fun x => x)); have HN1 := hid ((HA.out.nodes.fresh ((Mod.refl _ wr).alloc (.cells x.cells.toArray 69 (0, 0)))).fresh hf))
            | (go_at_call 39; refine (LG.out _ HN1.out).mono ?_; rintro e w2 ⟨rfl, hf2⟩; clear kc; have kc := cellOf (hf2.at HBL.out (fun x => x)))
            | (refine wpList_load_mid rfl 69 _ rfl g (i * 14) rfl x.cells _ RG.out Tryz.underlying69 rfl (by rw [LV.cells_len HFr.out]; exact szLine) ?_)
            | (refine wpList_store_new rfl 69 _ _ rfl wr _ _ _ rfl rfl rfl (szLineOf HFr.out) (sameSize rfl (LV.size HFr.out)) HA.out.one ?_)
            | (refine wpList_load_row rfl 69 _ rfl wr.heap.size rfl _ _ _ _ (heap_alloc_at _ _) Tryz.underlying69 rfl (szLineOf HFr.out) ?_))
        · go_roundw
          case rel => exact ⟨f, i + 1, by go_num, HRR.out, by omega, by omega, ((hfr.alloc _).trans hf).trans hf2⟩
          case measure => exact HME.out
        · go_ret
          exact ⟨ret_int HRR.out, ((hfr.alloc _).trans hf).trans hf2⟩
    · rw [List.getElem?_eq_none (by simp; omega)] at hR
      have HRR := hid hR
      clear hR
      go_wp2
      go_ret
      exact ⟨ret_int HRR.out, hfr⟩

def hasProd (lns : List Ln) : Bool := lns.any (fun x => !ruleB x)
set_option maxRecDepth 20000 in
set_option maxHeartbeats 8000000 in
theorem hasProd_any (w : World) (v : Value) (xs : List LV) (hL : LinesAt w v xs) (hn : xs.length ≤ 1000) (hfb : ∀ x ∈ xs, FB x) :
    Calls Tryz.prog 22 #[v] w fun e w' => e = .returned (.bool (hasProd (xs.map LV.ln))) ∧ Fresh w w' := by
  obtain ⟨ao, cap, hv⟩ := own_form hL.own
  subst hv
  have HL := hid hL
  have HFB := hid hfb
  clear hL hfb
  go_enter Tryz.func22, Tryz.ntmps22
  go_wp2
  go_loopw [6] (fun x9 wr => ∃ (i : Nat), x9 = .int .i64 i ∧ (∀ j (hj : j < xs.length), j < i → ruleB xs[j].ln = true) ∧ i ≤ xs.length ∧ Fresh w wr)
      (fun x _ => 1001 - (intOf x).toNat)
  case atStart => exact ⟨0, rfl, fun j _ h => by omega, by omega, Mod.refl _ _⟩
  case round =>
    obtain ⟨i, rfl, hall, hi, hfr⟩ := hrel
    have HME := hid (meas (B := 1001) i (by omega))
    have HAl := hid hall
    clear hall
    by_cases hlt : i < xs.length
    · obtain ⟨g, cap', hv'⟩ := Joins.ownsRow_form HL.out.own (by omega)
      rw [Value.slice.injEq] at hv'
      obtain ⟨rfl, _, rfl⟩ := hv'
      have HL1 := hid (HL.out.fresh hfr)
      have RG := hid (HL1.out.row.range i hlt)
      have HFr := hid (HL1.out.each xs[i] (by simp)).front
      have HFi := hid (HFB.out xs[i] (by simp))
      have hrb : Hid (ruleB xs[i].ln = !headB xs[i].ln.front) := rfl
      have RU := hid (fun w => isRule_any xs[i] w HFr.out HFi.out)
      rw [← hrb.out] at RU
      cases hr : ruleB xs[i].ln
      all_goals
        rw [hr] at RU
        have HRb := hid hr
        clear hr
        go_wp2_with (first
          | (go_at_call 25; refine (RU.out _).mono ?_; rintro e w1 ⟨rfl, hf⟩)
          | (refine wpList_load_mid rfl 69 _ rfl g (i * 14) rfl xs[i].cells _ RG.out Tryz.underlying69 rfl (by rw [LV.cells_len HFr.out]; exact szLine) ?_))
      · go_ret
        refine ⟨ret_bool ?_, hfr.trans hf⟩
        symm; unfold hasProd; rw [List.any_eq_true]
        exact ⟨xs[i].ln, List.mem_map.2 ⟨xs[i], List.getElem_mem hlt, rfl⟩, by rw [HRb.out]; rfl⟩
      · go_roundw
        case rel =>
          refine ⟨i + 1, by go_num, ?_, by omega, hfr.trans hf⟩
          intro j hj hji
          by_cases e : j = i
          · subst e; exact HRb.out
          · exact HAl.out j hj (by omega)
        case measure => exact HME.out
    · have hie : i = xs.length := by omega
      subst hie
      go_wp2
      go_ret
      refine ⟨ret_bool ?_, hfr⟩
      symm; unfold hasProd; rw [List.any_eq_false]
      intro x hx
      simp only [List.mem_map] at hx
      obtain ⟨y, hy, rfl⟩ := hx
      obtain ⟨j, hj, rfl⟩ := List.getElem_of_mem hy
      simp [HAl.out j hj hj]
end Go.Proofs.YteneagnhihcljaaGreatDoor
namespace Go.Proofs.YteneagnhihcljaaGreatDoor
open Go.RowKit
set_option linter.unusedVariables false
set_option linter.unusedSimpArgs false

abbrev lnList (p a b c d e f g k : Int) (sk : Bool) (vn : Value) (st en : Int) (vs : Value) : List Value := [.int .i64 p, .int .u8 a, .int .u8 b, .int .u8 c, .int .u8 d, .int .u8 e, .int .u8 f, .int .u8 g, .int .u8 k, .bool sk, vn, .int .i64 st, .int .i64 en, vs]

set_option maxRecDepth 20000 in
set_option maxHeartbeats 8000000 in
theorem rules_any (w : World) (v : Value) (xs : List LV) (hL : LinesAt w v xs) (hn : xs.length ≤ 1000) (hfb : ∀ x ∈ xs, FB x) :
    Calls Tryz.prog 11 #[v] w fun e w' => ∃ v', e = .returned v' ∧ LinesAt w' v' (xs.filter fun x => ruleB x.ln) ∧ Fresh w w' := by
  obtain ⟨ao, cap, hv⟩ := own_form hL.own
  subst hv
  have HL := hid hL
  have HFB := hid hfb
  obtain ⟨i0, hi0, hz0, hz1, hz2⟩ := infoLine'
  clear hL hfb
  go_enter Tryz.func11, Tryz.ntmps11
  go_wp2
  go_loopw [3, 7] (fun x3 x7 wr => ∃ (i : Nat), x7 = .int .i64 i ∧ i ≤ xs.length ∧ wr.ownsRow w.heap.size 69 14 x3 ((xs.take i).filter fun x => ruleB x.ln).length (flatC LV.cells ((xs.take i).filter fun x => ruleB x.ln)) ∧ Fresh w wr)
      (fun _ x _ => 1001 - (intOf x).toNat)
  case atStart => exact ⟨0, rfl, by omega, World.ownsRow_nil _ _ _ _, Mod.refl _ _⟩
  case round =>
    obtain ⟨i, rfl, hi, hown, hfr⟩ := hrel
    have HME := hid (meas (B := 1001) i (by omega))
    have hlen : ((xs.take i).filter fun x => ruleB x.ln).length ≤ 1000 := by
      have := List.length_filter_le (fun x : LV => ruleB x.ln) (xs.take i)
      have := List.length_take_le i xs
      omega
    have HTS : Hid (∀ hlt : i < xs.length, (xs.take (i + 1)).filter (fun x => ruleB x.ln) = (xs.take i).filter (fun x => ruleB x.ln) ++ (if ruleB xs[i].ln then [xs[i]] else [])) := by
      intro hlt
      rw [List.take_add_one, List.filter_append, List.getElem?_eq_getElem hlt]
      cases h : ruleB xs[i].ln <;> simp [List.filter_cons, h]
    have HTE : Hid (i = xs.length → (xs.take i) = xs) := fun h => by rw [h, List.take_length]
    generalize hy : (xs.take i).filter (fun x => ruleB x.ln) = ys at *
    have HY := hid hy
    have HO := hid hown
    have HOB := hid hown.lt
    obtain ⟨ro, rc, hro⟩ := own_form hown
    clear hown hy
    subst hro
    by_cases hlt : i < xs.length
    · obtain ⟨g, cap', hv'⟩ := Joins.ownsRow_form HL.out.own (by omega)
      rw [Value.slice.injEq] at hv'
      obtain ⟨rfl, _, rfl⟩ := hv'
      have HL1 := hid (HL.out.fresh hfr)
      have hrg := HL1.out.row.range i hlt
      have hA := HL1.out.each xs[i] (by simp)
      have hFB := HFB.out xs[i] (by simp)
      have HTSS := hid (HTS.out hlt)
      have hrgf := fun w1 (hf : Fresh wr w1) => (HL1.out.fresh hf).row.range i hlt
      generalize hX : xs[i] = x at *
      clear hX
      have RU0 := fun w => isRule_any x w hA.front hFB
      have hrb : Hid (ruleB x.ln = !headB x.ln.front) := rfl
      rw [← hrb.out] at RU0
      have HAo := hid hA.one
      obtain ⟨⟨⟨pp, ls⟩, sk, nsx, stx, enx, sy⟩, vn, vs⟩ := x
      obtain ⟨a1, a2, a3, a4, a5, a6, a7, a8, e8⟩ := eight hA.front
      dsimp only at e8
      subst e8
      obtain ⟨no, nc, hvn⟩ := own_form hA.nodes.own
      obtain ⟨so, sc, hvs⟩ := own_form hA.syms.own
      dsimp only at hvn hvs
      subst hvn
      subst hvs
      have RU := hid RU0
      have RG : Hid (wr.rangeAt g (i * 14) (lnList pp a1 a2 a3 a4 a5 a6 a7 a8 sk (.slice no nsx.length nc) stx enx (.slice so sy.length sc))) := hrg
      have RGF : Hid (∀ w1, Fresh wr w1 → w1.rangeAt g (i * 14) (lnList pp a1 a2 a3 a4 a5 a6 a7 a8 sk (.slice no nsx.length nc) stx enx (.slice so sy.length sc))) := hrgf
      have RU' : Hid (∀ w, Calls Tryz.prog 25 #[.agg (lnArr pp a1 a2 a3 a4 a5 a6 a7 a8 sk (.slice no nsx.length nc) stx enx (.slice so sy.length sc))] w fun e w' => e = .returned (.bool (ruleB ⟨⟨pp, [a1, a2, a3, a4, a5, a6, a7, a8]⟩, sk, nsx, stx, enx, sy⟩)) ∧ Fresh w w') := RU.out
      clear RU0 RU hrg hrgf hA hFB
      cases hr : ruleB ⟨⟨pp, [a1, a2, a3, a4, a5, a6, a7, a8]⟩, sk, nsx, stx, enx, sy⟩
      · rw [hr] at RU' HTSS
        simp only [Bool.false_eq_true, if_false, List.append_nil] at HTSS
        go_wp2_with (first
          | (go_at_call 25; refine (RU'.out _).mono ?_; rintro e w1 ⟨rfl, hf⟩)
          | (refine wpList_load_mid rfl 69 _ rfl g (i * 14) rfl (lnList pp a1 a2 a3 a4 a5 a6 a7 a8 sk (.slice no nsx.length nc) stx enx (.slice so sy.length sc)) _ RG.out Tryz.underlying69 rfl szLine ?_))
        go_roundw
        case rel =>
          refine ⟨i + 1, by go_num, by omega, ?_, hfr.trans hf⟩
          rw [HTSS.out]
          exact ownsRow_other HO.out (fun g hg => hf.block g (HOB.out g hg).2 (fun x => x))
        case measure => exact HME.out
      · rw [hr] at RU' HTSS
        simp only [if_true] at HTSS
        go_wp2_with (first
          | (go_at_call 25; refine (RU'.out _).mono ?_; rintro e w1 ⟨rfl, hf⟩; have hz : wr.heap.size ≤ w1.heap.size := hf.size; have HO1 := hid (ownsRow_other HO.out (fun g hg => hf.block g (HOB.out g hg).2 (fun x => x))))
          | (refine wpList_load_mid rfl 69 _ rfl g (i * 14) rfl (lnList pp a1 a2 a3 a4 a5 a6 a7 a8 sk (.slice no nsx.length nc) stx enx (.slice so sy.length sc)) _ RG.out Tryz.underlying69 rfl szLine ?_)
          | (refine wpList_load_mid rfl 69 _ rfl g (i * 14) rfl (lnList pp a1 a2 a3 a4 a5 a6 a7 a8 sk (.slice no nsx.length nc) stx enx (.slice so sy.length sc)) _ (RGF.out _ hf) Tryz.underlying69 rfl szLine ?_)
          | (at_builtin; refine wpList_append_mine _ rfl _ _ 37 rfl w.heap.size 69 i0 _ 14 88 Tryz.underlying37 hi0 hz0 hz1 hz2 rfl (by decide) _ _ _ rfl (HO1.out.alloc _) ⟨w1.heap.size, 0, none⟩ 1 1 (lnList pp a1 a2 a3 a4 a5 a6 a7 a8 sk (.slice no nsx.length nc) stx enx (.slice so sy.length sc)) rfl rfl ?c1 ?c2 ?c3 ?c4 ?c5 ?_))
        case c1 => exact new_cells rfl
        case c2 => intro u hu; exact (Array.all_eq_true_iff_forall_mem.1 HAo.out) u (by simpa [LV.cells, Wd.cells] using hu)
        case c3 => unfold maxLen; omega
        case c4 => omega
        case c5 => have := hfr.size; simp; omega
        intro v' w2 hown2 hgrow hblk
        have fr2 : Fresh w w2 := Mod.grown (S := fun _ => False) ((hfr.trans hf).alloc _) hgrow (fun k hk hlt => by have := (HOB.out k hk).1; omega)
        have HO2 := hid hown2
        clear hown2 hgrow hblk
        go_wp2
        go_roundw
        case rel =>
          refine ⟨i + 1, by go_num, by omega, ?_, fr2⟩
          rw [HTSS.out, flat_snoc, List.length_append, List.length_singleton]
          exact HO2.out
        case measure => exact HME.out
    · have hie : i = xs.length := by omega
      have hye := HTE.out hie
      go_wp2
      go_ret
      refine ⟨_, rfl, ⟨?_, ?_⟩, hfr⟩
      · rw [← hye, HY.out]; exact ownsRow_base HO.out (Nat.zero_le _)
      · intro x hx; exact (HL.out.each x (List.mem_filter.1 hx).1).fresh hfr
end Go.Proofs.YteneagnhihcljaaGreatDoor
