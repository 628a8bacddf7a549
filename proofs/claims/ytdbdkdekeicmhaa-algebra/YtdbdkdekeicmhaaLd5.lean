import Derived.Test.YtdbdkdekeicmhaaLd4
import Derived.Deep.DeepCutAuto
import Derived.Deep.RegionWith
namespace Go.Proofs.Ytdbdkdekeicmhaa
open Go.RowKit
set_option linter.unusedVariables false
set_option linter.unusedSimpArgs false

set_option maxRecDepth 20000 in
set_option maxHeartbeats 4000000 in
theorem single_no (c : Nat) (t : ByteArray) (w : World) (hc : c ≤ 255) (ht : t.size < 200) :
    Calls Try.prog 5 #[.int .u8 c, .string t] w fun e w' => e = .returned (.bool true) ∧ Fresh w w' := by
  have LA : Hid (∀ w : World, Calls Try.prog 9 #[.int .u8 c] w fun e w' => ∃ p ok, e = .returned (.tuple #[.string p, .bool ok]) ∧ (ok = true → LetP p c) ∧ Fresh w w') := fun w =>
    (letter_any c w hc).mono fun e w' ⟨h, hf⟩ => by
      rcases h with ⟨p, h1, h2⟩ | ⟨p, h1⟩
      · exact ⟨p, true, h1, fun _ => h2, hf⟩
      · exact ⟨p, false, h1, fun e => by (cases e), hf⟩
  have SG := hid (fun (p : ByteArray) (h : LetP p c) => sing_of h ht)
  have MA := hid (fun (b : ByteArray) (w : World) (hb : b.size ≤ 100) => matched_any b t w (by omega) (by omega))
  go_enter Try.func5, Try.ntmps5
  go_upto_region 2 with (first
    | (go_at_call 9; refine (LA.out _).mono ?_; rintro e w1 ⟨p, ok, rfl, hlet, hf1⟩; have HF1 := hid hf1; clear hf1))
  cases ok
  · go_wp2
    go_ret
    exact ⟨rfl, HF1.out⟩
  · have hL := hlet rfl
    have hsz := hL.sz
    have hcb := hL.cb
    have S := SG.out p hL
    have z2 : (inT p).size = p.size + 2 := by obtain ⟨z, _⟩ := three_at ⟨#[91]⟩ p ⟨#[93]⟩; unfold inT; rw [z]; show 1 + p.size + 1 = _; omega
    have z3 : (notT p).size = p.size + 3 := by obtain ⟨z, _⟩ := three_at ⟨#[91, 94]⟩ p ⟨#[93]⟩; unfold notT; rw [z]; show 2 + p.size + 1 = _; omega
    have z4 : (upT p).size = p.size + 5 := by obtain ⟨z, _⟩ := three_at ⟨#[91, 92, 116, 45]⟩ p ⟨#[93]⟩; unfold upT; rw [z]; show 4 + p.size + 1 = _; omega
    have A1 := hid (fun w => MA.out p w (by omega))
    have A2 := hid (fun w => MA.out (inT p) w (by omega))
    have A3 := hid (fun w => MA.out (notT p) w (by omega))
    have A4 := hid (fun w => MA.out (upT p) w (by omega))
    have A5 := hid (fun w => MA.out dotT w (by decide))
    rw [S.m1, S.e1] at A1
    rw [S.m2, S.e2] at A2
    rw [S.m3, S.e3] at A3
    rw [S.m4, S.e4] at A4
    rw [S.m5, S.e5] at A5
    unfold inT at A2
    unfold notT at A3
    unfold upT at A4
    unfold dotT at A5
    clear S z2 z3 z4 MA SG LA hlet hL
    by_cases h1 : t.size = 1
    · have h0 : 0 < t.size := by omega
      have hb : atB t 0 = (t[0].toNat : Int) := atB_nat (s := t) (n := 0) h0
      have hbl : t[0].toNat < 256 := t[0].toNat_lt
      have q1 : decide (t.size = 1 ∧ atB t 0 = (c : Int)) = ((t[0].toNat : Int) == (c : Int)) := by
        rw [hb, Bool.eq_iff_iff, decide_eq_true_eq, beq_iff_eq]; exact ⟨fun h => h.2, fun h => ⟨h1, h⟩⟩
      have q3 : decide (t.size = 1 ∧ atB t 0 ≠ (c : Int)) = !((t[0].toNat : Int) == (c : Int)) := by
        rw [hb, Bool.eq_iff_iff, decide_eq_true_eq, Bool.not_eq_true', beq_eq_false_iff_ne]; exact ⟨fun h => h.2, fun h => ⟨h1, h⟩⟩
      have q5 : decide (t.size = 1 ∧ atB t 0 ≠ 10) = ((t[0].toNat : Int) != 10) := by
        rw [hb, Bool.eq_iff_iff, decide_eq_true_eq, bne_iff_ne]; exact ⟨fun h => h.2, fun h => ⟨h1, h⟩⟩
      have q4 : decide (t.size = 1 ∧ 9 ≤ atB t 0 ∧ atB t 0 ≤ (c : Int)) = decide (9 ≤ t[0].toNat ∧ t[0].toNat ≤ c) := by
        rw [hb, Bool.eq_iff_iff, decide_eq_true_eq, decide_eq_true_eq]; omega
      rw [q1] at A1 A2
      rw [q3] at A3
      rw [q4] at A4
      rw [q5] at A5
      have h11 : (t.size : Int) = 1 := by omega
      clear q1 q3 q4 q5 hb
      by_cases h9 : 9 ≤ t[0].toNat
      · have q6 : decide (9 ≤ t[0].toNat ∧ t[0].toNat ≤ c) = decide (t[0].toNat ≤ c) := by
          rw [Bool.eq_iff_iff, decide_eq_true_eq, decide_eq_true_eq]; omega
        rw [q6] at A4
        clear q6
        go_upto_region 9 with fail
        have HL : Hid (((w1.alloc (.cells #[.string p, .string (⟨#[91]⟩ ++ p ++ ⟨#[93]⟩), .string (⟨#[91, 94]⟩ ++ p ++ ⟨#[93]⟩), .string (⟨#[91, 92, 116, 45]⟩ ++ p ++ ⟨#[93]⟩), .string ⟨#[46]⟩] 9 (0, 0))).alloc (.cells #[.bool ((t[0].toNat : Int) == (c : Int)), .bool ((t[0].toNat : Int) == (c : Int)), .bool (!((t[0].toNat : Int) == (c : Int))), .bool (decide (t[0].toNat ≤ c)), .bool ((t[0].toNat : Int) != 10)] 4 (0, 0))).heap[w1.heap.size]? = some (.cells #[.string p, .string (⟨#[91]⟩ ++ p ++ ⟨#[93]⟩), .string (⟨#[91, 94]⟩ ++ p ++ ⟨#[93]⟩), .string (⟨#[91, 92, 116, 45]⟩ ++ p ++ ⟨#[93]⟩), .string ⟨#[46]⟩] 9 (0, 0))) := heap_alloc_prev (heap_alloc_at _ _)
        have HWB : Hid (((w1.alloc (.cells #[.string p, .string (⟨#[91]⟩ ++ p ++ ⟨#[93]⟩), .string (⟨#[91, 94]⟩ ++ p ++ ⟨#[93]⟩), .string (⟨#[91, 92, 116, 45]⟩ ++ p ++ ⟨#[93]⟩), .string ⟨#[46]⟩] 9 (0, 0))).alloc (.cells #[.bool ((t[0].toNat : Int) == (c : Int)), .bool ((t[0].toNat : Int) == (c : Int)), .bool (!((t[0].toNat : Int) == (c : Int))), .bool (decide (t[0].toNat ≤ c)), .bool ((t[0].toNat : Int) != 10)] 4 (0, 0))).heap[w1.heap.size + 1]? = some (.cells #[.bool ((t[0].toNat : Int) == (c : Int)), .bool ((t[0].toNat : Int) == (c : Int)), .bool (!((t[0].toNat : Int) == (c : Int))), .bool (decide (t[0].toNat ≤ c)), .bool ((t[0].toNat : Int) != 10)] 4 (0, 0))) := heap_alloc2_new _ _ _
        have HFW : Hid (Fresh w ((w1.alloc (.cells #[.string p, .string (⟨#[91]⟩ ++ p ++ ⟨#[93]⟩), .string (⟨#[91, 94]⟩ ++ p ++ ⟨#[93]⟩), .string (⟨#[91, 92, 116, 45]⟩ ++ p ++ ⟨#[93]⟩), .string ⟨#[46]⟩] 9 (0, 0))).alloc (.cells #[.bool ((t[0].toNat : Int) == (c : Int)), .bool ((t[0].toNat : Int) == (c : Int)), .bool (!((t[0].toNat : Int) == (c : Int))), .bool (decide (t[0].toNat ≤ c)), .bool ((t[0].toNat : Int) != 10)] 4 (0, 0)))) := (HF1.out.alloc _).alloc _
        generalize (w1.alloc (.cells #[.string p, .string (⟨#[91]⟩ ++ p ++ ⟨#[93]⟩), .string (⟨#[91, 94]⟩ ++ p ++ ⟨#[93]⟩), .string (⟨#[91, 92, 116, 45]⟩ ++ p ++ ⟨#[93]⟩), .string ⟨#[46]⟩] 9 (0, 0))).alloc (.cells #[.bool ((t[0].toNat : Int) == (c : Int)), .bool ((t[0].toNat : Int) == (c : Int)), .bool (!((t[0].toNat : Int) == (c : Int))), .bool (decide (t[0].toNat ≤ c)), .bool ((t[0].toNat : Int) != 10)] 4 (0, 0)) = W at HL HWB HFW ⊢
        go_wp2
        go_loopw [12, 13, 14] (fun x12 _ _ wr => ∃ (i : Nat), x12 = .int .i64 i ∧ i ≤ 5 ∧ Fresh W wr)
            (fun x _ _ _ => 10 - (intOf x).toNat)
        case atStart => exact ⟨0, rfl, by omega, Mod.refl _ _⟩
        case round =>
          obtain ⟨i, rfl, hi, hfr⟩ := hrel
          have HFR := hid hfr
          have hL := hfr.at HL.out (fun x => x)
          have hWB := hfr.at HWB.out (fun x => x)
          have HFN : Hid (Fresh w wr) := HFW.out.trans hfr
          clear hfr
          have hcs : i = 0 ∨ i = 1 ∨ i = 2 ∨ i = 3 ∨ i = 4 ∨ i = 5 := by omega
          rcases hcs with rfl | rfl | rfl | rfl | rfl | rfl
          · have cL := cellOf hL 0
            have cW := cellOf hWB 0
            simp at cL cW
            have A := A1
            have HWr := hid hWB
            clear hL hWB
            go_wp2_with (first
              | (go_at_call 10; refine (A.out _).mono ?_; rintro e w2 ⟨rfl, hf2⟩; have HF2 := hid (HFR.out.trans hf2); have cW2 := cellOf (hf2.at HWr.out (fun x => x)) 0; simp at cW2; clear hf2))
            go_roundw
            case rel => exact ⟨1, by go_num, by omega, HF2.out⟩
            case measure => simp [intOf]
          · have cL := cellOf hL 1
            have cW := cellOf hWB 1
            simp at cL cW
            have A := A2
            have HWr := hid hWB
            clear hL hWB
            go_wp2_with (first
              | (go_at_call 10; refine (A.out _).mono ?_; rintro e w2 ⟨rfl, hf2⟩; have HF2 := hid (HFR.out.trans hf2); have cW2 := cellOf (hf2.at HWr.out (fun x => x)) 1; simp at cW2; clear hf2))
            go_roundw
            case rel => exact ⟨2, by go_num, by omega, HF2.out⟩
            case measure => simp [intOf]
          · have cL := cellOf hL 2
            have cW := cellOf hWB 2
            simp at cL cW
            have A := A3
            have HWr := hid hWB
            clear hL hWB
            go_wp2_with (first
              | (go_at_call 10; refine (A.out _).mono ?_; rintro e w2 ⟨rfl, hf2⟩; have HF2 := hid (HFR.out.trans hf2); have cW2 := cellOf (hf2.at HWr.out (fun x => x)) 2; simp at cW2; clear hf2))
            go_roundw
            case rel => exact ⟨3, by go_num, by omega, HF2.out⟩
            case measure => simp [intOf]
          · have cL := cellOf hL 3
            have cW := cellOf hWB 3
            simp at cL cW
            have A := A4
            have HWr := hid hWB
            clear hL hWB
            go_wp2_with (first
              | (go_at_call 10; refine (A.out _).mono ?_; rintro e w2 ⟨rfl, hf2⟩; have HF2 := hid (HFR.out.trans hf2); have cW2 := cellOf (hf2.at HWr.out (fun x => x)) 3; simp at cW2; clear hf2))
            go_roundw
            case rel => exact ⟨4, by go_num, by omega, HF2.out⟩
            case measure => simp [intOf]
          · have cL := cellOf hL 4
            have cW := cellOf hWB 4
            simp at cL cW
            have A := A5
            have HWr := hid hWB
            clear hL hWB
            go_wp2_with (first
              | (go_at_call 10; refine (A.out _).mono ?_; rintro e w2 ⟨rfl, hf2⟩; have HF2 := hid (HFR.out.trans hf2); have cW2 := cellOf (hf2.at HWr.out (fun x => x)) 4; simp at cW2; clear hf2))
            go_roundw
            case rel => exact ⟨5, by go_num, by omega, HF2.out⟩
            case measure => simp [intOf]
          · clear hL hWB
            go_wp2
            go_ret
            exact ⟨rfl, HFN.out⟩
      · have q6 : decide (9 ≤ t[0].toNat ∧ t[0].toNat ≤ c) = false := decide_eq_false (by omega)
        rw [q6] at A4
        clear q6
        go_upto_region 9 with fail
        have HL : Hid (((w1.alloc (.cells #[.string p, .string (⟨#[91]⟩ ++ p ++ ⟨#[93]⟩), .string (⟨#[91, 94]⟩ ++ p ++ ⟨#[93]⟩), .string (⟨#[91, 92, 116, 45]⟩ ++ p ++ ⟨#[93]⟩), .string ⟨#[46]⟩] 9 (0, 0))).alloc (.cells #[.bool ((t[0].toNat : Int) == (c : Int)), .bool ((t[0].toNat : Int) == (c : Int)), .bool (!((t[0].toNat : Int) == (c : Int))), .bool (false), .bool ((t[0].toNat : Int) != 10)] 4 (0, 0))).heap[w1.heap.size]? = some (.cells #[.string p, .string (⟨#[91]⟩ ++ p ++ ⟨#[93]⟩), .string (⟨#[91, 94]⟩ ++ p ++ ⟨#[93]⟩), .string (⟨#[91, 92, 116, 45]⟩ ++ p ++ ⟨#[93]⟩), .string ⟨#[46]⟩] 9 (0, 0))) := heap_alloc_prev (heap_alloc_at _ _)
        have HWB : Hid (((w1.alloc (.cells #[.string p, .string (⟨#[91]⟩ ++ p ++ ⟨#[93]⟩), .string (⟨#[91, 94]⟩ ++ p ++ ⟨#[93]⟩), .string (⟨#[91, 92, 116, 45]⟩ ++ p ++ ⟨#[93]⟩), .string ⟨#[46]⟩] 9 (0, 0))).alloc (.cells #[.bool ((t[0].toNat : Int) == (c : Int)), .bool ((t[0].toNat : Int) == (c : Int)), .bool (!((t[0].toNat : Int) == (c : Int))), .bool (false), .bool ((t[0].toNat : Int) != 10)] 4 (0, 0))).heap[w1.heap.size + 1]? = some (.cells #[.bool ((t[0].toNat : Int) == (c : Int)), .bool ((t[0].toNat : Int) == (c : Int)), .bool (!((t[0].toNat : Int) == (c : Int))), .bool (false), .bool ((t[0].toNat : Int) != 10)] 4 (0, 0))) := heap_alloc2_new _ _ _
        have HFW : Hid (Fresh w ((w1.alloc (.cells #[.string p, .string (⟨#[91]⟩ ++ p ++ ⟨#[93]⟩), .string (⟨#[91, 94]⟩ ++ p ++ ⟨#[93]⟩), .string (⟨#[91, 92, 116, 45]⟩ ++ p ++ ⟨#[93]⟩), .string ⟨#[46]⟩] 9 (0, 0))).alloc (.cells #[.bool ((t[0].toNat : Int) == (c : Int)), .bool ((t[0].toNat : Int) == (c : Int)), .bool (!((t[0].toNat : Int) == (c : Int))), .bool (false), .bool ((t[0].toNat : Int) != 10)] 4 (0, 0)))) := (HF1.out.alloc _).alloc _
        generalize (w1.alloc (.cells #[.string p, .string (⟨#[91]⟩ ++ p ++ ⟨#[93]⟩), .string (⟨#[91, 94]⟩ ++ p ++ ⟨#[93]⟩), .string (⟨#[91, 92, 116, 45]⟩ ++ p ++ ⟨#[93]⟩), .string ⟨#[46]⟩] 9 (0, 0))).alloc (.cells #[.bool ((t[0].toNat : Int) == (c : Int)), .bool ((t[0].toNat : Int) == (c : Int)), .bool (!((t[0].toNat : Int) == (c : Int))), .bool (false), .bool ((t[0].toNat : Int) != 10)] 4 (0, 0)) = W at HL HWB HFW ⊢
        go_wp2
        go_loopw [12, 13, 14] (fun x12 _ _ wr => ∃ (i : Nat), x12 = .int .i64 i ∧ i ≤ 5 ∧ Fresh W wr)
            (fun x _ _ _ => 10 - (intOf x).toNat)
        case atStart => exact ⟨0, rfl, by omega, Mod.refl _ _⟩
        case round =>
          obtain ⟨i, rfl, hi, hfr⟩ := hrel
          have HFR := hid hfr
          have hL := hfr.at HL.out (fun x => x)
          have hWB := hfr.at HWB.out (fun x => x)
          have HFN : Hid (Fresh w wr) := HFW.out.trans hfr
          clear hfr
          have hcs : i = 0 ∨ i = 1 ∨ i = 2 ∨ i = 3 ∨ i = 4 ∨ i = 5 := by omega
          rcases hcs with rfl | rfl | rfl | rfl | rfl | rfl
          · have cL := cellOf hL 0
            have cW := cellOf hWB 0
            simp at cL cW
            have A := A1
            have HWr := hid hWB
            clear hL hWB
            go_wp2_with (first
              | (go_at_call 10; refine (A.out _).mono ?_; rintro e w2 ⟨rfl, hf2⟩; have HF2 := hid (HFR.out.trans hf2); have cW2 := cellOf (hf2.at HWr.out (fun x => x)) 0; simp at cW2; clear hf2))
            go_roundw
            case rel => exact ⟨1, by go_num, by omega, HF2.out⟩
            case measure => simp [intOf]
          · have cL := cellOf hL 1
            have cW := cellOf hWB 1
            simp at cL cW
            have A := A2
            have HWr := hid hWB
            clear hL hWB
            go_wp2_with (first
              | (go_at_call 10; refine (A.out _).mono ?_; rintro e w2 ⟨rfl, hf2⟩; have HF2 := hid (HFR.out.trans hf2); have cW2 := cellOf (hf2.at HWr.out (fun x => x)) 1; simp at cW2; clear hf2))
            go_roundw
            case rel => exact ⟨2, by go_num, by omega, HF2.out⟩
            case measure => simp [intOf]
          · have cL := cellOf hL 2
            have cW := cellOf hWB 2
            simp at cL cW
            have A := A3
            have HWr := hid hWB
            clear hL hWB
            go_wp2_with (first
              | (go_at_call 10; refine (A.out _).mono ?_; rintro e w2 ⟨rfl, hf2⟩; have HF2 := hid (HFR.out.trans hf2); have cW2 := cellOf (hf2.at HWr.out (fun x => x)) 2; simp at cW2; clear hf2))
            go_roundw
            case rel => exact ⟨3, by go_num, by omega, HF2.out⟩
            case measure => simp [intOf]
          · have cL := cellOf hL 3
            have cW := cellOf hWB 3
            simp at cL cW
            have A := A4
            have HWr := hid hWB
            clear hL hWB
            go_wp2_with (first
              | (go_at_call 10; refine (A.out _).mono ?_; rintro e w2 ⟨rfl, hf2⟩; have HF2 := hid (HFR.out.trans hf2); have cW2 := cellOf (hf2.at HWr.out (fun x => x)) 3; simp at cW2; clear hf2))
            go_roundw
            case rel => exact ⟨4, by go_num, by omega, HF2.out⟩
            case measure => simp [intOf]
          · have cL := cellOf hL 4
            have cW := cellOf hWB 4
            simp at cL cW
            have A := A5
            have HWr := hid hWB
            clear hL hWB
            go_wp2_with (first
              | (go_at_call 10; refine (A.out _).mono ?_; rintro e w2 ⟨rfl, hf2⟩; have HF2 := hid (HFR.out.trans hf2); have cW2 := cellOf (hf2.at HWr.out (fun x => x)) 4; simp at cW2; clear hf2))
            go_roundw
            case rel => exact ⟨5, by go_num, by omega, HF2.out⟩
            case measure => simp [intOf]
          · clear hL hWB
            go_wp2
            go_ret
            exact ⟨rfl, HFN.out⟩
    · have q1 : ∀ P : Prop, [Decidable P] → decide (t.size = 1 ∧ P) = false := fun P _ => decide_eq_false (fun h => h1 h.1)
      rw [q1] at A1 A2 A3 A4 A5
      have h11 : ¬ (t.size : Int) = 1 := by omega
      clear q1
      go_upto_region 9 with fail
      have HL : Hid (((w1.alloc (.cells #[.string p, .string (⟨#[91]⟩ ++ p ++ ⟨#[93]⟩), .string (⟨#[91, 94]⟩ ++ p ++ ⟨#[93]⟩), .string (⟨#[91, 92, 116, 45]⟩ ++ p ++ ⟨#[93]⟩), .string ⟨#[46]⟩] 9 (0, 0))).alloc (.cells #[.bool (false), .bool (false), .bool (false), .bool (false), .bool (false)] 4 (0, 0))).heap[w1.heap.size]? = some (.cells #[.string p, .string (⟨#[91]⟩ ++ p ++ ⟨#[93]⟩), .string (⟨#[91, 94]⟩ ++ p ++ ⟨#[93]⟩), .string (⟨#[91, 92, 116, 45]⟩ ++ p ++ ⟨#[93]⟩), .string ⟨#[46]⟩] 9 (0, 0))) := heap_alloc_prev (heap_alloc_at _ _)
      have HWB : Hid (((w1.alloc (.cells #[.string p, .string (⟨#[91]⟩ ++ p ++ ⟨#[93]⟩), .string (⟨#[91, 94]⟩ ++ p ++ ⟨#[93]⟩), .string (⟨#[91, 92, 116, 45]⟩ ++ p ++ ⟨#[93]⟩), .string ⟨#[46]⟩] 9 (0, 0))).alloc (.cells #[.bool (false), .bool (false), .bool (false), .bool (false), .bool (false)] 4 (0, 0))).heap[w1.heap.size + 1]? = some (.cells #[.bool (false), .bool (false), .bool (false), .bool (false), .bool (false)] 4 (0, 0))) := heap_alloc2_new _ _ _
      have HFW : Hid (Fresh w ((w1.alloc (.cells #[.string p, .string (⟨#[91]⟩ ++ p ++ ⟨#[93]⟩), .string (⟨#[91, 94]⟩ ++ p ++ ⟨#[93]⟩), .string (⟨#[91, 92, 116, 45]⟩ ++ p ++ ⟨#[93]⟩), .string ⟨#[46]⟩] 9 (0, 0))).alloc (.cells #[.bool (false), .bool (false), .bool (false), .bool (false), .bool (false)] 4 (0, 0)))) := (HF1.out.alloc _).alloc _
      generalize (w1.alloc (.cells #[.string p, .string (⟨#[91]⟩ ++ p ++ ⟨#[93]⟩), .string (⟨#[91, 94]⟩ ++ p ++ ⟨#[93]⟩), .string (⟨#[91, 92, 116, 45]⟩ ++ p ++ ⟨#[93]⟩), .string ⟨#[46]⟩] 9 (0, 0))).alloc (.cells #[.bool (false), .bool (false), .bool (false), .bool (false), .bool (false)] 4 (0, 0)) = W at HL HWB HFW ⊢
      go_wp2
      go_loopw [12, 13, 14] (fun x12 _ _ wr => ∃ (i : Nat), x12 = .int .i64 i ∧ i ≤ 5 ∧ Fresh W wr)
          (fun x _ _ _ => 10 - (intOf x).toNat)
      case atStart => exact ⟨0, rfl, by omega, Mod.refl _ _⟩
      case round =>
        obtain ⟨i, rfl, hi, hfr⟩ := hrel
        have HFR := hid hfr
        have hL := hfr.at HL.out (fun x => x)
        have hWB := hfr.at HWB.out (fun x => x)
        have HFN : Hid (Fresh w wr) := HFW.out.trans hfr
        clear hfr
        have hcs : i = 0 ∨ i = 1 ∨ i = 2 ∨ i = 3 ∨ i = 4 ∨ i = 5 := by omega
        rcases hcs with rfl | rfl | rfl | rfl | rfl | rfl
        · have cL := cellOf hL 0
          have cW := cellOf hWB 0
          simp at cL cW
          have A := A1
          have HWr := hid hWB
          clear hL hWB
          go_wp2_with (first
            | (go_at_call 10; refine (A.out _).mono ?_; rintro e w2 ⟨rfl, hf2⟩; have HF2 := hid (HFR.out.trans hf2); have cW2 := cellOf (hf2.at HWr.out (fun x => x)) 0; simp at cW2; clear hf2))
          go_roundw
          case rel => exact ⟨1, by go_num, by omega, HF2.out⟩
          case measure => simp [intOf]
        · have cL := cellOf hL 1
          have cW := cellOf hWB 1
          simp at cL cW
          have A := A2
          have HWr := hid hWB
          clear hL hWB
          go_wp2_with (first
            | (go_at_call 10; refine (A.out _).mono ?_; rintro e w2 ⟨rfl, hf2⟩; have HF2 := hid (HFR.out.trans hf2); have cW2 := cellOf (hf2.at HWr.out (fun x => x)) 1; simp at cW2; clear hf2))
          go_roundw
          case rel => exact ⟨2, by go_num, by omega, HF2.out⟩
          case measure => simp [intOf]
        · have cL := cellOf hL 2
          have cW := cellOf hWB 2
          simp at cL cW
          have A := A3
          have HWr := hid hWB
          clear hL hWB
          go_wp2_with (first
            | (go_at_call 10; refine (A.out _).mono ?_; rintro e w2 ⟨rfl, hf2⟩; have HF2 := hid (HFR.out.trans hf2); have cW2 := cellOf (hf2.at HWr.out (fun x => x)) 2; simp at cW2; clear hf2))
          go_roundw
          case rel => exact ⟨3, by go_num, by omega, HF2.out⟩
          case measure => simp [intOf]
        · have cL := cellOf hL 3
          have cW := cellOf hWB 3
          simp at cL cW
          have A := A4
          have HWr := hid hWB
          clear hL hWB
          go_wp2_with (first
            | (go_at_call 10; refine (A.out _).mono ?_; rintro e w2 ⟨rfl, hf2⟩; have HF2 := hid (HFR.out.trans hf2); have cW2 := cellOf (hf2.at HWr.out (fun x => x)) 3; simp at cW2; clear hf2))
          go_roundw
          case rel => exact ⟨4, by go_num, by omega, HF2.out⟩
          case measure => simp [intOf]
        · have cL := cellOf hL 4
          have cW := cellOf hWB 4
          simp at cL cW
          have A := A5
          have HWr := hid hWB
          clear hL hWB
          go_wp2_with (first
            | (go_at_call 10; refine (A.out _).mono ?_; rintro e w2 ⟨rfl, hf2⟩; have HF2 := hid (HFR.out.trans hf2); have cW2 := cellOf (hf2.at HWr.out (fun x => x)) 4; simp at cW2; clear hf2))
          go_roundw
          case rel => exact ⟨5, by go_num, by omega, HF2.out⟩
          case measure => simp [intOf]
        · clear hL hWB
          go_wp2
          go_ret
          exact ⟨rfl, HFN.out⟩
end Go.Proofs.Ytdbdkdekeicmhaa
