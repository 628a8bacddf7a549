import Derived.Test.YtolpddkpfigidaaKp7
namespace Go.Proofs.Ytolpddkpfigidaa
open Go.RowKit
set_option linter.unusedVariables false
set_option linter.unusedSimpArgs false

abbrev fix1 : ByteArray := ⟨#[97, 61, 120, 10, 83, 58, 32, 97, 10]⟩
abbrev fix2 : ByteArray := ⟨#[97, 61, 120, 10, 83, 58, 32, 98, 10]⟩
theorem fix1_ok : checkF fix1 = (0, 0) := by kernel_rfl
theorem fix2_ok : checkF fix2 = (4, 7) := by kernel_rfl

theorem check_fix (w : World) (s : ByteArray) (r : Int × Int) (h : checkF s = r) (hs : s.size ≤ 900) : Calls Try.prog 10 #[.string s] w fun e w' => e = .returned (.tuple #[.int .i64 r.1, .int .i64 r.2]) ∧ Fresh w w' := by
  rw [← h]; exact check_any s w (by unfold maxLen; omega)
set_option maxRecDepth 20000 in
set_option maxHeartbeats 1000000 in
theorem answers_any (w : World) : Calls Try.prog 20 #[] w fun e w' => e = .returned (.bool true) ∧ Fresh w w' := by
  have C1 := hid (fun w => check_fix w fix1 (0, 0) fix1_ok (by decide))
  have C2 := hid (fun w => check_fix w fix2 (4, 7) fix2_ok (by decide))
  go_enter Try.func20, Try.ntmps20
  go_wp2_with (first
    | (go_at_call_of 10 (Value.string ⟨#[97, 61, 120, 10, 83, 58, 32, 97, 10]⟩); refine (C1.out _).mono ?_; rintro e w1 ⟨rfl, hf1⟩)
    | (go_at_call_of 10 (Value.string ⟨#[97, 61, 120, 10, 83, 58, 32, 98, 10]⟩); refine (C2.out _).mono ?_; rintro e w2 ⟨rfl, hf2⟩))
  go_ret
  exact ⟨rfl, hf1.trans hf2⟩

set_option maxRecDepth 20000 in
set_option maxHeartbeats 1000000 in
theorem right_bad (s : ByteArray) (w : World) (hs : s.size ≤ maxLen) (hc : (checkF s).1 ≠ 0) :
    Calls Try.prog 18 #[.string s] w fun e w' => e = .returned (.tuple #[.pointer none, .bool false, .bool true]) ∧ Fresh w w' := by
  have C1 := hid (fun w => check_any s w hs)
  generalize checkF s = c at C1 hc
  go_enter Try.func18, Try.ntmps18
  go_wp2_with (first
    | (go_at_call 20; refine (answers_any _).mono ?_; rintro e w1 ⟨rfl, hf1⟩)
    | (go_at_call 10; refine (C1.out _).mono ?_; rintro e w2 ⟨rfl, hf2⟩))
  all_goals first
    | (go_ret3; exact ⟨rfl, hf1.trans hf2⟩)
    | (exfalso; simp_all; done)

set_option maxRecDepth 20000 in
set_option maxHeartbeats 1000000 in
theorem right_good (s : ByteArray) (w : World) (hs : s.size ≤ 800) (hc : (checkF s) = (0, 0)) :
    Calls Try.prog 18 #[.string s] w fun e w' => ∃ b, e = .returned (.tuple #[bptr b, .bool true, .bool (linesF s).2]) ∧ LOX w' b (linesF s).1 ∧ Fresh w w' := by
  have C1 := hid (fun w => check_any s w (by unfold maxLen; omega))
  have C2 := hid (fun w => lines_any s w (by omega))
  rw [hc] at C1
  generalize linesF s = L at C2
  go_enter Try.func18, Try.ntmps18
  go_wp2_with (first
    | (go_at_call 20; refine (answers_any _).mono ?_; rintro e w1 ⟨rfl, hf1⟩)
    | (go_at_call 40; refine (C2.out _).mono ?_; rintro e w3 ⟨rfl, hl3, hf3⟩; have HL3 := hid hl3; clear hl3)
    | (go_at_call 10; refine (C1.out _).mono ?_; rintro e w2 ⟨rfl, hf2⟩))
  all_goals
    go_ret3
    exact ⟨_, by simp_all, HL3.out, (hf1.trans hf2).trans hf3⟩

/-- of n bytes: the first rule from r on that matches, by Match -/
def firstR (s t : ByteArray) (rules : Nat) : Nat → Nat → Option Nat
  | 0, _ => none
  | f + 1, r => if r < rules then (if (matchF s r t).1 then some r else firstR s t rules f (r + 1)) else none
def longK (s : ByteArray) (rules : Nat) (t : ByteArray) : Nat → Int × Int
  | 0 => (0, 0)
  | n + 1 => match firstR s (t.extract 0 (n + 1)) rules (rules + 1) 0 with
    | some r => ((n : Int) + 1, (r : Int))
    | none => longK s rules t n
end Go.Proofs.Ytolpddkpfigidaa
namespace Go.Proofs.Ytolpddkpfigidaa
open Go.RowKit
set_option linter.unusedVariables false
set_option linter.unusedSimpArgs false

theorem longK_pos (s : ByteArray) (rules : Nat) (t : ByteArray) (n : Nat) (h : 0 < n) : longK s rules t n = match firstR s (t.extract 0 n) rules (rules + 1) 0 with
    | some r => ((n : Int), (r : Int))
    | none => longK s rules t (n - 1) := by
  obtain ⟨n, rfl⟩ : ∃ m, n = m + 1 := ⟨n - 1, by omega⟩
  conv => lhs; unfold longK
  rfl
set_option maxRecDepth 20000 in
set_option maxHeartbeats 2000000 in
theorem klongest_any (s t : ByteArray) (rules : Nat) (w : World) (hs : s.size ≤ 800) (ht : t.size ≤ 200) (hr : rules ≤ 1000) (he : ∀ (r n : Nat), r < rules → n ≤ t.size → (matchF s r (t.extract 0 n)).2 = 0) :
    Calls Try.prog 19 #[.string s, .int .i64 rules, .string t] w fun e w' => e = .returned (.tuple #[.int .i64 (longK s rules t t.size).1, .int .i64 (longK s rules t t.size).2, .bool true]) ∧ Fresh w w' := by
  have HE := hid he
  have ME := hid (fun (r n : Nat) (w : World) => match_any s (t.extract 0 n) r w (by unfold maxLen; omega) (by rw [ByteArray.size_extract]; unfold maxLen; omega))
  generalize hR : longK s rules t t.size = R
  have HR := hid hR
  clear he hR
  go_enter Try.func19, Try.ntmps19
  go_wp2
  go_loopw [9, 10, 11, 12] (fun x9 x10 x11 x12 wr => ∃ (n : Nat), x9 = .int .i64 n ∧ longK s rules t n = R ∧ n ≤ t.size ∧ Fresh w wr)
      (fun x _ _ _ _ => (intOf x).toNat)
  case atStart => exact ⟨t.size, rfl, HR.out, by omega, Mod.refl _ _⟩
  case round =>
    obtain ⟨n, rfl, hR, hn, hfr⟩ := hrel
    have HFr := hid hfr
    clear hfr
    by_cases hn0 : n = 0
    · subst hn0
      unfold longK at hR
      have HRR := hid hR
      clear hR
      go_wp2
      go_ret3
      rw [← HRR.out]
      exact ⟨rfl, HFr.out⟩
    · have hnp : 0 < n := by omega
      have hnp' : (0 : Int) < (n : Int) := by omega
      rw [longK_pos s rules t n hnp] at hR
      generalize hS : firstR s (t.extract 0 n) rules (rules + 1) 0 = S at hR
      have HS := hid hS
      have HRR := hid hR
      clear hS hR
      obtain ⟨wo, hwo⟩ : ∃ wo, wo = wr := ⟨_, rfl⟩
      subst hwo
      go_wp2
      go_loopw [10, 11, 12] (fun x10 x11 x12 wi => ∃ (f r : Nat), x10 = .int .i64 r ∧ firstR s (t.extract 0 n) rules f r = S ∧ rules + 1 ≤ f + r ∧ r ≤ rules ∧ Fresh w wi)
        (fun x _ _ _ => 1001 - (intOf x).toNat)
      case atStart => exact ⟨_, 0, rfl, HS.out, by omega, by omega, HFr.out⟩
      case round =>
        obtain ⟨f, r, rfl, hS, hf, hrr, hfi⟩ := hrel
        obtain ⟨f, rfl⟩ : ∃ g, f = g + 1 := ⟨f - 1, by omega⟩
        unfold firstR at hS
        have HMJ := hid (meas (B := 1001) r (by omega))
        have HFi := hid hfi
        clear hfi
        by_cases hlt : r < rules
        · rw [if_pos hlt] at hS
          have M1 := hid (fun w => ME.out r n w)
          have E1 := HE.out r n hlt hn
          rw [E1] at M1
          clear E1
          cases hm : (matchF s r (t.extract 0 n)).1
          · rw [hm] at M1 hS
            simp only [Bool.false_eq_true, if_false] at hS
            have HSS := hid hS
            clear hS hm
            go_wp2_with (first
              | (go_at_call 13; refine (M1.out _).mono ?_; rintro e w1 ⟨rfl, hf1⟩))
            go_roundw
            case rel => exact ⟨f, r + 1, by go_num, HSS.out, by omega, by omega, HFi.out.trans hf1⟩
            case measure => exact HMJ.out
          · rw [hm] at M1 hS
            simp only [if_true] at hS
            have e1 := HRR.out
            rw [← hS] at e1
            simp only [] at e1
            have E2 := hid e1
            clear hS hm e1
            go_wp2_with (first
              | (go_at_call 13; refine (M1.out _).mono ?_; rintro e w1 ⟨rfl, hf1⟩))
            go_ret3
            rw [← E2.out]
            exact ⟨rfl, HFi.out.trans hf1⟩
        · rw [if_neg hlt] at hS
          have e1 := HRR.out
          rw [← hS] at e1
          simp only [] at e1
          have E2 := hid e1
          clear hS e1
          go_wp2
          go_roundw
          case rel => exact ⟨n - 1, by go_num, E2.out, by omega, HFi.out⟩
          case measure => simp [intOf]; omega
end Go.Proofs.Ytolpddkpfigidaa
