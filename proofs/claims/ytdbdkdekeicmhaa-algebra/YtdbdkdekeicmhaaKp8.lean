import Derived.Test.YtdbdkdekeicmhaaKp7
namespace Go.Proofs.Ytdbdkdekeicmhaa
open Go.RowKit
set_option linter.unusedVariables false
set_option linter.unusedSimpArgs false

abbrev fix1 : ByteArray := ⟨#[97, 61, 120, 10, 83, 58, 32, 97, 10]⟩
abbrev fix2 : ByteArray := ⟨#[97, 61, 120, 10, 83, 58, 32, 98, 10]⟩
theorem fix1_ok : checkF fix1 = (0, 0) := by kernel_rfl
theorem fix2_ok : checkF fix2 = (4, 7) := by kernel_rfl

theorem check_fix (w : World) (s : ByteArray) (r : Int × Int) (h : checkF s = r) (hs : s.size ≤ 900) : Calls Try.prog 8 #[.string s] w fun e w' => e = .returned (.tuple #[.int .i64 r.1, .int .i64 r.2]) ∧ Fresh w w' := by
  rw [← h]; exact check_any s w (by unfold maxLen; omega)
set_option maxRecDepth 20000 in
set_option maxHeartbeats 1000000 in
theorem answers_any (w : World) : Calls Try.prog 4 #[] w fun e w' => e = .returned (.bool true) ∧ Fresh w w' := by
  have C1 := hid (fun w => check_fix w fix1 (0, 0) fix1_ok (by decide))
  have C2 := hid (fun w => check_fix w fix2 (4, 7) fix2_ok (by decide))
  go_enter Try.func4, Try.ntmps4
  go_wp2_with (first
    | (go_at_call_of 8 (Value.string ⟨#[97, 61, 120, 10, 83, 58, 32, 97, 10]⟩); refine (C1.out _).mono ?_; rintro e w1 ⟨rfl, hf1⟩)
    | (go_at_call_of 8 (Value.string ⟨#[97, 61, 120, 10, 83, 58, 32, 98, 10]⟩); refine (C2.out _).mono ?_; rintro e w2 ⟨rfl, hf2⟩))
  go_ret
  exact ⟨rfl, hf1.trans hf2⟩

/-- of n bytes: the first rule from r on that matches, by Match -/
def firstR (s t : ByteArray) (rules : Nat) : Nat → Nat → Option Nat
  | 0, _ => none
  | f + 1, r => if r < rules then (if (matchF s r t).1 then some r else firstR s t rules f (r + 1)) else none
def longK (s : ByteArray) (rules : Nat) (t : ByteArray) : Nat → Int × Int
  | 0 => (0, 0)
  | n + 1 => match firstR s (t.extract 0 (n + 1)) rules (rules + 1) 0 with
    | some r => ((n : Int) + 1, (r : Int))
    | none => longK s rules t n
end Go.Proofs.Ytdbdkdekeicmhaa
namespace Go.Proofs.Ytdbdkdekeicmhaa
open Go.RowKit
set_option linter.unusedVariables false
set_option linter.unusedSimpArgs false

theorem longK_pos (s : ByteArray) (rules : Nat) (t : ByteArray) (n : Nat) (h : 0 < n) : longK s rules t n = match firstR s (t.extract 0 n) rules (rules + 1) 0 with
    | some r => ((n : Int), (r : Int))
    | none => longK s rules t (n - 1) := by
  obtain ⟨n, rfl⟩ : ∃ m, n = m + 1 := ⟨n - 1, by omega⟩
  conv => lhs; unfold longK
  rfl
end Go.Proofs.Ytdbdkdekeicmhaa
