import Derived.Test.YtnhhboikbbnklaaChecked
import Derived.WalkKit
import Derived.WalkSpells
import Derived.WalkLawsBesides
namespace Go.Proofs.Ytnhhboikbbnklaa
open Go.RowKit
set_option linter.unusedVariables false
set_option linter.unusedSimpArgs false

/-- The byte at a place of a text, or -1. -/
def atB (s : ByteArray) (i : Int) : Int :=
  if h : 0 ≤ i ∧ i.toNat < s.size then ((s[i.toNat]'h.2).toNat : Int) else -1
def isSmallB (c : Int) : Bool := decide (97 ≤ c) && decide (c ≤ 122)
def isCapB (c : Int) : Bool := decide (65 ≤ c) && decide (c ≤ 90)
def isDigB (c : Int) : Bool := decide (48 ≤ c) && decide (c ≤ 57)
def isPrB (c : Int) : Bool := decide (32 ≤ c) && decide (c ≤ 126)
def isPlainB (c : Int) : Bool := !(c == 92 || c == 91 || c == 93 || c == 40 || c == 41 || c == 124 || c == 42 || c == 43 || c == 63 || c == 46) && isPrB c

theorem ret_int {k : IntKind} {a b : Int} (h : a = b) : Ending.returned (.int k a) = .returned (.int k b) := by rw [h]
theorem ret_bool {a b : Bool} (h : a = b) : Ending.returned (.bool a) = .returned (.bool b) := by rw [h]

theorem w64 {n : Int} (h : -9223372036854775808 ≤ n ∧ n ≤ 9223372036854775807) : wrap64 n = n := by unfold wrap64; omega

theorem at_any (s : ByteArray) (i : Int) (w : World) (hs : s.size ≤ maxLen) :
    Calls Try.prog 49 #[.string s, .int .i64 i] w fun e w' => e = .returned (.int .i64 (atB s i)) ∧ w' = w := by
  unfold maxLen at hs
  by_cases h0 : i < 0
  · go_enter Try.func49, Try.ntmps49
    go_wp2
    go_ret
    exact ⟨ret_int (by unfold atB; rw [dif_neg (by omega)]), rfl⟩
  · by_cases h1 : i.toNat < s.size
    · obtain ⟨k, rfl⟩ : ∃ k : Nat, i = k := ⟨i.toNat, by omega⟩
      have hk : k < s.size := by simpa using h1
      clear h1
      go_enter Try.func49, Try.ntmps49
      go_wp2
      go_ret
      exact ⟨ret_int (by
        have hb : s[k].toNat < 256 := s[k].toNat_lt
        rw [w64 (by omega)]; simp [atB, hk]), rfl⟩
    · have h2 : (s.size : Int) ≤ i := by omega
      go_enter Try.func49, Try.ntmps49
      go_wp2
      go_ret
      exact ⟨ret_int (by unfold atB; rw [dif_neg (by omega)]), rfl⟩

theorem isSmall_any (c : Int) (w : World) :
    Calls Try.prog 81 #[.int .i64 c] w fun e w' => e = .returned (.bool (isSmallB c)) ∧ w' = w := by
  go_enter Try.func81, Try.ntmps81
  go_wp2
  all_goals (go_ret; exact ⟨ret_bool (by rw [Bool.eq_iff_iff]; simp [isSmallB]; omega), rfl⟩)

theorem isCap_any (c : Int) (w : World) :
    Calls Try.prog 82 #[.int .i64 c] w fun e w' => e = .returned (.bool (isCapB c)) ∧ w' = w := by
  go_enter Try.func82, Try.ntmps82
  go_wp2
  all_goals (go_ret; exact ⟨ret_bool (by rw [Bool.eq_iff_iff]; simp [isCapB]; omega), rfl⟩)

theorem isDig_any (c : Int) (w : World) :
    Calls Try.prog 116 #[.int .i64 c] w fun e w' => e = .returned (.bool (isDigB c)) ∧ w' = w := by
  go_enter Try.func116, Try.ntmps116
  go_wp2
  all_goals (go_ret; exact ⟨ret_bool (by rw [Bool.eq_iff_iff]; simp [isDigB]; omega), rfl⟩)

theorem isPr_any (c : Int) (w : World) :
    Calls Try.prog 109 #[.int .i64 c] w fun e w' => e = .returned (.bool (isPrB c)) ∧ w' = w := by
  go_enter Try.func109, Try.ntmps109
  go_wp2
  all_goals (go_ret; exact ⟨ret_bool (by rw [Bool.eq_iff_iff]; simp [isPrB]; omega), rfl⟩)

set_option maxHeartbeats 1000000 in
theorem isPlain_any (c : Int) (w : World) :
    Calls Try.prog 105 #[.int .i64 c] w fun e w' => e = .returned (.bool (isPlainB c)) ∧ w' = w := by
  go_enter Try.func105, Try.ntmps105
  go_wp2_with (go_at_call 109; refine (isPr_any _ _).mono ?_; rintro e w' ⟨rfl, rfl⟩)
  all_goals (go_ret; exact ⟨ret_bool (by simp_all [isPlainB]), rfl⟩)

end Go.Proofs.Ytnhhboikbbnklaa
