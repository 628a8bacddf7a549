import Derived.Test.YtnhhboikbbnklaaChars
namespace Go.Proofs.Ytnhhboikbbnklaa
open Go.RowKit
set_option linter.unusedVariables false
set_option linter.unusedSimpArgs false

def beginsB (s : ByteArray) (i : Int) : Bool :=
  atB s i == 40 || atB s i == 46 || atB s i == 91 || atB s i == 92 || isPlainB (atB s i)

def rMark (s : ByteArray) (i : Int) : Int × Int × Bool :=
  if atB s i = 110 then (10, i + 1, true)
  else if atB s i = 116 then (9, i + 1, true)
  else if (!isPrB (atB s i) || isSmallB (atB s i) || isCapB (atB s i) || isDigB (atB s i)) = true then (0, i, false)
  else (atB s i, i + 1, true)

def rEnd (s : ByteArray) (i : Int) : Int × Int × Bool :=
  if atB s i = 92 then rMark s (i + 1)
  else if atB s i = 93 ∨ atB s i = 94 ∨ atB s i = 45 then (0, i, false)
  else if isPrB (atB s i) = false then (0, i, false)
  else (atB s i, i + 1, true)

/-- low, high, behind, ok -/
def rRange (s : ByteArray) (i : Int) : Int × Int × Int × Bool :=
  if (rEnd s i).2.2 = false then (0, 0, (rEnd s i).2.1, false)
  else if atB s (rEnd s i).2.1 ≠ 45 then ((rEnd s i).1, (rEnd s i).1, (rEnd s i).2.1, true)
  else if (rEnd s ((rEnd s i).2.1 + 1)).2.2 = false then (0, 0, (rEnd s ((rEnd s i).2.1 + 1)).2.1, false)
  else if (rEnd s ((rEnd s i).2.1 + 1)).1 < (rEnd s i).1 then (0, 0, (rEnd s ((rEnd s i).2.1 + 1)).2.1 - 1, false)
  else ((rEnd s i).1, (rEnd s ((rEnd s i).2.1 + 1)).1, (rEnd s ((rEnd s i).2.1 + 1)).2.1, true)

theorem atB_bd (s : ByteArray) (i : Int) : -1 ≤ atB s i ∧ atB s i ≤ 255 := by
  unfold atB; split
  · rename_i h; have := (s[i.toNat]'h.2).toNat_lt; omega
  · omega
theorem atB_lt {s : ByteArray} {i : Int} (h : atB s i ≠ -1) : 0 ≤ i ∧ i < s.size := by
  unfold atB at h; split at h
  · omega
  · omega
theorem rMark_bd (s : ByteArray) (i : Int) (h : 0 ≤ i) :
    0 ≤ (rMark s i).1 ∧ (rMark s i).1 ≤ 255 ∧ i ≤ (rMark s i).2.1 ∧ (rMark s i).2.1 ≤ i + 1 ∧ ((rMark s i).2.2 = true → (rMark s i).2.1 = i + 1 ∧ i < s.size) := by
  have hb := atB_bd s i
  unfold rMark
  split
  · have := atB_lt (s := s) (i := i) (by omega); simp; omega
  · split
    · have := atB_lt (s := s) (i := i) (by omega); simp; omega
    · split
      · simp; omega
      · rename_i h3
        have : atB s i ≠ -1 := by
          intro h4; simp [isPrB, h4] at h3
        have h5 : isPrB (atB s i) = true := by
          cases h6 : isPrB (atB s i) <;> simp [h6] at h3 ⊢
        have h7 : 32 ≤ atB s i := by unfold isPrB at h5; simp at h5; omega
        have := atB_lt this
        simp; omega
theorem rEnd_bd (s : ByteArray) (i : Int) (h : 0 ≤ i) :
    0 ≤ (rEnd s i).1 ∧ (rEnd s i).1 ≤ 255 ∧ i ≤ (rEnd s i).2.1 ∧ (rEnd s i).2.1 ≤ i + 2 ∧ ((rEnd s i).2.2 = true → i < (rEnd s i).2.1 ∧ (rEnd s i).2.1 ≤ s.size) := by
  have hb := atB_bd s i
  unfold rEnd
  split
  · have h1 := rMark_bd s (i + 1) (by omega); have := atB_lt (s := s) (i := i) (by omega)
    refine ⟨h1.1, h1.2.1, by omega, by omega, fun h2 => ?_⟩
    have := h1.2.2.2.2 h2; omega
  · split
    · simp; omega
    · split
      · simp; omega
      · rename_i h5
        have h7 : 32 ≤ atB s i := by unfold isPrB at h5; simp at h5; omega
        have := atB_lt (s := s) (i := i) (by omega)
        simp; omega

set_option maxHeartbeats 1000000 in
theorem begins_any (s : ByteArray) (i : Int) (w : World) (hs : s.size ≤ 1000) :
    Calls Try.prog 98 #[.string s, .int .i64 i] w fun e w' => e = .returned (.bool (beginsB s i)) ∧ w' = w := by
  go_enter Try.func98, Try.ntmps98
  go_wp2_with (first
    | (go_at_call 49; refine (at_any _ _ _ (by unfold maxLen; omega)).mono ?_; rintro e w' ⟨rfl, rfl⟩)
    | (go_at_call 105; refine (isPlain_any _ _).mono ?_; rintro e w' ⟨rfl, rfl⟩))
  all_goals (go_ret; exact ⟨ret_bool (by simp_all [beginsB]), rfl⟩)

theorem ret3 {a b c a' b' c' : Value} (h1 : a = a') (h2 : b = b') (h3 : c = c') : Ending.returned (.tuple #[a, b, c]) = .returned (.tuple #[a', b', c']) := by rw [h1, h2, h3]

set_option maxHeartbeats 1000000 in
theorem readMark_any (s : ByteArray) (i : Int) (w : World) (hs : s.size ≤ 1000) (h0 : 0 ≤ i) (h1 : i ≤ 10000) :
    Calls Try.prog 113 #[.string s, .int .i64 i] w fun e w' => e = .returned (.tuple #[.int .i64 (rMark s i).1, .int .i64 (rMark s i).2.1, .bool (rMark s i).2.2]) ∧ w' = w := by
  go_enter Try.func113, Try.ntmps113
  go_wp2_with (first
    | (go_at_call 49; refine (at_any _ _ _ (by unfold maxLen; omega)).mono ?_; rintro e w' ⟨rfl, rfl⟩)
    | (go_at_call 109; refine (isPr_any _ _).mono ?_; rintro e w' ⟨rfl, rfl⟩)
    | (go_at_call 81; refine (isSmall_any _ _).mono ?_; rintro e w' ⟨rfl, rfl⟩)
    | (go_at_call 82; refine (isCap_any _ _).mono ?_; rintro e w' ⟨rfl, rfl⟩)
    | (go_at_call 116; refine (isDig_any _ _).mono ?_; rintro e w' ⟨rfl, rfl⟩))
  all_goals (go_ret3; exact ⟨by simp_all [rMark], rfl⟩)

set_option maxHeartbeats 1000000 in
theorem readEnd_any (s : ByteArray) (i : Int) (w : World) (hs : s.size ≤ 1000) (h0 : 0 ≤ i) (h1 : i ≤ 9000) :
    Calls Try.prog 118 #[.string s, .int .i64 i] w fun e w' => e = .returned (.tuple #[.int .i64 (rEnd s i).1, .int .i64 (rEnd s i).2.1, .bool (rEnd s i).2.2]) ∧ w' = w := by
  go_enter Try.func118, Try.ntmps118
  go_wp2_with (first
    | (go_at_call 49; refine (at_any _ _ _ (by unfold maxLen; omega)).mono ?_; rintro e w' ⟨rfl, rfl⟩)
    | (go_at_call 109; refine (isPr_any _ _).mono ?_; rintro e w' ⟨rfl, rfl⟩)
    | (go_at_call 113; refine (readMark_any _ _ _ (by omega) (by omega) (by omega)).mono ?_; rintro e w' ⟨rfl, rfl⟩))
  all_goals (go_ret3; exact ⟨by simp_all [rEnd], rfl⟩)

theorem ret4 {a b c d a' b' c' d' : Value} (h1 : a = a') (h2 : b = b') (h3 : c = c') (h4 : d = d') : Ending.returned (.tuple #[a, b, c, d]) = .returned (.tuple #[a', b', c', d']) := by rw [h1, h2, h3, h4]

theorem results_tmp4 {fn : Func} {t u v x : Tmp} (h : fn.results = #[.tmp t, .tmp u, .tmp v, .tmp x]) (tmps : Array Value) (P : Program) (w : World) :
    (results fn tmps).run P w = .ok (.tuple #[tmps.getD t undef, tmps.getD u undef, tmps.getD v undef, tmps.getD x undef]) w := by
  simp [results, h]

set_option maxHeartbeats 1000000 in
theorem readRange_any (s : ByteArray) (i : Int) (w : World) (hs : s.size ≤ 1000) (h0 : 0 ≤ i) (h1 : i ≤ 8000) :
    Calls Try.prog 117 #[.string s, .int .i64 i] w fun e w' => e = .returned (.tuple #[.int .i64 (rRange s i).1, .int .i64 (rRange s i).2.1, .int .i64 (rRange s i).2.2.1, .bool (rRange s i).2.2.2]) ∧ w' = w := by
  have b1 := rEnd_bd s i h0
  have b2 := rEnd_bd s ((rEnd s i).2.1 + 1) (by omega)
  obtain ⟨b11, b12, b13, b14, b15⟩ := b1
  obtain ⟨b21, b22, b23, b24, b25⟩ := b2
  go_enter Try.func117, Try.ntmps117
  go_wp2_with (first
    | (go_at_call 49; refine (at_any _ _ _ (by unfold maxLen; omega)).mono ?_; rintro e w' ⟨rfl, rfl⟩)
    | (go_at_call 118; refine (readEnd_any _ _ _ (by omega) (by omega) (by omega)).mono ?_; rintro e w' ⟨rfl, rfl⟩))
  all_goals (refine bodyPost_ret (results_tmp4 rfl _ _ _) rfl ?_; exact ⟨by first | (simp_all [rRange]; done) | (simp_all [rRange]; rw [if_neg (by omega)]; simp), rfl⟩)

end Go.Proofs.Ytnhhboikbbnklaa
