import Derived.Test.YtdbdkdekeicmhaaMu1
namespace Go.Proofs.Ytdbdkdekeicmhaa
open Go.RowKit
set_option linter.unusedVariables false
set_option linter.unusedSimpArgs false

/-- the crowd behind k bytes from i on -/
def crK (ns : List Node) (st : Int) (s : ByteArray) (i : Nat) : Nat → List Nat
  | 0 => enterF ns.length [] st
  | k + 1 => nextL ns s (i + k) (spreadF ns (crK ns st s i k))
def accK (ns : List Node) (st en : Int) (s : ByteArray) (i k : Nat) : Bool := holdsB ns.length (spreadF ns (crK ns st s i k)) en

theorem spreadF_nil (ns : List Node) : spreadF ns [] = [] := by unfold spreadF spreadL; simp
theorem holdsB_nil (n : Nat) (en : Int) : holdsB n [] en = false := by simp [holdsB]
theorem nextL_nil (ns : List Node) (s : ByteArray) (i : Nat) : nextL ns s i [] = [] := by unfold nextL; split <;> simp [stepF]
theorem crK_nil {ns : List Node} {st : Int} {s : ByteArray} {i k : Nat} (h : crK ns st s i k = []) : ∀ j, crK ns st s i (k + j) = [] := by
  intro j
  induction j with
  | zero => exact h
  | succ j ih =>
    show nextL ns s (i + (k + j)) (spreadF ns (crK ns st s i (k + j))) = []
    rw [ih, spreadF_nil, nextL_nil]
theorem accK_nil {ns : List Node} {st en : Int} {s : ByteArray} {i k : Nat} (h : crK ns st s i k = []) (j : Nat) (hj : k ≤ j) : accK ns st en s i j = false := by
  have := crK_nil h (j - k)
  rw [show k + (j - k) = j by omega] at this
  unfold accK; rw [this, spreadF_nil, holdsB_nil]

theorem runL_spec (ns : List Node) (st en : Int) (s : ByteArray) (i : Nat) : ∀ (f k : Nat) (best : Int), s.size + 2 ≤ f + (i + k) →
    (∃ j, k ≤ j ∧ i + j ≤ s.size ∧ accK ns st en s i j = true ∧ runL ns en s f (i + k) (crK ns st s i k) best = ((i + j : Nat) : Int) ∧ ∀ j', j < j' → i + j' ≤ s.size → accK ns st en s i j' = false) ∨
    (runL ns en s f (i + k) (crK ns st s i k) best = best ∧ ∀ j, k ≤ j → i + j ≤ s.size → accK ns st en s i j = false) := by
  intro f
  induction f with
  | zero =>
    intro k best hf
    right
    refine ⟨rfl, fun j hj h => ?_⟩
    omega
  | succ f ih =>
    intro k best hf
    unfold runL
    by_cases hc : i + k ≤ s.size ∧ 0 < (crK ns st s i k).length
    · rw [if_pos hc]
      have e : nextL ns s (i + k) (spreadF ns (crK ns st s i k)) = crK ns st s i (k + 1) := rfl
      rw [e]
      have e2 : holdsB ns.length (spreadF ns (crK ns st s i k)) en = accK ns st en s i k := rfl
      rw [e2]
      rcases ih (k + 1) (if accK ns st en s i k = true then ((i + k : Nat) : Int) else best) (by omega) with ⟨j, h1, h2, h3, h4, h5⟩ | ⟨h1, h2⟩
      · left
        exact ⟨j, by omega, h2, h3, h4, h5⟩
      · cases ha : accK ns st en s i k
        · right
          rw [ha] at h1
          refine ⟨by simpa [Nat.add_assoc] using h1, fun j hj hl => ?_⟩
          by_cases hjk : j = k
          · rw [hjk]; exact ha
          · exact h2 j (by omega) hl
        · left
          rw [ha] at h1
          exact ⟨k, Nat.le_refl _, hc.1, ha, by simpa [Nat.add_assoc] using h1, fun j' hj hl => h2 j' (by omega) hl⟩
    · rw [if_neg hc]
      right
      refine ⟨rfl, fun j hj hl => ?_⟩
      have : crK ns st s i k = [] := by
        cases hq : crK ns st s i k with
        | nil => rfl
        | cons a l => rw [hq] at hc; simp at hc; omega
      exact accK_nil this j hj

/-- longF is the place behind the longest beginning that is taken, or -1. -/
theorem longF_spec (ns : List Node) (st en : Int) (s : ByteArray) (i : Nat) :
    (∃ j, i + j ≤ s.size ∧ accK ns st en s i j = true ∧ longF ns st en s i = ((i + j : Nat) : Int) ∧ ∀ j', j < j' → i + j' ≤ s.size → accK ns st en s i j' = false) ∨
    (longF ns st en s i = -1 ∧ ∀ j, i + j ≤ s.size → accK ns st en s i j = false) := by
  rcases runL_spec ns st en s i (s.size + 2) 0 (-1) (by omega) with ⟨j, _, h2, h3, h4, h5⟩ | ⟨h1, h2⟩
  · exact .inl ⟨j, h2, h3, h4, h5⟩
  · exact .inr ⟨h1, fun j hj => h2 j (by omega) hj⟩

theorem crK_ext (ns : List Node) (st : Int) (t : ByteArray) (i n : Nat) (hn : i + n ≤ t.size) : ∀ k, k ≤ n → crK ns st (t.extract i (i + n)) 0 k = crK ns st t i k := by
  intro k
  induction k with
  | zero => intro _; rfl
  | succ k ih =>
    intro hk
    show nextL ns (t.extract i (i + n)) (0 + k) _ = nextL ns t (i + k) _
    rw [ih (by omega)]
    unfold nextL
    have h1 : 0 + k < (t.extract i (i + n)).size := by rw [ByteArray.size_extract]; omega
    have h2 : i + k < t.size := by omega
    rw [dif_pos h1, dif_pos h2]
    have e : (t.extract i (i + n))[0 + k] = t[i + k] := by
      rw [ByteArray.getElem_extract]; congr 1; omega
    rw [e]
theorem match_acc (x : Ln) (t : ByteArray) (i n : Nat) (hn : i + n ≤ t.size) : ruleMatch x (t.extract i (i + n)) = accK x.ns x.st x.en t i n := by
  have hsz : (t.extract i (i + n)).size = n := by rw [ByteArray.size_extract]; omega
  have ha : ∀ k, k ≤ n → accK x.ns x.st x.en (t.extract i (i + n)) 0 k = accK x.ns x.st x.en t i k := fun k hk => by
    unfold accK; rw [crK_ext x.ns x.st t i n hn k hk]
  unfold ruleMatch
  rw [hsz, ← ha n (Nat.le_refl _)]
  rcases longF_spec x.ns x.st x.en (t.extract i (i + n)) 0 with ⟨j, h1, h2, h3, h4⟩ | ⟨h1, h2⟩
  · rw [hsz] at h1 h4
    rw [h3]
    by_cases hj : j = n
    · subst hj; rw [h2]; simp
    · rw [h4 n (by omega) (by omega)]
      simp; omega
  · rw [h1, h2 n (by rw [hsz]; omega)]
    simp
end Go.Proofs.Ytdbdkdekeicmhaa
namespace Go.Proofs.Ytdbdkdekeicmhaa
open Go.RowKit
set_option linter.unusedVariables false
set_option linter.unusedSimpArgs false

/-- how far rule x reaches from i -/
abbrev far (x : Ln) (t : ByteArray) (i : Nat) : Int := longF x.ns x.st x.en t i
theorem far_ge {x : Ln} {t : ByteArray} {i n : Nat} (hn : i + n ≤ t.size) (ha : accK x.ns x.st x.en t i n = true) : ((i + n : Nat) : Int) ≤ far x t i := by
  rcases longF_spec x.ns x.st x.en t i with ⟨j, h1, h2, h3, h4⟩ | ⟨h1, h2⟩
  · unfold far; rw [h3]
    by_cases hj : j < n
    · rw [h4 n hj hn] at ha; cases ha
    · omega
  · rw [h2 n hn] at ha; cases ha
theorem far_acc {x : Ln} {t : ByteArray} {i : Nat} (h : (i : Int) < far x t i) : ∃ n, 0 < n ∧ i + n ≤ t.size ∧ far x t i = ((i + n : Nat) : Int) ∧ accK x.ns x.st x.en t i n = true := by
  rcases longF_spec x.ns x.st x.en t i with ⟨j, h1, h2, h3, h4⟩ | ⟨h1, h2⟩
  · unfold far at h ⊢
    rw [h3] at h ⊢
    exact ⟨j, by omega, h1, rfl, h2⟩
  · unfold far at h; rw [h1] at h; omega

/-- what stands best among the first k rules -/
def BestTo (lns : List Ln) (t : ByteArray) (i k : Nat) (b : Int × Int) : Prop :=
  (b = (0, (i : Int)) ∧ ∀ r (hr : r < lns.length), r < k → far lns[r] t i ≤ i) ∨
  (∃ r, ∃ hr : r < lns.length, r < k ∧ b = ((r : Int), far lns[r] t i) ∧ (i : Int) < far lns[r] t i ∧ (∀ r' (hr' : r' < lns.length), r' < k → far lns[r'] t i ≤ far lns[r] t i) ∧ ∀ r' (hr' : r' < lns.length), r' < r → far lns[r'] t i < far lns[r] t i)
theorem bestL_to (lns : List Ln) (t : ByteArray) (i : Nat) : ∀ (f k : Nat) (b : Int × Int), lns.length + 1 ≤ f + k → BestTo lns t i k b → BestTo lns t i lns.length (bestL lns t i f k b) := by
  intro f
  induction f with
  | zero =>
    intro k b hf h
    unfold bestL
    rcases h with ⟨h1, h2⟩ | ⟨r, hr, h1, h2, h3, h4, h5⟩
    · exact .inl ⟨h1, fun r hr _ => h2 r hr (by omega)⟩
    · exact .inr ⟨r, hr, hr, h2, h3, fun r' hr' _ => h4 r' hr' (by omega), h5⟩
  | succ f ih =>
    intro k b hf h
    unfold bestL
    by_cases hk : k < lns.length
    · rw [List.getElem?_eq_getElem hk]
      simp only []
      apply ih (k + 1) _ (by omega)
      by_cases hb : b.2 < longF lns[k].ns lns[k].st lns[k].en t i
      · rw [if_pos hb]
        right
        refine ⟨k, hk, by omega, rfl, ?_, ?_, ?_⟩
        · rcases h with ⟨h1, h2⟩ | ⟨r, hr, h1, h2, h3, h4, h5⟩
          · rw [h1] at hb; exact hb
          · rw [h2] at hb; exact Int.lt_trans h3 hb
        · intro r' hr' hlt
          by_cases e : r' = k
          · subst e; exact Int.le_refl _
          · rcases h with ⟨h1, h2⟩ | ⟨r, hr, h1, h2, h3, h4, h5⟩
            · have := h2 r' hr' (by omega); rw [h1] at hb; exact Int.le_of_lt (Int.lt_of_le_of_lt this hb)
            · have := h4 r' hr' (by omega); rw [h2] at hb; exact Int.le_of_lt (Int.lt_of_le_of_lt this hb)
        · intro r' hr' hlt
          rcases h with ⟨h1, h2⟩ | ⟨r, hr, h1, h2, h3, h4, h5⟩
          · have := h2 r' hr' (by omega); rw [h1] at hb; exact Int.lt_of_le_of_lt this hb
          · have := h4 r' hr' (by omega); rw [h2] at hb; exact Int.lt_of_le_of_lt this hb
      · rw [if_neg hb]
        rcases h with ⟨h1, h2⟩ | ⟨r, hr, h1, h2, h3, h4, h5⟩
        · left
          refine ⟨h1, fun r hr hlt => ?_⟩
          by_cases e : r = k
          · subst e; rw [h1] at hb; unfold far; simp only [] at hb; omega
          · exact h2 r hr (by omega)
        · right
          refine ⟨r, hr, by omega, h2, h3, fun r' hr' hlt => ?_, h5⟩
          by_cases e : r' = k
          · subst e; rw [h2] at hb; unfold far at hb ⊢; simp only [] at hb; omega
          · exact h4 r' hr' (by omega)
    · rw [List.getElem?_eq_none (by omega)]
      simp only []
      rcases h with ⟨h1, h2⟩ | ⟨r, hr, h1, h2, h3, h4, h5⟩
      · exact .inl ⟨h1, fun r hr _ => h2 r hr (by omega)⟩
      · exact .inr ⟨r, hr, hr, h2, h3, fun r' hr' _ => h4 r' hr' (by omega), h5⟩
theorem bestF_to (lns : List Ln) (t : ByteArray) (i : Nat) : BestTo lns t i lns.length (bestF lns t i) := bestL_to lns t i _ 0 _ (by omega) (.inl ⟨rfl, fun r hr h => by omega⟩)

theorem firstR_none {s t : ByteArray} {rules : Nat} : ∀ (f r : Nat), (∀ r', r' < rules → (matchF s r' t).1 = false) → firstR s t rules f r = none := by
  intro f
  induction f with
  | zero => intro r h; rfl
  | succ f ih =>
    intro r h
    unfold firstR
    split
    · rename_i hr; rw [h r hr]; simp only [Bool.false_eq_true, if_false]; exact ih _ h
    · rfl
theorem firstR_some {s t : ByteArray} {rules q : Nat} (hq : q < rules) (hm : (matchF s q t).1 = true) (hb : ∀ r', r' < q → (matchF s r' t).1 = false) : ∀ (f r : Nat), r ≤ q → rules + 1 ≤ f + r → firstR s t rules f r = some q := by
  intro f
  induction f with
  | zero => intro r h hf; omega
  | succ f ih =>
    intro r h hf
    unfold firstR
    rw [if_pos (by omega)]
    by_cases e : r = q
    · subst e; rw [hm]; rfl
    · rw [hb r (by omega)]
      simp only [Bool.false_eq_true, if_false]
      exact ih (r + 1) (by omega) (by omega)
theorem longK_none {s t : ByteArray} {rules : Nat} : ∀ m, (∀ n r, 0 < n → n ≤ m → r < rules → (matchF s r (t.extract 0 n)).1 = false) → longK s rules t m = (0, 0) := by
  intro m
  induction m with
  | zero => intro h; rfl
  | succ m ih =>
    intro h
    unfold longK
    rw [firstR_none _ _ (fun r' hr' => h (m + 1) r' (by omega) (by omega) hr')]
    exact ih (fun n r h1 h2 h3 => h n r h1 (by omega) h3)
theorem longK_some {s t : ByteArray} {rules n q : Nat} (hn : 0 < n) (hq : q < rules) (hm : (matchF s q (t.extract 0 n)).1 = true) (hb : ∀ r', r' < q → (matchF s r' (t.extract 0 n)).1 = false) :
    ∀ m, n ≤ m → (∀ n' r, n < n' → n' ≤ m → r < rules → (matchF s r (t.extract 0 n')).1 = false) → longK s rules t m = ((n : Int), (q : Int)) := by
  intro m
  induction m with
  | zero => intro h; omega
  | succ m ih =>
    intro hle h
    by_cases e : n = m + 1
    · subst e
      unfold longK
      rw [firstR_some hq hm hb _ 0 (by omega) (by omega)]
      simp
    · unfold longK
      rw [firstR_none _ _ (fun r' hr' => h (m + 1) r' (by omega) (by omega) hr')]
      exact ih (by omega) (fun n' r h1 h2 h3 => h n' r h1 (by omega) h3)

theorem match_at (s t : ByteArray) (i n r : Nat) (ht : t.size ≤ 200) (hc : checkF s = (0, 0)) (hn : i + n ≤ t.size) (hr : r < (rulesOf s).length) :
    (matchF s r ((t.extract i t.size).extract 0 n)).1 = accK (rulesOf s)[r].ns (rulesOf s)[r].st (rulesOf s)[r].en t i n := by
  have e : (t.extract i t.size).extract 0 n = t.extract i (i + n) := by
    have := ext_ext t i 0 n (by omega) (by omega); simpa using this
  rw [e, ← match_acc _ t i n hn]
  unfold matchF
  have h0 : errF s (t.extract i (i + n)) = 0 := by
    unfold errF; rw [if_neg (by simp only [ByteArray.size_extract]; omega), hc]
  rw [h0, if_neg (by simp), if_neg (by omega), Int.toNat_natCast, List.getElem?_eq_getElem hr]

theorem bestAs (s t : ByteArray) (i : Nat) (ht : t.size ≤ 200) (hc : checkF s = (0, 0)) (hi : i < t.size) : BestAs s t i := by
  have hsz : (t.extract i t.size).size = t.size - i := by rw [ByteArray.size_extract]; omega
  unfold BestAs
  rw [hsz]
  rcases bestF_to (rulesOf s) t i with ⟨h1, h2⟩ | ⟨r, hr, _, h1, h2, h3, h4⟩
  · refine ⟨0, 0, ?_, by omega, fun _ => by rw [h1]; exact Int.le_refl _, fun h => by omega⟩
    rw [longK_none]
    · rfl
    · intro n r hn hm hr
      rw [match_at s t i n r ht hc (by omega) hr]
      cases ha : accK (rulesOf s)[r].ns (rulesOf s)[r].st (rulesOf s)[r].en t i n
      · rfl
      · have := far_ge (x := (rulesOf s)[r]) (by omega) ha
        have := h2 r hr hr
        omega
  · obtain ⟨n, hn, hin, hf, ha⟩ := far_acc h2
    refine ⟨n, r, ?_, hin, fun h => by omega, fun _ => ⟨hr, ?_⟩⟩
    · apply longK_some hn hr
      · rw [match_at s t i n r ht hc hin hr]; exact ha
      · intro r' hr'
        have hr2 : r' < (rulesOf s).length := by omega
        rw [match_at s t i n r' ht hc hin hr2]
        cases hb : accK (rulesOf s)[r'].ns (rulesOf s)[r'].st (rulesOf s)[r'].en t i n
        · rfl
        · have := far_ge (x := (rulesOf s)[r']) hin hb
          have := h4 r' hr2 hr'
          omega
      · omega
      · intro n' r' h5 h6 hr2
        rw [match_at s t i n' r' ht hc (by omega) hr2]
        cases hb : accK (rulesOf s)[r'].ns (rulesOf s)[r'].st (rulesOf s)[r'].en t i n'
        · rfl
        · have := far_ge (x := (rulesOf s)[r']) (by omega) hb
          have := h3 r' hr2 hr2
          omega
    · rw [h1, hf]; simp
end Go.Proofs.Ytdbdkdekeicmhaa
namespace Go.Proofs.Ytdbdkdekeicmhaa
open Go.RowKit
set_option linter.unusedVariables false
set_option linter.unusedSimpArgs false

/-- The bytes from i up to j are printed ones. -/
def Clean (s : ByteArray) (i j : Int) : Prop := ∀ k, i ≤ k → k < j → 32 ≤ atB s k
theorem Clean.one {s : ByteArray} {i : Int} (h : 32 ≤ atB s i) : Clean s i (i + 1) := fun k h1 h2 => by
  have : k = i := by omega
  subst this; exact h
theorem Clean.trans {s : ByteArray} {i j k : Int} (h : Clean s i j) (h2 : Clean s j k) : Clean s i k := fun m h3 h4 => by
  by_cases e : m < j
  · exact h m h3 e
  · exact h2 m (by omega) h4
theorem Clean.nil {s : ByteArray} {i : Int} : Clean s i i := fun k h1 h2 => by omega
theorem pr_ge {c : Int} (h : isPrB c = true) : 32 ≤ c := by simp [isPrB] at h; omega
theorem plain_ge {c : Int} (h : isPlainB c = true) : 32 ≤ c := by simp [isPlainB] at h; exact pr_ge h.2

theorem rMark_clean {s : ByteArray} {i : Int} (h : (rMark s i).2.2 = true) : Clean s i (rMark s i).2.1 := by
  unfold rMark at h ⊢
  split
  · rename_i e; exact Clean.one (by omega)
  · split
    · rename_i e; exact Clean.one (by omega)
    · split
      · rename_i h1 h2 h3; rw [if_neg h1, if_neg h2, if_pos h3] at h; cases h
      · rename_i h3
        apply Clean.one
        simp at h3
        exact pr_ge h3.1.1.1
theorem rEnd_clean {s : ByteArray} {i : Int} (h : (rEnd s i).2.2 = true) : Clean s i (rEnd s i).2.1 := by
  unfold rEnd at h ⊢
  split
  · rename_i e
    rw [if_pos e] at h
    exact (Clean.one (by omega)).trans (rMark_clean h)
  · rename_i e
    rw [if_neg e] at h
    split
    · rename_i e2; rw [if_pos e2] at h; cases h
    · rename_i e2
      rw [if_neg e2] at h
      split
      · rename_i e3; rw [if_pos e3] at h; cases h
      · rename_i e3
        exact Clean.one (pr_ge (by simpa using e3))
theorem rRange_clean {s : ByteArray} {i : Int} (h : (rRange s i).2.2.2 = true) : Clean s i (rRange s i).2.2.1 := by
  unfold rRange at h ⊢
  split
  · rename_i e; rw [if_pos e] at h; cases h
  · rename_i e
    rw [if_neg e] at h
    have c1 := rEnd_clean (s := s) (i := i) (by simpa using e)
    split
    · exact c1
    · rename_i e2
      rw [if_neg e2] at h
      split
      · rename_i e3; rw [if_pos e3] at h; cases h
      · rename_i e3
        rw [if_neg e3] at h
        have c2 := rEnd_clean (s := s) (i := (rEnd s i).2.1 + 1) (by simpa using e3)
        split
        · rename_i e4; rw [if_pos e4] at h; cases h
        · exact (c1.trans (Clean.one (by omega))).trans c2
theorem rEndsL_clean {s : ByteArray} {i j : Int} : ∀ (f : Nat) (next : Int) (ws : List Int), Clean s j next → (rEndsL s i f next ws).2.2 = true → Clean s j (rEndsL s i f next ws).2.1
  | 0, next, ws, hc, h => by simp [rEndsL] at h
  | f + 1, next, ws, hc, h => by
    unfold rEndsL at h ⊢
    split
    · rename_i e
      rw [if_pos e] at h
      split
      · rename_i e2; rw [if_pos e2] at h; cases h
      · rename_i e2
        rw [if_neg e2] at h
        exact rEndsL_clean f _ _ (hc.trans (rRange_clean (by simpa using e2))) h
    · rename_i e
      have : atB s next = 93 := by
        by_cases h1 : atB s next = 93
        · exact h1
        · exact absurd (.inr h1) e
      exact hc.trans (Clean.one (by omega))
theorem rBr_clean {s : ByteArray} {i : Int} (h : (rBr s i).2.2 = true) : Clean s i (rBr s i).2.1 := by
  unfold rBr at h ⊢
  split
  · rename_i e
    rw [if_pos e] at h
    exact rEndsL_clean _ _ _ (Clean.one (by omega)) h
  · rename_i e
    rw [if_neg e] at h
    exact rEndsL_clean _ _ _ Clean.nil h
theorem rSet_clean {s : ByteArray} {i : Int} (h : (rSet s i).2.2 = true) : Clean s i (rSet s i).2.1 := by
  unfold rSet at h ⊢
  split
  · exact Clean.one (by omega)
  · rename_i e1
    rw [if_neg e1] at h
    split
    · rename_i e
      rw [if_pos e] at h
      exact (Clean.one (by omega)).trans (rBr_clean h)
    · rename_i e2
      rw [if_neg e2] at h
      split
      · rename_i e
        rw [if_pos e] at h
        exact (Clean.one (by omega)).trans (rMark_clean h)
      · rename_i e3
        rw [if_neg e3] at h
        split
        · rename_i e; rw [if_pos e] at h; cases h
        · rename_i e; exact Clean.one (plain_ge (by simpa using e))

def CleanF (s : ByteArray) (f : Int → List Node → PR) : Prop := ∀ (i : Int) (ns : List Node), (f i ns).ok = true → Clean s i (f i ns).next
theorem clean_atom {g : Int → List Node → PR} {s : ByteArray} (hg : CleanF s g) : CleanF s (rAtom g s) := by
  intro i ns h
  unfold rAtom at h ⊢
  split
  · rename_i e; rw [if_pos e] at h; exact hg i ns h
  · rename_i e
    rw [if_neg e] at h
    split
    · rename_i e2; rw [if_pos e2] at h; cases h
    · rename_i e2; exact rSet_clean (by simpa using e2)
theorem mark_ge {c : Int} (h : isMark c = true) : 32 ≤ c := by simp [isMark] at h; omega
theorem clean_pieceL {s : ByteArray} {i : Int} : ∀ (f : Nat) (r : PR), (r.ok = true → Clean s i r.next) → (rPieceL s f r).ok = true → Clean s i (rPieceL s f r).next
  | 0, r, hr, h => hr h
  | f + 1, r, hr, h => by
    unfold rPieceL at h ⊢
    split
    · rename_i e
      rw [if_pos e] at h
      simp only [Bool.and_eq_true] at e
      exact clean_pieceL f _ (fun _ => (hr e.1).trans (Clean.one (mark_ge e.2))) h
    · rename_i e
      rw [if_neg e] at h
      exact hr h
theorem clean_piece {a : Int → List Node → PR} {s : ByteArray} (ha : CleanF s a) : CleanF s (rPiece a s) := fun i ns h => clean_pieceL _ _ (ha i ns) h
theorem clean_branchL {p : Int → List Node → PR} {s : ByteArray} (hp : CleanF s p) {i : Int} : ∀ (f : Nat) (r : PR), (r.ok = true → Clean s i r.next) → (rBranchL p s f r).ok = true → Clean s i (rBranchL p s f r).next
  | 0, r, hr, h => hr h
  | f + 1, r, hr, h => by
    unfold rBranchL at h ⊢
    split
    · rename_i e
      rw [if_pos e] at h
      simp only [Bool.and_eq_true] at e
      refine clean_branchL hp f _ (fun hj => ?_) h
      unfold joinR at hj ⊢
      split
      · rename_i e2; exact (hr e.1).trans (hp _ _ e2)
      · rename_i e2; rw [if_neg e2] at hj; cases hj
    · rename_i e
      rw [if_neg e] at h
      exact hr h
theorem clean_branch {p : Int → List Node → PR} {s : ByteArray} (hp : CleanF s p) : CleanF s (rBranch p s) := fun i ns h => clean_branchL hp _ _ (hp i ns) h
theorem clean_choiceL {p : Int → List Node → PR} {s : ByteArray} (hp : CleanF s p) {i : Int} : ∀ (f : Nat) (r : PR), (r.ok = true → Clean s i r.next) → (rChoiceL p s f r).ok = true → Clean s i (rChoiceL p s f r).next
  | 0, r, hr, h => hr h
  | f + 1, r, hr, h => by
    unfold rChoiceL at h ⊢
    split
    · rename_i e
      rw [if_pos e] at h
      simp only [Bool.and_eq_true, beq_iff_eq] at e
      refine clean_choiceL hp f _ (fun hj => ?_) h
      unfold eitherR at hj ⊢
      split
      · rename_i e2; exact ((hr e.1).trans (Clean.one (by omega))).trans (hp _ _ e2)
      · rename_i e2; rw [if_neg e2] at hj; cases hj
    · rename_i e
      rw [if_neg e] at h
      exact hr h
theorem clean_choice {p : Int → List Node → PR} {s : ByteArray} (hp : CleanF s p) : CleanF s (rChoice p s) := fun i ns h => clean_choiceL hp _ _ (hp i ns) h
theorem clean_group {c : Int → List Node → PR} {s : ByteArray} (hc : CleanF s c) (i : Int) (ns : List Node) (hi : atB s i = 40) (h : (rGroup c s i ns).ok = true) : Clean s i (rGroup c s i ns).next := by
  unfold rGroup at h ⊢
  split
  · rename_i e; rw [if_pos e] at h; cases h
  · rename_i e
    rw [if_neg e] at h
    split
    · rename_i e2; rw [if_pos e2] at h; cases h
    · rename_i e2
      exact ((Clean.one (by omega)).trans (hc _ _ (by simpa using e))).trans (Clean.one (by omega))
theorem clean_atom' {g : Int → List Node → PR} {s : ByteArray} (hg : ∀ i ns, atB s i = 40 → (g i ns).ok = true → Clean s i (g i ns).next) : CleanF s (rAtom g s) := by
  intro i ns h
  unfold rAtom at h ⊢
  split
  · rename_i e; rw [if_pos e] at h; exact hg i ns e h
  · rename_i e
    rw [if_neg e] at h
    split
    · rename_i e2; rw [if_pos e2] at h; cases h
    · rename_i e2; exact rSet_clean (by simpa using e2)
theorem clean_gK (s : ByteArray) : ∀ (k : Nat) (i : Int) (ns : List Node), atB s i = 40 → (gK s k i ns).ok = true → Clean s i (gK s k i ns).next
  | 0, i, ns, hi, h => by simp [gK] at h
  | k + 1, i, ns, hi, h => clean_group (clean_choice (clean_branch (clean_piece (clean_atom' (clean_gK s k))))) i ns hi h
theorem rRead_clean {s : ByteArray} {i : Int} (h : (rRead s i).ok = true) : Clean s i (rRead s i).next :=
  clean_choice (clean_branch (clean_piece (clean_atom' (clean_gK s 6)))) i [] h
end Go.Proofs.Ytdbdkdekeicmhaa
namespace Go.Proofs.Ytdbdkdekeicmhaa
open Go.RowKit
set_option linter.unusedVariables false
set_option linter.unusedSimpArgs false

theorem atB_ext (s : ByteArray) (a e k : Nat) (he : e ≤ s.size) (hk : a + k < e) : atB (s.extract a e) (k : Nat) = atB s ((a : Int) + k) := by
  have h1 : k < (s.extract a e).size := by rw [ByteArray.size_extract]; omega
  have h2 : a + k < s.size := by omega
  rw [atB_at _ k h1]
  have : ((a : Int) + (k : Int)) = ((a + k : Nat) : Int) := by omega
  rw [this, atB_at s (a + k) h2, ByteArray.getElem_extract]
theorem upTo_at (s : ByteArray) (a e c : Nat) (x y : Int) (he : e ≤ s.size) (hc : a + c ≤ e) (h1 : ∀ k : Nat, k < c → atB s ((a : Int) + k) ≠ x ∧ atB s ((a : Int) + k) ≠ y)
    (h2 : a + c = e ∨ atB s ((a : Int) + c) = x ∨ atB s ((a : Int) + c) = y) : upToF (s.extract a e) x y = c := by
  have hsz : (s.extract a e).size = e - a := by rw [ByteArray.size_extract]; omega
  unfold upToF
  rw [hsz]
  by_cases hce : a + c = e
  · have hl : (List.range (e - a)).length = c := by simp; omega
    rw [List.findIdx_eq_length_of_false]
    · exact hl
    · intro j hj
      have hj' : j < e - a := by simpa using hj
      rw [atB_ext s a e j he (by omega)]
      have := h1 j (by omega)
      simp [this.1, this.2]
  · rw [List.findIdx_eq (by simp; omega)]
    simp only [List.getElem_range]
    refine ⟨?_, ?_⟩
    · rw [atB_ext s a e c he (by omega)]
      rcases h2 with h2 | h2 | h2
      · omega
      · simp [h2]
      · simp [h2]
    · intro j hj
      rw [atB_ext s a e j he (by omega)]
      have := h1 j hj
      simp [this.1, this.2]

/-- A word of m letters stands at i; its eight bytes. -/
structure WordAt (s : ByteArray) (i : Int) (m : Nat) (d : Wd) : Prop where
  pos : 1 ≤ m
  le : m ≤ 8
  first : isSmallB (atB s i) = true ∨ isCapB (atB s i) = true
  rest : ∀ k : Nat, 1 ≤ k → k < m → isSmallB (atB s (i + k)) = true
  ls : d.ls = (List.range 8).map (fun k : Nat => if k < m then atB s (i + k) else 0)
  place : d.place = i
theorem small_ge {c : Int} (h : isSmallB c = true) : 65 ≤ c ∧ c ≤ 122 := by have := small_bd h; omega
theorem cap_ge {c : Int} (h : isCapB c = true) : 65 ≤ c ∧ c ≤ 122 := by have := cap_bd h; omega
theorem WordAt.byte {s : ByteArray} {i : Int} {m : Nat} {d : Wd} (h : WordAt s i m d) (k : Nat) (hk : k < m) : 65 ≤ atB s (i + k) ∧ atB s (i + k) ≤ 122 := by
  by_cases e : k = 0
  · subst e
    have := h.first
    simp only [Int.natCast_zero, Int.add_zero] at *
    rcases this with h | h
    · exact small_ge h
    · exact cap_ge h
  · exact small_ge (h.rest k (by omega) hk)
theorem pad_set (s : ByteArray) (i : Int) (n : Nat) (hn : n < 8) :
    ((List.range 8).map (fun k : Nat => if k < n then atB s (i + k) else 0)).set n (atB s (i + n)) = (List.range 8).map (fun k : Nat => if k < n + 1 then atB s (i + k) else 0) := by
  apply List.ext_getElem
  · simp
  · intro j h1 h2
    simp only [List.length_map, List.length_range] at h2
    rw [List.getElem_set]
    simp only [List.getElem_map, List.getElem_range]
    by_cases e : n = j
    · subst e; simp
    · rw [if_neg e]
      by_cases e2 : j < n
      · rw [if_pos e2, if_pos (by omega)]
      · rw [if_neg e2, if_neg (by omega)]
theorem rWordL_at (s : ByteArray) (i : Int) : ∀ (f n : Nat) (ls : List Int), 1 ≤ n → n ≤ 8 → 9 ≤ f + n → ls = (List.range 8).map (fun k : Nat => if k < n then atB s (i + k) else 0) →
    (∀ k : Nat, 1 ≤ k → k < n → isSmallB (atB s (i + k)) = true) →
    ∃ m : Nat, 1 ≤ m ∧ m ≤ 8 ∧ (rWordL s i f n ls).2 = i + m ∧ (rWordL s i f n ls).1 = (List.range 8).map (fun k : Nat => if k < m then atB s (i + k) else 0) ∧ ∀ k : Nat, 1 ≤ k → k < m → isSmallB (atB s (i + k)) = true
  | 0, n, ls, h1, h2, h3, h4, h5 => ⟨n, h1, h2, rfl, h4, h5⟩
  | f + 1, n, ls, h1, h2, h3, h4, h5 => by
    unfold rWordL
    split
    · rename_i hn
      split
      · rename_i hsm
        refine rWordL_at s i f (n + 1) _ (by omega) (by omega) (by omega) ?_ ?_
        · rw [h4]; exact pad_set s i n hn
        · intro k hk1 hk2
          by_cases e : k = n
          · subst e; exact hsm
          · exact h5 k hk1 (by omega)
      · exact ⟨n, h1, h2, rfl, h4, h5⟩
    · rename_i hn
      have : n = 8 := by omega
      subst this
      exact ⟨8, by omega, by omega, rfl, h4, h5⟩
theorem rWord_at (s : ByteArray) (i : Int) (h : (rWord s i).2.2 = true) : ∃ m : Nat, WordAt s i m (rWord s i).1 ∧ (rWord s i).2.1 = i + m := by
  unfold rWord at h ⊢
  split
  · rename_i e; rw [if_pos e] at h; cases h
  · rename_i e
    obtain ⟨m, h1, h2, h3, h4, h5⟩ := rWordL_at s i 9 1 (zero8.set 0 (atB s i)) (by omega) (by omega) (by omega) (by simp [zero8, List.range, List.range.loop]) (by intro k h1 h2; omega)
    refine ⟨m, ⟨h1, h2, ?_, h5, h4, rfl⟩, h3⟩
    simp at e
    cases hs : isSmallB (atB s i)
    · exact .inr (e hs)
    · exact .inl rfl
/-- Two words with the same eight bytes are the same. -/
theorem word_same {s : ByteArray} {a b m n : Nat} {d d' : Wd} (h : WordAt s a m d) (h' : WordAt s b n d') (ha : a + m ≤ s.size) (hb : b + n ≤ s.size) (hl : d.ls = d'.ls) : (s.extract a (a + m)).toList = (s.extract b (b + n)).toList := by
  have hk : ∀ k : Nat, k < 8 → (if k < m then atB s ((a : Int) + k) else 0) = (if k < n then atB s ((b : Int) + k) else 0) := by
    intro k hk
    have e1 : d.ls[k]? = some (if k < m then atB s ((a : Int) + k) else 0) := by rw [h.ls]; simp [hk]
    have e2 : d'.ls[k]? = some (if k < n then atB s ((b : Int) + k) else 0) := by rw [h'.ls]; simp [hk]
    rw [hl, e2] at e1
    simpa using e1.symm
  have hmn : m = n := by
    have := h.le; have := h'.le
    by_cases e1 : m < n
    · have h1 := hk m (by omega)
      rw [if_neg (by omega), if_pos e1] at h1
      have := h'.byte m e1; omega
    · by_cases e2 : n < m
      · have h1 := hk n (by omega)
        rw [if_pos e2, if_neg (by omega)] at h1
        have := h.byte n e2; omega
      · omega
  subst hmn
  rw [btl, btl]
  have hA : (s.extract a (a + m)).size = m := by rw [ByteArray.size_extract]; omega
  have hB : (s.extract b (b + m)).size = m := by rw [ByteArray.size_extract]; omega
  apply List.ext_getElem
  · simp only [Array.length_toList]; exact hA.trans hB.symm
  · intro j h1 h2
    have hj : j < m := by rw [Array.length_toList] at h1; exact hA ▸ h1
    have h3 := hk j (by have := h.le; omega)
    rw [if_pos hj, if_pos hj] at h3
    have e1 := atB_ext s a (a + m) j ha (by omega)
    have e2 := atB_ext s b (b + m) j hb (by omega)
    rw [← e1, ← e2, atB_at _ j (by omega), atB_at _ j (by omega)] at h3
    simp only [Array.getElem_toList]
    have h4 : (s.extract a (a + m))[j].toNat = (s.extract b (b + m))[j].toNat := by omega
    exact UInt8.toNat_inj.1 h4
end Go.Proofs.Ytdbdkdekeicmhaa
namespace Go.Proofs.Ytdbdkdekeicmhaa
open Go.RowKit
set_option linter.unusedVariables false
set_option linter.unusedSimpArgs false

/-- From p on stand words, a blank ahead of each, up to q; and their names. -/
def PN (s : ByteArray) : Nat → List Wd → List ByteArray → Nat → Prop
  | p, [], [], q => p = q
  | p, d :: ds, n :: ns, q => atB s p = 32 ∧ ∃ m, WordAt s ((p + 1 : Nat) : Int) m d ∧ p + 1 + m ≤ s.size ∧ n = s.extract (p + 1) (p + 1 + m) ∧ PN s (p + 1 + m) ds ns q
  | _, [], _ :: _, _ => False
  | _, _ :: _, [], _ => False
theorem PN.nil {s : ByteArray} (p : Nat) : PN s p [] [] p := rfl
theorem PN.cons {s : ByteArray} {p m q : Nat} {d : Wd} {ds : List Wd} {ns : List ByteArray} (h32 : atB s p = 32) (hw : WordAt s ((p + 1 : Nat) : Int) m d) (hle : p + 1 + m ≤ s.size) (h : PN s (p + 1 + m) ds ns q) :
    PN s p (d :: ds) (s.extract (p + 1) (p + 1 + m) :: ns) q := ⟨h32, m, hw, hle, rfl, h⟩
theorem PN.ind {s : ByteArray} {q : Nat} {M : Nat → List Wd → List ByteArray → Prop} (hn : M q [] [])
    (hc : ∀ (p m : Nat) (d : Wd) (ds : List Wd) (ns : List ByteArray), atB s p = 32 → WordAt s ((p + 1 : Nat) : Int) m d → p + 1 + m ≤ s.size → PN s (p + 1 + m) ds ns q → M (p + 1 + m) ds ns → M p (d :: ds) (s.extract (p + 1) (p + 1 + m) :: ns)) :
    ∀ (ds : List Wd) (p : Nat) (ns : List ByteArray), PN s p ds ns q → M p ds ns
  | [], p, [], h => by
    have : p = q := h
    subst this; exact hn
  | [], p, n :: ns, h => False.elim h
  | d :: ds, p, [], h => False.elim h
  | d :: ds, p, n :: ns, h => by
    obtain ⟨h32, m, hw, hle, rfl, h2⟩ := h
    exact hc p m d ds ns h32 hw hle h2 (PN.ind hn hc ds _ ns h2)
theorem PN.next {s : ByteArray} {p q : Nat} : ∀ {ds : List Wd} {ns : List ByteArray}, PN s p ds ns q → p = q ∨ atB s p = 32
  | [], [], h => .inl h
  | [], _ :: _, h => False.elim h
  | _ :: _, [], h => False.elim h
  | _ :: _, _ :: _, h => .inr h.1
theorem PN.le {s : ByteArray} {p q : Nat} {ds : List Wd} {ns : List ByteArray} (h : PN s p ds ns q) : p ≤ q := by
  refine PN.ind (M := fun p _ _ => p ≤ q) (Nat.le_refl _) ?_ ds p ns h
  intro p m d ds ns _ _ _ _ ih; omega
theorem PN.clean {s : ByteArray} {p q : Nat} {ds : List Wd} {ns : List ByteArray} (h : PN s p ds ns q) : Clean s p q := by
  refine PN.ind (M := fun (p : Nat) _ _ => Clean s p q) Clean.nil ?_ ds p ns h
  intro p m d ds ns h32 hw hle h ih
  refine Clean.trans (j := (p : Int) + 1) (Clean.one (by omega)) (Clean.trans (j := ((p + 1 + m : Nat) : Int)) ?_ ih)
  intro k h1 h2
  have := hw.byte (k - ((p : Int) + 1)).toNat (by omega)
  have e : (((p + 1 : Nat) : Int) + ((k - ((p : Int) + 1)).toNat : Int)) = k := by omega
  rw [e] at this; omega
theorem atB_in {s : ByteArray} {i : Int} (h : 0 ≤ atB s i) : 0 ≤ i ∧ i < s.size := by
  unfold atB at h
  split at h
  · rename_i h1; omega
  · omega
theorem WordAt.in' {s : ByteArray} {i : Int} {m : Nat} {d : Wd} (h : WordAt s i m d) : 0 ≤ i ∧ i + m ≤ s.size := by
  have h1 := h.byte 0 (by have := h.pos; omega)
  have h2 := h.byte (m - 1) (by have := h.pos; omega)
  have h3 := atB_in (s := s) (i := i + ((0 : Nat) : Int)) (by omega)
  have h4 := atB_in (s := s) (i := i + ((m - 1 : Nat) : Int)) (by omega)
  have := h.pos
  omega
theorem rProdL_at (s : ByteArray) (d : Wd) : ∀ (f : Nat) (next : Nat) (syms : List Wd), (rProdL s d f next syms).2.2 = true →
    ∃ ds ns q, PN s next ds ns q ∧ atB s (q : Nat) = 10 ∧ rProdL s d f next syms = (⟨d, false, [], 0, 0, syms ++ ds⟩, ((q + 1 : Nat) : Int), true)
  | 0, next, syms, h => by simp [rProdL] at h
  | f + 1, next, syms, h => by
    unfold rProdL at h ⊢
    by_cases h32 : atB s next = 32
    · rw [if_pos h32] at h ⊢
      cases hw : (rWord s (next + 1)).2.2
      · rw [if_pos hw] at h; cases h
      · rw [if_neg (by simp [hw])] at h ⊢
        obtain ⟨m, hwd, hnx⟩ := rWord_at s (next + 1) hw
        have hin := hwd.in'
        have e : (rWord s (next + 1)).2.1 = ((next + 1 + m : Nat) : Int) := by rw [hnx]; omega
        rw [e] at h ⊢
        obtain ⟨ds, ns, q, h1, h2, h3⟩ := rProdL_at s d f _ _ h
        refine ⟨(rWord s (next + 1)).1 :: ds, _, q, PN.cons h32 (by simpa using hwd) (by omega) h1, h2, ?_⟩
        rw [h3]; simp
    · rw [if_neg h32] at h ⊢
      by_cases h10 : atB s next = 10
      · rw [if_neg (by simpa using h10)]
        exact ⟨[], [], next, PN.nil _, h10, by simp⟩
      · rw [if_pos h10] at h; cases h

/-- the keep's words of a row of words -/
theorem words_at (s : ByteArray) (a e : Nat) (he : e ≤ s.size) : ∀ {p q : Nat} {ds : List Wd} {ns : List ByteArray}, PN s p ds ns q → q = e → a ≤ p → ∀ (f : Nat) (acc : List ByteArray), e + 1 ≤ f + p →
    wordsL (s.extract a e) f (if p < e then p + 1 - a else p - a) acc = acc ++ ns := by
  intro p q ds ns h hq
  have hsz : (s.extract a e).size = e - a := by rw [ByteArray.size_extract]; omega
  refine PN.ind (M := fun p _ ns => a ≤ p → ∀ (f : Nat) (acc : List ByteArray), e + 1 ≤ f + p → wordsL (s.extract a e) f (if p < e then p + 1 - a else p - a) acc = acc ++ ns) ?_ ?_ ds p ns h
  · intro ha f acc hf
    rw [if_neg (by omega)]
    cases f with
    | zero => simp [wordsL]
    | succ f => unfold wordsL; rw [if_neg (by omega)]; simp
  · intro p m d ds ns h32 hw hle h ih ha f acc hf
    have hpq := h.le
    have hm := hw.pos
    rw [if_pos (by omega)]
    obtain ⟨f, rfl⟩ : ∃ g, f = g + 1 := ⟨f - 1, by omega⟩
    unfold wordsL
    have hx : (s.extract a e).extract (p + 1 - a) (s.extract a e).size = s.extract (p + 1) e := by
      rw [hsz]
      apply ByteArray.ext
      simp only [ByteArray.data_extract, Array.extract_extract]
      have : s.size = s.data.size := rfl
      congr 1 <;> omega
    have hup : upToF (s.extract (p + 1) e) 32 32 = m := by
      refine upTo_at s (p + 1) e m 32 32 he (by omega) ?_ ?_
      · intro k hk
        have := hw.byte k hk
        exact ⟨by omega, by omega⟩
      · rcases h.next with h9 | h9
        · left; omega
        · right; left; rw [← h9]; congr 1
    rw [hx, hup, if_pos (show p + 1 - a < (s.extract a e).size by omega), if_pos (show 0 < m by omega)]
    have hex : (s.extract a e).extract (p + 1 - a) (p + 1 - a + m) = s.extract (p + 1) (p + 1 + m) := by
      apply ByteArray.ext
      simp only [ByteArray.data_extract, Array.extract_extract]
      have : s.size = s.data.size := rfl
      congr 1 <;> omega
    rw [hex]
    have := ih (by omega) f (acc ++ [s.extract (p + 1) (p + 1 + m)]) (by omega)
    have e2 : (if p + 1 - a + m < (s.extract a e).size then p + 1 - a + m + 1 else p + 1 - a + m) = (if p + 1 + m < e then p + 1 + m + 1 - a else p + 1 + m - a) := by
      rw [hsz]
      by_cases hh : p + 1 + m < e
      · rw [if_pos (by omega), if_pos hh]; omega
      · rw [if_neg (by omega), if_neg hh]; omega
    rw [e2, this]; simp
end Go.Proofs.Ytdbdkdekeicmhaa
namespace Go.Proofs.Ytdbdkdekeicmhaa
open Go.RowKit
set_option linter.unusedVariables false
set_option linter.unusedSimpArgs false

theorem WordAt.clean {s : ByteArray} {i : Int} {m : Nat} {d : Wd} (h : WordAt s i m d) : Clean s i (i + m) := by
  intro k h1 h2
  have := h.byte (k - i).toNat (by omega)
  have e : i + ((k - i).toNat : Int) = k := by omega
  rw [e] at this; omega
theorem WordAt.head {s : ByteArray} {i : Int} {m : Nat} {d : Wd} (h : WordAt s i m d) : headB d = isCapB (atB s i) := by
  unfold headB
  rw [h.ls]
  have := h.pos
  simp [List.range, List.range.loop, show 0 < m by omega]

/-- What a line that can be read says, from i up to its end e. -/
structure RuleAt (s : ByteArray) (i : Nat) (x : Ln) (e m : Nat) : Prop where
  hw : WordAt s i m x.front
  hs : isSmallB (atB s i) = true
  hr : ruleB x = true
  hle : i + m < e
  hc : Clean s i e
  hm : atB s ((i : Int) + m) = 61 ∨ atB s ((i : Int) + m) = 126
  hk : x.skip = (atB s ((i : Int) + m) == 126)
  hsy : x.syms = []
structure ProdAt (s : ByteArray) (i : Nat) (x : Ln) (e m : Nat) (ns : List ByteArray) : Prop where
  hw : WordAt s i m x.front
  hs : isCapB (atB s i) = true
  hr : ruleB x = false
  hc : Clean s i e
  hm : atB s ((i : Int) + m) = 58
  hp : PN s (i + m + 1) x.syms ns e
def LineAt (s : ByteArray) (i : Nat) (x : Ln) (e : Nat) : Prop := (∃ m, RuleAt s i x e m) ∨ (∃ m ns, ProdAt s i x e m ns)
theorem LineAt.clean {s : ByteArray} {i e : Nat} {x : Ln} (h : LineAt s i x e) : Clean s i e := by
  rcases h with ⟨m, h⟩ | ⟨m, ns, h⟩
  · exact h.hc
  · exact h.hc

theorem rLine_at (s : ByteArray) (i : Nat) (h : (rLine s i).2.2 = true) : ∃ e : Nat, e < s.size ∧ i < e ∧ atB s (e : Nat) = 10 ∧ (rLine s i).2.1 = ((e + 1 : Nat) : Int) ∧ LineAt s i (rLine s i).1 e := by
  unfold rLine at h ⊢
  cases hw : (rWord s i).2.2
  · rw [if_pos hw] at h; cases h
  · rw [if_neg (by simp [hw])] at h ⊢
    obtain ⟨m, hwd, hnx⟩ := rWord_at s i hw
    have hin := hwd.in'
    have hpos := hwd.pos
    have hhd := hwd.head
    generalize (rWord s i).1 = d at *
    rw [hnx] at h ⊢
    cases hh : headB d
    · rw [hh] at h
      simp only [Bool.false_eq_true, if_false] at h ⊢
      unfold rRule at h ⊢
      by_cases c1 : atB s ((i : Int) + m) ≠ 61 ∧ atB s ((i : Int) + m) ≠ 126
      · rw [if_pos c1] at h; cases h
      · rw [if_neg c1] at h ⊢
        cases c2 : (rRead s ((i : Int) + m + 1)).ok
        · rw [if_pos c2] at h; cases h
        · rw [if_neg (by simp [c2])] at h ⊢
          by_cases c3 : atB s (rRead s ((i : Int) + m + 1)).next = 10
          · rw [if_neg (by simpa using c3)] at h ⊢
            have cl := rRead_clean c2
            have hlt := atB_in (s := s) (i := (rRead s ((i : Int) + m + 1)).next) (by omega)
            have hgt : (i : Int) + m + 1 ≤ (rRead s ((i : Int) + m + 1)).next := by
              by_cases hq : (rRead s ((i : Int) + m + 1)).next < (i : Int) + m + 1
              · exfalso
                have hg := (good_chK s 6) ((i : Int) + m + 1) [] (by omega) (by
                  have : 0 ≤ atB s ((i : Int) + m) := by
                    by_cases q : atB s ((i : Int) + m) = 61
                    · omega
                    · by_cases q2 : atB s ((i : Int) + m) = 126
                      · omega
                      · exact absurd ⟨q, q2⟩ c1
                  have := atB_in this; omega)
                have := hg.lo
                unfold rRead at hq; omega
              · omega
            refine ⟨(rRead s ((i : Int) + m + 1)).next.toNat, by omega, by omega, ?_, by dsimp only; omega, ?_⟩
            · rw [Int.toNat_of_nonneg (by omega)]; exact c3
            · have hm61 : atB s ((i : Int) + m) = 61 ∨ atB s ((i : Int) + m) = 126 := by
                by_cases q : atB s ((i : Int) + m) = 61
                · exact .inl q
                · by_cases q2 : atB s ((i : Int) + m) = 126
                  · exact .inr q2
                  · exact absurd ⟨q, q2⟩ c1
              refine .inl ⟨m, hwd, ?_, ?_, by omega, ?_, hm61, rfl, rfl⟩
              · rcases hwd.first with h1 | h1
                · exact h1
                · rw [← hhd, hh] at h1; cases h1
              · show (!headB d) = true
                rw [hh]; rfl
              · rw [Int.toNat_of_nonneg (by omega)]
                exact (hwd.clean.trans (Clean.one (by rcases hm61 with q | q <;> omega))).trans cl
          · rw [if_pos c3] at h; cases h
    · rw [hh] at h
      simp only [if_true] at h ⊢
      unfold rProd at h ⊢
      by_cases c1 : atB s ((i : Int) + m) = 58
      · rw [if_neg (by simpa using c1)] at h ⊢
        have e1 : (i : Int) + m + 1 = ((i + m + 1 : Nat) : Int) := by omega
        rw [e1] at h ⊢
        obtain ⟨ds, ns, q, h1, h2, h3⟩ := rProdL_at s d _ _ _ h
        rw [h3]
        have := atB_in (s := s) (i := (q : Nat)) (by omega)
        have hle := h1.le
        refine ⟨q, by omega, by omega, h2, rfl, ?_⟩
        refine .inr ⟨m, ns, hwd, by rw [← hhd]; exact hh, ?_, ?_, c1, by simpa using h1⟩
        · show (!headB d) = false
          rw [hh]; rfl
        · exact (hwd.clean.trans (Clean.one (by omega))).trans (by rw [e1]; exact h1.clean)
      · rw [if_pos c1] at h; cases h
end Go.Proofs.Ytdbdkdekeicmhaa
namespace Go.Proofs.Ytdbdkdekeicmhaa
open Go.RowKit
set_option linter.unusedVariables false
set_option linter.unusedSimpArgs false

theorem atB_zero (s : ByteArray) (a e : Nat) (he : e ≤ s.size) (h : a < e) : atB (s.extract a e) 0 = atB s a := by
  have := atB_ext s a e 0 he (by omega); simpa using this
theorem ext_pre (s : ByteArray) (a e c : Nat) (he : e ≤ s.size) (hc : a + c ≤ e) : (s.extract a e).extract 0 c = s.extract a (a + c) := by
  apply ByteArray.ext
  simp only [ByteArray.data_extract, Array.extract_extract]
  have : s.size = s.data.size := rfl
  congr 1; omega
theorem ext_suf (s : ByteArray) (a e c : Nat) (he : e ≤ s.size) (hc : a + c ≤ e) : (s.extract a e).extract c (s.extract a e).size = s.extract (a + c) e := by
  apply ByteArray.ext
  rw [ByteArray.size_extract]
  simp only [ByteArray.data_extract, Array.extract_extract]
  have : s.size = s.data.size := rfl
  congr 1; omega

theorem take_rule_at (s : ByteArray) (i e m : Nat) (d : Wd) (x : LO) (he : e ≤ s.size) (hw : WordAt s i m d) (hs : isSmallB (atB s i) = true) (hle : i + m < e) (hm : atB s ((i : Int) + m) = 61 ∨ atB s ((i : Int) + m) = 126) :
    takeF (s.extract i e) x = { x with rules := x.rules ++ [s.extract i (i + m)], skip := x.skip ++ [atB s ((i : Int) + m) == 126] } := by
  have hsz : (s.extract i e).size = e - i := by rw [ByteArray.size_extract]; omega
  have hup : upToF (s.extract i e) 61 126 = m := by
    refine upTo_at s i e m 61 126 he (by omega) ?_ (.inr hm)
    intro k hk; have := hw.byte k hk; exact ⟨by omega, by omega⟩
  unfold takeF
  rw [if_neg (by omega), atB_zero s i e he (by omega), if_pos (by simpa [isSmallB] using hs), hup, ext_pre s i e m he (by omega), atB_ext s i e m he (by omega)]
  simp [hsz, show m < e - i by omega]
theorem take_prod_at (s : ByteArray) (i e m : Nat) (d : Wd) (ds : List Wd) (ns : List ByteArray) (x : LO) (he : e ≤ s.size) (hw : WordAt s i m d) (hs : isCapB (atB s i) = true) (hm : atB s ((i : Int) + m) = 58) (hp : PN s (i + m + 1) ds ns e) :
    takeF (s.extract i e) x = { x with
      heads := if findF x.heads (s.extract i (i + m)) < 0 then x.heads ++ [s.extract i (i + m)] else x.heads
      head := x.head ++ [if findF x.heads (s.extract i (i + m)) < 0 then (x.heads.length : Int) else findF x.heads (s.extract i (i + m))]
      names := x.names ++ [ns] } := by
  have hple := hp.le
  have hsz : (s.extract i e).size = e - i := by rw [ByteArray.size_extract]; omega
  have hup : upToF (s.extract i e) 58 58 = m := by
    refine upTo_at s i e m 58 58 he (by omega) ?_ (.inr (.inl hm))
    intro k hk; have := hw.byte k hk; exact ⟨by omega, by omega⟩
  have hcap := cap_bd hs
  have hws : wordsF (s.extract (i + m) e) = s.extract (i + m) (i + m + 1) :: ns := by
    have hs2 : (s.extract (i + m) e).size = e - (i + m) := by rw [ByteArray.size_extract]; omega
    unfold wordsF
    have hup2 : upToF (s.extract (i + m) e) 32 32 = 1 := by
      refine upTo_at s (i + m) e 1 32 32 he (by omega) ?_ ?_
      · intro k hk
        have : k = 0 := by omega
        subst this
        have e1 : (((i + m : Nat) : Int) + ((0 : Nat) : Int)) = (i : Int) + m := by omega
        rw [e1, hm]; exact ⟨by omega, by omega⟩
      · rcases hp.next with h9 | h9
        · left; omega
        · right; left; rw [← h9]; congr 1
    conv => lhs; unfold wordsL
    have e0 : (s.extract (i + m) e).extract 0 (s.extract (i + m) e).size = s.extract (i + m) e := ext_all _
    rw [e0, hup2, if_pos (show 0 < (s.extract (i + m) e).size by omega), if_pos (show 0 < 1 by omega)]
    have := words_at s (i + m) e he hp rfl (by omega) (s.extract (i + m) e).size [s.extract (i + m) (i + m + 1)] (by omega)
    have e2 : (if 0 + 1 < (s.extract (i + m) e).size then 0 + 1 + 1 else 0 + 1) = (if i + m + 1 < e then i + m + 1 + 1 - (i + m) else i + m + 1 - (i + m)) := by
      rw [hs2]
      by_cases hh : i + m + 1 < e
      · rw [if_pos (by omega), if_pos hh]; omega
      · rw [if_neg (by omega), if_neg hh]; omega
    rw [e2]
    have e3 : ([] : List ByteArray) ++ [(s.extract (i + m) e).extract 0 (0 + 1)] = [s.extract (i + m) (i + m + 1)] := by
      rw [Nat.zero_add, ext_pre s (i + m) e 1 he (by omega)]; rfl
    rw [e3, this]; rfl
  unfold takeF
  rw [if_neg (by omega), atB_zero s i e he (by omega), if_neg (by omega), hup, ext_pre s i e m he (by omega), ext_suf s i e m he (by omega), hws]
  rfl

theorem findF_nn {l : List ByteArray} {t : ByteArray} (h : ∃ y ∈ l, y.toList = t.toList) : 0 ≤ findF l t := by
  obtain ⟨y, hy, he⟩ := h
  unfold findF
  have : l.findIdx (fun x => x.toList == t.toList) < l.length := List.findIdx_lt_length_of_exists ⟨y, hy, by simp [he]⟩
  rw [if_pos this]; omega
theorem findF_mem {l : List ByteArray} {t : ByteArray} (h : ¬ findF l t < 0) : ∃ y ∈ l, y.toList = t.toList := by
  unfold findF at h
  by_cases hq : l.findIdx (fun x => x.toList == t.toList) < l.length
  · have := List.findIdx_getElem (w := hq)
    exact ⟨_, List.getElem_mem hq, by simpa using this⟩
  · rw [if_neg hq] at h; omega

/-- The name of line x is among these. -/
def Named (s : ByteArray) (x : Ln) (l : List ByteArray) : Prop := ∃ i m : Nat, WordAt s i m x.front ∧ ∃ y ∈ l, y.toList = (s.extract i (i + m)).toList
theorem Named.mono {s : ByteArray} {x : Ln} {l l' : List ByteArray} (h : Named s x l) (hl : ∀ y ∈ l, y ∈ l') : Named s x l' := by
  obtain ⟨i, m, h1, y, h2, h3⟩ := h
  exact ⟨i, m, h1, y, hl y h2, h3⟩
/-- t is the name of one of these words. -/
def WordOf (s : ByteArray) (ds : List Wd) (t : ByteArray) : Prop := ∃ d ∈ ds, ∃ j m : Nat, WordAt s j m d ∧ t = s.extract j (j + m)
theorem PN.words {s : ByteArray} {p q : Nat} {ds : List Wd} {ns : List ByteArray} (h : PN s p ds ns q) : ∀ t ∈ ns, WordOf s ds t := by
  refine PN.ind (M := fun _ ds ns => ∀ t ∈ ns, WordOf s ds t) ?_ ?_ ds p ns h
  · intro t ht; simp at ht
  · intro p m d ds ns h32 hw hle h ih t ht
    simp at ht
    rcases ht with rfl | ht
    · exact ⟨d, by simp, p + 1, m, hw, rfl⟩
    · obtain ⟨d', h1, h2⟩ := ih t ht
      exact ⟨d', by simp [h1], h2⟩
theorem PN.places {s : ByteArray} {p q : Nat} {ds : List Wd} {ns : List ByteArray} (h : PN s p ds ns q) : ∀ d ∈ ds, 0 ≤ d.place := by
  refine PN.ind (M := fun _ ds _ => ∀ d ∈ ds, 0 ≤ d.place) ?_ ?_ ds p ns h
  · intro t ht; simp at ht
  · intro p m d ds ns h32 hw hle h ih t ht
    simp at ht
    rcases ht with rfl | ht
    · rw [hw.place]; omega
    · exact ih t ht

structure Inv (s : ByteArray) (lns : List Ln) (x : LO) : Prop where
  rules : x.rules.length = (lns.filter ruleB).length
  skip : x.skip = (lns.filter ruleB).map Ln.skip
  count : x.names.length = (lns.filter (fun y => !ruleB y)).length
  named : ∀ y ∈ lns, if ruleB y then Named s y x.rules else Named s y x.heads
  words : ∀ l ∈ x.names, ∀ t ∈ l, ∃ y ∈ lns, WordOf s y.syms t
  places : ∀ y ∈ lns, 0 ≤ y.front.place ∧ ∀ d ∈ y.syms, 0 ≤ d.place

theorem inv_line {s : ByteArray} {lns : List Ln} {x : LO} {y : Ln} {i e : Nat} (h : Inv s lns x) (he : e ≤ s.size) (hl : LineAt s i y e) : Inv s (lns ++ [y]) (takeF (s.extract i e) x) := by
  rcases hl with ⟨m, hw, hs, hr, hle, hc, hm, hk, hsy⟩ | ⟨m, ns, hw, hs, hr, hc, hm, hp⟩
  · rw [take_rule_at s i e m _ x he hw hs hle hm]
    refine ⟨?_, ?_, ?_, ?_, ?_, ?_⟩
    · simp [h.rules, List.filter_cons, hr]
    · simp [h.skip, List.filter_cons, hr, hk]
    · simp [h.count, List.filter_cons, hr]
    · intro z hz
      simp only [List.mem_append, List.mem_singleton] at hz
      rcases hz with hz | rfl
      · have := h.named z hz
        split
        · rename_i hq; rw [if_pos hq] at this; exact this.mono (fun y hy => by simp [hy])
        · rename_i hq; rw [if_neg hq] at this; exact this
      · rw [if_pos hr]; exact ⟨i, m, hw, s.extract i (i + m), by simp, rfl⟩
    · intro l hl t ht
      obtain ⟨z, hz, hw⟩ := h.words l hl t ht
      exact ⟨z, by simp [hz], hw⟩
    · intro z hz
      simp only [List.mem_append, List.mem_singleton] at hz
      rcases hz with hz | rfl
      · exact h.places z hz
      · exact ⟨by rw [hw.place]; omega, by rw [hsy]; intro d hd; cases hd⟩
  · rw [take_prod_at s i e m _ _ ns x he hw hs hm hp]
    refine ⟨?_, ?_, ?_, ?_, ?_, ?_⟩
    · simp [h.rules, List.filter_cons, hr]
    · simp [h.skip, List.filter_cons, hr]
    · simp [h.count, List.filter_cons, hr]
    · intro z hz
      simp only [List.mem_append, List.mem_singleton] at hz
      rcases hz with hz | rfl
      · have := h.named z hz
        split
        · rename_i hq; rw [if_pos hq] at this; exact this
        · rename_i hq; rw [if_neg hq] at this
          refine this.mono (fun y hy => ?_)
          dsimp only
          split
          · simp [hy]
          · exact hy
      · rw [if_neg (by simp [hr])]
        dsimp only
        split
        · exact ⟨i, m, hw, s.extract i (i + m), by simp, rfl⟩
        · rename_i hq
          obtain ⟨y, h1, h2⟩ := findF_mem hq
          exact ⟨i, m, hw, y, h1, h2⟩
    · intro l hl t ht
      simp only [List.mem_append, List.mem_singleton] at hl
      rcases hl with hl | rfl
      · obtain ⟨z, hz, hw⟩ := h.words l hl t ht
        exact ⟨z, by simp [hz], hw⟩
      · exact ⟨y, by simp, hp.words t ht⟩
    · intro z hz
      simp only [List.mem_append, List.mem_singleton] at hz
      rcases hz with hz | rfl
      · exact h.places z hz
      · exact ⟨by rw [hw.place]; omega, hp.places⟩

theorem inv_lines (s : ByteArray) : ∀ (f i : Nat) (acc : List Ln) (g : Nat) (x : LO), (rLinesL s f i acc).2.2 = true → i ≤ s.size → s.size + 1 ≤ g + i → Inv s acc x → Inv s (rLinesL s f i acc).1 (lineL s g i x)
  | 0, i, acc, g, x, h, hi, hg, hI => by simp [rLinesL] at h
  | f + 1, i, acc, g, x, h, hi, hg, hI => by
    obtain ⟨g, rfl⟩ : ∃ k, g = k + 1 := ⟨g - 1, by omega⟩
    unfold rLinesL at h ⊢
    unfold lineL
    by_cases hlt : i < s.size
    · rw [if_pos (by omega)] at h ⊢
      rw [if_pos hlt]
      cases hok : (rLine s i).2.2
      · rw [if_pos hok] at h; cases h
      · rw [if_neg (by simp [hok])] at h ⊢
        obtain ⟨e, he1, he2, he3, he4, he5⟩ := rLine_at s i hok
        rw [he4] at h ⊢
        have hcl : Clean s i e := he5.clean
        have hup : upToF (s.extract i s.size) 10 10 = e - i := by
          refine upTo_at s i s.size (e - i) 10 10 (by omega) (by omega) ?_ ?_
          · intro k hk
            have := hcl ((i : Int) + k) (by omega) (by omega)
            exact ⟨by omega, by omega⟩
          · right; left
            have e1 : (i : Int) + ((e - i : Nat) : Int) = (e : Nat) := by omega
            rw [e1]; exact he3
        rw [hup, show i + (e - i) = e by omega, if_pos he1]
        exact inv_lines s f (e + 1) _ g _ h (by omega) (by omega) (inv_line hI (by omega) he5)
    · rw [if_neg (by omega)] at h ⊢
      rw [if_neg hlt]
      exact hI
end Go.Proofs.Ytdbdkdekeicmhaa
namespace Go.Proofs.Ytdbdkdekeicmhaa
open Go.RowKit
set_option linter.unusedVariables false
set_option linter.unusedSimpArgs false

theorem syms_none {lns : List Ln} {syms : List Wd} (hp : ∀ d ∈ syms, 0 ≤ d.place) : ∀ (f j : Nat), symsL lns syms f j = none → syms.length + 1 ≤ f + j → ∀ k (hk : k < syms.length), j ≤ k → symB lns syms[k] = true
  | 0, j, h, hf, k, hk, hjk => by omega
  | f + 1, j, h, hf, k, hk, hjk => by
    unfold symsL at h
    have hj : j < syms.length := by omega
    rw [List.getElem?_eq_getElem hj] at h
    simp only [] at h
    cases hs : symB lns syms[j]
    · rw [hs] at h; simp at h
    · rw [hs] at h
      simp only [if_true] at h
      by_cases e : j = k
      · subst e; exact hs
      · exact syms_none hp f (j + 1) h (by omega) k hk (by omega)
theorem wrong_none {lns : List Ln} (hp : ∀ y ∈ lns, 0 ≤ y.front.place ∧ ∀ d ∈ y.syms, 0 ≤ d.place) : ∀ (f i : Nat), wrongL lns f i = -1 → lns.length + 1 ≤ f + i → ∀ k (hk : k < lns.length), i ≤ k → symsBad lns lns[k].syms = none
  | 0, i, h, hf, k, hk, hik => by omega
  | f + 1, i, h, hf, k, hk, hik => by
    unfold wrongL at h
    have hi : i < lns.length := by omega
    rw [List.getElem?_eq_getElem hi] at h
    simp only [] at h
    have hpi := hp lns[i] (List.getElem_mem hi)
    by_cases c : (ruleB lns[i] && aheadB lns i) = true
    · rw [if_pos c] at h; omega
    · rw [if_neg c] at h
      cases hs : symsBad lns lns[i].syms with
      | some p =>
        rw [hs] at h
        simp only [] at h
        exfalso
        have : ∀ (f j : Nat), symsL lns lns[i].syms f j = some p → 0 ≤ p := by
          intro f
          induction f with
          | zero => intro j h; simp [symsL] at h
          | succ f ih =>
            intro j h
            unfold symsL at h
            split at h
            · rename_i d hd
              split at h
              · exact ih _ h
              · simp at h
                rw [← h]
                exact hpi.2 d (List.mem_of_getElem? hd)
            · cases h
        have := this _ _ hs
        omega
      | none =>
        rw [hs] at h
        simp only [] at h
        by_cases e : i = k
        · subst e; exact hs
        · exact wrong_none hp f (i + 1) h (by omega) k hk (by omega)
/-- Every symbol of a line is the name of a line. -/
theorem sym_named {s : ByteArray} {lns : List Ln} {x : LO} (hI : Inv s lns x) (hw : wrongName lns = -1) {y : Ln} (hy : y ∈ lns) {d : Wd} (hd : d ∈ y.syms) {j m : Nat} (hwd : WordAt s j m d) :
    (∃ z ∈ x.rules, z.toList = (s.extract j (j + m)).toList) ∨ (∃ z ∈ x.heads, z.toList = (s.extract j (j + m)).toList) := by
  obtain ⟨k, hk, rfl⟩ := List.getElem_of_mem hy
  have h1 := wrong_none hI.places _ 0 hw (by omega) k hk (by omega)
  obtain ⟨q, hq, rfl⟩ := List.getElem_of_mem hd
  have h2 := syms_none (hI.places _ hy).2 _ 0 h1 (by omega) q hq (by omega)
  unfold symB at h2
  by_cases hf : frontF lns (lns[k].syms[q]).ls < lns.length
  · have h3 : (lns[frontF lns (lns[k].syms[q]).ls]).front.ls = (lns[k].syms[q]).ls := by
      have := List.findIdx_getElem (xs := lns) (p := fun x : Ln => x.front.ls == (lns[k].syms[q]).ls) (w := hf)
      exact beq_iff_eq.1 this
    have hn := hI.named _ (List.getElem_mem hf)
    have hin := hwd.in'
    split at hn
    · obtain ⟨a, b, ha, z, hz, he⟩ := hn
      left
      have := ha.in'
      exact ⟨z, hz, he.trans (word_same ha hwd (by omega) (by omega) h3)⟩
    · obtain ⟨a, b, ha, z, hz, he⟩ := hn
      right
      have := ha.in'
      exact ⟨z, hz, he.trans (word_same ha hwd (by omega) (by omega) h3)⟩
  · rw [List.getElem?_eq_none (by omega)] at h2; cases h2

theorem ksyms_some {x : LO} : ∀ (l : List ByteArray) (acc : List Int), (∀ t ∈ l, ¬ (findF x.heads t < 0 ∧ findF x.rules t < 0)) → ∃ r, ksyms x l acc = some r
  | [], acc, h => ⟨acc, rfl⟩
  | t :: l, acc, h => by
    unfold ksyms symOf
    rw [if_neg (h t (by simp))]
    exact ksyms_some l _ (fun t ht => h t (by simp [ht]))
theorem allS_true {x : LO} : ∀ (ls : List (List ByteArray)) (acc : List (List Int)), (∀ l ∈ ls, ∀ t ∈ l, ¬ (findF x.heads t < 0 ∧ findF x.rules t < 0)) → (0 < ls.length + acc.length) → (allS x ls acc).2 = true ∧ (allS x ls acc).1.rules = x.rules ∧ (allS x ls acc).1.skip = x.skip
  | [], acc, h, hp => by unfold allS; simp at hp ⊢; omega
  | l :: ls, acc, h, hp => by
    unfold allS
    obtain ⟨r, hr⟩ := ksyms_some (x := x) l [] (h l (by simp))
    rw [hr]
    exact allS_true ls _ (fun l hl => h l (by simp [hl])) (by simp; omega)

theorem check_parts {s : ByteArray} (h : checkF s = (0, 0)) : s.size ≤ 800 ∧ (rLines s).2.2 = true ∧ wrongName (rLines s).1 = -1 ∧ hasProd (rLines s).1 = true ∧ tooMany (rLines s).1 = -1 := by
  unfold checkF at h
  split at h
  · simp at h
  · rename_i h1
    split at h
    · simp at h
    · rename_i h2
      split at h
      · simp at h
      · rename_i h3
        split at h
        · simp at h
        · rename_i h4
          split at h
          · simp at h
          · split at h
            · simp at h
            · rename_i h5
              exact ⟨by omega, by simpa using h2, by simpa using h4, by simpa using h5, by simpa using h3⟩
theorem inv_zero {s : ByteArray} : Inv s [] zeroLO := by
  refine ⟨rfl, rfl, rfl, ?_, ?_, ?_⟩
  · intro y hy; simp at hy
  · intro l hl; simp [zeroLO] at hl
  · intro y hy; simp at hy
theorem linesInv {s : ByteArray} (h : checkF s = (0, 0)) : Inv s (rLines s).1 (linesX s) := by
  obtain ⟨h1, h2, h3, h4, h5⟩ := check_parts h
  have h2' : (rLinesL s (s.size + 5) ((0 : Nat) : Int) []).2.2 = true := h2
  exact inv_lines s (s.size + 5) 0 [] (s.size + 1) zeroLO h2' (by omega) (by omega) inv_zero
theorem linesAs {s : ByteArray} (h : checkF s = (0, 0)) : LinesAs s := by
  obtain ⟨h1, h2, h3, h4, h5⟩ := check_parts h
  have hI := linesInv h
  have hall : ∀ l ∈ (linesX s).names, ∀ t ∈ l, ¬ (findF (linesX s).heads t < 0 ∧ findF (linesX s).rules t < 0) := by
    intro l hl t ht ⟨c1, c2⟩
    obtain ⟨y, hy, d, hd, j, m, hw, rfl⟩ := hI.words l hl t ht
    rcases sym_named hI h3 hy hd hw with h6 | h6
    · have := findF_nn h6; omega
    · have := findF_nn h6; omega
  have hpos : 0 < (linesX s).names.length := by
    rw [hI.count]
    unfold hasProd at h4
    rw [List.any_eq_true] at h4
    obtain ⟨y, hy, hq⟩ := h4
    exact List.length_pos_of_mem (List.mem_filter.2 ⟨hy, hq⟩)
  obtain ⟨q1, q2, q3⟩ := allS_true (x := linesX s) (linesX s).names [] hall (by omega)
  exact ⟨q1, by unfold linesF; rw [q2]; exact hI.rules, by unfold linesF; rw [q3]; exact hI.skip⟩

end Go.Proofs.Ytdbdkdekeicmhaa
