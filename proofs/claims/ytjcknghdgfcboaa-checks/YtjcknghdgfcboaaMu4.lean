import Derived.Test.YtjcknghdgfcboaaKp9
namespace Go.Proofs.Ytjcknghdgfcboaa
open Go.RowKit
set_option linter.unusedVariables false
set_option linter.unusedSimpArgs false

/-- how far rule x reaches from i -/
abbrev far (x : Ln) (t : ByteArray) (i : Nat) : Int := longF x.ns x.st x.en t i
theorem far_ge {x : Ln} {t : ByteArray} {i n : Nat} (hn : i + n ≤ t.size) (ha : accK x.ns x.st x.en t i n = true) : ((i + n : Nat) : Int) ≤ far x t i := by
  rcases longF_spec x.ns x.st x.en t i with ⟨j, h1, h2, h3, h4⟩ | ⟨h1, h2⟩
  · unfold far; rw [h3]
    by_cases hj : j < n
    · rw [h4 n hj hn] at ha; cases ha
    · omega
  · rw [h2 n hn] at ha; cases ha
theorem far_acc {x : Ln} {t : ByteArray} {i : Nat} (h : (i : Int) < far x t i) : ∃ n, 0 < n ∧ i + n ≤ t.size ∧ far x t i = ((i + n : Nat) : Int) ∧ accK x.ns x.st x.en t i n = true := by
  rcases longF_spec x.ns x.st x.en t i with ⟨j, h1, h2, h3, h4⟩ | ⟨h1, h2⟩
  · unfold far at h ⊢
    rw [h3] at h ⊢
    exact ⟨j, by omega, h1, rfl, h2⟩
  · unfold far at h; rw [h1] at h; omega

/-- what stands best among the first k rules -/
def BestTo (lns : List Ln) (t : ByteArray) (i k : Nat) (b : Int × Int) : Prop :=
  (b = (0, (i : Int)) ∧ ∀ r (hr : r < lns.length), r < k → far lns[r] t i ≤ i) ∨
  (∃ r, ∃ hr : r < lns.length, r < k ∧ b = ((r : Int), far lns[r] t i) ∧ (i : Int) < far lns[r] t i ∧ (∀ r' (hr' : r' < lns.length), r' < k → far lns[r'] t i ≤ far lns[r] t i) ∧ ∀ r' (hr' : r' < lns.length), r' < r → far lns[r'] t i < far lns[r] t i)
theorem bestL_to (lns : List Ln) (t : ByteArray) (i : Nat) : ∀ (f k : Nat) (b : Int × Int), lns.length + 1 ≤ f + k → BestTo lns t i k b → BestTo lns t i lns.length (bestL lns t i f k b) := by
  intro f
  induction f with
  | zero =>
    intro k b hf h
    unfold bestL
    rcases h with ⟨h1, h2⟩ | ⟨r, hr, h1, h2, h3, h4, h5⟩
    · exact .inl ⟨h1, fun r hr _ => h2 r hr (by omega)⟩
    · exact .inr ⟨r, hr, hr, h2, h3, fun r' hr' _ => h4 r' hr' (by omega), h5⟩
  | succ f ih =>
    intro k b hf h
    unfold bestL
    by_cases hk : k < lns.length
    · rw [List.getElem?_eq_getElem hk]
      simp only []
      apply ih (k + 1) _ (by omega)
      by_cases hb : b.2 < longF lns[k].ns lns[k].st lns[k].en t i
      · rw [if_pos hb]
        right
        refine ⟨k, hk, by omega, rfl, ?_, ?_, ?_⟩
        · rcases h with ⟨h1, h2⟩ | ⟨r, hr, h1, h2, h3, h4, h5⟩
          · rw [h1] at hb; exact hb
          · rw [h2] at hb; exact Int.lt_trans h3 hb
        · intro r' hr' hlt
          by_cases e : r' = k
          · subst e; exact Int.le_refl _
          · rcases h with ⟨h1, h2⟩ | ⟨r, hr, h1, h2, h3, h4, h5⟩
            · have := h2 r' hr' (by omega); rw [h1] at hb; exact Int.le_of_lt (Int.lt_of_le_of_lt this hb)
            · have := h4 r' hr' (by omega); rw [h2] at hb; exact Int.le_of_lt (Int.lt_of_le_of_lt this hb)
        · intro r' hr' hlt
          rcases h with ⟨h1, h2⟩ | ⟨r, hr, h1, h2, h3, h4, h5⟩
          · have := h2 r' hr' (by omega); rw [h1] at hb; exact Int.lt_of_le_of_lt this hb
          · have := h4 r' hr' (by omega); rw [h2] at hb; exact Int.lt_of_le_of_lt this hb
      · rw [if_neg hb]
        rcases h with ⟨h1, h2⟩ | ⟨r, hr, h1, h2, h3, h4, h5⟩
        · left
          refine ⟨h1, fun r hr hlt => ?_⟩
          by_cases e : r = k
          · subst e; rw [h1] at hb; unfold far; simp only [] at hb; omega
          · exact h2 r hr (by omega)
        · right
          refine ⟨r, hr, by omega, h2, h3, fun r' hr' hlt => ?_, h5⟩
          by_cases e : r' = k
          · subst e; rw [h2] at hb; unfold far at hb ⊢; simp only [] at hb; omega
          · exact h4 r' hr' (by omega)
    · rw [List.getElem?_eq_none (by omega)]
      simp only []
      rcases h with ⟨h1, h2⟩ | ⟨r, hr, h1, h2, h3, h4, h5⟩
      · exact .inl ⟨h1, fun r hr _ => h2 r hr (by omega)⟩
      · exact .inr ⟨r, hr, hr, h2, h3, fun r' hr' _ => h4 r' hr' (by omega), h5⟩
theorem bestF_to (lns : List Ln) (t : ByteArray) (i : Nat) : BestTo lns t i lns.length (bestF lns t i) := bestL_to lns t i _ 0 _ (by omega) (.inl ⟨rfl, fun r hr h => by omega⟩)

theorem firstR_none {s t : ByteArray} {rules : Nat} : ∀ (f r : Nat), (∀ r', r' < rules → (matchF s r' t).1 = false) → firstR s t rules f r = none := by
  intro f
  induction f with
  | zero => intro r h; rfl
  | succ f ih =>
    intro r h
    unfold firstR
    split
    · rename_i hr; rw [h r hr]; simp only [Bool.false_eq_true, if_false]; exact ih _ h
    · rfl
theorem firstR_some {s t : ByteArray} {rules q : Nat} (hq : q < rules) (hm : (matchF s q t).1 = true) (hb : ∀ r', r' < q → (matchF s r' t).1 = false) : ∀ (f r : Nat), r ≤ q → rules + 1 ≤ f + r → firstR s t rules f r = some q := by
  intro f
  induction f with
  | zero => intro r h hf; omega
  | succ f ih =>
    intro r h hf
    unfold firstR
    rw [if_pos (by omega)]
    by_cases e : r = q
    · subst e; rw [hm]; rfl
    · rw [hb r (by omega)]
      simp only [Bool.false_eq_true, if_false]
      exact ih (r + 1) (by omega) (by omega)
theorem longK_none {s t : ByteArray} {rules : Nat} : ∀ m, (∀ n r, 0 < n → n ≤ m → r < rules → (matchF s r (t.extract 0 n)).1 = false) → longK s rules t m = (0, 0) := by
  intro m
  induction m with
  | zero => intro h; rfl
  | succ m ih =>
    intro h
    unfold longK
    rw [firstR_none _ _ (fun r' hr' => h (m + 1) r' (by omega) (by omega) hr')]
    exact ih (fun n r h1 h2 h3 => h n r h1 (by omega) h3)
theorem longK_some {s t : ByteArray} {rules n q : Nat} (hn : 0 < n) (hq : q < rules) (hm : (matchF s q (t.extract 0 n)).1 = true) (hb : ∀ r', r' < q → (matchF s r' (t.extract 0 n)).1 = false) :
    ∀ m, n ≤ m → (∀ n' r, n < n' → n' ≤ m → r < rules → (matchF s r (t.extract 0 n')).1 = false) → longK s rules t m = ((n : Int), (q : Int)) := by
  intro m
  induction m with
  | zero => intro h; omega
  | succ m ih =>
    intro hle h
    by_cases e : n = m + 1
    · subst e
      unfold longK
      rw [firstR_some hq hm hb _ 0 (by omega) (by omega)]
      simp
    · unfold longK
      rw [firstR_none _ _ (fun r' hr' => h (m + 1) r' (by omega) (by omega) hr')]
      exact ih (by omega) (fun n' r h1 h2 h3 => h n' r h1 (by omega) h3)

theorem match_at (s t : ByteArray) (i n r : Nat) (ht : t.size ≤ 200) (hc : checkF s = (0, 0)) (hn : i + n ≤ t.size) (hr : r < (rulesOf s).length) :
    (matchF s r ((t.extract i t.size).extract 0 n)).1 = accK (rulesOf s)[r].ns (rulesOf s)[r].st (rulesOf s)[r].en t i n := by
  have e : (t.extract i t.size).extract 0 n = t.extract i (i + n) := by
    have := ext_ext t i 0 n (by omega) (by omega); simpa using this
  rw [e, ← match_acc _ t i n hn]
  unfold matchF
  have h0 : errF s (t.extract i (i + n)) = 0 := by
    unfold errF; rw [if_neg (by simp only [ByteArray.size_extract]; omega), hc]
  rw [h0, if_neg (by simp), if_neg (by omega), Int.toNat_natCast, List.getElem?_eq_getElem hr]

theorem bestAs (s t : ByteArray) (i : Nat) (ht : t.size ≤ 200) (hc : checkF s = (0, 0)) (hi : i < t.size) : BestAs s t i := by
  have hsz : (t.extract i t.size).size = t.size - i := by rw [ByteArray.size_extract]; omega
  unfold BestAs
  rw [hsz]
  rcases bestF_to (rulesOf s) t i with ⟨h1, h2⟩ | ⟨r, hr, _, h1, h2, h3, h4⟩
  · refine ⟨0, 0, ?_, by omega, fun _ => by rw [h1]; exact Int.le_refl _, fun h => by omega⟩
    rw [longK_none]
    · rfl
    · intro n r hn hm hr
      rw [match_at s t i n r ht hc (by omega) hr]
      cases ha : accK (rulesOf s)[r].ns (rulesOf s)[r].st (rulesOf s)[r].en t i n
      · rfl
      · have := far_ge (x := (rulesOf s)[r]) (by omega) ha
        have := h2 r hr hr
        omega
  · obtain ⟨n, hn, hin, hf, ha⟩ := far_acc h2
    refine ⟨n, r, ?_, hin, fun h => by omega, fun _ => ⟨hr, ?_⟩⟩
    · apply longK_some hn hr
      · rw [match_at s t i n r ht hc hin hr]; exact ha
      · intro r' hr'
        have hr2 : r' < (rulesOf s).length := by omega
        rw [match_at s t i n r' ht hc hin hr2]
        cases hb : accK (rulesOf s)[r'].ns (rulesOf s)[r'].st (rulesOf s)[r'].en t i n
        · rfl
        · have := far_ge (x := (rulesOf s)[r']) hin hb
          have := h4 r' hr2 hr'
          omega
      · omega
      · intro n' r' h5 h6 hr2
        rw [match_at s t i n' r' ht hc (by omega) hr2]
        cases hb : accK (rulesOf s)[r'].ns (rulesOf s)[r'].st (rulesOf s)[r'].en t i n'
        · rfl
        · have := far_ge (x := (rulesOf s)[r']) (by omega) hb
          have := h3 r' hr2 hr2
          omega
    · rw [h1, hf]; simp
end Go.Proofs.Ytjcknghdgfcboaa
namespace Go.Proofs.Ytjcknghdgfcboaa
open Go.RowKit
set_option linter.unusedVariables false
set_option linter.unusedSimpArgs false

/-- The bytes from i up to j are printed ones. -/
def Clean (s : ByteArray) (i j : Int) : Prop := ∀ k, i ≤ k → k < j → 32 ≤ atB s k
theorem Clean.one {s : ByteArray} {i : Int} (h : 32 ≤ atB s i) : Clean s i (i + 1) := fun k h1 h2 => by
  have : k = i := by omega
  subst this; exact h
theorem Clean.trans {s : ByteArray} {i j k : Int} (h : Clean s i j) (h2 : Clean s j k) : Clean s i k := fun m h3 h4 => by
  by_cases e : m < j
  · exact h m h3 e
  · exact h2 m (by omega) h4
theorem Clean.nil {s : ByteArray} {i : Int} : Clean s i i := fun k h1 h2 => by omega
theorem pr_ge {c : Int} (h : isPrB c = true) : 32 ≤ c := by simp [isPrB] at h; omega
theorem plain_ge {c : Int} (h : isPlainB c = true) : 32 ≤ c := by simp [isPlainB] at h; exact pr_ge h.2

theorem rMark_clean {s : ByteArray} {i : Int} (h : (rMark s i).2.2 = true) : Clean s i (rMark s i).2.1 := by
  unfold rMark at h ⊢
  split
  · rename_i e; exact Clean.one (by omega)
  · split
    · rename_i e; exact Clean.one (by omega)
    · split
      · rename_i h1 h2 h3; rw [if_neg h1, if_neg h2, if_pos h3] at h; cases h
      · rename_i h3
        apply Clean.one
        simp at h3
        exact pr_ge h3.1.1.1
theorem rEnd_clean {s : ByteArray} {i : Int} (h : (rEnd s i).2.2 = true) : Clean s i (rEnd s i).2.1 := by
  unfold rEnd at h ⊢
  split
  · rename_i e
    rw [if_pos e] at h
    exact (Clean.one (by omega)).trans (rMark_clean h)
  · rename_i e
    rw [if_neg e] at h
    split
    · rename_i e2; rw [if_pos e2] at h; cases h
    · rename_i e2
      rw [if_neg e2] at h
      split
      · rename_i e3; rw [if_pos e3] at h; cases h
      · rename_i e3
        exact Clean.one (pr_ge (by simpa using e3))
theorem rRange_clean {s : ByteArray} {i : Int} (h : (rRange s i).2.2.2 = true) : Clean s i (rRange s i).2.2.1 := by
  unfold rRange at h ⊢
  split
  · rename_i e; rw [if_pos e] at h; cases h
  · rename_i e
    rw [if_neg e] at h
    have c1 := rEnd_clean (s := s) (i := i) (by simpa using e)
    split
    · exact c1
    · rename_i e2
      rw [if_neg e2] at h
      split
      · rename_i e3; rw [if_pos e3] at h; cases h
      · rename_i e3
        rw [if_neg e3] at h
        have c2 := rEnd_clean (s := s) (i := (rEnd s i).2.1 + 1) (by simpa using e3)
        split
        · rename_i e4; rw [if_pos e4] at h; cases h
        · exact (c1.trans (Clean.one (by omega))).trans c2
theorem rEndsL_clean {s : ByteArray} {i j : Int} : ∀ (f : Nat) (next : Int) (ws : List Int), Clean s j next → (rEndsL s i f next ws).2.2 = true → Clean s j (rEndsL s i f next ws).2.1
  | 0, next, ws, hc, h => by simp [rEndsL] at h
  | f + 1, next, ws, hc, h => by
    unfold rEndsL at h ⊢
    split
    · rename_i e
      rw [if_pos e] at h
      split
      · rename_i e2; rw [if_pos e2] at h; cases h
      · rename_i e2
        rw [if_neg e2] at h
        exact rEndsL_clean f _ _ (hc.trans (rRange_clean (by simpa using e2))) h
    · rename_i e
      have : atB s next = 93 := by
        by_cases h1 : atB s next = 93
        · exact h1
        · exact absurd (.inr h1) e
      exact hc.trans (Clean.one (by omega))
theorem rBr_clean {s : ByteArray} {i : Int} (h : (rBr s i).2.2 = true) : Clean s i (rBr s i).2.1 := by
  unfold rBr at h ⊢
  split
  · rename_i e
    rw [if_pos e] at h
    exact rEndsL_clean _ _ _ (Clean.one (by omega)) h
  · rename_i e
    rw [if_neg e] at h
    exact rEndsL_clean _ _ _ Clean.nil h
theorem rSet_clean {s : ByteArray} {i : Int} (h : (rSet s i).2.2 = true) : Clean s i (rSet s i).2.1 := by
  unfold rSet at h ⊢
  split
  · exact Clean.one (by omega)
  · rename_i e1
    rw [if_neg e1] at h
    split
    · rename_i e
      rw [if_pos e] at h
      exact (Clean.one (by omega)).trans (rBr_clean h)
    · rename_i e2
      rw [if_neg e2] at h
      split
      · rename_i e
        rw [if_pos e] at h
        exact (Clean.one (by omega)).trans (rMark_clean h)
      · rename_i e3
        rw [if_neg e3] at h
        split
        · rename_i e; rw [if_pos e] at h; cases h
        · rename_i e; exact Clean.one (plain_ge (by simpa using e))

def CleanF (s : ByteArray) (f : Int → List Node → PR) : Prop := ∀ (i : Int) (ns : List Node), (f i ns).ok = true → Clean s i (f i ns).next
theorem clean_atom {g : Int → List Node → PR} {s : ByteArray} (hg : CleanF s g) : CleanF s (rAtom g s) := by
  intro i ns h
  unfold rAtom at h ⊢
  split
  · rename_i e; rw [if_pos e] at h; exact hg i ns h
  · rename_i e
    rw [if_neg e] at h
    split
    · rename_i e2; rw [if_pos e2] at h; cases h
    · rename_i e2; exact rSet_clean (by simpa using e2)
theorem mark_ge {c : Int} (h : isMark c = true) : 32 ≤ c := by simp [isMark] at h; omega
theorem clean_pieceL {s : ByteArray} {i : Int} : ∀ (f : Nat) (r : PR), (r.ok = true → Clean s i r.next) → (rPieceL s f r).ok = true → Clean s i (rPieceL s f r).next
  | 0, r, hr, h => hr h
  | f + 1, r, hr, h => by
    unfold rPieceL at h ⊢
    split
    · rename_i e
      rw [if_pos e] at h
      simp only [Bool.and_eq_true] at e
      exact clean_pieceL f _ (fun _ => (hr e.1).trans (Clean.one (mark_ge e.2))) h
    · rename_i e
      rw [if_neg e] at h
      exact hr h
theorem clean_piece {a : Int → List Node → PR} {s : ByteArray} (ha : CleanF s a) : CleanF s (rPiece a s) := fun i ns h => clean_pieceL _ _ (ha i ns) h
theorem clean_branchL {p : Int → List Node → PR} {s : ByteArray} (hp : CleanF s p) {i : Int} : ∀ (f : Nat) (r : PR), (r.ok = true → Clean s i r.next) → (rBranchL p s f r).ok = true → Clean s i (rBranchL p s f r).next
  | 0, r, hr, h => hr h
  | f + 1, r, hr, h => by
    unfold rBranchL at h ⊢
    split
    · rename_i e
      rw [if_pos e] at h
      simp only [Bool.and_eq_true] at e
      refine clean_branchL hp f _ (fun hj => ?_) h
      unfold joinR at hj ⊢
      split
      · rename_i e2; exact (hr e.1).trans (hp _ _ e2)
      · rename_i e2; rw [if_neg e2] at hj; cases hj
    · rename_i e
      rw [if_neg e] at h
      exact hr h
theorem clean_branch {p : Int → List Node → PR} {s : ByteArray} (hp : CleanF s p) : CleanF s (rBranch p s) := fun i ns h => clean_branchL hp _ _ (hp i ns) h
theorem clean_choiceL {p : Int → List Node → PR} {s : ByteArray} (hp : CleanF s p) {i : Int} : ∀ (f : Nat) (r : PR), (r.ok = true → Clean s i r.next) → (rChoiceL p s f r).ok = true → Clean s i (rChoiceL p s f r).next
  | 0, r, hr, h => hr h
  | f + 1, r, hr, h => by
    unfold rChoiceL at h ⊢
    split
    · rename_i e
      rw [if_pos e] at h
      simp only [Bool.and_eq_true, beq_iff_eq] at e
      refine clean_choiceL hp f _ (fun hj => ?_) h
      unfold eitherR at hj ⊢
      split
      · rename_i e2; exact ((hr e.1).trans (Clean.one (by omega))).trans (hp _ _ e2)
      · rename_i e2; rw [if_neg e2] at hj; cases hj
    · rename_i e
      rw [if_neg e] at h
      exact hr h
theorem clean_choice {p : Int → List Node → PR} {s : ByteArray} (hp : CleanF s p) : CleanF s (rChoice p s) := fun i ns h => clean_choiceL hp _ _ (hp i ns) h
theorem clean_group {c : Int → List Node → PR} {s : ByteArray} (hc : CleanF s c) (i : Int) (ns : List Node) (hi : atB s i = 40) (h : (rGroup c s i ns).ok = true) : Clean s i (rGroup c s i ns).next := by
  unfold rGroup at h ⊢
  split
  · rename_i e; rw [if_pos e] at h; cases h
  · rename_i e
    rw [if_neg e] at h
    split
    · rename_i e2; rw [if_pos e2] at h; cases h
    · rename_i e2
      exact ((Clean.one (by omega)).trans (hc _ _ (by simpa using e))).trans (Clean.one (by omega))
theorem clean_atom' {g : Int → List Node → PR} {s : ByteArray} (hg : ∀ i ns, atB s i = 40 → (g i ns).ok = true → Clean s i (g i ns).next) : CleanF s (rAtom g s) := by
  intro i ns h
  unfold rAtom at h ⊢
  split
  · rename_i e; rw [if_pos e] at h; exact hg i ns e h
  · rename_i e
    rw [if_neg e] at h
    split
    · rename_i e2; rw [if_pos e2] at h; cases h
    · rename_i e2; exact rSet_clean (by simpa using e2)
theorem clean_gK (s : ByteArray) : ∀ (k : Nat) (i : Int) (ns : List Node), atB s i = 40 → (gK s k i ns).ok = true → Clean s i (gK s k i ns).next
  | 0, i, ns, hi, h => by simp [gK] at h
  | k + 1, i, ns, hi, h => clean_group (clean_choice (clean_branch (clean_piece (clean_atom' (clean_gK s k))))) i ns hi h
theorem rRead_clean {s : ByteArray} {i : Int} (h : (rRead s i).ok = true) : Clean s i (rRead s i).next :=
  clean_choice (clean_branch (clean_piece (clean_atom' (clean_gK s 6)))) i [] h
end Go.Proofs.Ytjcknghdgfcboaa
namespace Go.Proofs.Ytjcknghdgfcboaa
open Go.RowKit
set_option linter.unusedVariables false
set_option linter.unusedSimpArgs false

theorem atB_ext (s : ByteArray) (a e k : Nat) (he : e ≤ s.size) (hk : a + k < e) : atB (s.extract a e) (k : Nat) = atB s ((a : Int) + k) := by
  have h1 : k < (s.extract a e).size := by rw [ByteArray.size_extract]; omega
  have h2 : a + k < s.size := by omega
  rw [atB_at _ k h1]
  have : ((a : Int) + (k : Int)) = ((a + k : Nat) : Int) := by omega
  rw [this, atB_at s (a + k) h2, ByteArray.getElem_extract]
theorem upTo_at (s : ByteArray) (a e c : Nat) (x y : Int) (he : e ≤ s.size) (hc : a + c ≤ e) (h1 : ∀ k : Nat, k < c → atB s ((a : Int) + k) ≠ x ∧ atB s ((a : Int) + k) ≠ y)
    (h2 : a + c = e ∨ atB s ((a : Int) + c) = x ∨ atB s ((a : Int) + c) = y) : upToF (s.extract a e) x y = c := by
  have hsz : (s.extract a e).size = e - a := by rw [ByteArray.size_extract]; omega
  unfold upToF
  rw [hsz]
  by_cases hce : a + c = e
  · have hl : (List.range (e - a)).length = c := by simp; omega
    rw [List.findIdx_eq_length_of_false]
    · exact hl
    · intro j hj
      have hj' : j < e - a := by simpa using hj
      rw [atB_ext s a e j he (by omega)]
      have := h1 j (by omega)
      simp [this.1, this.2]
  · rw [List.findIdx_eq (by simp; omega)]
    simp only [List.getElem_range]
    refine ⟨?_, ?_⟩
    · rw [atB_ext s a e c he (by omega)]
      rcases h2 with h2 | h2 | h2
      · omega
      · simp [h2]
      · simp [h2]
    · intro j hj
      rw [atB_ext s a e j he (by omega)]
      have := h1 j hj
      simp [this.1, this.2]

/-- A word of m letters stands at i; its eight bytes. -/
structure WordAt (s : ByteArray) (i : Int) (m : Nat) (d : Wd) : Prop where
  pos : 1 ≤ m
  le : m ≤ 8
  first : isSmallB (atB s i) = true ∨ isCapB (atB s i) = true
  rest : ∀ k : Nat, 1 ≤ k → k < m → isSmallB (atB s (i + k)) = true
  ls : d.ls = (List.range 8).map (fun k : Nat => if k < m then atB s (i + k) else 0)
  place : d.place = i
theorem small_ge {c : Int} (h : isSmallB c = true) : 65 ≤ c ∧ c ≤ 122 := by have := small_bd h; omega
theorem cap_ge {c : Int} (h : isCapB c = true) : 65 ≤ c ∧ c ≤ 122 := by have := cap_bd h; omega
theorem WordAt.byte {s : ByteArray} {i : Int} {m : Nat} {d : Wd} (h : WordAt s i m d) (k : Nat) (hk : k < m) : 65 ≤ atB s (i + k) ∧ atB s (i + k) ≤ 122 := by
  by_cases e : k = 0
  · subst e
    have := h.first
    simp only [Int.natCast_zero, Int.add_zero] at *
    rcases this with h | h
    · exact small_ge h
    · exact cap_ge h
  · exact small_ge (h.rest k (by omega) hk)
theorem pad_set (s : ByteArray) (i : Int) (n : Nat) (hn : n < 8) :
    ((List.range 8).map (fun k : Nat => if k < n then atB s (i + k) else 0)).set n (atB s (i + n)) = (List.range 8).map (fun k : Nat => if k < n + 1 then atB s (i + k) else 0) := by
  apply List.ext_getElem
  · simp
  · intro j h1 h2
    simp only [List.length_map, List.length_range] at h2
    rw [List.getElem_set]
    simp only [List.getElem_map, List.getElem_range]
    by_cases e : n = j
    · subst e; simp
    · rw [if_neg e]
      by_cases e2 : j < n
      · rw [if_pos e2, if_pos (by omega)]
      · rw [if_neg e2, if_neg (by omega)]
theorem rWordL_at (s : ByteArray) (i : Int) : ∀ (f n : Nat) (ls : List Int), 1 ≤ n → n ≤ 8 → 9 ≤ f + n → ls = (List.range 8).map (fun k : Nat => if k < n then atB s (i + k) else 0) →
    (∀ k : Nat, 1 ≤ k → k < n → isSmallB (atB s (i + k)) = true) →
    ∃ m : Nat, 1 ≤ m ∧ m ≤ 8 ∧ (rWordL s i f n ls).2 = i + m ∧ (rWordL s i f n ls).1 = (List.range 8).map (fun k : Nat => if k < m then atB s (i + k) else 0) ∧ ∀ k : Nat, 1 ≤ k → k < m → isSmallB (atB s (i + k)) = true
  | 0, n, ls, h1, h2, h3, h4, h5 => ⟨n, h1, h2, rfl, h4, h5⟩
  | f + 1, n, ls, h1, h2, h3, h4, h5 => by
    unfold rWordL
    split
    · rename_i hn
      split
      · rename_i hsm
        refine rWordL_at s i f (n + 1) _ (by omega) (by omega) (by omega) ?_ ?_
        · rw [h4]; exact pad_set s i n hn
        · intro k hk1 hk2
          by_cases e : k = n
          · subst e; exact hsm
          · exact h5 k hk1 (by omega)
      · exact ⟨n, h1, h2, rfl, h4, h5⟩
    · rename_i hn
      have : n = 8 := by omega
      subst this
      exact ⟨8, by omega, by omega, rfl, h4, h5⟩
theorem rWord_at (s : ByteArray) (i : Int) (h : (rWord s i).2.2 = true) : ∃ m : Nat, WordAt s i m (rWord s i).1 ∧ (rWord s i).2.1 = i + m := by
  unfold rWord at h ⊢
  split
  · rename_i e; rw [if_pos e] at h; cases h
  · rename_i e
    obtain ⟨m, h1, h2, h3, h4, h5⟩ := rWordL_at s i 9 1 (zero8.set 0 (atB s i)) (by omega) (by omega) (by omega) (by simp [zero8, List.range, List.range.loop]) (by intro k h1 h2; omega)
    refine ⟨m, ⟨h1, h2, ?_, h5, h4, rfl⟩, h3⟩
    simp at e
    cases hs : isSmallB (atB s i)
    · exact .inr (e hs)
    · exact .inl rfl
/-- Two words with the same eight bytes are the same. -/
theorem word_same {s : ByteArray} {a b m n : Nat} {d d' : Wd} (h : WordAt s a m d) (h' : WordAt s b n d') (ha : a + m ≤ s.size) (hb : b + n ≤ s.size) (hl : d.ls = d'.ls) : (s.extract a (a + m)).toList = (s.extract b (b + n)).toList := by
  have hk : ∀ k : Nat, k < 8 → (if k < m then atB s ((a : Int) + k) else 0) = (if k < n then atB s ((b : Int) + k) else 0) := by
    intro k hk
    have e1 : d.ls[k]? = some (if k < m then atB s ((a : Int) + k) else 0) := by rw [h.ls]; simp [hk]
    have e2 : d'.ls[k]? = some (if k < n then atB s ((b : Int) + k) else 0) := by rw [h'.ls]; simp [hk]
    rw [hl, e2] at e1
    simpa using e1.symm
  have hmn : m = n := by
    have := h.le; have := h'.le
    by_cases e1 : m < n
    · have h1 := hk m (by omega)
      rw [if_neg (by omega), if_pos e1] at h1
      have := h'.byte m e1; omega
    · by_cases e2 : n < m
      · have h1 := hk n (by omega)
        rw [if_pos e2, if_neg (by omega)] at h1
        have := h.byte n e2; omega
      · omega
  subst hmn
  rw [btl, btl]
  have hA : (s.extract a (a + m)).size = m := by rw [ByteArray.size_extract]; omega
  have hB : (s.extract b (b + m)).size = m := by rw [ByteArray.size_extract]; omega
  apply List.ext_getElem
  · simp only [Array.length_toList]; exact hA.trans hB.symm
  · intro j h1 h2
    have hj : j < m := by rw [Array.length_toList] at h1; exact hA ▸ h1
    have h3 := hk j (by have := h.le; omega)
    rw [if_pos hj, if_pos hj] at h3
    have e1 := atB_ext s a (a + m) j ha (by omega)
    have e2 := atB_ext s b (b + m) j hb (by omega)
    rw [← e1, ← e2, atB_at _ j (by omega), atB_at _ j (by omega)] at h3
    simp only [Array.getElem_toList]
    have h4 : (s.extract a (a + m))[j].toNat = (s.extract b (b + m))[j].toNat := by omega
    exact UInt8.toNat_inj.1 h4
end Go.Proofs.Ytjcknghdgfcboaa
