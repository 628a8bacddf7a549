import Derived.Test.YtdbdkdekeicmhaaLa8
namespace Go.Proofs.Ytdbdkdekeicmhaa
open Go.RowKit
set_option linter.unusedVariables false
set_option linter.unusedSimpArgs false

theorem lch_clean {s : ByteArray} {k : Nat} {i : Int} (h : (lchK s k i).ok = true) : Clean s i (lchK s k i).next := by
  have hk := lk_chK s k i []
  have := (clean_choice (clean_branch (clean_piece (clean_atom' (clean_gK s k))))) i [] (by rw [← h]; exact hk.ok)
  rw [← hk.next]; exact this
theorem beg_mark {c : Int} (h : begC c = true) : isMark c = false := by
  cases e : isMark c
  · rfl
  · have : c = 42 ∨ c = 43 ∨ c = 63 := by unfold isMark at e; simp at e; omega
    rcases this with rfl | rfl | rfl <;> (revert h; decide)
section
variable {s : ByteArray} {a p : Int → LR} {i : Int}
theorem atom_begins {g : Int → LR} (h : (lAtom g s i).ok = true) : begC (atB s i) = true := by
  unfold lAtom at h
  by_cases c : atB s i = 40
  · rw [c]; decide
  · rw [if_neg c] at h
    by_cases c2 : (rSet s i).2.2 = false
    · rw [if_pos c2] at h; cases h
    · unfold rSet at c2
      by_cases d1 : atB s i = 46
      · rw [d1]; decide
      · rw [if_neg d1] at c2
        by_cases d2 : atB s i = 91
        · rw [d2]; decide
        · rw [if_neg d2] at c2
          by_cases d3 : atB s i = 92
          · rw [d3]; decide
          · rw [if_neg d3] at c2
            by_cases d4 : isPlainB (atB s i) = false
            · rw [if_pos d4] at c2; exact absurd rfl c2
            · unfold begC
              have : isPlainB (atB s i) = true := by simpa using d4
              rw [this]; simp
theorem piece_ok (h : (lPiece a s i).ok = true) : (a i).ok = true := by
  cases e : (a i).ok
  · unfold lPiece at h; rw [lPieceL_bad s _ _ e, e] at h; cases h
  · rfl
theorem piece_plain (h : (a i).ok = true) (hm : isMark (atB s (a i).next) = false) : lPiece a s i = a i := by
  unfold lPiece
  show lPieceL s (s.size + 4 + 1) _ = _
  unfold lPieceL
  rw [if_neg (by rw [hm]; simp)]
theorem piece_mark (h : (a i).ok = true) (hm : isMark (atB s (a i).next) = true) (hm2 : isMark (atB s ((a i).next + 1)) = false) : lPiece a s i = ⟨(a i).next + 1, true, Lang.rep (atB s (a i).next) (a i).lang⟩ := by
  unfold lPiece
  show lPieceL s (s.size + 3 + 1 + 1) _ = _
  unfold lPieceL
  rw [if_pos (by rw [h, hm]; rfl)]
  unfold lPieceL
  rw [if_neg (by dsimp only; rw [hm2]; simp)]
theorem branch_ok (h : (lBranch p s i).ok = true) : (p i).ok = true := by
  cases e : (p i).ok
  · unfold lBranch at h; rw [lBranchL_bad p s _ _ e, e] at h; cases h
  · rfl
theorem branch_one (hb : begC (atB s (p i).next) = false) : lBranch p s i = p i := by
  unfold lBranch
  show lBranchL p s (s.size + 4 + 1) _ = _
  unfold lBranchL
  rw [if_neg (by rw [beginsB_eq, hb]; simp)]
theorem branch_ok2 (h : (lBranch p s i).ok = true) (hb : begC (atB s (p i).next) = true) : (p (p i).next).ok = true := by
  have h1 := branch_ok h
  cases e : (p (p i).next).ok
  · unfold lBranch at h
    change (lBranchL p s (s.size + 4 + 1) _).ok = true at h
    unfold lBranchL at h
    rw [if_pos (by rw [h1, beginsB_eq, hb]; rfl)] at h
    have : (lJoin (p i) (p (p i).next)).ok = false := by unfold lJoin; rw [e]; rfl
    rw [lBranchL_bad p s _ _ this, this] at h; cases h
  · rfl
theorem branch_two (h1 : (p i).ok = true) (hb : begC (atB s (p i).next) = true) (h2 : (p (p i).next).ok = true) (hb2 : begC (atB s (p (p i).next).next) = false) : lBranch p s i = ⟨(p (p i).next).next, true, Lang.cat (p i).lang (p (p i).next).lang⟩ := by
  unfold lBranch
  show lBranchL p s (s.size + 3 + 1 + 1) _ = _
  unfold lBranchL
  rw [if_pos (by rw [h1, beginsB_eq, hb]; rfl)]
  have : lJoin (p i) (p (p i).next) = ⟨(p (p i).next).next, true, Lang.cat (p i).lang (p (p i).next).lang⟩ := by unfold lJoin; rw [if_pos h2]
  rw [this]
  unfold lBranchL
  rw [if_neg (by dsimp only; rw [beginsB_eq, hb2]; simp)]
theorem choice_ok (h : (lChoice p s i).ok = true) : (p i).ok = true := by
  cases e : (p i).ok
  · unfold lChoice at h; rw [lChoiceL_bad p s _ _ e, e] at h; cases h
  · rfl
theorem choice_one (hb : atB s (p i).next ≠ 124) : lChoice p s i = p i := by
  unfold lChoice
  show lChoiceL p s (s.size + 4 + 1) _ = _
  unfold lChoiceL
  rw [if_neg (by simp [hb])]
theorem choice_ok2 (h : (lChoice p s i).ok = true) (hb : atB s (p i).next = 124) : (p ((p i).next + 1)).ok = true := by
  have h1 := choice_ok h
  cases e : (p ((p i).next + 1)).ok
  · unfold lChoice at h
    change (lChoiceL p s (s.size + 4 + 1) _).ok = true at h
    unfold lChoiceL at h
    rw [if_pos (by rw [h1, hb]; rfl)] at h
    have : (lEither (p i) (p ((p i).next + 1))).ok = false := by unfold lEither; rw [e]; rfl
    rw [lChoiceL_bad p s _ _ this, this] at h; cases h
  · rfl
theorem choice_two (h1 : (p i).ok = true) (hb : atB s (p i).next = 124) (h2 : (p ((p i).next + 1)).ok = true) (hb2 : atB s (p ((p i).next + 1)).next ≠ 124) : lChoice p s i = ⟨(p ((p i).next + 1)).next, true, Lang.alt (p i).lang (p ((p i).next + 1)).lang⟩ := by
  unfold lChoice
  show lChoiceL p s (s.size + 3 + 1 + 1) _ = _
  unfold lChoiceL
  rw [if_pos (by rw [h1, hb]; rfl)]
  have : lEither (p i) (p ((p i).next + 1)) = ⟨(p ((p i).next + 1)).next, true, Lang.alt (p i).lang (p ((p i).next + 1)).lang⟩ := by unfold lEither; rw [if_pos h2]
  rw [this]
  unfold lChoiceL
  rw [if_neg (by dsimp only; simp [hb2])]
theorem branch_next (hg : LGoodF s p) : ∀ (f f' : Nat) (x : Int) (L L' : Lang), 0 ≤ x → x ≤ s.size → (s.size : Int) + 1 ≤ f + x → (s.size : Int) + 1 ≤ f' + x →
    (lBranchL p s f ⟨x, true, L⟩).next = (lBranchL p s f' ⟨x, true, L'⟩).next ∧ (lBranchL p s f ⟨x, true, L⟩).ok = (lBranchL p s f' ⟨x, true, L'⟩).ok
  | 0, _, x, _, _, _, _, _, _ => by omega
  | f + 1, 0, x, _, _, _, _, _, _ => by omega
  | f + 1, f' + 1, x, L, L', h0, h1, hf, hf' => by
    unfold lBranchL
    dsimp only
    by_cases c : (true && beginsB s x) = true
    · rw [if_pos c, if_pos c]
      cases e : (p x).ok
      · have q1 : ∀ L, (lJoin ⟨x, true, L⟩ (p x)) = ⟨(p x).next, false, noL⟩ := fun L => by unfold lJoin; rw [e]; rfl
        rw [q1, q1, lBranchL_bad p s _ _ rfl, lBranchL_bad p s _ _ rfl]
        exact ⟨rfl, rfl⟩
      · have q1 : ∀ L, (lJoin ⟨x, true, L⟩ (p x)) = ⟨(p x).next, true, Lang.cat L (p x).lang⟩ := fun L => by unfold lJoin; rw [if_pos e]
        have g := hg x h0 h1 e
        rw [q1, q1]
        exact branch_next hg f f' _ _ _ (by omega) (by omega) (by omega) (by omega)
    · rw [if_neg c, if_neg c]
      exact ⟨rfl, rfl⟩
theorem choice_next : ∀ (f : Nat) (x : Int) (b : Bool) (L L' : Lang), (lChoiceL p s f ⟨x, b, L⟩).next = (lChoiceL p s f ⟨x, b, L'⟩).next ∧ (lChoiceL p s f ⟨x, b, L⟩).ok = (lChoiceL p s f ⟨x, b, L'⟩).ok
  | 0, x, b, L, L' => ⟨rfl, rfl⟩
  | f + 1, x, b, L, L' => by
    unfold lChoiceL
    dsimp only
    by_cases c : (b && (atB s x == 124)) = true
    · rw [if_pos c, if_pos c]
      cases e : (p (x + 1)).ok
      · have q1 : ∀ L, (lEither ⟨x, b, L⟩ (p (x + 1))) = ⟨(p (x + 1)).next, false, noL⟩ := fun L => by unfold lEither; rw [e]; rfl
        rw [q1, q1]
        exact ⟨rfl, rfl⟩
      · have q1 : ∀ L, (lEither ⟨x, b, L⟩ (p (x + 1))) = ⟨(p (x + 1)).next, true, Lang.alt L (p (x + 1)).lang⟩ := fun L => by unfold lEither; rw [if_pos e]
        rw [q1, q1]
        exact choice_next f _ _ _ _
    · rw [if_neg c, if_neg c]
      exact ⟨rfl, rfl⟩
end
/-- the letter x -/
def xL : Lang := Lang.byte fun c => hasB (withF zero4 120 120) c = true
theorem atom_x {s : ByteArray} {i : Int} (g : Int → LR) (h : atB s i = 120) : lAtom g s i = ⟨i + 1, true, xL⟩ := by
  unfold lAtom
  rw [if_neg (by rw [h]; decide)]
  have hr : rSet s i = (withF zero4 120 120, i + 1, true) := by
    unfold rSet
    rw [h, if_neg (by decide), if_neg (by decide), if_neg (by decide), if_neg (by decide)]
  rw [hr]
  rfl
/-- an x ahead of a pattern: it ends where the pattern does -/
theorem ahead_x {s : ByteArray} {k : Nat} {i : Int} (h0 : 0 ≤ i) (hx : atB s i = 120) (hok : (lchK s k (i + 1)).ok = true) : (lchK s k i).next = (lchK s k (i + 1)).next := by
  have hi := atB_lt (s := s) (i := i) (by omega)
  have b1 := choice_ok hok
  have p1 := branch_ok b1
  have a1 := piece_ok p1
  have bg := atom_begins a1
  have ax := atom_x (lgK s k) hx
  have px : lPiece (lAtom (lgK s k) s) s i = ⟨i + 1, true, xL⟩ := by
    rw [← ax]
    exact piece_plain (by rw [ax]) (by rw [ax]; exact beg_mark bg)
  have g1 := lg_piece s k (i + 1) (by omega) (by omega) p1
  have hb : (lBranch (lPiece (lAtom (lgK s k) s) s) s i).next = (lBranch (lPiece (lAtom (lgK s k) s) s) s (i + 1)).next ∧ (lBranch (lPiece (lAtom (lgK s k) s) s) s i).ok = true := by
    have e1 : lBranch (lPiece (lAtom (lgK s k) s) s) s i = lBranchL (lPiece (lAtom (lgK s k) s) s) s (s.size + 4) ⟨(lPiece (lAtom (lgK s k) s) s (i + 1)).next, true, Lang.cat xL (lPiece (lAtom (lgK s k) s) s (i + 1)).lang⟩ := by
      unfold lBranch
      rw [px]
      have ej : lJoin ⟨i + 1, true, xL⟩ (lPiece (lAtom (lgK s k) s) s (i + 1)) = ⟨(lPiece (lAtom (lgK s k) s) s (i + 1)).next, true, Lang.cat xL (lPiece (lAtom (lgK s k) s) s (i + 1)).lang⟩ := by unfold lJoin; rw [if_pos p1]
      show lBranchL _ s (s.size + 4 + 1) _ = _
      rw [lBranchL_s, if_pos (by dsimp only; rw [beginsB_eq, bg]; rfl)]
      dsimp only
      rw [ej]
    have e2 := branch_next (lg_piece s k) (s.size + 4) (s.size + 5) (lPiece (lAtom (lgK s k) s) s (i + 1)).next (Lang.cat xL (lPiece (lAtom (lgK s k) s) s (i + 1)).lang) (lPiece (lAtom (lgK s k) s) s (i + 1)).lang (by omega) (by omega) (by omega) (by omega)
    rw [← lr_eta p1] at e2
    rw [e1]
    exact ⟨e2.1, by rw [e2.2]; exact b1⟩
  unfold lchK lChoice
  rw [lr_eta b1, lr_eta hb.2, hb.1]
  exact (choice_next _ _ _ _ _).1
end Go.Proofs.Ytdbdkdekeicmhaa
namespace Go.Proofs.Ytdbdkdekeicmhaa
open Go.RowKit
set_option linter.unusedVariables false
set_option linter.unusedSimpArgs false

theorem atB_app (a b : ByteArray) (i : Int) : atB (a ++ b) i = if i < a.size then atB a i else atB b (i - a.size) := by
  by_cases h0 : 0 ≤ i
  · obtain ⟨n, rfl⟩ : ∃ n : Nat, i = n := ⟨i.toNat, by omega⟩
    by_cases h : (n : Int) < a.size
    · have h1 : n < a.size := by omega
      have h2 : n < (a ++ b).size := by rw [ByteArray.size_append]; omega
      rw [if_pos h]
      unfold atB
      rw [dif_pos ⟨h0, by simpa using h2⟩, dif_pos ⟨h0, by simpa using h1⟩]
      simp only [Int.toNat_natCast]
      rw [ByteArray.getElem_append_left h1]
    · rw [if_neg h]
      unfold atB
      by_cases h3 : n < (a ++ b).size
      · have h4 : n - a.size < b.size := by rw [ByteArray.size_append] at h3; omega
        have e : ((n : Int) - a.size).toNat = n - a.size := by omega
        rw [dif_pos ⟨h0, by simpa using h3⟩, dif_pos ⟨by omega, by rw [e]; exact h4⟩]
        simp only [Int.toNat_natCast, e]
        rw [ByteArray.getElem_append_right (by omega)]
      · rw [dif_neg (by rw [ByteArray.size_append] at h3; simp; omega), dif_neg (by rw [ByteArray.size_append] at h3; omega)]
  · unfold atB
    split
    · rename_i h1; exact absurd h1.1 h0
    · split
      · split
        · rename_i h1; exact absurd h1.1 h0
        · rfl
      · rename_i h1; omega
def pre4 : ByteArray := ⟨#[97, 61, 120, 40]⟩
def post5 : ByteArray := ⟨#[41, 10, 83, 58, 10]⟩
def pre3 : ByteArray := ⟨#[97, 61, 120]⟩
def post4 : ByteArray := ⟨#[10, 83, 58, 10]⟩
/-- a pattern in brackets behind an x, as a specification -/
def specX (b : ByteArray) : ByteArray := pre4 ++ b ++ post5
def specY (b : ByteArray) : ByteArray := pre3 ++ b ++ post4
section
variable (b : ByteArray)
theorem specX_size : (specX b).size = b.size + 9 := by
  unfold specX
  rw [ByteArray.size_append, ByteArray.size_append]
  show 4 + b.size + 5 = _
  omega
theorem specX_pre {j : Int} (h : j < 4) : atB (specX b) j = atB pre4 j := by
  unfold specX
  have e : pre4.size = 4 := rfl
  rw [atB_app, if_pos (by rw [ByteArray.size_append, e]; omega), atB_app, if_pos (by rw [e]; exact h)]
theorem specX_mid {j : Int} (h0 : 0 ≤ j) (h : j < b.size) : atB (specX b) (4 + j) = atB b j := by
  unfold specX
  have e : pre4.size = 4 := rfl
  rw [atB_app, if_pos (by rw [ByteArray.size_append, e]; omega), atB_app, if_neg (by rw [e]; omega), e]
  congr 1; omega
theorem specX_post {j : Int} (h0 : 0 ≤ j) : atB (specX b) (4 + b.size + j) = atB post5 j := by
  unfold specX
  have e : pre4.size = 4 := rfl
  rw [atB_app, if_neg (by rw [ByteArray.size_append, e]; omega), ByteArray.size_append, e]
  congr 1; omega
theorem specY_pre {j : Int} (h : j < 3) : atB (specY b) j = atB pre3 j := by
  unfold specY
  have e : pre3.size = 3 := rfl
  rw [atB_app, if_pos (by rw [ByteArray.size_append, e]; omega), atB_app, if_pos (by rw [e]; exact h)]
theorem specY_mid {j : Int} (h0 : 0 ≤ j) (h : j < b.size) : atB (specY b) (3 + j) = atB b j := by
  unfold specY
  have e : pre3.size = 3 := rfl
  rw [atB_app, if_pos (by rw [ByteArray.size_append, e]; omega), atB_app, if_neg (by rw [e]; omega), e]
  congr 1; omega
end
theorem rLinesL_pre (s : ByteArray) : ∀ (f : Nat) (i : Int) (acc : List Ln), (rLinesL s f i acc).2.2 = true → ∃ rest, (rLinesL s f i acc).1 = acc ++ rest
  | 0, i, acc, h => by cases h
  | f + 1, i, acc, h => by
    unfold rLinesL at h ⊢
    split
    · rename_i c
      rw [if_pos c] at h
      split
      · rename_i c2; rw [if_pos c2] at h; cases h
      · rename_i c2
        rw [if_neg c2] at h
        obtain ⟨rest, hr⟩ := rLinesL_pre s f _ _ h
        exact ⟨_, by rw [hr, List.append_assoc]⟩
    · exact ⟨[], by simp⟩
def fA : List Int := [97, 0, 0, 0, 0, 0, 0, 0]
theorem rWord_a {s : ByteArray} (h0 : atB s 0 = 97) (h1 : atB s 1 = 61) : rWord s 0 = (⟨0, fA⟩, 1, true) := by
  have e : rWordL s 0 9 1 (zero8.set 0 97) = (fA, 1) := by
    unfold rWordL
    rw [if_pos (by decide)]
    have h1' : atB s (0 + ((1 : Nat) : Int)) = 61 := h1
    rw [h1', if_neg (by decide)]
    rfl
  unfold rWord
  rw [h0, if_neg (by decide), e]
/-- the first line is the rule a -/
theorem rule_zero {s : ByteArray} (h0 : atB s 0 = 97) (h1 : atB s 1 = 61) (hok : (rLines s).2.2 = true) :
    (rRead s 2).ok = true ∧ atB s (rRead s 2).next = 10 ∧ ∃ rest, (rLines s).1 = ⟨⟨0, fA⟩, false, (rRead s 2).ns, (rRead s 2).st, (rRead s 2).en, []⟩ :: rest := by
  have hlt := atB_lt (s := s) (i := 0) (by omega)
  have hw := rWord_a h0 h1
  have hL : rLine s 0 = rRule s 1 ⟨0, fA⟩ := by
    unfold rLine
    rw [hw]
    dsimp only
    rw [if_neg (by decide), if_neg (by decide)]
  have hR : (rRule s 1 ⟨0, fA⟩).2.2 = true → (rRead s 2).ok = true ∧ atB s (rRead s 2).next = 10 ∧ rRule s 1 ⟨0, fA⟩ = (⟨⟨0, fA⟩, false, (rRead s 2).ns, (rRead s 2).st, (rRead s 2).en, []⟩, (rRead s 2).next + 1, true) := by
    intro h
    unfold rRule at h ⊢
    rw [h1, if_neg (by decide)] at h ⊢
    have e2 : (1 : Int) + 1 = 2 := rfl
    rw [e2] at h ⊢
    by_cases c1 : (rRead s 2).ok = false
    · rw [if_pos c1] at h; cases h
    · rw [if_neg c1] at h ⊢
      by_cases c2 : atB s (rRead s 2).next ≠ 10
      · rw [if_pos c2] at h; cases h
      · rw [if_neg c2]
        refine ⟨by simpa using c1, ?_, rfl⟩
        by_cases q : atB s (rRead s 2).next = 10
        · exact q
        · exact absurd q c2
  unfold rLines at hok ⊢
  change (rLinesL s (s.size + 4 + 1) 0 []).2.2 = true at hok
  show _ ∧ _ ∧ ∃ rest, (rLinesL s (s.size + 4 + 1) 0 []).1 = _
  unfold rLinesL at hok ⊢
  rw [if_pos hlt.2] at hok ⊢
  rw [hL] at hok ⊢
  by_cases c : (rRule s 1 ⟨0, fA⟩).2.2 = false
  · rw [if_pos c] at hok; cases hok
  · rw [if_neg c] at hok ⊢
    obtain ⟨q1, q2, q3⟩ := hR (by simpa using c)
    obtain ⟨rest, hr⟩ := rLinesL_pre s _ _ _ hok
    refine ⟨q1, q2, rest, ?_⟩
    rw [hr, q3]; rfl
theorem form_ok {s : ByteArray} (h : (checkF s).1 = 0 ∨ (checkF s).1 = 5) : (rLines s).2.2 = true := by
  cases e : (rLines s).2.2
  · unfold checkF at h
    rw [e] at h
    split at h
    · rcases h with h | h <;> (revert h; decide)
    · rw [if_pos rfl] at h
      rcases h with h | h <;> (dsimp only at h; omega)
  · rfl
theorem read_ok {s : ByteArray} {i : Int} (h : (rRead s i).ok = true) : (lchK s 6 i).ok = true ∧ (rRead s i).next = (lchK s 6 i).next := by
  have hk := lk_chK s 6 i []
  exact ⟨by rw [← h]; exact hk.ok.symm, hk.next⟩
/-- in its brackets a pattern is read as a whole -/
structure IsPat (p : ByteArray) (L : Lang) : Prop where
  ok : (lchK (specX p) 5 4).ok = true
  next : (lchK (specX p) 5 4).next = 4 + p.size
  lang : (lchK (specX p) 5 4).lang = L
section
variable {b p q : ByteArray} {L M : Lang}
theorem specX_3 (b : ByteArray) : atB (specX b) 3 = 40 := (specX_pre b (j := 3) (by omega)).trans (by decide)
theorem specX_2 (b : ByteArray) : atB (specX b) 2 = 120 := (specX_pre b (j := 2) (by omega)).trans (by decide)
theorem specX_inner (hr : (rRead (specX b) 2).ok = true) : (lchK (specX b) 5 4).ok = true ∧ atB (specX b) (lchK (specX b) 5 4).next = 41 := by
  have h2 := (read_ok hr).1
  have ax := atom_x (lgK (specX b) 6) (specX_2 b)
  have px : lPiece (lAtom (lgK (specX b) 6) (specX b)) (specX b) 2 = ⟨3, true, xL⟩ := by
    have e : (2 : Int) + 1 = 3 := rfl
    rw [e] at ax
    rw [← ax]
    exact piece_plain (by rw [ax]) (by rw [ax]; dsimp only; rw [specX_3]; decide)
  have hb := choice_ok h2
  have h3 := branch_ok2 hb (by rw [px]; dsimp only; rw [specX_3]; decide)
  rw [px] at h3
  have h4 := piece_ok h3
  unfold lAtom at h4
  rw [if_pos (specX_3 b)] at h4
  have h4 : (lGroup (lchK (specX b) 5) (specX b) 3).ok = true := h4
  unfold lGroup at h4
  have e : (3 : Int) + 1 = 4 := rfl
  rw [e] at h4
  by_cases c1 : (lchK (specX b) 5 4).ok = false
  · rw [if_pos c1] at h4; cases h4
  · rw [if_neg c1] at h4
    refine ⟨by simpa using c1, ?_⟩
    by_cases c2 : atB (specX b) (lchK (specX b) 5 4).next = 41
    · exact c2
    · rw [if_pos c2] at h4; cases h4
theorem specX_close (b : ByteArray) : atB (specX b) (4 + b.size) = 41 := by
  have := specX_post b (j := 0) (by omega)
  rw [show (4 : Int) + b.size + 0 = 4 + b.size by omega] at this
  rw [this]; decide
theorem specX_nl (b : ByteArray) : atB (specX b) (5 + b.size) = 10 := by
  have := specX_post b (j := 1) (by omega)
  rw [show (4 : Int) + b.size + 1 = 5 + b.size by omega] at this
  rw [this]; decide
theorem specX_whole (h : IsPat b L) : lchK (specX b) 6 2 = ⟨5 + b.size, true, Lang.cat xL L⟩ := by
  have ax := atom_x (lgK (specX b) 6) (specX_2 b)
  have e : (2 : Int) + 1 = 3 := rfl
  rw [e] at ax
  have px : lPiece (lAtom (lgK (specX b) 6) (specX b)) (specX b) 2 = ⟨3, true, xL⟩ := by
    rw [← ax]
    exact piece_plain (by rw [ax]) (by rw [ax]; dsimp only; rw [specX_3]; decide)
  have ag : lAtom (lgK (specX b) 6) (specX b) 3 = ⟨5 + b.size, true, L⟩ := by
    unfold lAtom
    rw [if_pos (specX_3 b)]
    show lGroup (lchK (specX b) 5) (specX b) 3 = _
    unfold lGroup
    have e : (3 : Int) + 1 = 4 := rfl
    rw [e, h.ok, h.next, h.lang, if_neg (by simp), if_neg (by rw [specX_close]; simp)]
    congr 1; omega
  have pg : lPiece (lAtom (lgK (specX b) 6) (specX b)) (specX b) 3 = ⟨5 + b.size, true, L⟩ := by
    rw [← ag]
    exact piece_plain (by rw [ag]) (by rw [ag]; dsimp only; rw [specX_nl]; decide)
  have bb : lBranch (lPiece (lAtom (lgK (specX b) 6) (specX b)) (specX b)) (specX b) 2 = ⟨5 + b.size, true, Lang.cat xL L⟩ := by
    rw [branch_two (by rw [px]) (by rw [px]; dsimp only; rw [specX_3]; decide) (by rw [px]; dsimp only; rw [pg]) (by rw [px]; dsimp only; rw [pg]; dsimp only; rw [specX_nl]; decide), px]
    dsimp only
    rw [pg]
  unfold lchK
  rw [choice_one (by rw [bb]; dsimp only; rw [specX_nl]; decide), bb]
/-- what isPattern asks makes it one -/
theorem isPat_of (h1 : (checkF (specX p)).1 = 0) (h2 : (checkF (specY p)).1 = 0 ∨ (checkF (specY p)).1 = 5) : IsPat p (lchK (specX p) 5 4).lang := by
  obtain ⟨r1, _, _⟩ := rule_zero ((specX_pre p (j := 0) (by omega)).trans (by decide)) ((specX_pre p (j := 1) (by omega)).trans (by decide)) (form_ok (.inl h1))
  obtain ⟨r2, n2, _⟩ := rule_zero ((specY_pre p (j := 0) (by omega)).trans (by decide)) ((specY_pre p (j := 1) (by omega)).trans (by decide)) (form_ok h2)
  obtain ⟨k1, k2⟩ := specX_inner r1
  have g := lg_chK (specX p) 5 4 (by omega) (by rw [specX_size]; omega) k1
  have cl := lch_clean k1
  have le : (lchK (specX p) 5 4).next ≤ 4 + p.size := by
    by_cases q : 5 + p.size < (lchK (specX p) 5 4).next
    · have := cl (5 + p.size) (by omega) q
      rw [specX_nl] at this; omega
    · by_cases q2 : (lchK (specX p) 5 4).next = 5 + p.size
      · rw [q2, specX_nl] at k2; omega
      · omega
  refine ⟨k1, ?_, rfl⟩
  by_cases q : (lchK (specX p) 5 4).next = 4 + p.size
  · exact q
  · exfalso
    obtain ⟨n, hn⟩ : ∃ n : Nat, (lchK (specX p) 5 4).next = 4 + n := ⟨((lchK (specX p) 5 4).next - 4).toNat, by omega⟩
    have hnp : n < p.size := by omega
    have al : Alike (specX p) 4 (specY p) 3 n := fun j hj => by rw [specX_mid p (by omega) (by omega), specY_mid p (by omega) (by omega)]
    have st : atB (specY p) (3 + n) = 41 := by
      rw [specY_mid p (by omega) (by omega), ← specX_mid p (by omega) (by omega), ← hn]; exact k2
    have sm := loc_chK (specX p) (specY p) (show 5 ≤ 6 by omega) 4 3 n (by omega) (by rw [specX_size]; omega) (by omega) al (by rw [st]; decide) k1 (by omega)
    have ah := ahead_x (s := specY p) (k := 6) (i := 2) (by omega) ((specY_pre p (j := 2) (by omega)).trans (by decide)) sm.ok
    have e : (2 : Int) + 1 = 3 := rfl
    rw [e, sm.next, hn, show (4 : Int) + n - 4 + 3 = 3 + n by omega] at ah
    rw [(read_ok r2).2, ah, st] at n2
    omega
/-- a pattern in brackets within another text -/
theorem group_in {s : ByteArray} {i : Int} {k : Nat} (hp : IsPat p L) (hk : k ≤ 5) (h0 : 0 ≤ i) (hi : atB s i = 40) (hmid : ∀ j : Nat, j < p.size → atB s (i + 1 + j) = atB p j) (hend : atB s (i + 1 + p.size) = 41) (hok : (lgK s (k + 1) i).ok = true) :
    lgK s (k + 1) i = ⟨i + p.size + 2, true, L⟩ := by
  have hlt := atB_lt (s := s) (i := i) (by omega)
  have hok : (lGroup (lchK s k) s i).ok = true := hok
  show lGroup (lchK s k) s i = _
  unfold lGroup at hok ⊢
  by_cases c1 : (lchK s k (i + 1)).ok = false
  · rw [if_pos c1] at hok; cases hok
  · have c1' : (lchK s k (i + 1)).ok = true := by simpa using c1
    rw [if_neg c1] at hok ⊢
    by_cases c2 : atB s (lchK s k (i + 1)).next ≠ 41
    · rw [if_pos c2] at hok; cases hok
    · rw [if_neg c2]
      have c2' : atB s (lchK s k (i + 1)).next = 41 := by
        by_cases q : atB s (lchK s k (i + 1)).next = 41
        · exact q
        · exact absurd q c2
      have g := lg_chK s k (i + 1) (by omega) (by omega) c1'
      have up := loc_chK s s hk (i + 1) (i + 1) ((lchK s k (i + 1)).next - (i + 1)).toNat (by omega) (by omega) (by omega) (fun j _ => rfl) (by rw [show i + 1 + (((lchK s k (i + 1)).next - (i + 1)).toNat : Int) = (lchK s k (i + 1)).next by omega, c2']; decide) c1' (by omega)
      have al : Alike (specX p) 4 s (i + 1) p.size := fun j hj => by rw [specX_mid p (by omega) (by omega), hmid j hj]
      have ac := loc_chK (specX p) s (Nat.le_refl 5) 4 (i + 1) p.size (by omega) (by rw [specX_size]; omega) (by omega) al (by rw [hend]; decide) hp.ok (by rw [hp.next]; omega)
      have n1 := up.next
      have n2 := ac.next
      have l1 := up.lang
      have l2 := ac.lang
      rw [hp.lang] at l2
      rw [hp.next] at n2
      rw [n2] at n1
      rw [← l1, l2]
      congr 1; omega
end
end Go.Proofs.Ytdbdkdekeicmhaa
namespace Go.Proofs.Ytdbdkdekeicmhaa
open Go.RowKit
set_option linter.unusedVariables false
set_option linter.unusedSimpArgs false

def openT : ByteArray := ⟨#[40]⟩
def closeT : ByteArray := ⟨#[41]⟩
/-- the patterns that joined makes -/
def eitherT (p q : ByteArray) : ByteArray := openT ++ p ++ ⟨#[41, 124, 40]⟩ ++ q ++ closeT
def bothT (p q : ByteArray) : ByteArray := openT ++ p ++ ⟨#[41, 40]⟩ ++ q ++ closeT
def markT (m : UInt8) (p : ByteArray) : ByteArray := openT ++ p ++ ⟨#[41, m]⟩
theorem open_size : openT.size = 1 := rfl
theorem close_size : closeT.size = 1 := rfl
theorem size2 (a b : UInt8) : (⟨#[a, b]⟩ : ByteArray).size = 2 := rfl
theorem size3 (a b c : UInt8) : (⟨#[a, b, c]⟩ : ByteArray).size = 3 := rfl
/-- a text that begins with a pattern in brackets -/
theorem grp_at (p r : ByteArray) : (openT ++ p ++ r).size = p.size + 1 + r.size ∧ atB (openT ++ p ++ r) 0 = 40 ∧ (∀ j : Int, 0 ≤ j → j < p.size → atB (openT ++ p ++ r) (1 + j) = atB p j) ∧ (∀ j : Int, 0 ≤ j → atB (openT ++ p ++ r) (1 + p.size + j) = atB r j) := by
  refine ⟨by rw [ByteArray.size_append, ByteArray.size_append, open_size]; omega, ?_, fun j h0 h1 => ?_, fun j h0 => ?_⟩
  · rw [atB_app, if_pos (by rw [ByteArray.size_append, open_size]; omega), atB_app, if_pos (by rw [open_size]; omega)]; decide
  · rw [atB_app, if_pos (by rw [ByteArray.size_append, open_size]; omega), atB_app, if_neg (by rw [open_size]; omega), open_size]
    congr 1; omega
  · rw [atB_app, if_neg (by rw [ByteArray.size_append, open_size]; omega), ByteArray.size_append, open_size]
    congr 1; omega
section
variable {p q r : ByteArray} {L M : Lang}
/-- the first brackets -/
theorem first_grp (hp : IsPat p L) (hr : atB r 0 = 41) (hok : (lchK (specX (openT ++ p ++ r)) 5 4).ok = true) : lAtom (lgK (specX (openT ++ p ++ r)) 5) (specX (openT ++ p ++ r)) 4 = ⟨6 + p.size, true, L⟩ := by
  obtain ⟨h1, h2, h3, h4⟩ := grp_at p r
  have hrs := atB_lt (s := r) (i := 0) (by omega)
  generalize openT ++ p ++ r = b at *
  have f4 : atB (specX b) 4 = 40 := by
    have := specX_mid b (j := 0) (by omega) (by omega)
    rw [show (4 : Int) + 0 = 4 from rfl, h2] at this; exact this
  have a1 := piece_ok (branch_ok (choice_ok hok))
  unfold lAtom at a1 ⊢
  rw [if_pos f4] at a1 ⊢
  have key := group_in (s := specX b) (i := 4) (k := 4) hp (by omega) (by omega) f4 (fun j hj => by
    rw [show (4 : Int) + 1 + (j : Int) = 4 + (1 + (j : Int)) by omega, specX_mid b (by omega) (by omega), h3 j (by omega) (by omega)]) (by
    rw [show (4 : Int) + 1 + (p.size : Int) = 4 + (1 + (p.size : Int)) by omega, specX_mid b (by omega) (by omega)]
    have := h4 0 (by omega)
    rw [show (1 : Int) + p.size + 0 = 1 + p.size by omega] at this
    rw [this]; exact hr) a1
  rw [key, show (4 : Int) + p.size + 2 = 6 + p.size by omega]
theorem tail_at (j : Int) (h0 : 0 ≤ j) (hj : j < r.size) : atB (specX (openT ++ p ++ r)) (5 + p.size + j) = atB r j := by
  obtain ⟨h1, h2, h3, h4⟩ := grp_at p r
  generalize openT ++ p ++ r = b at *
  rw [show (5 : Int) + p.size + j = 4 + (1 + p.size + j) by omega, specX_mid b (by omega) (by omega), h4 j h0]
/-- some times -/
theorem mark_pat {m : UInt8} (hm : isMark m.toNat = true) (hp : IsPat p L) (hr : (rRead (specX (markT m p)) 2).ok = true) : IsPat (markT m p) (Lang.rep m.toNat L) := by
  obtain ⟨k1, k2⟩ := specX_inner hr
  unfold markT at *
  have e0 : atB (⟨#[41, m]⟩ : ByteArray) 0 = 41 := rfl
  have e1 : atB (⟨#[41, m]⟩ : ByteArray) 1 = m.toNat := rfl
  have ag := first_grp hp e0 k1
  have t1 := tail_at (p := p) (r := ⟨#[41, m]⟩) 1 (by omega) (by rw [size2]; omega)
  have hc := specX_close (openT ++ p ++ ⟨#[41, m]⟩)
  obtain ⟨hsz, _⟩ := grp_at p ⟨#[41, m]⟩
  rw [size2] at hsz
  generalize openT ++ p ++ (⟨#[41, m]⟩ : ByteArray) = b at *
  rw [e1, show (5 : Int) + p.size + 1 = 6 + p.size by omega] at t1
  rw [hsz, show (4 : Int) + ((p.size + 1 + 2 : Nat) : Int) = 7 + p.size by omega] at hc
  have pg : lPiece (lAtom (lgK (specX b) 5) (specX b)) (specX b) 4 = ⟨7 + p.size, true, Lang.rep m.toNat L⟩ := by
    rw [piece_mark (by rw [ag]) (by rw [ag]; dsimp only; rw [t1]; exact hm) (by rw [ag]; dsimp only; rw [show (6 : Int) + p.size + 1 = 7 + p.size by omega, hc]; decide), ag]
    dsimp only
    rw [t1, show (6 : Int) + p.size + 1 = 7 + p.size by omega]
  have bb : lBranch (lPiece (lAtom (lgK (specX b) 5) (specX b)) (specX b)) (specX b) 4 = ⟨7 + p.size, true, Lang.rep m.toNat L⟩ := by
    rw [branch_one (by rw [pg]; dsimp only; rw [hc]; decide), pg]
  have cc : lchK (specX b) 5 4 = ⟨7 + p.size, true, Lang.rep m.toNat L⟩ := by
    unfold lchK
    rw [choice_one (by rw [bb]; dsimp only; rw [hc]; decide), bb]
  exact ⟨by rw [cc], by rw [cc]; dsimp only; omega, by rw [cc]⟩
/-- the second brackets -/
theorem second_grp {b : ByteArray} {i : Nat} (hq : IsPat q M) (h40 : atB b i = 40) (hmid : ∀ j : Int, 0 ≤ j → j < q.size → atB b (i + 1 + j) = atB q j) (hend : atB b (i + 1 + q.size) = 41) (hsz : b.size = i + q.size + 2) (hok : (lAtom (lgK (specX b) 5) (specX b) (4 + i)).ok = true) :
    lAtom (lgK (specX b) 5) (specX b) (4 + i) = ⟨4 + b.size, true, M⟩ := by
  have f4 : atB (specX b) (4 + i) = 40 := by rw [specX_mid b (by omega) (by omega)]; exact h40
  unfold lAtom at hok ⊢
  rw [if_pos f4] at hok ⊢
  have key := group_in (s := specX b) (i := 4 + i) (k := 4) hq (by omega) (by omega) f4 (fun j hj => by
    rw [show (4 : Int) + i + 1 + (j : Int) = 4 + (i + 1 + (j : Int)) by omega, specX_mid b (by omega) (by omega), hmid j (by omega) (by omega)]) (by
    rw [show (4 : Int) + i + 1 + (q.size : Int) = 4 + (i + 1 + (q.size : Int)) by omega, specX_mid b (by omega) (by omega)]; exact hend) hok
  rw [key, show (4 : Int) + i + q.size + 2 = 4 + b.size by omega]
theorem two_at (a c q : ByteArray) (hc : c = closeT) : (a ++ q ++ c).size = a.size + q.size + 1 ∧ (∀ j : Int, j < a.size → atB (a ++ q ++ c) j = atB a j) ∧ (∀ j : Int, 0 ≤ j → j < q.size → atB (a ++ q ++ c) (a.size + j) = atB q j) ∧ atB (a ++ q ++ c) (a.size + q.size) = 41 := by
  subst hc
  refine ⟨by rw [ByteArray.size_append, ByteArray.size_append, close_size], fun j h => ?_, fun j h0 h => ?_, ?_⟩
  · rw [atB_app, if_pos (by rw [ByteArray.size_append]; omega), atB_app, if_pos h]
  · rw [atB_app, if_pos (by rw [ByteArray.size_append]; omega), atB_app, if_neg (by omega)]
    congr 1; omega
  · rw [atB_app, if_neg (by rw [ByteArray.size_append]; omega), ByteArray.size_append]
    rw [show ((a.size : Int) + q.size - ((a.size + q.size : Nat) : Int)) = 0 by omega]
    rfl
/-- the one or the other -/
theorem either_pat (hp : IsPat p L) (hq : IsPat q M) (hr : (rRead (specX (eitherT p q)) 2).ok = true) : IsPat (eitherT p q) (Lang.alt L M) := by
  obtain ⟨k1, k2⟩ := specX_inner hr
  have hb : eitherT p q = openT ++ p ++ (⟨#[41, 124, 40]⟩ ++ q ++ closeT) := by unfold eitherT; simp only [ByteArray.append_assoc]
  have r0 : ∀ j : Int, j < 3 → atB (⟨#[41, 124, 40]⟩ ++ q ++ closeT) j = atB ⟨#[41, 124, 40]⟩ j := fun j hj => (two_at ⟨#[41, 124, 40]⟩ closeT q rfl).2.1 j (by rw [size3]; omega)
  have rq := (two_at ⟨#[41, 124, 40]⟩ closeT q rfl).2.2.1
  have rc := (two_at ⟨#[41, 124, 40]⟩ closeT q rfl).2.2.2
  have rs := (two_at ⟨#[41, 124, 40]⟩ closeT q rfl).1
  rw [size3] at rq rc rs
  rw [hb] at k1 k2 ⊢
  have e0 := r0 0 (by omega)
  have e1 := r0 1 (by omega)
  have e2 := r0 2 (by omega)
  generalize (⟨#[41, 124, 40]⟩ ++ q ++ closeT : ByteArray) = r at *
  have e0 : atB r 0 = 41 := e0
  have e1 : atB r 1 = 124 := e1
  have e2 : atB r 2 = 40 := e2
  have ag := first_grp hp e0 k1
  have t1 := tail_at (p := p) (r := r) 1 (by omega) (by omega)
  have hc := specX_close (openT ++ p ++ r)
  obtain ⟨hsz, _, _, h4⟩ := grp_at p r
  generalize openT ++ p ++ r = b at *
  rw [e1, show (5 : Int) + p.size + 1 = 6 + p.size by omega] at t1
  have pg : lPiece (lAtom (lgK (specX b) 5) (specX b)) (specX b) 4 = ⟨6 + p.size, true, L⟩ := by
    rw [piece_plain (by rw [ag]) (by rw [ag]; dsimp only; rw [t1]; decide), ag]
  have bg : lBranch (lPiece (lAtom (lgK (specX b) 5) (specX b)) (specX b)) (specX b) 4 = ⟨6 + p.size, true, L⟩ := by
    rw [branch_one (by rw [pg]; dsimp only; rw [t1]; decide), pg]
  have ok2 := choice_ok2 k1 (by rw [bg]; exact t1)
  rw [bg] at ok2
  dsimp only at ok2
  have e7 : (6 : Int) + p.size + 1 = 4 + ((p.size + 3 : Nat) : Int) := by omega
  rw [e7] at ok2
  have aq := second_grp (b := b) (i := p.size + 3) hq (by
      have := h4 2 (by omega); rw [e2] at this
      rw [show ((p.size + 3 : Nat) : Int) = 1 + p.size + 2 by omega]; exact this) (fun j j0 j1 => by
      have := h4 (3 + j) (by omega)
      rw [show ((p.size + 3 : Nat) : Int) + 1 + j = 1 + p.size + (3 + j) by omega, this]
      exact rq j j0 j1) (by
      have := h4 (3 + q.size) (by omega)
      rw [show ((p.size + 3 : Nat) : Int) + 1 + q.size = 1 + p.size + (3 + q.size) by omega, this]
      exact rc) (by omega) (piece_ok (branch_ok ok2))
  have pq : lPiece (lAtom (lgK (specX b) 5) (specX b)) (specX b) (4 + ((p.size + 3 : Nat) : Int)) = ⟨4 + b.size, true, M⟩ := by
    rw [piece_plain (by rw [aq]) (by rw [aq]; dsimp only; rw [hc]; decide), aq]
  have bq : lBranch (lPiece (lAtom (lgK (specX b) 5) (specX b)) (specX b)) (specX b) (4 + ((p.size + 3 : Nat) : Int)) = ⟨4 + b.size, true, M⟩ := by
    rw [branch_one (by rw [pq]; dsimp only; rw [hc]; decide), pq]
  have cc : lchK (specX b) 5 4 = ⟨4 + b.size, true, Lang.alt L M⟩ := by
    unfold lchK
    rw [choice_two (by rw [bg]) (by rw [bg]; exact t1) (by rw [bg]; dsimp only; rw [e7, bq]) (by rw [bg]; dsimp only; rw [e7, bq]; dsimp only; rw [hc]; decide), bg]
    dsimp only
    rw [e7, bq]
  exact ⟨by rw [cc], by rw [cc], by rw [cc]⟩
/-- the one behind the other -/
theorem both_pat (hp : IsPat p L) (hq : IsPat q M) (hr : (rRead (specX (bothT p q)) 2).ok = true) : IsPat (bothT p q) (Lang.cat L M) := by
  obtain ⟨k1, k2⟩ := specX_inner hr
  have hb : bothT p q = openT ++ p ++ (⟨#[41, 40]⟩ ++ q ++ closeT) := by unfold bothT; simp only [ByteArray.append_assoc]
  have r0 : ∀ j : Int, j < 2 → atB (⟨#[41, 40]⟩ ++ q ++ closeT) j = atB ⟨#[41, 40]⟩ j := fun j hj => (two_at ⟨#[41, 40]⟩ closeT q rfl).2.1 j (by rw [size2]; omega)
  have rq := (two_at ⟨#[41, 40]⟩ closeT q rfl).2.2.1
  have rc := (two_at ⟨#[41, 40]⟩ closeT q rfl).2.2.2
  have rs := (two_at ⟨#[41, 40]⟩ closeT q rfl).1
  rw [size2] at rq rc rs
  rw [hb] at k1 k2 ⊢
  have e0 := r0 0 (by omega)
  have e1 := r0 1 (by omega)
  generalize (⟨#[41, 40]⟩ ++ q ++ closeT : ByteArray) = r at *
  have e0 : atB r 0 = 41 := e0
  have e1 : atB r 1 = 40 := e1
  have ag := first_grp hp e0 k1
  have t1 := tail_at (p := p) (r := r) 1 (by omega) (by omega)
  have hc := specX_close (openT ++ p ++ r)
  obtain ⟨hsz, _, _, h4⟩ := grp_at p r
  generalize openT ++ p ++ r = b at *
  rw [e1, show (5 : Int) + p.size + 1 = 6 + p.size by omega] at t1
  have pg : lPiece (lAtom (lgK (specX b) 5) (specX b)) (specX b) 4 = ⟨6 + p.size, true, L⟩ := by
    rw [piece_plain (by rw [ag]) (by rw [ag]; dsimp only; rw [t1]; decide), ag]
  have ok2 := branch_ok2 (choice_ok k1) (by rw [pg]; dsimp only; rw [t1]; decide)
  rw [pg] at ok2
  dsimp only at ok2
  have e7 : (6 : Int) + p.size = 4 + ((p.size + 2 : Nat) : Int) := by omega
  rw [e7] at ok2
  have aq := second_grp (b := b) (i := p.size + 2) hq (by
      have := h4 1 (by omega); rw [e1] at this
      rw [show ((p.size + 2 : Nat) : Int) = 1 + p.size + 1 by omega]; exact this) (fun j j0 j1 => by
      have := h4 (2 + j) (by omega)
      rw [show ((p.size + 2 : Nat) : Int) + 1 + j = 1 + p.size + (2 + j) by omega, this]
      exact rq j j0 j1) (by
      have := h4 (2 + q.size) (by omega)
      rw [show ((p.size + 2 : Nat) : Int) + 1 + q.size = 1 + p.size + (2 + q.size) by omega, this]
      exact rc) (by omega) (piece_ok ok2)
  have pq : lPiece (lAtom (lgK (specX b) 5) (specX b)) (specX b) (4 + ((p.size + 2 : Nat) : Int)) = ⟨4 + b.size, true, M⟩ := by
    rw [piece_plain (by rw [aq]) (by rw [aq]; dsimp only; rw [hc]; decide), aq]
  have bb : lBranch (lPiece (lAtom (lgK (specX b) 5) (specX b)) (specX b)) (specX b) 4 = ⟨4 + b.size, true, Lang.cat L M⟩ := by
    rw [branch_two (by rw [pg]) (by rw [pg]; dsimp only; rw [t1]; decide) (by rw [pg]; dsimp only; rw [e7, pq]) (by rw [pg]; dsimp only; rw [e7, pq]; dsimp only; rw [hc]; decide), pg]
    dsimp only
    rw [e7, pq]
  have cc : lchK (specX b) 5 4 = ⟨4 + b.size, true, Lang.cat L M⟩ := by
    unfold lchK
    rw [choice_one (by rw [bb]; dsimp only; rw [hc]; decide), bb]
  exact ⟨by rw [cc], by rw [cc], by rw [cc]⟩
end
end Go.Proofs.Ytdbdkdekeicmhaa
namespace Go.Proofs.Ytdbdkdekeicmhaa
open Go.RowKit
set_option linter.unusedVariables false
set_option linter.unusedSimpArgs false

theorem atB_nat {s : ByteArray} {n : Nat} (h : n < s.size) : atB s (n : Nat) = s[n].toNat := by
  unfold atB; rw [dif_pos ⟨by omega, by simpa using h⟩]; simp
theorem bytesK_eq (s : ByteArray) (i : Nat) : ∀ k, i + k ≤ s.size → bytesK s i k = (List.range k).map fun j : Nat => (atB s (i + j : Nat)).toNat
  | 0, _ => rfl
  | k + 1, h => by
    have hk : i + k < s.size := by omega
    rw [bytesK, bytesK_eq s i k (by omega), List.range_succ, List.map_append, dif_pos hk]
    congr 1
    have := atB_nat hk
    simp only [List.map_cons, List.map_nil]
    rw [this]; simp
theorem bytesOf_eq (t : ByteArray) : bytesOf t = (List.range t.size).map fun j : Nat => (atB t j).toNat := by
  unfold bytesOf
  rw [bytesK_eq t 0 t.size (by omega)]
  simp
theorem bytesOf_len (t : ByteArray) : (bytesOf t).length = t.size := by rw [bytesOf_eq]; simp
theorem bytesOf_app (a b : ByteArray) : bytesOf (a ++ b) = bytesOf a ++ bytesOf b := by
  apply List.ext_getElem?
  intro j
  by_cases h1 : j < a.size
  · rw [List.getElem?_append_left (by rw [bytesOf_len]; exact h1), bytesOf_eq, bytesOf_eq, List.getElem?_map, List.getElem?_map, List.getElem?_range h1, List.getElem?_range (by rw [ByteArray.size_append]; omega)]
    simp only [Option.map_some]
    rw [atB_app, if_pos (by omega)]
  · rw [List.getElem?_append_right (by rw [bytesOf_len]; omega), bytesOf_len]
    by_cases h2 : j < a.size + b.size
    · rw [bytesOf_eq, bytesOf_eq, List.getElem?_map, List.getElem?_map, List.getElem?_range (by rw [ByteArray.size_append]; exact h2), List.getElem?_range (by omega)]
      simp only [Option.map_some]
      rw [atB_app, if_neg (by omega), show ((j : Int) - a.size) = ((j - a.size : Nat) : Int) by omega]
    · rw [List.getElem?_eq_none (by rw [bytesOf_len, ByteArray.size_append]; omega), List.getElem?_eq_none (by rw [bytesOf_len]; omega)]
theorem cut_app (t : ByteArray) {i : Nat} (hi : i ≤ t.size) : t.extract 0 i ++ t.extract i t.size = t := by
  rw [ByteArray.extract_append_extract]
  simp [Nat.min_eq_left (Nat.zero_le _), Nat.max_eq_right hi]
theorem bytesOf_cut (t : ByteArray) {i : Nat} (hi : i ≤ t.size) : bytesOf (t.extract 0 i) = (bytesOf t).take i ∧ bytesOf (t.extract i t.size) = (bytesOf t).drop i := by
  have h := bytesOf_app (t.extract 0 i) (t.extract i t.size)
  rw [cut_app t hi] at h
  have hl : (bytesOf (t.extract 0 i)).length = i := by rw [bytesOf_len, ByteArray.size_extract]; omega
  rw [h]
  exact ⟨(List.take_left' hl).symm, (List.drop_left' hl).symm⟩
def xT : ByteArray := ⟨#[120]⟩
theorem bytesOf_x (t : ByteArray) : bytesOf (xT ++ t) = 120 :: bytesOf t := by
  rw [bytesOf_app]
  have : bytesOf xT = [120] := by rw [bytesOf_eq]; decide
  rw [this]; rfl
theorem x_has : hasB (withF zero4 120 120) 120 = true := by decide
theorem cat_x {L : Lang} {w : List Nat} : Lang.cat xL L (120 :: w) ↔ L w := by
  constructor
  · rintro ⟨u, v, h1, ⟨c, _, rfl⟩, h3⟩
    rw [List.singleton_append, List.cons.injEq] at h1
    rw [h1.2]; exact h3
  · intro h
    exact ⟨[120], w, rfl, ⟨120, x_has, rfl⟩, h⟩
/-- Match, as matched asks it -/
def mF (b t : ByteArray) : Bool := (matchF (specX b) 0 (xT ++ t)).1
def eF (b t : ByteArray) : Int := (matchF (specX b) 0 (xT ++ t)).2
theorem rule_zero_x {b : ByteArray} (hc : (checkF (specX b)).1 = 0) : (rRead (specX b) 2).ok = true ∧ (rulesOf (specX b))[0]? = some ⟨⟨0, fA⟩, false, (rRead (specX b) 2).ns, (rRead (specX b) 2).st, (rRead (specX b) 2).en, []⟩ := by
  obtain ⟨r1, _, rest, hr⟩ := rule_zero ((specX_pre b (j := 0) (by omega)).trans (by decide)) ((specX_pre b (j := 1) (by omega)).trans (by decide)) (form_ok (.inl hc))
  refine ⟨r1, ?_⟩
  unfold rulesOf
  rw [hr, List.filter_cons_of_pos (by show (!headB ⟨0, fA⟩) = true; decide)]
  rfl
theorem eF_zero {b t : ByteArray} (h : eF b t = 0) : (checkF (specX b)).1 = 0 := by
  unfold eF matchF at h
  by_cases c : errF (specX b) (xT ++ t) ≠ 0
  · rw [if_pos c] at h; exact absurd h c
  · have c' : errF (specX b) (xT ++ t) = 0 := by
      by_cases q : errF (specX b) (xT ++ t) = 0
      · exact q
      · exact absurd q c
    unfold errF at c'
    split at c'
    · cases c'
    · exact c'
theorem eF_ok {b t : ByteArray} (hc : (checkF (specX b)).1 = 0) (ht : t.size < 200) : eF b t = 0 := by
  unfold eF matchF
  have he : errF (specX b) (xT ++ t) = 0 := by
    unfold errF
    rw [if_neg (by rw [ByteArray.size_append]; show ¬ 200 < 1 + t.size; omega)]; exact hc
  rw [if_neg (by rw [he]; simp), if_neg (by omega)]
  rw [show (0 : Int).toNat = 0 from rfl, (rule_zero_x hc).2]
theorem mF_is {b t : ByteArray} {L : Lang} (h : IsPat b L) (hc : (checkF (specX b)).1 = 0) (ht : t.size < 200) : mF b t = true ↔ L (bytesOf t) := by
  unfold mF matchF
  have he : errF (specX b) (xT ++ t) = 0 := by
    unfold errF
    rw [if_neg (by rw [ByteArray.size_append]; show ¬ 200 < 1 + t.size; omega)]; exact hc
  obtain ⟨q1, q2⟩ := rule_zero_x hc
  rw [if_neg (by rw [he]; simp), if_neg (by omega), show (0 : Int).toNat = 0 from rfl, q2]
  dsimp only
  rw [match_lang q1, specX_whole h, bytesOf_x]
  exact cat_x
/-- split -/
def splitF (p q t : ByteArray) (n : Nat) : Bool := (List.range (t.size + 1)).any fun i => decide (n ≤ i) && (mF p (t.extract 0 i) && mF q (t.extract i t.size))
section
variable {p q t : ByteArray} {L M : Lang}
theorem split_is (hp : IsPat p L) (cp : (checkF (specX p)).1 = 0) (hq : IsPat q M) (cq : (checkF (specX q)).1 = 0) (ht : t.size < 200) (n : Nat) : splitF p q t n = true ↔ ∃ u v, bytesOf t = u ++ v ∧ n ≤ u.length ∧ L u ∧ M v := by
  have hx : ∀ i, i ≤ t.size → (mF p (t.extract 0 i) = true ↔ L ((bytesOf t).take i)) ∧ (mF q (t.extract i t.size) = true ↔ M ((bytesOf t).drop i)) := fun i hi => by
    obtain ⟨e1, e2⟩ := bytesOf_cut t hi
    rw [mF_is hp cp (by rw [ByteArray.size_extract]; omega), mF_is hq cq (by rw [ByteArray.size_extract]; omega), e1, e2]
    exact ⟨Iff.rfl, Iff.rfl⟩
  unfold splitF
  rw [List.any_eq_true]
  constructor
  · rintro ⟨i, hi, h⟩
    rw [List.mem_range] at hi
    rw [Bool.and_eq_true, Bool.and_eq_true, decide_eq_true_eq] at h
    obtain ⟨x1, x2⟩ := hx i (by omega)
    exact ⟨(bytesOf t).take i, (bytesOf t).drop i, (List.take_append_drop i _).symm, by rw [List.length_take, bytesOf_len]; omega, x1.1 h.2.1, x2.1 h.2.2⟩
  · rintro ⟨u, v, h1, h2, h3, h4⟩
    have hl := congrArg List.length h1
    rw [bytesOf_len, List.length_append] at hl
    obtain ⟨x1, x2⟩ := hx u.length (by omega)
    refine ⟨u.length, List.mem_range.2 (by omega), ?_⟩
    rw [Bool.and_eq_true, Bool.and_eq_true, decide_eq_true_eq]
    refine ⟨h2, x1.2 ?_, x2.2 ?_⟩
    · rw [h1, List.take_left' rfl]; exact h3
    · rw [h1, List.drop_left' rfl]; exact h4
theorem rep_star {w : List Nat} : Lang.rep 42 L w ↔ w = [] ∨ ∃ u v, w = u ++ v ∧ 1 ≤ u.length ∧ L u ∧ Lang.rep 42 L v := by
  constructor
  · rintro ⟨ws, h1, rfl, _, _⟩
    induction ws with
    | nil => exact .inl rfl
    | cons u ws ih =>
      cases u with
      | nil => simpa using ih (fun x hx => h1 x (List.mem_cons_of_mem _ hx))
      | cons c u => exact .inr ⟨c :: u, ws.flatten, rfl, by simp, h1 _ (by simp), ws, fun x hx => h1 x (List.mem_cons_of_mem _ hx), rfl, fun e => absurd e (by decide), fun e => absurd e (by decide)⟩
  · rintro (rfl | ⟨u, v, rfl, _, h3, ws, h4, rfl, _, _⟩)
    · exact ⟨[], by simp, rfl, fun e => absurd e (by decide), fun e => absurd e (by decide)⟩
    · refine ⟨u :: ws, fun x hx => ?_, rfl, fun e => absurd e (by decide), fun e => absurd e (by decide)⟩
      rcases List.mem_cons.1 hx with rfl | hx
      · exact h3
      · exact h4 x hx
theorem rep_plus {w : List Nat} : Lang.rep 43 L w ↔ ∃ u v, w = u ++ v ∧ 0 ≤ u.length ∧ L u ∧ Lang.rep 42 L v := by
  constructor
  · rintro ⟨ws, h1, rfl, h2, _⟩
    cases ws with
    | nil => exact absurd rfl (h2 rfl)
    | cons u ws => exact ⟨u, ws.flatten, rfl, by omega, h1 _ (by simp), ws, fun x hx => h1 x (List.mem_cons_of_mem _ hx), rfl, fun e => absurd e (by decide), fun e => absurd e (by decide)⟩
  · rintro ⟨u, v, rfl, _, h3, ws, h4, rfl, _, _⟩
    refine ⟨u :: ws, fun x hx => ?_, rfl, fun _ => by simp, fun e => absurd e (by decide)⟩
    rcases List.mem_cons.1 hx with rfl | hx
    · exact h3
    · exact h4 x hx
theorem rep_opt {w : List Nat} : Lang.rep 63 L w ↔ L w ∨ w = [] := by
  constructor
  · rintro ⟨ws, h1, rfl, _, h3⟩
    cases ws with
    | nil => exact .inr rfl
    | cons u ws =>
      have := h3 rfl
      cases ws with
      | nil => exact .inl (by simpa using h1 u (by simp))
      | cons v ws => simp at this
  · rintro (h | rfl)
    · exact ⟨[w], by simpa using h, by simp, fun e => absurd e (by decide), fun _ => by simp⟩
    · exact ⟨[], by simp, rfl, fun e => absurd e (by decide), fun _ => by simp⟩
theorem bytes_nil : bytesOf t = [] ↔ t.size = 0 := by
  rw [← List.length_eq_zero_iff, bytesOf_len]
/-- what joined asks -/
structure Joins (p q t : ByteArray) : Prop where
  either : mF (eitherT p q) t = (mF p t || mF q t)
  both : mF (bothT p q) t = splitF p q t 0
  many : mF (markT 42 p) t = (decide (t.size = 0) || splitF p (markT 42 p) t 1)
  once : mF (markT 43 p) t = splitF p (markT 42 p) t 0
  maybe : mF (markT 63 p) t = (mF p t || decide (t.size = 0))
theorem joins_of (h1 : (checkF (specX p)).1 = 0) (h2 : (checkF (specY p)).1 = 0 ∨ (checkF (specY p)).1 = 5) (h3 : (checkF (specX q)).1 = 0) (h4 : (checkF (specY q)).1 = 0 ∨ (checkF (specY q)).1 = 5) (ht : t.size < 200)
    (e1 : eF (eitherT p q) t = 0) (e2 : eF (bothT p q) t = 0) (e3 : eF (markT 42 p) t = 0) (e4 : eF (markT 43 p) t = 0) (e5 : eF (markT 63 p) t = 0) : Joins p q t := by
  have hp := isPat_of h1 h2
  have hq := isPat_of h3 h4
  have c1 := eF_zero e1
  have c2 := eF_zero e2
  have c3 := eF_zero e3
  have c4 := eF_zero e4
  have c5 := eF_zero e5
  have p1 := either_pat hp hq (rule_zero_x c1).1
  have p2 := both_pat hp hq (rule_zero_x c2).1
  have p3 := mark_pat (m := 42) (by decide) hp (rule_zero_x c3).1
  have p4 := mark_pat (m := 43) (by decide) hp (rule_zero_x c4).1
  have p5 := mark_pat (m := 63) (by decide) hp (rule_zero_x c5).1
  have n42 : ((42 : UInt8).toNat : Int) = 42 := by decide
  have n43 : ((43 : UInt8).toNat : Int) = 43 := by decide
  have n63 : ((63 : UInt8).toNat : Int) = 63 := by decide
  rw [n42] at p3
  rw [n43] at p4
  rw [n63] at p5
  refine ⟨?_, ?_, ?_, ?_, ?_⟩
  · rw [Bool.eq_iff_iff, Bool.or_eq_true, mF_is p1 c1 ht, mF_is hp h1 ht, mF_is hq h3 ht]; exact Iff.rfl
  · rw [Bool.eq_iff_iff, mF_is p2 c2 ht, split_is hp h1 hq h3 ht]
    constructor
    · rintro ⟨u, v, x1, x2, x3⟩; exact ⟨u, v, x1, by omega, x2, x3⟩
    · rintro ⟨u, v, x1, _, x2, x3⟩; exact ⟨u, v, x1, x2, x3⟩
  · rw [Bool.eq_iff_iff, Bool.or_eq_true, decide_eq_true_eq, mF_is p3 c3 ht, split_is hp h1 p3 c3 ht, rep_star, bytes_nil]
  · rw [Bool.eq_iff_iff, mF_is p4 c4 ht, split_is hp h1 p3 c3 ht, rep_plus]
  · rw [Bool.eq_iff_iff, Bool.or_eq_true, decide_eq_true_eq, mF_is p5 c5 ht, mF_is hp h1 ht, rep_opt, bytes_nil]
end
end Go.Proofs.Ytdbdkdekeicmhaa
