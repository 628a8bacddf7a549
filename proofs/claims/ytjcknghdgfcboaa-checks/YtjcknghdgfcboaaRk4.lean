import Derived.Test.YtjcknghdgfcboaaRk2
namespace Go.Proofs.Ytjcknghdgfcboaa
open Go.RowKit
set_option linter.unusedVariables false
set_option linter.unusedSimpArgs false

theorem rules_by {s : ByteArray} {xs : List ZLV} (hs : s.size ≤ 800) (h : ReadOk s xs) : RulesBy (rulesOf s) (sortL noSP xs).1.rules := by
  obtain ⟨e1, e2⟩ := rules_two h
  refine ⟨e1, fun k x z h1 h2 => ?_⟩
  obtain ⟨y1, L, y2, y3, y4⟩ := e2 k x z h1 h2
  exact ⟨y1, L, y2, by omega, y4⟩
theorem lexF_len (s t : ByteArray) : (lexF s t).1.length ≤ 100000 := by
  unfold lexF
  split
  · simp
  · rename_i h
    have ht : t.size ≤ 200 := by
      by_cases q : 200 < t.size
      · exfalso; apply h; unfold errF; rw [if_pos q]; omega
      · omega
    have hct := cut_two (rulesOf s) t (t.size + 1) 0 [] (by omega) (by omega)
    obtain ⟨z1, z2, z3⟩ := zcutL_ok (rulesOf s) t (t.size + 1) 0 [] (by omega) (by simp) (fun k hk => by (cases hk))
    rw [List.filter_nil] at hct
    unfold cutF
    rw [hct]
    split
    · simp
    · dsimp only
      have := List.length_filter_le (fun k : Tk => !skipB (rulesOf s) k.r) (zcutL (rulesOf s) t (t.size + 1) 0 []).1
      omega
end Go.Proofs.Ytjcknghdgfcboaa
namespace Go.Proofs.Ytjcknghdgfcboaa
open Go.RowKit
set_option linter.unusedVariables false
set_option linter.unusedSimpArgs false

section
variable {s : ByteArray} {i : Int}
/-- all that is read is clean, whether it fails or not -/
theorem rMark_cl : Clean s i (rMark s i).2.1 := by
  cases h : (rMark s i).2.2
  · have : (rMark s i).2.1 = i := by
      unfold rMark at h ⊢
      split
      · rename_i e; rw [if_pos e] at h; cases h
      · rename_i e; rw [if_neg e] at h
        split
        · rename_i e2; rw [if_pos e2] at h; cases h
        · rename_i e2; rw [if_neg e2] at h
          split
          · rfl
          · rename_i e3; rw [if_neg e3] at h; cases h
    rw [this]; exact Clean.nil
  · exact rMark_clean h
theorem rEnd_cl : Clean s i (rEnd s i).2.1 := by
  cases h : (rEnd s i).2.2
  · unfold rEnd at h ⊢
    split
    · rename_i e
      exact (Clean.one (by omega)).trans rMark_cl
    · rename_i e; rw [if_neg e] at h
      split
      · exact Clean.nil
      · rename_i e2; rw [if_neg e2] at h
        split
        · exact Clean.nil
        · rename_i e3; rw [if_neg e3] at h; cases h
  · exact rEnd_clean h
theorem Clean.less {j k : Int} (h : Clean s i j) (hk : k ≤ j) : Clean s i k := fun m h1 h2 => h m h1 (by omega)
theorem rRange_cl : Clean s i (rRange s i).2.2.1 := by
  have c1 := rEnd_cl (s := s) (i := i)
  have c2 := rEnd_cl (s := s) (i := (rEnd s i).2.1 + 1)
  unfold rRange
  split
  · exact c1
  · split
    · exact c1
    · rename_i e
      have e' : atB s (rEnd s i).2.1 = 45 := by
        by_cases q : atB s (rEnd s i).2.1 = 45
        · exact q
        · exact absurd q e
      have c3 := (c1.trans (Clean.one (by omega))).trans c2
      split
      · exact c3
      · split
        · dsimp only; exact c3.less (by omega)
        · exact c3
theorem rEndsL_cl {j : Int} : ∀ (f : Nat) (next : Int) (ws : List Int), Clean s j next → Clean s j (rEndsL s i f next ws).2.1
  | 0, next, ws, h => h
  | f + 1, next, ws, h => by
    rw [rEndsL_s]
    split
    · split
      · exact h.trans rRange_cl
      · exact rEndsL_cl f _ _ (h.trans rRange_cl)
    · rename_i e
      have : atB s next = 93 := by
        by_cases h1 : atB s next = 93
        · exact h1
        · exact absurd (.inr h1) e
      exact h.trans (Clean.one (by omega))
theorem rBr_cl : Clean s i (rBr s i).2.1 := by
  unfold rBr
  split
  · rename_i e; exact rEndsL_cl _ _ _ (Clean.one (by omega))
  · exact rEndsL_cl _ _ _ Clean.nil
theorem rSet_cl : Clean s i (rSet s i).2.1 := by
  unfold rSet
  split
  · exact Clean.one (by omega)
  · split
    · exact (Clean.one (by omega)).trans rBr_cl
    · split
      · exact (Clean.one (by omega)).trans rMark_cl
      · split
        · exact Clean.nil
        · rename_i e; exact Clean.one (plain_ge (by simpa using e))
end
def ClnF (s : ByteArray) (l : Int → LR) : Prop := ∀ i : Int, Clean s i (l i).next
section
variable {s : ByteArray}
theorem cln_atom {g : Int → LR} (hg : ∀ i, atB s i = 40 → Clean s i (g i).next) : ClnF s (lAtom g s) := by
  intro i
  unfold lAtom
  split
  · rename_i e; exact hg i e
  · split <;> exact rSet_cl
theorem cln_pieceL {i : Int} : ∀ (f : Nat) (r : LR), Clean s i r.next → Clean s i (lPieceL s f r).next
  | 0, r, h => h
  | f + 1, r, h => by
    rw [lPieceL_s]
    split
    · rename_i e
      rw [Bool.and_eq_true] at e
      exact cln_pieceL f _ (h.trans (Clean.one (mark_ge e.2)))
    · exact h
theorem cln_piece {a : Int → LR} (ha : ClnF s a) : ClnF s (lPiece a s) := fun i => cln_pieceL _ _ (ha i)
theorem cln_branchL {p : Int → LR} (hp : ClnF s p) {i : Int} : ∀ (f : Nat) (r : LR), Clean s i r.next → Clean s i (lBranchL p s f r).next
  | 0, r, h => h
  | f + 1, r, h => by
    rw [lBranchL_s]
    split
    · refine cln_branchL hp f _ ?_
      unfold lJoin
      split <;> exact h.trans (hp _)
    · exact h
theorem cln_branch {p : Int → LR} (hp : ClnF s p) : ClnF s (lBranch p s) := fun i => cln_branchL hp _ _ (hp i)
theorem cln_choiceL {p : Int → LR} (hp : ClnF s p) {i : Int} : ∀ (f : Nat) (r : LR), Clean s i r.next → Clean s i (lChoiceL p s f r).next
  | 0, r, h => h
  | f + 1, r, h => by
    rw [lChoiceL_s]
    split
    · rename_i e
      rw [Bool.and_eq_true] at e
      have e2 : atB s r.next = 124 := by simpa using e.2
      refine cln_choiceL hp f _ ?_
      unfold lEither
      split <;> exact (h.trans (Clean.one (by omega))).trans (hp _)
    · exact h
theorem cln_choice {p : Int → LR} (hp : ClnF s p) : ClnF s (lChoice p s) := fun i => cln_choiceL hp _ _ (hp i)
theorem cln_group {c : Int → LR} (hc : ClnF s c) (i : Int) (h40 : atB s i = 40) : Clean s i (lGroup c s i).next := by
  have h1 := (Clean.one (s := s) (i := i) (by omega)).trans (hc (i + 1))
  unfold lGroup
  split
  · exact h1
  · split
    · exact h1
    · rename_i e
      have e' : atB s (c (i + 1)).next = 41 := by
        by_cases q : atB s (c (i + 1)).next = 41
        · exact q
        · exact absurd q e
      exact h1.trans (Clean.one (by omega))
end
theorem cln_gK (s : ByteArray) : ∀ (k : Nat) (i : Int), atB s i = 40 → Clean s i (lgK s k i).next
  | 0, i, _ => Clean.nil
  | k + 1, i, h => cln_group (cln_choice (cln_branch (cln_piece (cln_atom (cln_gK s k))))) i h
theorem cln_chK (s : ByteArray) (k : Nat) : ClnF s (lchK s k) := cln_choice (cln_branch (cln_piece (cln_atom (cln_gK s k))))

/-- what is read goes on, or stands -/
def LoF (s : ByteArray) (l : Int → LR) : Prop := ∀ i : Int, 0 ≤ i → i ≤ s.size → i ≤ (l i).next
theorem lo_of {s : ByteArray} {f : Int → List Node → PR} {l : Int → LR} (h : GoodF s f) (k : LkF f l) : LoF s l := fun i h0 h1 => by
  have h2 := (h i [] h0 h1).lo
  rw [(k i []).next] at h2; exact h2
theorem lo_atom (s : ByteArray) (k : Nat) : LoF s (lAtom (lgK s k) s) := lo_of (good_atom' (good_gK s k)) (lk_atom (lk_gK s k))
theorem lo_piece (s : ByteArray) (k : Nat) : LoF s (lPiece (lAtom (lgK s k) s) s) := lo_of (good_piece (good_atom' (good_gK s k))) (lk_piece (lk_atom (lk_gK s k)))
theorem lo_branch (s : ByteArray) (k : Nat) : LoF s (lBranch (lPiece (lAtom (lgK s k) s) s) s) := lo_of (good_branch (good_piece (good_atom' (good_gK s k)))) (lk_branch (lk_piece (lk_atom (lk_gK s k))))
theorem lo_chK (s : ByteArray) (k : Nat) : LoF s (lchK s k) := lo_of (good_chK s k) (lk_chK s k)
/-- clean up to there: it lies in the text -/
theorem Clean.in' {s : ByteArray} {i j : Int} (h : Clean s i j) (hi : i ≤ s.size) : j ≤ s.size := by
  by_cases q : j ≤ s.size
  · exact q
  · exfalso
    have := h s.size hi (by omega)
    rw [atB_out (by omega)] at this; omega
end Go.Proofs.Ytjcknghdgfcboaa
namespace Go.Proofs.Ytjcknghdgfcboaa
open Go.RowKit
set_option linter.unusedVariables false
set_option linter.unusedSimpArgs false

section
variable {s s' : ByteArray} {i i' : Int} {n : Nat}
theorem rMark_det (h : Alike s i s' i' n) (hn : 0 < n) : rMark s' i' = ((rMark s i).1, (rMark s i).2.1 - i + i', (rMark s i).2.2) := by
  unfold rMark
  rw [h.at0 hn]
  split
  · dsimp only; rw [show i + 1 - i + i' = i' + 1 by omega]
  · split
    · dsimp only; rw [show i + 1 - i + i' = i' + 1 by omega]
    · split
      · dsimp only; rw [show i - i + i' = i' by omega]
      · dsimp only; rw [show i + 1 - i + i' = i' + 1 by omega]
theorem rMark_nx (s : ByteArray) (i : Int) : i ≤ (rMark s i).2.1 := by
  unfold rMark
  split
  · dsimp only; omega
  · split
    · dsimp only; omega
    · split <;> dsimp only <;> omega
theorem rEnd_nx (s : ByteArray) (i : Int) : i ≤ (rEnd s i).2.1 := by
  unfold rEnd
  split
  · have := rMark_nx s (i + 1); omega
  · split
    · dsimp only; omega
    · split <;> dsimp only <;> omega
theorem rEnd_det (h : Alike s i s' i' n) (hn : (rEnd s i).2.1 < i + n ∨ ((rEnd s i).2.2 = true ∧ (rEnd s i).2.1 ≤ i + n ∧ i < (rEnd s i).2.1)) : rEnd s' i' = ((rEnd s i).1, (rEnd s i).2.1 - i + i', (rEnd s i).2.2) := by
  have hnx := rEnd_nx s i
  have hpos : 0 < n := by omega
  have e := h.at0 hpos
  unfold rEnd at hn ⊢
  rw [e]
  by_cases c : atB s i = 92
  · rw [if_pos c] at hn ⊢
    rw [if_pos c]
    have hm := rMark_nx s (i + 1)
    have h2 : 0 < n - 1 := by
      rcases hn with q | ⟨q1, q2, q3⟩
      · omega
      · have : (rMark s (i + 1)).2.1 = i + 2 := by
          unfold rMark at q1 ⊢
          split
          · dsimp only; omega
          · rename_i e1; rw [if_neg e1] at q1
            split
            · dsimp only; omega
            · rename_i e2; rw [if_neg e2] at q1
              split
              · rename_i e3; rw [if_pos e3] at q1; cases q1
              · dsimp only; omega
        omega
    rw [rMark_det h.tail h2, show (rMark s (i + 1)).2.1 - (i + 1) + (i' + 1) = (rMark s (i + 1)).2.1 - i + i' by omega]
  · rw [if_neg c] at hn ⊢
    rw [if_neg c]
    split
    · dsimp only; rw [show i - i + i' = i' by omega]
    · split
      · dsimp only; rw [show i - i + i' = i' by omega]
      · dsimp only; rw [show i + 1 - i + i' = i' + 1 by omega]
theorem rEnd_ok_lt {s : ByteArray} {i : Int} (h : (rEnd s i).2.2 = true) : i < (rEnd s i).2.1 := by
  unfold rEnd at h ⊢
  split
  · have := rMark_nx s (i + 1); omega
  · rename_i e; rw [if_neg e] at h
    split
    · rename_i e2; rw [if_pos e2] at h; cases h
    · rename_i e2; rw [if_neg e2] at h
      split
      · rename_i e3; rw [if_pos e3] at h; cases h
      · dsimp only; omega
theorem rRange_det (h : Alike s i s' i' n) (hn : (rRange s i).2.2.1 < i + n) : rRange s' i' = ((rRange s i).1, (rRange s i).2.1, (rRange s i).2.2.1 - i + i', (rRange s i).2.2.2) := by
  have n1 := rEnd_nx s i
  unfold rRange at hn ⊢
  by_cases c1 : (rEnd s i).2.2 = false
  · rw [if_pos c1] at hn ⊢
    rw [rEnd_det h (.inl hn), if_pos c1]
  · have c1' : (rEnd s i).2.2 = true := by simpa using c1
    have hlt := rEnd_ok_lt c1'
    rw [if_neg c1] at hn ⊢
    by_cases c2 : atB s (rEnd s i).2.1 ≠ 45
    · rw [if_pos c2] at hn ⊢
      have a1 := h.atK n1 (x := (rEnd s i).2.1) hn
      rw [rEnd_det h (.inl hn), if_neg c1]
      dsimp only
      rw [a1, if_pos c2]
    · rw [if_neg c2] at hn ⊢
      have n2 := rEnd_nx s ((rEnd s i).2.1 + 1)
      have hh := h.on ((rEnd s i).2.1 + 1 - i).toNat
      rw [show i + (((rEnd s i).2.1 + 1 - i).toNat : Int) = (rEnd s i).2.1 + 1 by omega, show i' + (((rEnd s i).2.1 + 1 - i).toNat : Int) = (rEnd s i).2.1 - i + i' + 1 by omega] at hh
      by_cases c3 : (rEnd s ((rEnd s i).2.1 + 1)).2.2 = false
      · rw [if_pos c3] at hn ⊢
        dsimp only at hn
        have a1 := h.atK n1 (x := (rEnd s i).2.1) (by omega)
        have d2 := rEnd_det hh (.inl (by omega))
        rw [rEnd_det h (.inl (by omega)), if_neg c1]
        dsimp only
        rw [a1, if_neg c2, d2, if_pos c3]
        dsimp only
        rw [show (rEnd s ((rEnd s i).2.1 + 1)).2.1 - ((rEnd s i).2.1 + 1) + ((rEnd s i).2.1 - i + i' + 1) = (rEnd s ((rEnd s i).2.1 + 1)).2.1 - i + i' by omega]
      · have c3' : (rEnd s ((rEnd s i).2.1 + 1)).2.2 = true := by simpa using c3
        have hlt2 := rEnd_ok_lt c3'
        rw [if_neg c3] at hn ⊢
        have hn2 : (rEnd s ((rEnd s i).2.1 + 1)).2.1 ≤ i + n := by
          by_cases c4 : (rEnd s ((rEnd s i).2.1 + 1)).1 < (rEnd s i).1
          · rw [if_pos c4] at hn; dsimp only at hn; omega
          · rw [if_neg c4] at hn; dsimp only at hn; omega
        have a1 := h.atK n1 (x := (rEnd s i).2.1) (by omega)
        have d2 := rEnd_det hh (.inr ⟨c3', by omega, hlt2⟩)
        rw [rEnd_det h (.inl (by omega)), if_neg c1]
        dsimp only
        rw [a1, if_neg c2, d2, if_neg c3]
        dsimp only
        split
        · dsimp only
          rw [show (rEnd s ((rEnd s i).2.1 + 1)).2.1 - ((rEnd s i).2.1 + 1) + ((rEnd s i).2.1 - i + i' + 1) - 1 = (rEnd s ((rEnd s i).2.1 + 1)).2.1 - 1 - i + i' by omega]
        · dsimp only
          rw [show (rEnd s ((rEnd s i).2.1 + 1)).2.1 - ((rEnd s i).2.1 + 1) + ((rEnd s i).2.1 - i + i' + 1) = (rEnd s ((rEnd s i).2.1 + 1)).2.1 - i + i' by omega]
theorem rRange_nx (s : ByteArray) (i : Int) : i ≤ (rRange s i).2.2.1 := by
  have n1 := rEnd_nx s i
  have n2 := rEnd_nx s ((rEnd s i).2.1 + 1)
  unfold rRange
  split
  · dsimp only; omega
  · split
    · dsimp only; omega
    · split
      · dsimp only; omega
      · split <;> dsimp only <;> omega
theorem rEndsL_nx {s : ByteArray} {i : Int} : ∀ (f : Nat) (next : Int) (ws : List Int), next ≤ (rEndsL s i f next ws).2.1
  | 0, next, ws => by simp [rEndsL]
  | f + 1, next, ws => by
    rw [rEndsL_s]
    have := rRange_nx s next
    split
    · split
      · dsimp only; omega
      · have := rEndsL_nx (s := s) (i := i) f (rRange s next).2.2.1 (withF ws (rRange s next).1 (rRange s next).2.1)
        omega
    · dsimp only; omega
theorem rEndsL_det (h : Alike s i s' i' n) (h0 : 0 ≤ i) (h0' : 0 ≤ i') (hin : i + n ≤ s.size) : ∀ (f : Nat) (next : Int) (ws : List Int), i ≤ next → (s.size : Int) + 1 ≤ f + next → (rEndsL s i f next ws).2.1 < i + n → ∀ (f' : Nat) (ws' : List Int), (s'.size : Int) + 1 ≤ f' + (next - i + i') →
    (rEndsL s' i' f' (next - i + i') ws').2.2 = (rEndsL s i f next ws).2.2 ∧ (rEndsL s' i' f' (next - i + i') ws').2.1 = (rEndsL s i f next ws).2.1 - i + i'
  | 0, next, ws, hi, hf, hn, f', ws', hf' => by simp [rEndsL] at hn; omega
  | f + 1, next, ws, hi, hf, hn, f', ws', hf' => by
    have hnx := rEndsL_nx (s := s) (i := i) (f + 1) next ws
    have a1 := h.atK hi (x := next) (by omega)
    have a2 : next - i + i' < s'.size := by
      have q : atB s next ≠ -1 := by
        obtain ⟨m, rfl⟩ : ∃ m : Nat, next = m := ⟨next.toNat, by omega⟩
        rw [atB_ix (by omega)]; omega
      have := atB_lt (s := s') (i := next - i + i') (by rw [a1]; exact q)
      omega
    obtain ⟨f', rfl⟩ : ∃ k, f' = k + 1 := ⟨f' - 1, by omega⟩
    have hh := h.on (next - i).toNat
    rw [show i + ((next - i).toNat : Int) = next by omega, show i' + ((next - i).toNat : Int) = next - i + i' by omega] at hh
    have hrx := rRange_nx s next
    rw [rEndsL_s] at hn hnx ⊢
    rw [rEndsL_s]
    by_cases c1 : next = i ∨ atB s next ≠ 93
    · have c1' : next - i + i' = i' ∨ atB s' (next - i + i') ≠ 93 := by
        rcases c1 with q | q
        · left; omega
        · right; rw [a1]; exact q
      rw [if_pos c1] at hn ⊢
      rw [if_pos c1']
      by_cases c2 : (rRange s next).2.2.2 = false
      · rw [if_pos c2] at hn ⊢
        dsimp only at hn
        rw [rRange_det hh (by omega), if_pos c2]
        dsimp only
        exact ⟨rfl, by omega⟩
      · rw [if_neg c2] at hn ⊢
        have hlt := rEndsL_nx (s := s) (i := i) f (rRange s next).2.2.1 (withF ws (rRange s next).1 (rRange s next).2.1)
        obtain ⟨b1, b2, b3, b4, b5, b6, b7⟩ := rRange_bd s next (by omega)
        have b8 := b7 (by simpa using c2)
        rw [rRange_det hh (by omega), if_neg c2]
        dsimp only
        rw [show (rRange s next).2.2.1 - next + (next - i + i') = (rRange s next).2.2.1 - i + i' by omega]
        exact rEndsL_det h h0 h0' hin f _ _ (by omega) (by omega) hn f' _ (by omega)
    · have c1' : ¬ (next - i + i' = i' ∨ atB s' (next - i + i') ≠ 93) := by
        rintro (q | q)
        · exact c1 (.inl (by omega))
        · rw [a1] at q; exact c1 (.inr q)
      rw [if_neg c1, if_neg c1']
      dsimp only
      exact ⟨rfl, by omega⟩
theorem rBr_det (h : Alike s i s' i' n) (h0 : 0 ≤ i) (h0' : 0 ≤ i') (hin : i + n ≤ s.size) (hn : (rBr s i).2.1 < i + n) : (rBr s' i').2.2 = (rBr s i).2.2 ∧ (rBr s' i').2.1 = (rBr s i).2.1 - i + i' := by
  unfold rBr at hn ⊢
  by_cases c : atB s i = 94
  · rw [if_pos c] at hn ⊢
    dsimp only at hn ⊢
    have hx := rEndsL_nx (s := s) (i := i + 1) (s.size + 5) (i + 1) zero4
    unfold rEnds at hn ⊢
    have a1 := h.at0 (by omega)
    rw [if_pos (by rw [a1]; exact c)]
    have d := rEndsL_det h.tail (by omega) (by omega) (by omega) (s.size + 5) (i + 1) zero4 (Int.le_refl _) (by omega) (by omega) (s'.size + 5) zero4 (by omega)
    rw [show i + 1 - (i + 1) + (i' + 1) = i' + 1 by omega] at d
    exact ⟨d.1, by dsimp only; rw [d.2]; omega⟩
  · rw [if_neg c] at hn ⊢
    unfold rEnds at hn ⊢
    have hx := rEndsL_nx (s := s) (i := i) (s.size + 5) i zero4
    have a1 := h.at0 (by omega)
    rw [if_neg (by rw [a1]; exact c)]
    have d := rEndsL_det h h0 h0' hin (s.size + 5) i zero4 (Int.le_refl _) (by omega) hn (s'.size + 5) zero4 (by omega)
    rw [show i - i + i' = i' by omega] at d
    exact d
theorem rSet_det (h : Alike s i s' i' n) (h0 : 0 ≤ i) (h0' : 0 ≤ i') (hin : i + n ≤ s.size) (hpos : 0 < n) (hn : (rSet s i).2.1 < i + n) : (rSet s' i').2.2 = (rSet s i).2.2 ∧ (rSet s' i').2.1 = (rSet s i).2.1 - i + i' := by
  have a1 := h.at0 hpos
  unfold rSet at hn ⊢
  rw [a1]
  by_cases c1 : atB s i = 46
  · rw [if_pos c1, if_pos c1]; dsimp only; exact ⟨rfl, by omega⟩
  · rw [if_neg c1] at hn ⊢
    rw [if_neg c1]
    by_cases c2 : atB s i = 91
    · rw [if_pos c2] at hn ⊢
      rw [if_pos c2]
      have d := rBr_det h.tail (by omega) (by omega) (by omega) (by omega)
      exact ⟨d.1, by rw [d.2]; omega⟩
    · rw [if_neg c2] at hn ⊢
      rw [if_neg c2]
      by_cases c3 : atB s i = 92
      · rw [if_pos c3] at hn ⊢
        rw [if_pos c3]
        dsimp only at hn ⊢
        have := rMark_nx s (i + 1)
        rw [rMark_det h.tail (by omega)]
        exact ⟨rfl, by dsimp only; omega⟩
      · rw [if_neg c3] at hn ⊢
        rw [if_neg c3]
        split
        · dsimp only; exact ⟨rfl, by omega⟩
        · dsimp only; exact ⟨rfl, by omega⟩
end
end Go.Proofs.Ytjcknghdgfcboaa
