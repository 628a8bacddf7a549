import Derived.Test.YtjcknghdgfcboaaRk4
namespace Go.Proofs.Ytjcknghdgfcboaa
open Go.RowKit
set_option linter.unusedVariables false
set_option linter.unusedSimpArgs false

/-- what is read is the same, if all that is looked at is the same -/
def DetF (s s' : ByteArray) (l l' : Int → LR) : Prop := ∀ (i i' : Int) (n : Nat), 0 ≤ i → 0 ≤ i' → i + n ≤ s.size → 0 < n → Alike s i s' i' n → (l i).next < i + n → (l' i').ok = (l i).ok ∧ (l' i').next = (l i).next - i + i'
def DetG (s s' : ByteArray) (l l' : Int → LR) : Prop := ∀ (i i' : Int) (n : Nat), 0 ≤ i → 0 ≤ i' → i + n ≤ s.size → 0 < n → atB s i = 40 → Alike s i s' i' n → (l i).next < i + n → (l' i').ok = (l i).ok ∧ (l' i').next = (l i).next - i + i'
section
variable {s s' : ByteArray}
theorem in_text {i x : Int} {n : Nat} {i' : Int} (h : Alike s i s' i' n) (h0 : 0 ≤ i) (hin : i + n ≤ s.size) (hi : i ≤ x) (hx : x < i + n) : atB s' (x - i + i') = atB s x ∧ x - i + i' < s'.size ∧ 0 ≤ x - i + i' := by
  have a1 := h.atK hi hx
  have q : atB s x ≠ -1 := by
    obtain ⟨m, rfl⟩ : ∃ m : Nat, x = m := ⟨x.toNat, by omega⟩
    rw [atB_ix (by omega)]; omega
  have := atB_lt (s := s') (i := x - i + i') (by rw [a1]; exact q)
  exact ⟨a1, this.2, this.1⟩
theorem alike_on {i x i' : Int} {n : Nat} (h : Alike s i s' i' n) (hi : i ≤ x) : Alike s x s' (x - i + i') (n - (x - i).toNat) := by
  have hh := h.on (x - i).toNat
  rw [show i + ((x - i).toNat : Int) = x by omega, show i' + ((x - i).toNat : Int) = x - i + i' by omega] at hh
  exact hh
theorem det_atom {g g' : Int → LR} (hg : DetG s s' g g') : DetF s s' (lAtom g s) (lAtom g' s') := by
  intro i i' n h0 h0' hin hpos h hn
  have a1 := h.at0 hpos
  unfold lAtom at hn ⊢
  rw [a1]
  by_cases c : atB s i = 40
  · rw [if_pos c] at hn ⊢
    rw [if_pos c]
    exact hg i i' n h0 h0' hin hpos c h hn
  · rw [if_neg c] at hn ⊢
    rw [if_neg c]
    have hn' : (rSet s i).2.1 < i + n := by
      by_cases q : (rSet s i).2.2 = false
      · rw [if_pos q] at hn; exact hn
      · rw [if_neg q] at hn; exact hn
    have d := rSet_det h h0 h0' hin hpos hn'
    by_cases q : (rSet s i).2.2 = false
    · rw [if_pos q, if_pos (by rw [d.1]; exact q)]
      exact ⟨rfl, d.2⟩
    · rw [if_neg q, if_neg (by rw [d.1]; exact q)]
      exact ⟨rfl, d.2⟩
theorem pieceL_lo (s : ByteArray) : ∀ (f : Nat) (r : LR), r.next ≤ (lPieceL s f r).next
  | 0, r => Int.le_refl _
  | f + 1, r => by
    rw [lPieceL_s]
    split
    · have := pieceL_lo s f ⟨r.next + 1, true, Lang.rep (atB s r.next) r.lang⟩
      dsimp only at this
      omega
    · exact Int.le_refl _
theorem det_pieceL {i i' : Int} {n : Nat} (h : Alike s i s' i' n) (h0 : 0 ≤ i) (hin : i + n ≤ s.size) : ∀ (f : Nat) (x : Int) (L : Lang), i ≤ x → (s.size : Int) + 2 ≤ f + x → (lPieceL s f ⟨x, true, L⟩).next < i + n → ∀ (f' : Nat) (L' : Lang), (s'.size : Int) + 2 ≤ f' + (x - i + i') →
    (lPieceL s' f' ⟨x - i + i', true, L'⟩).ok = (lPieceL s f ⟨x, true, L⟩).ok ∧ (lPieceL s' f' ⟨x - i + i', true, L'⟩).next = (lPieceL s f ⟨x, true, L⟩).next - i + i'
  | 0, x, L, hi, hf, hn, f', L', hf' => by simp [lPieceL] at hn; omega
  | f + 1, x, L, hi, hf, hn, f', L', hf' => by
    have hlo := pieceL_lo s (f + 1) ⟨x, true, L⟩
    dsimp only at hlo
    obtain ⟨a1, a2, a3⟩ := in_text h h0 hin hi (x := x) (by omega)
    obtain ⟨f', rfl⟩ : ∃ k, f' = k + 1 := ⟨f' - 1, by omega⟩
    rw [lPieceL_s] at hn ⊢
    rw [lPieceL_s]
    dsimp only at hn ⊢
    rw [a1]
    rw [Bool.true_and] at hn ⊢
    by_cases c : isMark (atB s x) = true
    · rw [if_pos c] at hn ⊢
      rw [if_pos c, show x - i + i' + 1 = x + 1 - i + i' by omega]
      exact det_pieceL h h0 hin f (x + 1) _ (by omega) (by omega) hn f' _ (by omega)
    · rw [if_neg c, if_neg c]; exact ⟨rfl, rfl⟩
theorem det_piece {a a' : Int → LR} (ha : DetF s s' a a') (hlo : LoF s a) : DetF s s' (lPiece a s) (lPiece a' s') := by
  intro i i' n h0 h0' hin hpos h hn
  unfold lPiece at hn ⊢
  have hl := pieceL_lo s (s.size + 5) (a i)
  have d := ha i i' n h0 h0' hin hpos h (by omega)
  have hl2 := hlo i h0 (by omega)
  cases hk : (a i).ok
  · rw [hk] at d
    rw [lPieceL_bad s _ _ hk, lPieceL_bad s' _ _ d.1, hk]
    exact d
  · rw [hk] at d
    have e1 := lr_eta hk
    have e2 := lr_eta d.1
    rw [d.2] at e2
    rw [e1] at hn ⊢
    rw [e2]
    exact det_pieceL h h0 hin (s.size + 5) (a i).next _ (by omega) (by omega) hn (s'.size + 5) _ (by omega)
theorem branchL_lo {p : Int → LR} (hlo : LoF s p) (hcl : ClnF s p) : ∀ (f : Nat) (r : LR), 0 ≤ r.next → r.next ≤ s.size → r.next ≤ (lBranchL p s f r).next
  | 0, r, _, _ => Int.le_refl _
  | f + 1, r, h0, h1 => by
    rw [lBranchL_s]
    split
    · have h2 := hlo r.next h0 h1
      have h3 := (hcl r.next).in' h1
      have e : (lJoin r (p r.next)).next = (p r.next).next := by unfold lJoin; split <;> rfl
      have := branchL_lo hlo hcl f (lJoin r (p r.next)) (by rw [e]; omega) (by rw [e]; exact h3)
      rw [e] at this; omega
    · exact Int.le_refl _
theorem det_branchL {p p' : Int → LR} (hp : DetF s s' p p') (hlo : LoF s p) (hcl : ClnF s p) (hgd : LGoodF s p) {i i' : Int} {n : Nat} (h : Alike s i s' i' n) (h0 : 0 ≤ i) (h0' : 0 ≤ i') (hin : i + n ≤ s.size) : ∀ (f : Nat) (x : Int) (L : Lang), i ≤ x → x ≤ s.size → (s.size : Int) + 2 ≤ f + x → (lBranchL p s f ⟨x, true, L⟩).next < i + n → ∀ (f' : Nat) (L' : Lang), (s'.size : Int) + 2 ≤ f' + (x - i + i') →
    (lBranchL p' s' f' ⟨x - i + i', true, L'⟩).ok = (lBranchL p s f ⟨x, true, L⟩).ok ∧ (lBranchL p' s' f' ⟨x - i + i', true, L'⟩).next = (lBranchL p s f ⟨x, true, L⟩).next - i + i'
  | 0, x, L, hi, hx, hf, hn, f', L', hf' => by omega
  | f + 1, x, L, hi, hx, hf, hn, f', L', hf' => by
    have hl := branchL_lo hlo hcl (f + 1) ⟨x, true, L⟩ (by dsimp only; omega) hx
    dsimp only at hl
    obtain ⟨a1, a2, a3⟩ := in_text h h0 hin hi (x := x) (by omega)
    obtain ⟨f', rfl⟩ : ∃ k, f' = k + 1 := ⟨f' - 1, by omega⟩
    rw [lBranchL_s] at hn ⊢
    rw [lBranchL_s]
    dsimp only at hn ⊢
    rw [beginsB_eq] at hn ⊢
    rw [beginsB_eq, a1]
    rw [Bool.true_and] at hn ⊢
    by_cases c : begC (atB s x) = true
    · rw [if_pos c] at hn ⊢
      rw [if_pos c]
      have e : ∀ (q : LR) (y : Int) (M : Lang), (lJoin ⟨y, true, M⟩ q).next = q.next ∧ (lJoin ⟨y, true, M⟩ q).ok = q.ok := fun q y M => by
        unfold lJoin
        cases z : q.ok <;> simp
      have h3 := (hcl x).in' hx
      have h4 := hlo x (by omega) hx
      have hl2 := branchL_lo hlo hcl f (lJoin ⟨x, true, L⟩ (p x)) (by rw [(e _ _ _).1]; omega) (by rw [(e _ _ _).1]; exact h3)
      rw [(e _ _ _).1] at hl2
      have d := hp x (x - i + i') (n - (x - i).toNat) (by omega) (by omega) (by omega) (by omega) (alike_on h hi) (by omega)
      cases hk : (p x).ok
      · rw [hk] at d
        have z1 : (lJoin ⟨x, true, L⟩ (p x)).ok = false := by rw [(e _ _ _).2]; exact hk
        have z2 : (lJoin ⟨x - i + i', true, L'⟩ (p' (x - i + i'))).ok = false := by rw [(e _ _ _).2]; exact d.1
        rw [lBranchL_bad p s _ _ z1, lBranchL_bad p' s' _ _ z2, z1, z2, (e _ _ _).1, (e _ _ _).1, d.2]
        exact ⟨rfl, by omega⟩
      · rw [hk] at d
        have g := hgd x (by omega) hx hk
        have ej : lJoin ⟨x, true, L⟩ (p x) = ⟨(p x).next, true, Lang.cat L (p x).lang⟩ := by unfold lJoin; rw [if_pos hk]
        have ej' : lJoin ⟨x - i + i', true, L'⟩ (p' (x - i + i')) = ⟨(p x).next - i + i', true, Lang.cat L' (p' (x - i + i')).lang⟩ := by
          unfold lJoin
          rw [if_pos d.1, d.2, show (p x).next - x + (x - i + i') = (p x).next - i + i' by omega]
        rw [ej] at hn ⊢
        rw [ej']
        exact det_branchL hp hlo hcl hgd h h0 h0' hin f (p x).next _ (by omega) (by omega) (by omega) hn f' _ (by omega)
    · rw [if_neg c, if_neg c]; exact ⟨rfl, rfl⟩
theorem det_branch {p p' : Int → LR} (hp : DetF s s' p p') (hlo : LoF s p) (hcl : ClnF s p) (hgd : LGoodF s p) : DetF s s' (lBranch p s) (lBranch p' s') := by
  intro i i' n h0 h0' hin hpos h hn
  unfold lBranch at hn ⊢
  have hl2 := hlo i h0 (by omega)
  have h3 := (hcl i).in' (show i ≤ s.size by omega)
  have hl := branchL_lo hlo hcl (s.size + 5) (p i) (by omega) h3
  have d := hp i i' n h0 h0' hin hpos h (by omega)
  cases hk : (p i).ok
  · rw [hk] at d
    rw [lBranchL_bad p s _ _ hk, lBranchL_bad p' s' _ _ d.1, hk]
    exact d
  · rw [hk] at d
    have e1 := lr_eta hk
    have e2 := lr_eta d.1
    rw [d.2] at e2
    rw [e1] at hn ⊢
    rw [e2]
    exact det_branchL hp hlo hcl hgd h h0 h0' hin (s.size + 5) (p i).next _ (by omega) (by omega) (by omega) hn (s'.size + 5) _ (by omega)
theorem choiceL_lo {p : Int → LR} (hlo : LoF s p) (hcl : ClnF s p) : ∀ (f : Nat) (r : LR), 0 ≤ r.next → r.next ≤ s.size → r.next ≤ (lChoiceL p s f r).next
  | 0, r, _, _ => Int.le_refl _
  | f + 1, r, h0, h1 => by
    rw [lChoiceL_s]
    split
    · rename_i c
      rw [Bool.and_eq_true] at c
      have c2 : atB s r.next = 124 := by simpa using c.2
      have hlt := atB_lt (s := s) (i := r.next) (by omega)
      have h2 := hlo (r.next + 1) (by omega) (by omega)
      have h3 := (hcl (r.next + 1)).in' (by omega)
      have e : (lEither r (p (r.next + 1))).next = (p (r.next + 1)).next := by unfold lEither; split <;> rfl
      have := choiceL_lo hlo hcl f (lEither r (p (r.next + 1))) (by rw [e]; omega) (by rw [e]; exact h3)
      rw [e] at this; omega
    · exact Int.le_refl _
theorem det_choiceL {p p' : Int → LR} (hp : DetF s s' p p') (hlo : LoF s p) (hcl : ClnF s p) (hgd : LGoodF s p) {i i' : Int} {n : Nat} (h : Alike s i s' i' n) (h0 : 0 ≤ i) (h0' : 0 ≤ i') (hin : i + n ≤ s.size) : ∀ (f : Nat) (x : Int) (L : Lang), i ≤ x → x ≤ s.size → (s.size : Int) + 2 ≤ f + x → (lChoiceL p s f ⟨x, true, L⟩).next < i + n → ∀ (f' : Nat) (L' : Lang), (s'.size : Int) + 2 ≤ f' + (x - i + i') →
    (lChoiceL p' s' f' ⟨x - i + i', true, L'⟩).ok = (lChoiceL p s f ⟨x, true, L⟩).ok ∧ (lChoiceL p' s' f' ⟨x - i + i', true, L'⟩).next = (lChoiceL p s f ⟨x, true, L⟩).next - i + i'
  | 0, x, L, hi, hx, hf, hn, f', L', hf' => by omega
  | f + 1, x, L, hi, hx, hf, hn, f', L', hf' => by
    have hl := choiceL_lo hlo hcl (f + 1) ⟨x, true, L⟩ (by dsimp only; omega) hx
    dsimp only at hl
    obtain ⟨a1, a2, a3⟩ := in_text h h0 hin hi (x := x) (by omega)
    obtain ⟨f', rfl⟩ : ∃ k, f' = k + 1 := ⟨f' - 1, by omega⟩
    rw [lChoiceL_s] at hn ⊢
    rw [lChoiceL_s]
    dsimp only at hn ⊢
    rw [a1]
    rw [Bool.true_and] at hn ⊢
    by_cases c : (atB s x == 124) = true
    · rw [if_pos c] at hn ⊢
      rw [if_pos c]
      have c2 : atB s x = 124 := by simpa using c
      have hlt := atB_lt (s := s) (i := x) (by omega)
      have e : ∀ (q : LR) (y : Int) (M : Lang), (lEither ⟨y, true, M⟩ q).next = q.next ∧ (lEither ⟨y, true, M⟩ q).ok = q.ok := fun q y M => by
        unfold lEither
        cases z : q.ok <;> simp
      have h3 := (hcl (x + 1)).in' (by omega)
      have h4 := hlo (x + 1) (by omega) (by omega)
      have hl2 := choiceL_lo hlo hcl f (lEither ⟨x, true, L⟩ (p (x + 1))) (by rw [(e _ _ _).1]; omega) (by rw [(e _ _ _).1]; exact h3)
      rw [(e _ _ _).1] at hl2
      have d := hp (x + 1) (x + 1 - i + i') (n - (x + 1 - i).toNat) (by omega) (by omega) (by omega) (by omega) (alike_on h (by omega)) (by omega)
      rw [show x - i + i' + 1 = x + 1 - i + i' by omega]
      cases hk : (p (x + 1)).ok
      · rw [hk] at d
        have z1 : (lEither ⟨x, true, L⟩ (p (x + 1))).ok = false := by rw [(e _ _ _).2]; exact hk
        have z2 : (lEither ⟨x - i + i', true, L'⟩ (p' (x + 1 - i + i'))).ok = false := by rw [(e _ _ _).2]; exact d.1
        rw [lChoiceL_bad p s _ _ z1, lChoiceL_bad p' s' _ _ z2, z1, z2, (e _ _ _).1, (e _ _ _).1, d.2]
        exact ⟨rfl, by omega⟩
      · rw [hk] at d
        have g := hgd (x + 1) (by omega) (by omega) hk
        have ej : lEither ⟨x, true, L⟩ (p (x + 1)) = ⟨(p (x + 1)).next, true, Lang.alt L (p (x + 1)).lang⟩ := by unfold lEither; rw [if_pos hk]
        have ej' : lEither ⟨x - i + i', true, L'⟩ (p' (x + 1 - i + i')) = ⟨(p (x + 1)).next - i + i', true, Lang.alt L' (p' (x + 1 - i + i')).lang⟩ := by
          unfold lEither
          rw [if_pos d.1, d.2, show (p (x + 1)).next - (x + 1) + (x + 1 - i + i') = (p (x + 1)).next - i + i' by omega]
        rw [ej] at hn ⊢
        rw [ej']
        exact det_choiceL hp hlo hcl hgd h h0 h0' hin f (p (x + 1)).next _ (by omega) (by omega) (by omega) hn f' _ (by omega)
    · rw [if_neg c, if_neg c]; exact ⟨rfl, rfl⟩
theorem det_choice {p p' : Int → LR} (hp : DetF s s' p p') (hlo : LoF s p) (hcl : ClnF s p) (hgd : LGoodF s p) : DetF s s' (lChoice p s) (lChoice p' s') := by
  intro i i' n h0 h0' hin hpos h hn
  unfold lChoice at hn ⊢
  have hl2 := hlo i h0 (by omega)
  have h3 := (hcl i).in' (show i ≤ s.size by omega)
  have hl := choiceL_lo hlo hcl (s.size + 5) (p i) (by omega) h3
  have d := hp i i' n h0 h0' hin hpos h (by omega)
  cases hk : (p i).ok
  · rw [hk] at d
    rw [lChoiceL_bad p s _ _ hk, lChoiceL_bad p' s' _ _ d.1, hk]
    exact d
  · rw [hk] at d
    have e1 := lr_eta hk
    have e2 := lr_eta d.1
    rw [d.2] at e2
    rw [e1] at hn ⊢
    rw [e2]
    exact det_choiceL hp hlo hcl hgd h h0 h0' hin (s.size + 5) (p i).next _ (by omega) (by omega) (by omega) hn (s'.size + 5) _ (by omega)
theorem det_group {c c' : Int → LR} (hc : DetF s s' c c') (hlo : LoF s c) (hcl : ClnF s c) : DetG s s' (lGroup c s) (lGroup c' s') := by
  intro i i' n h0 h0' hin hpos h40 h hn
  have h2 : (c (i + 1)).next < i + n := by
    unfold lGroup at hn
    split at hn
    · exact hn
    · split at hn
      · exact hn
      · dsimp only at hn; omega
  have hlt : i + 1 ≤ s.size := by omega
  have hl := hlo (i + 1) (by omega) hlt
  have d := hc (i + 1) (i' + 1) (n - 1) (by omega) (by omega) (by omega) (by omega) h.tail (by omega)
  obtain ⟨a1, a2, a3⟩ := in_text h h0 hin (x := (c (i + 1)).next) (by omega) h2
  have e3 : (c' (i' + 1)).next = (c (i + 1)).next - i + i' := by rw [d.2]; omega
  unfold lGroup
  rw [d.1, e3, a1]
  split
  · exact ⟨rfl, rfl⟩
  · split
    · exact ⟨rfl, rfl⟩
    · exact ⟨rfl, by dsimp only; omega⟩
end
theorem det_gK (s s' : ByteArray) : ∀ k : Nat, DetG s s' (lgK s k) (lgK s' k)
  | 0 => fun i i' n _ _ _ _ _ _ _ => ⟨rfl, by show i' = i - i + i'; omega⟩
  | k + 1 => det_group (det_choice (det_branch (det_piece (det_atom (det_gK s s' k)) (lo_atom s k)) (lo_piece s k) (cln_piece (cln_atom (cln_gK s k))) (lg_piece s k)) (lo_branch s k) (cln_branch (cln_piece (cln_atom (cln_gK s k)))) (lg_branch s k)) (lo_chK s k) (cln_chK s k)
theorem det_am (s s' : ByteArray) (k : Nat) : DetF s s' (lAtom (lgK s k) s) (lAtom (lgK s' k) s') := det_atom (det_gK s s' k)
theorem det_pc (s s' : ByteArray) (k : Nat) : DetF s s' (lPiece (lAtom (lgK s k) s) s) (lPiece (lAtom (lgK s' k) s') s') := det_piece (det_am s s' k) (lo_atom s k)
theorem det_br (s s' : ByteArray) (k : Nat) : DetF s s' (lBranch (lPiece (lAtom (lgK s k) s) s) s) (lBranch (lPiece (lAtom (lgK s' k) s') s') s') := det_branch (det_pc s s' k) (lo_piece s k) (cln_piece (cln_atom (cln_gK s k))) (lg_piece s k)
theorem det_chK (s s' : ByteArray) (k : Nat) : DetF s s' (lchK s k) (lchK s' k) := det_choice (det_br s s' k) (lo_branch s k) (cln_branch (cln_piece (cln_atom (cln_gK s k)))) (lg_branch s k)
end Go.Proofs.Ytjcknghdgfcboaa
