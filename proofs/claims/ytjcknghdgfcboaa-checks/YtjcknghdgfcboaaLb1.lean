import Derived.Test.YtjcknghdgfcboaaLa8
namespace Go.Proofs.Ytjcknghdgfcboaa
open Go.RowKit
set_option linter.unusedVariables false
set_option linter.unusedSimpArgs false

def begC (c : Int) : Bool := c == 40 || c == 46 || c == 91 || c == 92 || isPlainB c
theorem beginsB_eq (s : ByteArray) (i : Int) : beginsB s i = begC (atB s i) := rfl
/-- a byte that ends a pattern -/
def stopC (c : Int) : Bool := !isMark c && !begC c && c != 124
theorem stopC_mark {c : Int} (h : stopC c = true) : isMark c = false := by
  unfold stopC at h
  cases h1 : isMark c
  · rfl
  · rw [h1] at h; simp at h
theorem stopC_beg {c : Int} (h : stopC c = true) : begC c = false := by
  unfold stopC at h
  cases h1 : begC c
  · rfl
  · rw [h1] at h; simp at h
theorem stopC_bar {c : Int} (h : stopC c = true) : c ≠ 124 := by
  unfold stopC at h
  intro e
  rw [e] at h
  simp at h
theorem stopC_mk {c : Int} (h1 : isMark c = false) (h2 : begC c = false) (h3 : c ≠ 124) : stopC c = true := by
  unfold stopC
  rw [h1, h2]; simpa using h3
theorem mark_in {c : Int} (h : isMark c = true) : c ≠ -1 := by intro e; rw [e] at h; revert h; decide
theorem beg_in {c : Int} (h : begC c = true) : c ≠ -1 := by intro e; rw [e] at h; revert h; decide

def LGoodF (s : ByteArray) (l : Int → LR) : Prop := ∀ i : Int, 0 ≤ i → i ≤ s.size → (l i).ok = true → i < (l i).next ∧ (l i).next ≤ s.size
theorem lgood_of {s : ByteArray} {f : Int → List Node → PR} {l : Int → LR} (h : GoodF s f) (k : LkF f l) : LGoodF s l := fun i h0 h1 hok => by
  have h2 := (h i [] h0 h1).good (by rw [(k i []).ok]; exact hok)
  rw [(k i []).next] at h2; exact h2
theorem lg_atom (s : ByteArray) (k : Nat) : LGoodF s (lAtom (lgK s k) s) := lgood_of (good_atom' (good_gK s k)) (lk_atom (lk_gK s k))
theorem lg_piece (s : ByteArray) (k : Nat) : LGoodF s (lPiece (lAtom (lgK s k) s) s) := lgood_of (good_piece (good_atom' (good_gK s k))) (lk_piece (lk_atom (lk_gK s k)))
theorem lg_branch (s : ByteArray) (k : Nat) : LGoodF s (lBranch (lPiece (lAtom (lgK s k) s) s) s) := lgood_of (good_branch (good_piece (good_atom' (good_gK s k)))) (lk_branch (lk_piece (lk_atom (lk_gK s k))))
theorem lg_chK (s : ByteArray) (k : Nat) : LGoodF s (lchK s k) := lgood_of (good_chK s k) (lk_chK s k)

/-- the same is read, at another place -/
structure Same (r r' : LR) (i i' : Int) : Prop where
  ok : r'.ok = true
  next : r'.next = r.next - i + i'
  lang : r'.lang = r.lang
def LocG (s s' : ByteArray) (l l' : Int → LR) : Prop := ∀ (i i' : Int) (n : Nat), 0 ≤ i → 0 ≤ i' → atB s i = 40 → Alike s i s' i' n → (l i).ok = true → (l i).next ≤ i + n → Same (l i) (l' i') i i'
def LocA (s s' : ByteArray) (l l' : Int → LR) : Prop := ∀ (i i' : Int) (n : Nat), 0 ≤ i → i ≤ s.size → 0 ≤ i' → Alike s i s' i' n → (l i).ok = true → (l i).next ≤ i + n → Same (l i) (l' i') i i'
def Loc (s s' : ByteArray) (l l' : Int → LR) : Prop := ∀ (i i' : Int) (n : Nat), 0 ≤ i → i ≤ s.size → 0 ≤ i' → Alike s i s' i' n → stopC (atB s' (i' + n)) = true → (l i).ok = true → (l i).next ≤ i + n → Same (l i) (l' i') i i'
theorem lPieceL_s (s : ByteArray) (f : Nat) (r : LR) : lPieceL s (f + 1) r = if (r.ok && isMark (atB s r.next)) = true then lPieceL s f ⟨r.next + 1, true, Lang.rep (atB s r.next) r.lang⟩ else r := rfl
theorem lBranchL_s (p : Int → LR) (s : ByteArray) (f : Nat) (r : LR) : lBranchL p s (f + 1) r = if (r.ok && beginsB s r.next) = true then lBranchL p s f (lJoin r (p r.next)) else r := rfl
theorem lChoiceL_s (p : Int → LR) (s : ByteArray) (f : Nat) (r : LR) : lChoiceL p s (f + 1) r = if (r.ok && (atB s r.next == 124)) = true then lChoiceL p s f (lEither r (p (r.next + 1))) else r := rfl
section
variable {s s' : ByteArray}
theorem loc_atom {g g' : Int → LR} (hg : LocG s s' g g') (hgd : LGoodF s (lAtom g s)) : LocA s s' (lAtom g s) (lAtom g' s') := by
  intro i i' n h0 h1 h0' h hok hn
  have hgd := hgd i h0 h1 hok
  have e := h.at0 (by omega)
  unfold lAtom at hok hn ⊢
  rw [e]
  by_cases c : atB s i = 40
  · rw [if_pos c] at hok hn ⊢
    rw [if_pos c]
    exact hg i i' n h0 h0' c h hok hn
  · rw [if_neg c] at hok hn ⊢
    rw [if_neg c]
    by_cases c2 : (rSet s i).2.2 = false
    · rw [if_pos c2] at hok; cases hok
    · rw [if_neg c2] at hok hn ⊢
      have r := rSet_loc h h0 h0' (by simpa using c2) hn
      rw [r]
      rw [if_neg (by simp)]
      exact ⟨rfl, rfl, rfl⟩
theorem loc_pieceL {i i' : Int} {n : Nat} (h : Alike s i s' i' n) (hst : stopC (atB s' (i' + n)) = true) : ∀ (f : Nat) (x : Int) (L : Lang), i ≤ x → x ≤ s.size → (s.size : Int) + 2 ≤ f + x → (lPieceL s f ⟨x, true, L⟩).next ≤ i + n → ∀ f' : Nat, (s'.size : Int) + 2 ≤ f' + (x - i + i') →
    Same (lPieceL s f ⟨x, true, L⟩) (lPieceL s' f' ⟨x - i + i', true, L⟩) i i' ∧ x ≤ (lPieceL s f ⟨x, true, L⟩).next ∧ (lPieceL s f ⟨x, true, L⟩).ok = true
  | 0, x, L, _, hx, hf, _, _, _ => by omega
  | f + 1, x, L, hi, hx, hf, hn, f', hf' => by
    rw [lPieceL_s s f ⟨x, true, L⟩] at hn ⊢
    dsimp only at hn ⊢
    rw [Bool.true_and] at hn ⊢
    by_cases c : isMark (atB s x) = true
    · rw [if_pos c] at hn ⊢
      have hx2 := atB_lt (s := s) (i := x) (mark_in c)
      have rcv := fun f' hf' => loc_pieceL h hst f (x + 1) (Lang.rep (atB s x) L) (by omega) (by omega) (by omega) hn f' hf'
      have r1 := (rcv (s'.size + 2 + (x + 1 - i + i').natAbs) (by omega)).2
      have a1 := h.atK hi (x := x) (by omega)
      have a2 := atB_lt (s := s') (i := x - i + i') (by rw [a1]; exact mark_in c)
      cases f' with
      | zero => omega
      | succ f' =>
        have hc' : (true && isMark (atB s' (x - i + i'))) = true := by rw [a1]; simpa using c
        rw [lPieceL_s s' f']
        dsimp only
        rw [if_pos hc', a1, show x - i + i' + 1 = x + 1 - i + i' by omega]
        exact ⟨(rcv f' (by omega)).1, by omega, r1.2⟩
    · rw [if_neg c] at hn ⊢
      dsimp only at hn ⊢
      have a1 : isMark (atB s' (x - i + i')) = false := by
        by_cases q : x < i + n
        · rw [h.atK hi q]; simpa using c
        · rw [show x - i + i' = i' + n by omega]; exact stopC_mark hst
      cases f' with
      | zero => exact ⟨⟨rfl, rfl, rfl⟩, by omega, rfl⟩
      | succ f' =>
        have hc' : ¬ (true && isMark (atB s' (x - i + i'))) = true := by rw [a1]; simp
        rw [lPieceL_s s' f']
        dsimp only
        rw [if_neg hc']
        exact ⟨⟨rfl, rfl, rfl⟩, by omega, rfl⟩
theorem lPieceL_bad (s : ByteArray) : ∀ (f : Nat) (r : LR), r.ok = false → lPieceL s f r = r
  | 0, r, _ => rfl
  | f + 1, r, h => by unfold lPieceL; rw [h]; rfl
theorem lr_eta {r : LR} (h : r.ok = true) : r = ⟨r.next, true, r.lang⟩ := by obtain ⟨a, b, c⟩ := r; dsimp only at h ⊢; rw [h]
theorem loc_piece {a a' : Int → LR} (ha : LocA s s' a a') (hg : LGoodF s a) : Loc s s' (lPiece a s) (lPiece a' s') := by
  intro i i' n h0 h1 h0' h hst hok hn
  unfold lPiece at hok hn ⊢
  have hok1 : (a i).ok = true := by
    cases e : (a i).ok
    · rw [lPieceL_bad s _ _ e, e] at hok; cases hok
    · rfl
  have g := hg i h0 h1 hok1
  rw [lr_eta hok1] at hn ⊢
  have key := fun f' hf' => loc_pieceL h hst (s.size + 5) (a i).next (a i).lang (by omega) (by omega) (by omega) hn f' hf'
  have k1 := (key (s'.size + 2 + ((a i).next - i + i').natAbs) (by omega)).2.1
  have sm := ha i i' n h0 h1 h0' h hok1 (by omega)
  rw [lr_eta sm.ok, sm.next, sm.lang]
  exact (key (s'.size + 5) (by omega)).1
theorem lBranchL_bad (p : Int → LR) (s : ByteArray) : ∀ (f : Nat) (r : LR), r.ok = false → lBranchL p s f r = r
  | 0, r, _ => rfl
  | f + 1, r, h => by unfold lBranchL; rw [h]; rfl
theorem lChoiceL_bad (p : Int → LR) (s : ByteArray) : ∀ (f : Nat) (r : LR), r.ok = false → lChoiceL p s f r = r
  | 0, r, _ => rfl
  | f + 1, r, h => by unfold lChoiceL; rw [h]; rfl
theorem loc_branchL {p p' : Int → LR} (hp : Loc s s' p p') (hg : LGoodF s p) {i i' : Int} {n : Nat} (h0 : 0 ≤ i) (h0' : 0 ≤ i') (h : Alike s i s' i' n) (hst : stopC (atB s' (i' + n)) = true) : ∀ (f : Nat) (x : Int) (L : Lang), i ≤ x → x ≤ s.size → (s.size : Int) + 2 ≤ f + x → (lBranchL p s f ⟨x, true, L⟩).ok = true → (lBranchL p s f ⟨x, true, L⟩).next ≤ i + n → ∀ f' : Nat, (s'.size : Int) + 2 ≤ f' + (x - i + i') →
    Same (lBranchL p s f ⟨x, true, L⟩) (lBranchL p' s' f' ⟨x - i + i', true, L⟩) i i' ∧ x ≤ (lBranchL p s f ⟨x, true, L⟩).next
  | 0, x, L, _, hx, hf, _, _, _, _ => by omega
  | f + 1, x, L, hi, hx, hf, hok, hn, f', hf' => by
    rw [lBranchL_s p s f ⟨x, true, L⟩] at hok hn ⊢
    dsimp only at hok hn ⊢
    rw [Bool.true_and] at hok hn ⊢
    by_cases c : beginsB s x = true
    · rw [if_pos c] at hok hn ⊢
      have hx2 := atB_lt (s := s) (i := x) (beg_in c)
      have hpx : (p x).ok = true := by
        cases e : (p x).ok
        · have : (lJoin ⟨x, true, L⟩ (p x)).ok = false := by unfold lJoin; rw [e]; rfl
          rw [lBranchL_bad p s f _ this, this] at hok; cases hok
        · rfl
      have ej : lJoin ⟨x, true, L⟩ (p x) = ⟨(p x).next, true, Lang.cat L (p x).lang⟩ := by unfold lJoin; rw [if_pos hpx]
      rw [ej] at hok hn ⊢
      have g := hg x (by omega) (by omega) hpx
      have rcv := fun f' hf' => loc_branchL hp hg h0 h0' h hst f (p x).next (Lang.cat L (p x).lang) (by omega) (by omega) (by omega) hok hn f' hf'
      have r1 := (rcv (s'.size + 2 + ((p x).next - i + i').natAbs) (by omega)).2
      have a1 := h.atK hi (x := x) (by omega)
      have a2 := atB_lt (s := s') (i := x - i + i') (by rw [a1]; exact beg_in c)
      have hh := h.on (x - i).toNat
      rw [show i + ((x - i).toNat : Int) = x by omega, show i' + ((x - i).toNat : Int) = x - i + i' by omega] at hh
      have sm := hp x (x - i + i') (n - (x - i).toNat) (by omega) hx (by omega) hh (by rw [show x - i + i' + ((n - (x - i).toNat : Nat) : Int) = i' + n by omega]; exact hst) hpx (by omega)
      cases f' with
      | zero => omega
      | succ f' =>
        have hc' : (true && beginsB s' (x - i + i')) = true := by rw [beginsB_eq, a1, ← beginsB_eq, c]; rfl
        have ej' : lJoin ⟨x - i + i', true, L⟩ (p' (x - i + i')) = ⟨(p x).next - i + i', true, Lang.cat L (p x).lang⟩ := by
          unfold lJoin
          rw [if_pos sm.ok, sm.next, sm.lang, show (p x).next - x + (x - i + i') = (p x).next - i + i' by omega]
        rw [lBranchL_s p' s' f']
        dsimp only
        rw [if_pos hc', ej']
        exact ⟨(rcv f' (by omega)).1, by omega⟩
    · rw [if_neg c] at hok hn ⊢
      dsimp only at hn ⊢
      have a1 : beginsB s' (x - i + i') = false := by
        rw [beginsB_eq]
        by_cases q : x < i + n
        · rw [h.atK hi q]; simpa [beginsB_eq] using c
        · rw [show x - i + i' = i' + n by omega]; exact stopC_beg hst
      cases f' with
      | zero => exact ⟨⟨rfl, rfl, rfl⟩, by omega⟩
      | succ f' =>
        have hc' : ¬ (true && beginsB s' (x - i + i')) = true := by rw [a1]; simp
        rw [lBranchL_s p' s' f']
        dsimp only
        rw [if_neg hc']
        exact ⟨⟨rfl, rfl, rfl⟩, by omega⟩
theorem loc_branch {p p' : Int → LR} (hp : Loc s s' p p') (hg : LGoodF s p) : Loc s s' (lBranch p s) (lBranch p' s') := by
  intro i i' n h0 h1 h0' h hst hok hn
  unfold lBranch at hok hn ⊢
  have hok1 : (p i).ok = true := by
    cases e : (p i).ok
    · rw [lBranchL_bad p s _ _ e, e] at hok; cases hok
    · rfl
  have g := hg i h0 h1 hok1
  rw [lr_eta hok1] at hok hn ⊢
  have key := fun f' hf' => loc_branchL hp hg h0 h0' h hst (s.size + 5) (p i).next (p i).lang (by omega) (by omega) (by omega) hok hn f' hf'
  have k1 := (key (s'.size + 2 + ((p i).next - i + i').natAbs) (by omega)).2
  have sm := hp i i' n h0 h1 h0' h hst hok1 (by omega)
  rw [lr_eta sm.ok, sm.next, sm.lang]
  exact (key (s'.size + 5) (by omega)).1
theorem loc_choiceL {p p' : Int → LR} (hp : Loc s s' p p') (hg : LGoodF s p) {i i' : Int} {n : Nat} (h0 : 0 ≤ i) (h0' : 0 ≤ i') (h : Alike s i s' i' n) (hst : stopC (atB s' (i' + n)) = true) : ∀ (f : Nat) (x : Int) (L : Lang), i ≤ x → x ≤ s.size → (s.size : Int) + 2 ≤ f + x → (lChoiceL p s f ⟨x, true, L⟩).ok = true → (lChoiceL p s f ⟨x, true, L⟩).next ≤ i + n → ∀ f' : Nat, (s'.size : Int) + 2 ≤ f' + (x - i + i') →
    Same (lChoiceL p s f ⟨x, true, L⟩) (lChoiceL p' s' f' ⟨x - i + i', true, L⟩) i i' ∧ x ≤ (lChoiceL p s f ⟨x, true, L⟩).next
  | 0, x, L, _, hx, hf, _, _, _, _ => by omega
  | f + 1, x, L, hi, hx, hf, hok, hn, f', hf' => by
    rw [lChoiceL_s p s f ⟨x, true, L⟩] at hok hn ⊢
    dsimp only at hok hn ⊢
    rw [Bool.true_and] at hok hn ⊢
    by_cases c : (atB s x == 124) = true
    · rw [if_pos c] at hok hn ⊢
      have c' : atB s x = 124 := by simpa using c
      have hx2 := atB_lt (s := s) (i := x) (by omega)
      have hpx : (p (x + 1)).ok = true := by
        cases e : (p (x + 1)).ok
        · have : (lEither ⟨x, true, L⟩ (p (x + 1))).ok = false := by unfold lEither; rw [e]; rfl
          rw [lChoiceL_bad p s f _ this, this] at hok; cases hok
        · rfl
      have ej : lEither ⟨x, true, L⟩ (p (x + 1)) = ⟨(p (x + 1)).next, true, Lang.alt L (p (x + 1)).lang⟩ := by unfold lEither; rw [if_pos hpx]
      rw [ej] at hok hn ⊢
      have g := hg (x + 1) (by omega) (by omega) hpx
      have rcv := fun f' hf' => loc_choiceL hp hg h0 h0' h hst f (p (x + 1)).next (Lang.alt L (p (x + 1)).lang) (by omega) (by omega) (by omega) hok hn f' hf'
      have r1 := (rcv (s'.size + 2 + ((p (x + 1)).next - i + i').natAbs) (by omega)).2
      have a1 := h.atK hi (x := x) (by omega)
      have a2 := atB_lt (s := s') (i := x - i + i') (by rw [a1]; omega)
      have hh := h.on (x + 1 - i).toNat
      rw [show i + ((x + 1 - i).toNat : Int) = x + 1 by omega, show i' + ((x + 1 - i).toNat : Int) = x - i + i' + 1 by omega] at hh
      have sm := hp (x + 1) (x - i + i' + 1) (n - (x + 1 - i).toNat) (by omega) (by omega) (by omega) hh (by rw [show x - i + i' + 1 + ((n - (x + 1 - i).toNat : Nat) : Int) = i' + n by omega]; exact hst) hpx (by omega)
      cases f' with
      | zero => omega
      | succ f' =>
        have hc' : (true && (atB s' (x - i + i') == 124)) = true := by rw [a1]; simpa using c
        have ej' : lEither ⟨x - i + i', true, L⟩ (p' (x - i + i' + 1)) = ⟨(p (x + 1)).next - i + i', true, Lang.alt L (p (x + 1)).lang⟩ := by
          unfold lEither
          rw [if_pos sm.ok, sm.next, sm.lang, show (p (x + 1)).next - (x + 1) + (x - i + i' + 1) = (p (x + 1)).next - i + i' by omega]
        rw [lChoiceL_s p' s' f']
        dsimp only
        rw [if_pos hc', ej']
        exact ⟨(rcv f' (by omega)).1, by omega⟩
    · rw [if_neg c] at hok hn ⊢
      dsimp only at hn ⊢
      have a1 : (atB s' (x - i + i') == 124) = false := by
        by_cases q : x < i + n
        · rw [h.atK hi q]; simpa using c
        · rw [show x - i + i' = i' + n by omega]; simpa using stopC_bar hst
      cases f' with
      | zero => exact ⟨⟨rfl, rfl, rfl⟩, by omega⟩
      | succ f' =>
        have hc' : ¬ (true && (atB s' (x - i + i') == 124)) = true := by rw [a1]; simp
        rw [lChoiceL_s p' s' f']
        dsimp only
        rw [if_neg hc']
        exact ⟨⟨rfl, rfl, rfl⟩, by omega⟩
theorem loc_choice {p p' : Int → LR} (hp : Loc s s' p p') (hg : LGoodF s p) : Loc s s' (lChoice p s) (lChoice p' s') := by
  intro i i' n h0 h1 h0' h hst hok hn
  unfold lChoice at hok hn ⊢
  have hok1 : (p i).ok = true := by
    cases e : (p i).ok
    · rw [lChoiceL_bad p s _ _ e, e] at hok; cases hok
    · rfl
  have g := hg i h0 h1 hok1
  rw [lr_eta hok1] at hok hn ⊢
  have key := fun f' hf' => loc_choiceL hp hg h0 h0' h hst (s.size + 5) (p i).next (p i).lang (by omega) (by omega) (by omega) hok hn f' hf'
  have k1 := (key (s'.size + 2 + ((p i).next - i + i').natAbs) (by omega)).2
  have sm := hp i i' n h0 h1 h0' h hst hok1 (by omega)
  rw [lr_eta sm.ok, sm.next, sm.lang]
  exact (key (s'.size + 5) (by omega)).1
theorem loc_group {c c' : Int → LR} (hc : Loc s s' c c') (hg : LGoodF s c) : LocG s s' (lGroup c s) (lGroup c' s') := by
  intro i i' n h0 h0' h40 h hok hn
  have hi := atB_lt (s := s) (i := i) (by omega)
  unfold lGroup at hok hn ⊢
  by_cases c1 : (c (i + 1)).ok = false
  · rw [if_pos c1] at hok; cases hok
  · have c1' : (c (i + 1)).ok = true := by simpa using c1
    rw [if_neg c1] at hok hn ⊢
    by_cases c2 : atB s (c (i + 1)).next ≠ 41
    · rw [if_pos c2] at hok; cases hok
    · rw [if_neg c2] at hok hn ⊢
      dsimp only at hn ⊢
      have c2' : atB s (c (i + 1)).next = 41 := by
        by_cases q : atB s (c (i + 1)).next = 41
        · exact q
        · exact absurd q c2
      have g := hg (i + 1) (by omega) (by omega) c1'
      have a1 := h.atK (x := (c (i + 1)).next) (by omega) (by omega)
      have hh := h.tail.less (m := ((c (i + 1)).next - (i + 1)).toNat) (by omega)
      have sm := hc (i + 1) (i' + 1) _ (by omega) (by omega) (by omega) hh (by
        rw [show i' + 1 + (((c (i + 1)).next - (i + 1)).toNat : Int) = (c (i + 1)).next - i + i' by omega, a1, c2']; decide) c1' (by omega)
      have e3 : (c' (i' + 1)).next = (c (i + 1)).next - i + i' := by rw [sm.next]; omega
      rw [if_neg (by rw [sm.ok]; simp), e3, a1, if_neg c2]
      exact ⟨rfl, by dsimp only; omega, sm.lang⟩
end
theorem loc_gK (s s' : ByteArray) : ∀ k k' : Nat, k ≤ k' → LocG s s' (lgK s k) (lgK s' k')
  | 0, _, _ => fun i i' n _ _ _ _ hok _ => by cases hok
  | k + 1, 0, h => by omega
  | k + 1, k' + 1, h => loc_group (loc_choice (loc_branch (loc_piece (loc_atom (loc_gK s s' k k' (by omega)) (lg_atom s k)) (lg_atom s k)) (lg_piece s k)) (lg_branch s k)) (lg_chK s k)
/-- a pattern is read alike where the texts are alike and the second ends the pattern -/
theorem loc_chK (s s' : ByteArray) {k k' : Nat} (h : k ≤ k') : Loc s s' (lchK s k) (lchK s' k') := loc_choice (loc_branch (loc_piece (loc_atom (loc_gK s s' k k' h) (lg_atom s k)) (lg_atom s k)) (lg_piece s k)) (lg_branch s k)
end Go.Proofs.Ytjcknghdgfcboaa
namespace Go.Proofs.Ytjcknghdgfcboaa
open Go.RowKit
set_option linter.unusedVariables false
set_option linter.unusedSimpArgs false

theorem zsmall_any (c : Int) (w : World) : Calls Try.prog 51 #[.int .u8 c] w fun e w' => e = .returned (.bool (isSmallB c)) ∧ w' = w := by
  go_enter Try.func51, Try.ntmps51
  go_wp2
  all_goals (go_ret; exact ⟨ret_bool (by rw [Bool.eq_iff_iff]; simp [isSmallB]; omega), rfl⟩)
theorem zgreat_any (c : Int) (w : World) : Calls Try.prog 28 #[.int .u8 c] w fun e w' => e = .returned (.bool (isCapB c)) ∧ w' = w := by
  go_enter Try.func28, Try.ntmps28
  go_wp2
  all_goals (go_ret; exact ⟨ret_bool (by rw [Bool.eq_iff_iff]; simp [isCapB]; omega), rfl⟩)
theorem zsuffix_any (c : Int) (w : World) : Calls Try.prog 57 #[.int .u8 c] w fun e w' => e = .returned (.bool (isMark c)) ∧ w' = w := by
  go_enter Try.func57, Try.ntmps57
  go_wp2
  all_goals (go_ret; exact ⟨ret_bool (by rw [Bool.eq_iff_iff]; simp_all [isMark]), rfl⟩)
/-- the byte that a \ and this byte stand for -/
def mkF (c : Int) : Int × Bool := if c = 110 then (10, true) else if c = 116 then (9, true) else (c, !(!isPrB c || isSmallB c || isCapB c || isDigB c))
set_option maxRecDepth 20000 in
set_option maxHeartbeats 2000000 in
theorem zmarked_any (c : Nat) (w : World) (hc : c ≤ 255) : Calls Try.prog 62 #[.int .u8 c] w fun e w' => e = .returned (.tuple #[.int .i64 (mkF c).1, .bool (mkF c).2]) ∧ w' = w := by
  by_cases h1 : c = 110
  · subst h1
    go_enter Try.func62, Try.ntmps62
    go_wp2
    go_ret2
    exact ⟨rfl, rfl⟩
  · by_cases h2 : c = 116
    · subst h2
      go_enter Try.func62, Try.ntmps62
      go_wp2
      go_ret2
      exact ⟨rfl, rfl⟩
    · have k1 : ((c : Int) == 110) = false := by simp; omega
      have k2 : ((c : Int) == 116) = false := by simp; omega
      have k3 : ¬ (c : Int) = 110 := by omega
      have k4 : ¬ (c : Int) = 116 := by omega
      have HM : Hid (mkF c = ((c : Int), !(!isPrB c || isSmallB c || isCapB c || isDigB c))) := by unfold Hid mkF; rw [if_neg k3, if_neg k4]
      rw [HM.out]
      clear HM
      have hpr : isPrB (c : Int) = (decide (32 ≤ c) && decide (c ≤ 126)) := by unfold isPrB; rw [Bool.eq_iff_iff]; simp; omega
      have hdg : isDigB (c : Int) = (decide (48 ≤ c) && decide (c ≤ 57)) := by unfold isDigB; rw [Bool.eq_iff_iff]; simp; omega
      have HPR := hid hpr
      have HDG := hid hdg
      clear hpr hdg
      generalize hsm : isSmallB (c : Int) = sm
      generalize hgr : isCapB (c : Int) = gr
      have ZS := hid (fun w => zsmall_any (c : Int) w)
      have ZG := hid (fun w => zgreat_any (c : Int) w)
      rw [hsm] at ZS
      rw [hgr] at ZG
      clear hsm hgr
      go_enter Try.func62, Try.ntmps62
      go_wp2_with (first
        | (go_at_call 51; refine (ZS.out _).mono ?_; rintro e w' ⟨rfl, hw⟩; rw [hw]; clear hw)
        | (go_at_call 28; refine (ZG.out _).mono ?_; rintro e w' ⟨rfl, hw⟩; rw [hw]; clear hw))
      all_goals
        go_ret2
        refine ⟨?_, rfl⟩
        rw [HPR.out, HDG.out]
        simp_all
      all_goals first
        | (intros; omega)
        | (rw [Bool.eq_iff_iff]; simp; omega)
/-- End, as the reference says it -/
theorem mkF_mark {s : ByteArray} {i : Int} : rMark s i = if (mkF (atB s i)).2 = true then ((mkF (atB s i)).1, i + 1, true) else (0, i, false) := by
  unfold rMark mkF
  split
  · rfl
  · split
    · rfl
    · split
      · rename_i h; rw [if_neg (by rw [h]; simp)]
      · rename_i h; rw [if_pos (by simpa using h)]
def okI (b : Bool) (x : Int) : Int := if b = true then x else -1
def okV (b : Bool) (x : Int) : Int := if b = true then x else 0
set_option maxRecDepth 20000 in
set_option maxHeartbeats 4000000 in
theorem zend_any (p : ByteArray) (i : Nat) (w : World) (hp : p.size ≤ 100000) (hi : i ≤ 200000) :
    Calls Try.prog 75 #[.string p, .int .i64 i] w fun e w' => e = .returned (.tuple #[.int .i64 (okV (rEnd p i).2.2 (rEnd p i).1), .int .i64 (okI (rEnd p i).2.2 (rEnd p i).2.1)]) ∧ w' = w := by
  by_cases h1 : i < p.size
  · have hb : atB p (i : Nat) = p[i].toNat := by unfold atB; rw [dif_pos ⟨by omega, by simpa using h1⟩]; simp
    have hbl : p[i].toNat < 256 := p[i].toNat_lt
    have h11 : ¬ (p.size : Int) ≤ (i : Int) := by omega
    have h12 : (i : Int) < (p.size : Int) := by omega
    by_cases h2 : p[i].toNat = 92
    · have hE : rEnd p i = rMark p (i + 1) := by unfold rEnd; rw [hb, h2, if_pos (by decide)]
      rw [hE, mkF_mark]
      have k92 : ((p[i].toNat : Int) == 92) = true := by simp [h2]
      by_cases h3 : i + 1 < p.size
      · have hb2 : atB p ((i : Int) + 1) = p[i + 1].toNat := by
          have : atB p ((i + 1 : Nat) : Int) = p[i + 1].toNat := by unfold atB; rw [dif_pos ⟨by omega, by simpa using h3⟩]; simp
          rw [← this]; rfl
        have hbl2 : p[i + 1].toNat < 256 := p[i + 1].toNat_lt
        have h31 : ¬ (p.size : Int) ≤ (i : Int) + 1 := by omega
        have h32 : (i : Int) + 1 < (p.size : Int) := by omega
        have h33 : ((i : Int) + 1).toNat = i + 1 := by omega
        rw [hb2]
        have ZM := hid (fun w => zmarked_any p[i + 1].toNat w (by omega))
        generalize mkF (p[i + 1].toNat : Int) = m at ZM ⊢
        obtain ⟨v, ok⟩ := m
        dsimp only at ZM ⊢
        clear hE hb hb2
        cases ok
        · go_enter Try.func75, Try.ntmps75
          go_wp2_with (first
            | (go_at_call 62; refine (ZM.out _).mono ?_; rintro e w' ⟨rfl, hw⟩; rw [hw]; clear hw))
          go_ret2
          exact ⟨rfl, rfl⟩
        · go_enter Try.func75, Try.ntmps75
          go_wp2_with (first
            | (go_at_call 62; refine (ZM.out _).mono ?_; rintro e w' ⟨rfl, hw⟩; rw [hw]; clear hw))
          go_ret2
          exact ⟨by simp [okV, okI]; omega, rfl⟩
      · have h31 : (p.size : Int) ≤ (i : Int) + 1 := by omega
        have hb2 : atB p ((i : Int) + 1) = -1 := by unfold atB; rw [dif_neg (by omega)]
        rw [hb2, show mkF (-1) = (-1, false) from by decide]
        clear hE hb hb2
        go_enter Try.func75, Try.ntmps75
        go_wp2
        go_ret2
        exact ⟨rfl, rfl⟩
    · have k92 : ((p[i].toNat : Int) == 92) = false := by simp; omega
      have hE : rEnd p i = if p[i].toNat = 93 ∨ p[i].toNat = 94 ∨ p[i].toNat = 45 ∨ p[i].toNat < 32 ∨ 126 < p[i].toNat then (0, (i : Int), false) else ((p[i].toNat : Int), (i : Int) + 1, true) := by
        unfold rEnd
        rw [hb, if_neg (by omega)]
        by_cases q : p[i].toNat = 93 ∨ p[i].toNat = 94 ∨ p[i].toNat = 45
        · rw [if_pos (by omega), if_pos (by omega)]
        · rw [if_neg (by omega)]
          by_cases q2 : isPrB (p[i].toNat : Int) = false
          · rw [if_pos q2, if_pos (by unfold isPrB at q2; rw [Bool.and_eq_false_iff, decide_eq_false_iff_not, decide_eq_false_iff_not] at q2; omega)]
          · have q3 : isPrB (p[i].toNat : Int) = true := by simpa using q2
            unfold isPrB at q3
            rw [Bool.and_eq_true, decide_eq_true_eq, decide_eq_true_eq] at q3
            rw [if_neg q2, if_neg (by omega)]
      rw [hE]
      clear hE hb
      generalize hn : p[i].toNat = n at *
      have HN := hid hn
      by_cases q : n = 93 ∨ n = 94 ∨ n = 45 ∨ n < 32 ∨ 126 < n
      · rw [if_pos q]
        go_enter Try.func75, Try.ntmps75
        go_wp2
        all_goals first
          | (exfalso; omega)
          | (go_ret2; exact ⟨rfl, rfl⟩)
          | (exfalso; simp_all; done)
          | (exfalso; simp_all; omega)
      · rw [if_neg q]
        go_enter Try.func75, Try.ntmps75
        go_wp2
        all_goals first
          | (exfalso; omega)
          | (go_ret2; exact ⟨rfl, rfl⟩)
          | (exfalso; simp_all; done)
          | (exfalso; simp_all; omega)
  · have h11 : (p.size : Int) ≤ (i : Int) := by omega
    have hE : rEnd p i = (0, (i : Int), false) := by
      have hb : atB p (i : Nat) = -1 := by unfold atB; rw [dif_neg (by omega)]
      unfold rEnd
      rw [hb, if_neg (by decide), if_neg (by decide), if_pos (by decide)]
    rw [hE]
    clear hE
    go_enter Try.func75, Try.ntmps75
    go_wp2
    go_ret2
    exact ⟨rfl, rfl⟩
end Go.Proofs.Ytjcknghdgfcboaa
