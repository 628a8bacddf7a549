import Derived.Test.YtcpgklcimacngaaGreatLa6
namespace Go.Proofs.YtcpgklcimacngaaGreat
open Go.RowKit
set_option linter.unusedVariables false
set_option linter.unusedSimpArgs false

/-- two texts are alike at two places for n bytes -/
def Alike (s : ByteArray) (i : Int) (s' : ByteArray) (i' : Int) (n : Nat) : Prop := ∀ j : Nat, j < n → atB s (i + j) = atB s' (i' + j)
theorem Alike.at0 {s s' : ByteArray} {i i' : Int} {n : Nat} (h : Alike s i s' i' n) (hn : 0 < n) : atB s' i' = atB s i := by
  have := h 0 hn
  simpa using this.symm
theorem Alike.on {s s' : ByteArray} {i i' : Int} {n : Nat} (h : Alike s i s' i' n) (k : Nat) : Alike s (i + k) s' (i' + k) (n - k) := fun j hj => by
  have := h (k + j) (by omega)
  rw [show i + (k : Int) + (j : Int) = i + ((k + j : Nat) : Int) by omega, show i' + (k : Int) + (j : Int) = i' + ((k + j : Nat) : Int) by omega]
  exact this
theorem Alike.less {s s' : ByteArray} {i i' : Int} {n m : Nat} (h : Alike s i s' i' n) (hm : m ≤ n) : Alike s i s' i' m := fun j hj => h j (by omega)
theorem Alike.atK {s s' : ByteArray} {i i' : Int} {n : Nat} (h : Alike s i s' i' n) {x : Int} (h0 : i ≤ x) (h1 : x < i + n) : atB s' (x - i + i') = atB s x := by
  have := h (x - i).toNat (by omega)
  rw [show i + ((x - i).toNat : Int) = x by omega, show i' + ((x - i).toNat : Int) = x - i + i' by omega] at this
  exact this.symm
theorem Alike.tail {s s' : ByteArray} {i i' : Int} {n : Nat} (h : Alike s i s' i' n) : Alike s (i + 1) s' (i' + 1) (n - 1) := h.on 1
theorem rEndsL_s (s : ByteArray) (i : Int) (f : Nat) (next : Int) (ws : List Int) : rEndsL s i (f + 1) next ws = if next = i ∨ atB s next ≠ 93 then
      if (rRange s next).2.2.2 = false then (zero4, (rRange s next).2.2.1, false)
      else rEndsL s i f (rRange s next).2.2.1 (withF ws (rRange s next).1 (rRange s next).2.1)
    else (ws, next + 1, true) := rfl
section
variable {s s' : ByteArray} {i i' : Int} {n : Nat}
theorem rMark_loc (h : Alike s i s' i' n) (h0 : 0 ≤ i) (hok : (rMark s i).2.2 = true) (hn : (rMark s i).2.1 ≤ i + n) : rMark s' i' = ((rMark s i).1, (rMark s i).2.1 - i + i', true) := by
  have hb := (rMark_bd s i h0).2.2.2.2 hok
  have e := h.at0 (by omega)
  unfold rMark at hok hb ⊢
  rw [e]
  split
  · simp; omega
  · split
    · simp; omega
    · rename_i h1 h2
      rw [if_neg h1, if_neg h2] at hok
      split
      · rename_i h3; rw [if_pos h3] at hok; cases hok
      · simp; omega
theorem rEnd_loc (h : Alike s i s' i' n) (h0 : 0 ≤ i) (hok : (rEnd s i).2.2 = true) (hn : (rEnd s i).2.1 ≤ i + n) : rEnd s' i' = ((rEnd s i).1, (rEnd s i).2.1 - i + i', true) := by
  have hb := (rEnd_bd s i h0).2.2.2.2 hok
  have e := h.at0 (by omega)
  unfold rEnd at hok hb hn ⊢
  rw [e]
  split
  · rename_i h1
    rw [if_pos h1] at hok hn hb
    have := rMark_loc h.tail (by omega) hok (by omega)
    rw [this]
    simp; omega
  · rename_i h1
    rw [if_neg h1] at hok
    split
    · rename_i h2; rw [if_pos h2] at hok; cases hok
    · rename_i h2
      rw [if_neg h2] at hok
      split
      · rename_i h3; rw [if_pos h3] at hok; cases hok
      · simp; omega
theorem rRange_loc (h : Alike s i s' i' n) (h0 : 0 ≤ i) (hok : (rRange s i).2.2.2 = true) (hn : (rRange s i).2.2.1 < i + n) : rRange s' i' = ((rRange s i).1, (rRange s i).2.1, (rRange s i).2.2.1 - i + i', true) := by
  have b1 := rEnd_bd s i h0
  have b2 := rEnd_bd s ((rEnd s i).2.1 + 1) (by omega)
  unfold rRange at hok hn ⊢
  by_cases c1 : (rEnd s i).2.2 = false
  · rw [if_pos c1] at hok; cases hok
  · have c1' : (rEnd s i).2.2 = true := by simpa using c1
    have b3 := b1.2.2.2.2 c1'
    rw [if_neg c1] at hok hn ⊢
    by_cases c2 : atB s (rEnd s i).2.1 ≠ 45
    · rw [if_pos c2] at hok hn ⊢
      have r1 := rEnd_loc h h0 c1' (by dsimp only at hn; omega)
      have a1 := h.atK (x := (rEnd s i).2.1) (by omega) hn
      rw [r1]
      dsimp only
      rw [if_neg (by simp), a1, if_pos c2]
    · rw [if_neg c2] at hok hn ⊢
      by_cases c3 : (rEnd s ((rEnd s i).2.1 + 1)).2.2 = false
      · rw [if_pos c3] at hok; cases hok
      · have c3' : (rEnd s ((rEnd s i).2.1 + 1)).2.2 = true := by simpa using c3
        have b4 := b2.2.2.2.2 c3'
        rw [if_neg c3] at hok hn ⊢
        by_cases c4 : (rEnd s ((rEnd s i).2.1 + 1)).1 < (rEnd s i).1
        · rw [if_pos c4] at hok; cases hok
        · rw [if_neg c4] at hok hn ⊢
          dsimp only at hn ⊢
          have r1 := rEnd_loc h h0 c1' (by omega)
          have a1 := h.atK (x := (rEnd s i).2.1) (by omega) (by omega)
          have hh := h.on ((rEnd s i).2.1 + 1 - i).toNat
          rw [show i + (((rEnd s i).2.1 + 1 - i).toNat : Int) = (rEnd s i).2.1 + 1 by omega, show i' + (((rEnd s i).2.1 + 1 - i).toNat : Int) = (rEnd s i).2.1 - i + i' + 1 by omega] at hh
          have r2 := rEnd_loc hh (by omega) c3' (by omega)
          rw [r1]
          dsimp only
          rw [if_neg (by simp), a1, if_neg c2, r2]
          dsimp only
          rw [if_neg (by simp), if_neg c4]
          simp; omega
theorem rEndsL_loc (h : Alike s i s' i' n) (h0 : 0 ≤ i) : ∀ (f : Nat) (next : Int) (ws : List Int), i ≤ next → (rEndsL s i f next ws).2.2 = true → (rEndsL s i f next ws).2.1 ≤ i + n →
    ∀ f' : Nat, (s'.size : Int) + 2 ≤ f' + (next - i + i') → rEndsL s' i' f' (next - i + i') ws = ((rEndsL s i f next ws).1, (rEndsL s i f next ws).2.1 - i + i', true) ∧ next < (rEndsL s i f next ws).2.1
  | 0, next, ws, _, hok, _, _, _ => by cases hok
  | f + 1, next, ws, hi, hok, hn, f', hf => by
    rw [rEndsL_s s i f next ws] at hok hn ⊢
    by_cases c : next = i ∨ atB s next ≠ 93
    · rw [if_pos c] at hok hn ⊢
      by_cases c1 : (rRange s next).2.2.2 = false
      · rw [if_pos c1] at hok; cases hok
      · have c1' : (rRange s next).2.2.2 = true := by simpa using c1
        have b := (rRange_bd s next (by omega)).2.2.2.2.2.2 c1'
        rw [if_neg c1] at hok hn ⊢
        have rcv := fun f' hf => rEndsL_loc h h0 f (rRange s next).2.2.1 (withF ws (rRange s next).1 (rRange s next).2.1) (by omega) hok hn f' hf
        have r1 := (rcv (s'.size + 2 + ((rRange s next).2.2.1 - i + i').natAbs) (by omega)).2
        have hh := h.on (next - i).toNat
        rw [show i + ((next - i).toNat : Int) = next by omega, show i' + ((next - i).toNat : Int) = next - i + i' by omega] at hh
        have r2 := rRange_loc hh (by omega) c1' (by omega)
        have b' := (rRange_bd s' (next - i + i') (by
          by_cases q : 0 ≤ next - i + i'
          · exact q
          · exfalso
            have a0 := h.atK (x := next) hi (by omega)
            have hz : atB s' (next - i + i') = -1 := by unfold atB; rw [dif_neg (by omega)]
            rw [hz] at a0
            have hz2 : (rEnd s next).2.2 = false := by
              unfold rEnd
              rw [← a0]
              simp [isPrB]
            unfold rRange at c1'
            rw [if_pos hz2] at c1'
            cases c1')).2.2.2.2.2.2 (by rw [r2])
        rw [r2] at b'
        dsimp only at b'
        cases f' with
        | zero => omega
        | succ f' =>
          rw [rEndsL_s s' i' f']
          have a1 : next - i + i' = i' ∨ atB s' (next - i + i') ≠ 93 := by
            rcases c with c | c
            · exact .inl (by omega)
            · exact .inr (by rw [h.atK hi (by omega)]; exact c)
          rw [if_pos a1, r2]
          dsimp only
          rw [if_neg (by simp)]
          have e : (rRange s next).2.2.1 - next + (next - i + i') = (rRange s next).2.2.1 - i + i' := by omega
          rw [e]
          exact ⟨(rcv f' (by omega)).1, by omega⟩
    · rw [if_neg c] at hok hn ⊢
      dsimp only at hn ⊢
      have c' : ¬ next = i ∧ atB s next = 93 := by
        by_cases q : next = i
        · exact absurd (.inl q) c
        · exact ⟨q, by
            by_cases q2 : atB s next = 93
            · exact q2
            · exact absurd (.inr q2) c⟩
      have a1 := h.atK hi (x := next) (by omega)
      have a2 := atB_lt (s := s') (i := next - i + i') (by rw [a1, c'.2]; decide)
      cases f' with
      | zero => omega
      | succ f' =>
        rw [rEndsL_s s' i' f']
        rw [if_neg (by rw [a1]; intro q; rcases q with q | q; omega; exact q c'.2)]
        exact ⟨by simp; omega, by omega⟩
theorem rEnds_loc (h : Alike s i s' i' n) (h0 : 0 ≤ i) (h0' : 0 ≤ i') (hok : (rEnds s i).2.2 = true) (hn : (rEnds s i).2.1 ≤ i + n) : rEnds s' i' = ((rEnds s i).1, (rEnds s i).2.1 - i + i', true) := by
  have := (rEndsL_loc h h0 (s.size + 5) i zero4 (by omega) hok hn (s'.size + 5) (by omega)).1
  rw [show i - i + i' = i' by omega] at this
  exact this
theorem rBr_loc (h : Alike s i s' i' n) (h0 : 0 ≤ i) (h0' : 0 ≤ i') (hs : i ≤ s.size) (hok : (rBr s i).2.2 = true) (hn : (rBr s i).2.1 ≤ i + n) : rBr s' i' = ((rBr s i).1, (rBr s i).2.1 - i + i', true) := by
  have hb := (rBr_bd s i h0 hs).2.2 hok
  have e := h.at0 (by omega)
  unfold rBr at hok hn ⊢
  rw [e]
  split
  · rename_i h1
    rw [if_pos h1] at hok hn
    have := rEnds_loc h.tail (by omega) (by omega) hok (by dsimp only at hn; omega)
    rw [this]
    simp; omega
  · rename_i h1
    rw [if_neg h1] at hok hn
    exact rEnds_loc h h0 h0' hok hn
/-- a set is read alike where the texts are alike -/
theorem rSet_loc (h : Alike s i s' i' n) (h0 : 0 ≤ i) (h0' : 0 ≤ i') (hok : (rSet s i).2.2 = true) (hn : (rSet s i).2.1 ≤ i + n) : rSet s' i' = ((rSet s i).1, (rSet s i).2.1 - i + i', true) := by
  have hb := (rSet_bd s i h0).2.2 hok
  have e := h.at0 (by omega)
  unfold rSet at hok hn hb ⊢
  rw [e]
  by_cases c1 : atB s i = 46
  · rw [if_pos c1, if_pos c1]; simp; omega
  · rw [if_neg c1] at hok hn hb ⊢
    rw [if_neg c1]
    by_cases c2 : atB s i = 91
    · rw [if_pos c2] at hok hn hb ⊢
      rw [if_pos c2]
      have := rBr_loc h.tail (by omega) (by omega) (by omega) hok (by omega)
      rw [this]; simp; omega
    · rw [if_neg c2] at hok hn hb ⊢
      rw [if_neg c2]
      by_cases c3 : atB s i = 92
      · rw [if_pos c3] at hok hn hb ⊢
        rw [if_pos c3]
        have := rMark_loc h.tail (by omega) hok (by dsimp only at hn; omega)
        rw [this]; simp; omega
      · rw [if_neg c3] at hok hn hb ⊢
        rw [if_neg c3]
        by_cases c4 : isPlainB (atB s i) = false
        · rw [if_pos c4] at hok; cases hok
        · rw [if_neg c4, if_neg c4]; simp; omega
end
end Go.Proofs.YtcpgklcimacngaaGreat
namespace Go.Proofs.YtcpgklcimacngaaGreat
open Go.RowKit
set_option linter.unusedVariables false
set_option linter.unusedSimpArgs false

def begC (c : Int) : Bool := c == 40 || c == 46 || c == 91 || c == 92 || isPlainB c
theorem beginsB_eq (s : ByteArray) (i : Int) : beginsB s i = begC (atB s i) := rfl
/-- a byte that ends a pattern -/
def stopC (c : Int) : Bool := !isMark c && !begC c && c != 124
theorem stopC_mark {c : Int} (h : stopC c = true) : isMark c = false := by
  unfold stopC at h
  cases h1 : isMark c
  · rfl
  · rw [h1] at h; simp at h
theorem stopC_beg {c : Int} (h : stopC c = true) : begC c = false := by
  unfold stopC at h
  cases h1 : begC c
  · rfl
  · rw [h1] at h; simp at h
theorem stopC_bar {c : Int} (h : stopC c = true) : c ≠ 124 := by
  unfold stopC at h
  intro e
  rw [e] at h
  simp at h
theorem mark_in {c : Int} (h : isMark c = true) : c ≠ -1 := by intro e; rw [e] at h; revert h; decide
theorem beg_in {c : Int} (h : begC c = true) : c ≠ -1 := by intro e; rw [e] at h; revert h; decide

def LGoodF (s : ByteArray) (l : Int → LR) : Prop := ∀ i : Int, 0 ≤ i → i ≤ s.size → (l i).ok = true → i < (l i).next ∧ (l i).next ≤ s.size
theorem lgood_of {s : ByteArray} {f : Int → List Node → PR} {l : Int → LR} (h : GoodF s f) (k : LkF f l) : LGoodF s l := fun i h0 h1 hok => by
  have h2 := (h i [] h0 h1).good (by rw [(k i []).ok]; exact hok)
  rw [(k i []).next] at h2; exact h2
theorem lg_atom (s : ByteArray) (k : Nat) : LGoodF s (lAtom (lgK s k) s) := lgood_of (good_atom' (good_gK s k)) (lk_atom (lk_gK s k))
theorem lg_piece (s : ByteArray) (k : Nat) : LGoodF s (lPiece (lAtom (lgK s k) s) s) := lgood_of (good_piece (good_atom' (good_gK s k))) (lk_piece (lk_atom (lk_gK s k)))
theorem lg_branch (s : ByteArray) (k : Nat) : LGoodF s (lBranch (lPiece (lAtom (lgK s k) s) s) s) := lgood_of (good_branch (good_piece (good_atom' (good_gK s k)))) (lk_branch (lk_piece (lk_atom (lk_gK s k))))
theorem lg_chK (s : ByteArray) (k : Nat) : LGoodF s (lchK s k) := lgood_of (good_chK s k) (lk_chK s k)

/-- the same is read, at another place -/
structure Same (r r' : LR) (i i' : Int) : Prop where
  ok : r'.ok = true
  next : r'.next = r.next - i + i'
  lang : r'.lang = r.lang
def LocG (s s' : ByteArray) (l l' : Int → LR) : Prop := ∀ (i i' : Int) (n : Nat), 0 ≤ i → 0 ≤ i' → atB s i = 40 → Alike s i s' i' n → (l i).ok = true → (l i).next ≤ i + n → Same (l i) (l' i') i i'
def LocA (s s' : ByteArray) (l l' : Int → LR) : Prop := ∀ (i i' : Int) (n : Nat), 0 ≤ i → i ≤ s.size → 0 ≤ i' → Alike s i s' i' n → (l i).ok = true → (l i).next ≤ i + n → Same (l i) (l' i') i i'
def Loc (s s' : ByteArray) (l l' : Int → LR) : Prop := ∀ (i i' : Int) (n : Nat), 0 ≤ i → i ≤ s.size → 0 ≤ i' → Alike s i s' i' n → stopC (atB s' (i' + n)) = true → (l i).ok = true → (l i).next ≤ i + n → Same (l i) (l' i') i i'
theorem lPieceL_s (s : ByteArray) (f : Nat) (r : LR) : lPieceL s (f + 1) r = if (r.ok && isMark (atB s r.next)) = true then lPieceL s f ⟨r.next + 1, true, Lang.rep (atB s r.next) r.lang⟩ else r := rfl
theorem lBranchL_s (p : Int → LR) (s : ByteArray) (f : Nat) (r : LR) : lBranchL p s (f + 1) r = if (r.ok && beginsB s r.next) = true then lBranchL p s f (lJoin r (p r.next)) else r := rfl
theorem lChoiceL_s (p : Int → LR) (s : ByteArray) (f : Nat) (r : LR) : lChoiceL p s (f + 1) r = if (r.ok && (atB s r.next == 124)) = true then lChoiceL p s f (lEither r (p (r.next + 1))) else r := rfl
section
variable {s s' : ByteArray}
theorem loc_atom {g g' : Int → LR} (hg : LocG s s' g g') (hgd : LGoodF s (lAtom g s)) : LocA s s' (lAtom g s) (lAtom g' s') := by
  intro i i' n h0 h1 h0' h hok hn
  have hgd := hgd i h0 h1 hok
  have e := h.at0 (by omega)
  unfold lAtom at hok hn ⊢
  rw [e]
  by_cases c : atB s i = 40
  · rw [if_pos c] at hok hn ⊢
    rw [if_pos c]
    exact hg i i' n h0 h0' c h hok hn
  · rw [if_neg c] at hok hn ⊢
    rw [if_neg c]
    by_cases c2 : (rSet s i).2.2 = false
    · rw [if_pos c2] at hok; cases hok
    · rw [if_neg c2] at hok hn ⊢
      have r := rSet_loc h h0 h0' (by simpa using c2) hn
      rw [r]
      rw [if_neg (by simp)]
      exact ⟨rfl, rfl, rfl⟩
theorem loc_pieceL {i i' : Int} {n : Nat} (h : Alike s i s' i' n) (hst : stopC (atB s' (i' + n)) = true) : ∀ (f : Nat) (x : Int) (L : Lang), i ≤ x → x ≤ s.size → (s.size : Int) + 2 ≤ f + x → (lPieceL s f ⟨x, true, L⟩).next ≤ i + n → ∀ f' : Nat, (s'.size : Int) + 2 ≤ f' + (x - i + i') →
    Same (lPieceL s f ⟨x, true, L⟩) (lPieceL s' f' ⟨x - i + i', true, L⟩) i i' ∧ x ≤ (lPieceL s f ⟨x, true, L⟩).next ∧ (lPieceL s f ⟨x, true, L⟩).ok = true
  | 0, x, L, _, hx, hf, _, _, _ => by omega
  | f + 1, x, L, hi, hx, hf, hn, f', hf' => by
    rw [lPieceL_s s f ⟨x, true, L⟩] at hn ⊢
    dsimp only at hn ⊢
    rw [Bool.true_and] at hn ⊢
    by_cases c : isMark (atB s x) = true
    · rw [if_pos c] at hn ⊢
      have hx2 := atB_lt (s := s) (i := x) (mark_in c)
      have rcv := fun f' hf' => loc_pieceL h hst f (x + 1) (Lang.rep (atB s x) L) (by omega) (by omega) (by omega) hn f' hf'
      have r1 := (rcv (s'.size + 2 + (x + 1 - i + i').natAbs) (by omega)).2
      have a1 := h.atK hi (x := x) (by omega)
      have a2 := atB_lt (s := s') (i := x - i + i') (by rw [a1]; exact mark_in c)
      cases f' with
      | zero => omega
      | succ f' =>
        have hc' : (true && isMark (atB s' (x - i + i'))) = true := by rw [a1]; simpa using c
        rw [lPieceL_s s' f']
        dsimp only
        rw [if_pos hc', a1, show x - i + i' + 1 = x + 1 - i + i' by omega]
        exact ⟨(rcv f' (by omega)).1, by omega, r1.2⟩
    · rw [if_neg c] at hn ⊢
      dsimp only at hn ⊢
      have a1 : isMark (atB s' (x - i + i')) = false := by
        by_cases q : x < i + n
        · rw [h.atK hi q]; simpa using c
        · rw [show x - i + i' = i' + n by omega]; exact stopC_mark hst
      cases f' with
      | zero => exact ⟨⟨rfl, rfl, rfl⟩, by omega, rfl⟩
      | succ f' =>
        have hc' : ¬ (true && isMark (atB s' (x - i + i'))) = true := by rw [a1]; simp
        rw [lPieceL_s s' f']
        dsimp only
        rw [if_neg hc']
        exact ⟨⟨rfl, rfl, rfl⟩, by omega, rfl⟩
theorem lPieceL_bad (s : ByteArray) : ∀ (f : Nat) (r : LR), r.ok = false → lPieceL s f r = r
  | 0, r, _ => rfl
  | f + 1, r, h => by unfold lPieceL; rw [h]; rfl
theorem lr_eta {r : LR} (h : r.ok = true) : r = ⟨r.next, true, r.lang⟩ := by obtain ⟨a, b, c⟩ := r; dsimp only at h ⊢; rw [h]
theorem loc_piece {a a' : Int → LR} (ha : LocA s s' a a') (hg : LGoodF s a) : Loc s s' (lPiece a s) (lPiece a' s') := by
  intro i i' n h0 h1 h0' h hst hok hn
  unfold lPiece at hok hn ⊢
  have hok1 : (a i).ok = true := by
    cases e : (a i).ok
    · rw [lPieceL_bad s _ _ e, e] at hok; cases hok
    · rfl
  have g := hg i h0 h1 hok1
  rw [lr_eta hok1] at hn ⊢
  have key := fun f' hf' => loc_pieceL h hst (s.size + 5) (a i).next (a i).lang (by omega) (by omega) (by omega) hn f' hf'
  have k1 := (key (s'.size + 2 + ((a i).next - i + i').natAbs) (by omega)).2.1
  have sm := ha i i' n h0 h1 h0' h hok1 (by omega)
  rw [lr_eta sm.ok, sm.next, sm.lang]
  exact (key (s'.size + 5) (by omega)).1
theorem lBranchL_bad (p : Int → LR) (s : ByteArray) : ∀ (f : Nat) (r : LR), r.ok = false → lBranchL p s f r = r
  | 0, r, _ => rfl
  | f + 1, r, h => by unfold lBranchL; rw [h]; rfl
theorem lChoiceL_bad (p : Int → LR) (s : ByteArray) : ∀ (f : Nat) (r : LR), r.ok = false → lChoiceL p s f r = r
  | 0, r, _ => rfl
  | f + 1, r, h => by unfold lChoiceL; rw [h]; rfl
theorem loc_branchL {p p' : Int → LR} (hp : Loc s s' p p') (hg : LGoodF s p) {i i' : Int} {n : Nat} (h0 : 0 ≤ i) (h0' : 0 ≤ i') (h : Alike s i s' i' n) (hst : stopC (atB s' (i' + n)) = true) : ∀ (f : Nat) (x : Int) (L : Lang), i ≤ x → x ≤ s.size → (s.size : Int) + 2 ≤ f + x → (lBranchL p s f ⟨x, true, L⟩).ok = true → (lBranchL p s f ⟨x, true, L⟩).next ≤ i + n → ∀ f' : Nat, (s'.size : Int) + 2 ≤ f' + (x - i + i') →
    Same (lBranchL p s f ⟨x, true, L⟩) (lBranchL p' s' f' ⟨x - i + i', true, L⟩) i i' ∧ x ≤ (lBranchL p s f ⟨x, true, L⟩).next
  | 0, x, L, _, hx, hf, _, _, _, _ => by omega
  | f + 1, x, L, hi, hx, hf, hok, hn, f', hf' => by
    rw [lBranchL_s p s f ⟨x, true, L⟩] at hok hn ⊢
    dsimp only at hok hn ⊢
    rw [Bool.true_and] at hok hn ⊢
    by_cases c : beginsB s x = true
    · rw [if_pos c] at hok hn ⊢
      have hx2 := atB_lt (s := s) (i := x) (beg_in c)
      have hpx : (p x).ok = true := by
        cases e : (p x).ok
        · have : (lJoin ⟨x, true, L⟩ (p x)).ok = false := by unfold lJoin; rw [e]; rfl
          rw [lBranchL_bad p s f _ this, this] at hok; cases hok
        · rfl
      have ej : lJoin ⟨x, true, L⟩ (p x) = ⟨(p x).next, true, Lang.cat L (p x).lang⟩ := by unfold lJoin; rw [if_pos hpx]
      rw [ej] at hok hn ⊢
      have g := hg x (by omega) (by omega) hpx
      have rcv := fun f' hf' => loc_branchL hp hg h0 h0' h hst f (p x).next (Lang.cat L (p x).lang) (by omega) (by omega) (by omega) hok hn f' hf'
      have r1 := (rcv (s'.size + 2 + ((p x).next - i + i').natAbs) (by omega)).2
      have a1 := h.atK hi (x := x) (by omega)
      have a2 := atB_lt (s := s') (i := x - i + i') (by rw [a1]; exact beg_in c)
      have hh := h.on (x - i).toNat
      rw [show i + ((x - i).toNat : Int) = x by omega, show i' + ((x - i).toNat : Int) = x - i + i' by omega] at hh
      have sm := hp x (x - i + i') (n - (x - i).toNat) (by omega) hx (by omega) hh (by rw [show x - i + i' + ((n - (x - i).toNat : Nat) : Int) = i' + n by omega]; exact hst) hpx (by omega)
      cases f' with
      | zero => omega
      | succ f' =>
        have hc' : (true && beginsB s' (x - i + i')) = true := by rw [beginsB_eq, a1, ← beginsB_eq, c]; rfl
        have ej' : lJoin ⟨x - i + i', true, L⟩ (p' (x - i + i')) = ⟨(p x).next - i + i', true, Lang.cat L (p x).lang⟩ := by
          unfold lJoin
          rw [if_pos sm.ok, sm.next, sm.lang, show (p x).next - x + (x - i + i') = (p x).next - i + i' by omega]
        rw [lBranchL_s p' s' f']
        dsimp only
        rw [if_pos hc', ej']
        exact ⟨(rcv f' (by omega)).1, by omega⟩
    · rw [if_neg c] at hok hn ⊢
      dsimp only at hn ⊢
      have a1 : beginsB s' (x - i + i') = false := by
        rw [beginsB_eq]
        by_cases q : x < i + n
        · rw [h.atK hi q]; simpa [beginsB_eq] using c
        · rw [show x - i + i' = i' + n by omega]; exact stopC_beg hst
      cases f' with
      | zero => exact ⟨⟨rfl, rfl, rfl⟩, by omega⟩
      | succ f' =>
        have hc' : ¬ (true && beginsB s' (x - i + i')) = true := by rw [a1]; simp
        rw [lBranchL_s p' s' f']
        dsimp only
        rw [if_neg hc']
        exact ⟨⟨rfl, rfl, rfl⟩, by omega⟩
theorem loc_branch {p p' : Int → LR} (hp : Loc s s' p p') (hg : LGoodF s p) : Loc s s' (lBranch p s) (lBranch p' s') := by
  intro i i' n h0 h1 h0' h hst hok hn
  unfold lBranch at hok hn ⊢
  have hok1 : (p i).ok = true := by
    cases e : (p i).ok
    · rw [lBranchL_bad p s _ _ e, e] at hok; cases hok
    · rfl
  have g := hg i h0 h1 hok1
  rw [lr_eta hok1] at hok hn ⊢
  have key := fun f' hf' => loc_branchL hp hg h0 h0' h hst (s.size + 5) (p i).next (p i).lang (by omega) (by omega) (by omega) hok hn f' hf'
  have k1 := (key (s'.size + 2 + ((p i).next - i + i').natAbs) (by omega)).2
  have sm := hp i i' n h0 h1 h0' h hst hok1 (by omega)
  rw [lr_eta sm.ok, sm.next, sm.lang]
  exact (key (s'.size + 5) (by omega)).1
theorem loc_choiceL {p p' : Int → LR} (hp : Loc s s' p p') (hg : LGoodF s p) {i i' : Int} {n : Nat} (h0 : 0 ≤ i) (h0' : 0 ≤ i') (h : Alike s i s' i' n) (hst : stopC (atB s' (i' + n)) = true) : ∀ (f : Nat) (x : Int) (L : Lang), i ≤ x → x ≤ s.size → (s.size : Int) + 2 ≤ f + x → (lChoiceL p s f ⟨x, true, L⟩).ok = true → (lChoiceL p s f ⟨x, true, L⟩).next ≤ i + n → ∀ f' : Nat, (s'.size : Int) + 2 ≤ f' + (x - i + i') →
    Same (lChoiceL p s f ⟨x, true, L⟩) (lChoiceL p' s' f' ⟨x - i + i', true, L⟩) i i' ∧ x ≤ (lChoiceL p s f ⟨x, true, L⟩).next
  | 0, x, L, _, hx, hf, _, _, _, _ => by omega
  | f + 1, x, L, hi, hx, hf, hok, hn, f', hf' => by
    rw [lChoiceL_s p s f ⟨x, true, L⟩] at hok hn ⊢
    dsimp only at hok hn ⊢
    rw [Bool.true_and] at hok hn ⊢
    by_cases c : (atB s x == 124) = true
    · rw [if_pos c] at hok hn ⊢
      have c' : atB s x = 124 := by simpa using c
      have hx2 := atB_lt (s := s) (i := x) (by omega)
      have hpx : (p (x + 1)).ok = true := by
        cases e : (p (x + 1)).ok
        · have : (lEither ⟨x, true, L⟩ (p (x + 1))).ok = false := by unfold lEither; rw [e]; rfl
          rw [lChoiceL_bad p s f _ this, this] at hok; cases hok
        · rfl
      have ej : lEither ⟨x, true, L⟩ (p (x + 1)) = ⟨(p (x + 1)).next, true, Lang.alt L (p (x + 1)).lang⟩ := by unfold lEither; rw [if_pos hpx]
      rw [ej] at hok hn ⊢
      have g := hg (x + 1) (by omega) (by omega) hpx
      have rcv := fun f' hf' => loc_choiceL hp hg h0 h0' h hst f (p (x + 1)).next (Lang.alt L (p (x + 1)).lang) (by omega) (by omega) (by omega) hok hn f' hf'
      have r1 := (rcv (s'.size + 2 + ((p (x + 1)).next - i + i').natAbs) (by omega)).2
      have a1 := h.atK hi (x := x) (by omega)
      have a2 := atB_lt (s := s') (i := x - i + i') (by rw [a1]; omega)
      have hh := h.on (x + 1 - i).toNat
      rw [show i + ((x + 1 - i).toNat : Int) = x + 1 by omega, show i' + ((x + 1 - i).toNat : Int) = x - i + i' + 1 by omega] at hh
      have sm := hp (x + 1) (x - i + i' + 1) (n - (x + 1 - i).toNat) (by omega) (by omega) (by omega) hh (by rw [show x - i + i' + 1 + ((n - (x + 1 - i).toNat : Nat) : Int) = i' + n by omega]; exact hst) hpx (by omega)
      cases f' with
      | zero => omega
      | succ f' =>
        have hc' : (true && (atB s' (x - i + i') == 124)) = true := by rw [a1]; simpa using c
        have ej' : lEither ⟨x - i + i', true, L⟩ (p' (x - i + i' + 1)) = ⟨(p (x + 1)).next - i + i', true, Lang.alt L (p (x + 1)).lang⟩ := by
          unfold lEither
          rw [if_pos sm.ok, sm.next, sm.lang, show (p (x + 1)).next - (x + 1) + (x - i + i' + 1) = (p (x + 1)).next - i + i' by omega]
        rw [lChoiceL_s p' s' f']
        dsimp only
        rw [if_pos hc', ej']
        exact ⟨(rcv f' (by omega)).1, by omega⟩
    · rw [if_neg c] at hok hn ⊢
      dsimp only at hn ⊢
      have a1 : (atB s' (x - i + i') == 124) = false := by
        by_cases q : x < i + n
        · rw [h.atK hi q]; simpa using c
        · rw [show x - i + i' = i' + n by omega]; simpa using stopC_bar hst
      cases f' with
      | zero => exact ⟨⟨rfl, rfl, rfl⟩, by omega⟩
      | succ f' =>
        have hc' : ¬ (true && (atB s' (x - i + i') == 124)) = true := by rw [a1]; simp
        rw [lChoiceL_s p' s' f']
        dsimp only
        rw [if_neg hc']
        exact ⟨⟨rfl, rfl, rfl⟩, by omega⟩
theorem loc_choice {p p' : Int → LR} (hp : Loc s s' p p') (hg : LGoodF s p) : Loc s s' (lChoice p s) (lChoice p' s') := by
  intro i i' n h0 h1 h0' h hst hok hn
  unfold lChoice at hok hn ⊢
  have hok1 : (p i).ok = true := by
    cases e : (p i).ok
    · rw [lChoiceL_bad p s _ _ e, e] at hok; cases hok
    · rfl
  have g := hg i h0 h1 hok1
  rw [lr_eta hok1] at hok hn ⊢
  have key := fun f' hf' => loc_choiceL hp hg h0 h0' h hst (s.size + 5) (p i).next (p i).lang (by omega) (by omega) (by omega) hok hn f' hf'
  have k1 := (key (s'.size + 2 + ((p i).next - i + i').natAbs) (by omega)).2
  have sm := hp i i' n h0 h1 h0' h hst hok1 (by omega)
  rw [lr_eta sm.ok, sm.next, sm.lang]
  exact (key (s'.size + 5) (by omega)).1
theorem loc_group {c c' : Int → LR} (hc : Loc s s' c c') (hg : LGoodF s c) : LocG s s' (lGroup c s) (lGroup c' s') := by
  intro i i' n h0 h0' h40 h hok hn
  have hi := atB_lt (s := s) (i := i) (by omega)
  unfold lGroup at hok hn ⊢
  by_cases c1 : (c (i + 1)).ok = false
  · rw [if_pos c1] at hok; cases hok
  · have c1' : (c (i + 1)).ok = true := by simpa using c1
    rw [if_neg c1] at hok hn ⊢
    by_cases c2 : atB s (c (i + 1)).next ≠ 41
    · rw [if_pos c2] at hok; cases hok
    · rw [if_neg c2] at hok hn ⊢
      dsimp only at hn ⊢
      have c2' : atB s (c (i + 1)).next = 41 := by
        by_cases q : atB s (c (i + 1)).next = 41
        · exact q
        · exact absurd q c2
      have g := hg (i + 1) (by omega) (by omega) c1'
      have a1 := h.atK (x := (c (i + 1)).next) (by omega) (by omega)
      have hh := h.tail.less (m := ((c (i + 1)).next - (i + 1)).toNat) (by omega)
      have sm := hc (i + 1) (i' + 1) _ (by omega) (by omega) (by omega) hh (by
        rw [show i' + 1 + (((c (i + 1)).next - (i + 1)).toNat : Int) = (c (i + 1)).next - i + i' by omega, a1, c2']; decide) c1' (by omega)
      have e3 : (c' (i' + 1)).next = (c (i + 1)).next - i + i' := by rw [sm.next]; omega
      rw [if_neg (by rw [sm.ok]; simp), e3, a1, if_neg c2]
      exact ⟨rfl, by dsimp only; omega, sm.lang⟩
end
theorem loc_gK (s s' : ByteArray) : ∀ k k' : Nat, k ≤ k' → LocG s s' (lgK s k) (lgK s' k')
  | 0, _, _ => fun i i' n _ _ _ _ hok _ => by cases hok
  | k + 1, 0, h => by omega
  | k + 1, k' + 1, h => loc_group (loc_choice (loc_branch (loc_piece (loc_atom (loc_gK s s' k k' (by omega)) (lg_atom s k)) (lg_atom s k)) (lg_piece s k)) (lg_branch s k)) (lg_chK s k)
/-- a pattern is read alike where the texts are alike and the second ends the pattern -/
theorem loc_chK (s s' : ByteArray) {k k' : Nat} (h : k ≤ k') : Loc s s' (lchK s k) (lchK s' k') := loc_choice (loc_branch (loc_piece (loc_atom (loc_gK s s' k k' h) (lg_atom s k)) (lg_atom s k)) (lg_piece s k)) (lg_branch s k)
end Go.Proofs.YtcpgklcimacngaaGreat
