import Derived.Test.YtcpgklcimacngaaGreatLa9
import Derived.Test.YtcpgklcimacngaaGreatRf2
namespace Go.Proofs.YtcpgklcimacngaaGreat
open Go.RowKit
set_option linter.unusedVariables false
set_option linter.unusedSimpArgs false

section
variable {s : ByteArray} {a p : Int → LR} {i : Int}
theorem atom_begins {g : Int → LR} (h : (lAtom g s i).ok = true) : begC (atB s i) = true := by
  unfold lAtom at h
  by_cases c : atB s i = 40
  · rw [c]; decide
  · rw [if_neg c] at h
    by_cases c2 : (rSet s i).2.2 = false
    · rw [if_pos c2] at h; cases h
    · unfold rSet at c2
      by_cases d1 : atB s i = 46
      · rw [d1]; decide
      · rw [if_neg d1] at c2
        by_cases d2 : atB s i = 91
        · rw [d2]; decide
        · rw [if_neg d2] at c2
          by_cases d3 : atB s i = 92
          · rw [d3]; decide
          · rw [if_neg d3] at c2
            by_cases d4 : isPlainB (atB s i) = false
            · rw [if_pos d4] at c2; exact absurd rfl c2
            · unfold begC
              have : isPlainB (atB s i) = true := by simpa using d4
              rw [this]; simp
theorem piece_ok (h : (lPiece a s i).ok = true) : (a i).ok = true := by
  cases e : (a i).ok
  · unfold lPiece at h; rw [lPieceL_bad s _ _ e, e] at h; cases h
  · rfl
theorem branch_ok (h : (lBranch p s i).ok = true) : (p i).ok = true := by
  cases e : (p i).ok
  · unfold lBranch at h; rw [lBranchL_bad p s _ _ e, e] at h; cases h
  · rfl
theorem choice_ok (h : (lChoice p s i).ok = true) : (p i).ok = true := by
  cases e : (p i).ok
  · unfold lChoice at h; rw [lChoiceL_bad p s _ _ e, e] at h; cases h
  · rfl
theorem choice_next : ∀ (f : Nat) (x : Int) (b : Bool) (L L' : Lang), (lChoiceL p s f ⟨x, b, L⟩).next = (lChoiceL p s f ⟨x, b, L'⟩).next ∧ (lChoiceL p s f ⟨x, b, L⟩).ok = (lChoiceL p s f ⟨x, b, L'⟩).ok
  | 0, x, b, L, L' => ⟨rfl, rfl⟩
  | f + 1, x, b, L, L' => by
    unfold lChoiceL
    dsimp only
    by_cases c : (b && (atB s x == 124)) = true
    · rw [if_pos c, if_pos c]
      cases e : (p (x + 1)).ok
      · have q1 : ∀ L, (lEither ⟨x, b, L⟩ (p (x + 1))) = ⟨(p (x + 1)).next, false, noL⟩ := fun L => by unfold lEither; rw [e]; rfl
        rw [q1, q1]
        exact ⟨rfl, rfl⟩
      · have q1 : ∀ L, (lEither ⟨x, b, L⟩ (p (x + 1))) = ⟨(p (x + 1)).next, true, Lang.alt L (p (x + 1)).lang⟩ := fun L => by unfold lEither; rw [if_pos e]
        rw [q1, q1]
        exact choice_next f _ _ _ _
    · rw [if_neg c, if_neg c]
      exact ⟨rfl, rfl⟩
end
end Go.Proofs.YtcpgklcimacngaaGreat
namespace Go.Proofs.YtcpgklcimacngaaGreat
open Go.RowKit
set_option linter.unusedVariables false
set_option linter.unusedSimpArgs false

def zAtom (g : Int → Int) (p : ByteArray) (i : Int) : Int := if atB p i = 40 then g i else okI (rSet p i).2.2 (rSet p i).2.1
def zPieceL (p : ByteArray) : Nat → Int → Int
  | 0, x => x
  | f + 1, x => if 0 ≤ x ∧ isMark (atB p x) = true then zPieceL p f (x + 1) else x
def zPiece (a : Int → Int) (p : ByteArray) (i : Int) : Int := zPieceL p (p.size + 5) (a i)
/-- where the next piece must begin -/
def zJ (p : ByteArray) (x : Int) : Int := if atB p x = 124 then x + 1 else x
def zPatL (pc : Int → Int) (p : ByteArray) : Nat → Int → Int
  | 0, x => x
  | f + 1, x => if 0 ≤ x ∧ x < p.size then (if pc (zJ p x) < 0 then x else zPatL pc p f (pc (zJ p x))) else x
def zPat (pc : Int → Int) (p : ByteArray) (i : Int) : Int := zPatL pc p (p.size + 5) (pc i)
def zGrp (pt : Int → Int) (p : ByteArray) (i : Int) : Int := if 0 ≤ pt (i + 1) ∧ atB p (pt (i + 1)) = 41 then pt (i + 1) + 1 else -1
def zgK (p : ByteArray) : Nat → Int → Int
  | 0 => fun _ => -1
  | k + 1 => zGrp (zPat (zPiece (zAtom (zgK p k) p) p) p) p
def zpK (p : ByteArray) (k : Nat) : Int → Int := zPat (zPiece (zAtom (zgK p k) p) p) p

theorem zPatL_s (pc : Int → Int) (p : ByteArray) (f : Nat) (x : Int) : zPatL pc p (f + 1) x = if 0 ≤ x ∧ x < p.size then (if pc (zJ p x) < 0 then x else zPatL pc p f (pc (zJ p x))) else x := rfl
theorem zPieceL_s (p : ByteArray) (f : Nat) (x : Int) : zPieceL p (f + 1) x = if 0 ≤ x ∧ isMark (atB p x) = true then zPieceL p f (x + 1) else x := rfl
/-- a reading, as the reference says it -/
def Says (v : Int) (r : LR) : Prop := v = okI r.ok r.next
section
variable {p : ByteArray}
theorem zAtom_rel {g : Int → Int} {l : Int → LR} {i : Int} (h : atB p i = 40 → Says (g i) (l i)) : Says (zAtom g p i) (lAtom l p i) := by
  unfold Says zAtom lAtom
  by_cases c : atB p i = 40
  · rw [if_pos c, if_pos c]; exact h c
  · rw [if_neg c, if_neg c]
    by_cases c2 : (rSet p i).2.2 = false
    · rw [if_pos c2, c2]
    · have c3 : (rSet p i).2.2 = true := by simpa using c2
      rw [if_neg c2, c3]
theorem zPieceL_rel : ∀ (f : Nat) (r : LR), (r.ok = true → 0 ≤ r.next) → Says (zPieceL p f (okI r.ok r.next)) (lPieceL p f r)
  | 0, r, _ => rfl
  | f + 1, r, h0 => by
    rw [zPieceL_s, lPieceL_s]
    cases hk : r.ok
    · rw [if_neg (fun q => absurd q.1 (show ¬ (0 : Int) ≤ -1 by decide)), if_neg (by simp)]
      unfold Says; rw [hk]
    · have hn := h0 hk
      have e : okI true r.next = r.next := rfl
      rw [e]
      by_cases c : isMark (atB p r.next) = true
      · rw [if_pos ⟨hn, c⟩, if_pos (by rw [c]; rfl)]
        exact zPieceL_rel f ⟨r.next + 1, true, Lang.rep (atB p r.next) r.lang⟩ (fun _ => by dsimp only; omega)
      · rw [if_neg (fun q => c q.2), if_neg (by simpa using c)]
        unfold Says; rw [hk]; rfl
theorem zPiece_rel {a : Int → Int} {l : Int → LR} {i : Int} (h : Says (a i) (l i)) (h0 : (l i).ok = true → 0 ≤ (l i).next) : Says (zPiece a p i) (lPiece l p i) := by
  unfold zPiece lPiece
  unfold Says at h
  rw [h]
  exact zPieceL_rel _ _ h0
/-- a pattern, as the reference says it: behind the longest one -/
structure SaysP (p : ByteArray) (v : Int) (r : LR) : Prop where
  good : r.ok = true → v = r.next
  bad : r.ok = false → v < 0 ∨ (0 ≤ v ∧ v < p.size ∧ (atB p v = 124 ∨ begC (atB p v) = true))
theorem choice_eq {B : Int → LR} {f : Nat} {r r' : LR} (h1 : r.next = r'.next) (h2 : r.ok = r'.ok) : (lChoiceL B p f r).next = (lChoiceL B p f r').next ∧ (lChoiceL B p f r).ok = (lChoiceL B p f r').ok := by
  obtain ⟨a, b, c⟩ := r
  obtain ⟨a', b', c'⟩ := r'
  dsimp only at h1 h2
  subst h1 h2
  exact choice_next f a b c c'
theorem zPatL_rel {pc : Int → Int} {P : Int → LR} (hP : ∀ x : Int, 0 ≤ x → x ≤ p.size → Says (pc x) (P x)) (hg : LGoodF p P) (hbeg : ∀ x, (P x).ok = true → begC (atB p x) = true) :
    ∀ (m : Nat) (x : Int) (L : Lang) (fb fc f : Nat), (p.size : Int) ≤ x + m → 0 ≤ x → x ≤ p.size → isMark (atB p x) = false → (p.size : Int) + 2 ≤ fb + x → (p.size : Int) + 2 ≤ fc + x → (p.size : Int) + 2 ≤ f + x →
      (∀ y : Int, 0 ≤ y → y ≤ p.size → (P y).ok = true → isMark (atB p (P y).next) = false) →
      SaysP p (zPatL pc p f x) (lChoiceL (lBranch P p) p fc (lBranchL P p fb ⟨x, true, L⟩)) := by
  intro m
  induction m with
  | zero =>
    intro x L fb fc f hm h0 h1 hmk hfb hfc hf hst
    have hx : x = p.size := by omega
    have hb : atB p x = -1 := by unfold atB; rw [dif_neg (by omega)]
    obtain ⟨fb, rfl⟩ : ∃ k, fb = k + 1 := ⟨fb - 1, by omega⟩
    obtain ⟨fc, rfl⟩ : ∃ k, fc = k + 1 := ⟨fc - 1, by omega⟩
    obtain ⟨f, rfl⟩ : ∃ k, f = k + 1 := ⟨f - 1, by omega⟩
    rw [lBranchL_s, if_neg (show ¬ (true && beginsB p x) = true by rw [beginsB_eq, hb]; decide), lChoiceL_s, if_neg (show ¬ (true && (atB p x == 124)) = true by rw [hb]; decide), zPatL_s, if_neg (by omega)]
    exact ⟨fun _ => rfl, fun e => by (cases e)⟩
  | succ m ih =>
    intro x L fb fc f hm h0 h1 hmk hfb hfc hf hst
    by_cases hxs : x < p.size
    · obtain ⟨fb, rfl⟩ : ∃ k, fb = k + 1 := ⟨fb - 1, by omega⟩
      obtain ⟨fc, rfl⟩ : ∃ k, fc = k + 1 := ⟨fc - 1, by omega⟩
      obtain ⟨f, rfl⟩ : ∃ k, f = k + 1 := ⟨f - 1, by omega⟩
      rw [zPatL_s, if_pos ⟨h0, hxs⟩]
      by_cases cb : begC (atB p x) = true
      · have n124 : atB p x ≠ 124 := fun e => by rw [e] at cb; revert cb; decide
        have ej : zJ p x = x := by unfold zJ; rw [if_neg n124]
        rw [ej]
        have hs := hP x h0 h1
        unfold Says at hs
        rw [lBranchL_s, if_pos (show (true && beginsB p x) = true by rw [beginsB_eq, cb]; rfl)]
        cases hk : (P x).ok
        · rw [hk] at hs
          have hneg : pc x < 0 := by rw [hs]; exact (show (-1 : Int) < 0 by decide)
          have q1 : lJoin ⟨x, true, L⟩ (P x) = ⟨(P x).next, false, noL⟩ := by unfold lJoin; rw [hk]; rfl
          rw [if_pos hneg, q1, lBranchL_bad P p _ _ rfl, lChoiceL_bad _ p _ _ rfl]
          exact ⟨fun e => by (cases e), fun _ => .inr ⟨h0, hxs, .inr cb⟩⟩
        · rw [hk] at hs
          have g := hg x h0 h1 hk
          have e1 : pc x = (P x).next := hs
          have q1 : lJoin ⟨x, true, L⟩ (P x) = ⟨(P x).next, true, Lang.cat L (P x).lang⟩ := by unfold lJoin; rw [if_pos hk]
          rw [if_neg (by omega), q1, e1]
          exact ih _ _ fb (fc + 1) f (by omega) (by omega) (by omega) (hst x h0 h1 hk) (by omega) (by omega) (by omega) hst
      · rw [lBranchL_s, if_neg (show ¬ (true && beginsB p x) = true by rw [beginsB_eq]; simpa using cb), lChoiceL_s]
        by_cases c124 : atB p x = 124
        · have ej : zJ p x = x + 1 := by unfold zJ; rw [if_pos c124]
          rw [ej, if_pos (show (true && (atB p x == 124)) = true by rw [c124]; rfl)]
          have hs := hP (x + 1) (by omega) (by omega)
          unfold Says at hs
          cases hk : (P (x + 1)).ok
          · rw [hk] at hs
            have hneg : pc (x + 1) < 0 := by rw [hs]; exact (show (-1 : Int) < 0 by decide)
            have q0 : lBranch P p (x + 1) = P (x + 1) := by unfold lBranch; exact lBranchL_bad P p _ _ hk
            have q1 : lEither ⟨x, true, L⟩ (lBranch P p (x + 1)) = ⟨(P (x + 1)).next, false, noL⟩ := by rw [q0]; unfold lEither; rw [hk]; rfl
            rw [if_pos hneg, q1, lChoiceL_bad _ p _ _ rfl]
            exact ⟨fun e => by (cases e), fun _ => .inr ⟨h0, hxs, .inl c124⟩⟩
          · rw [hk] at hs
            have g := hg (x + 1) (by omega) (by omega) hk
            have e1 : pc (x + 1) = (P (x + 1)).next := hs
            rw [if_neg (by omega), e1]
            have key := ih (P (x + 1)).next (P (x + 1)).lang (p.size + 5) fc f (by omega) (by omega) (by omega) (hst (x + 1) (by omega) (by omega) hk) (by omega) (by omega) (by omega) hst
            have eb : lBranch P p (x + 1) = lBranchL P p (p.size + 5) ⟨(P (x + 1)).next, true, (P (x + 1)).lang⟩ := by unfold lBranch; rw [← lr_eta hk]
            rw [eb]
            generalize lBranchL P p (p.size + 5) ⟨(P (x + 1)).next, true, (P (x + 1)).lang⟩ = r at key ⊢
            have en : (lEither ⟨x, true, L⟩ r).next = r.next ∧ (lEither ⟨x, true, L⟩ r).ok = r.ok := by
              unfold lEither
              cases e : r.ok <;> simp
            obtain ⟨z1, z2⟩ := choice_eq (B := lBranch P p) (f := fc) en.1 en.2
            exact ⟨fun e => by rw [z1]; exact key.good (by rw [← z2]; exact e), fun e => key.bad (by rw [← z2]; exact e)⟩
        · have ej : zJ p x = x := by unfold zJ; rw [if_neg c124]
          have hno : (P x).ok = false := by
            cases e : (P x).ok
            · rfl
            · exact absurd (hbeg x e) cb
          have hs := hP x h0 h1
          unfold Says at hs
          rw [hno] at hs
          have hneg : pc x < 0 := by rw [hs]; exact (show (-1 : Int) < 0 by decide)
          rw [ej, if_pos hneg, if_neg (show ¬ (true && (atB p x == 124)) = true by simpa using c124)]
          exact ⟨fun _ => rfl, fun e => by (cases e)⟩
    · have hx : x = p.size := by omega
      have hb : atB p x = -1 := by unfold atB; rw [dif_neg (by omega)]
      obtain ⟨fb, rfl⟩ : ∃ k, fb = k + 1 := ⟨fb - 1, by omega⟩
      obtain ⟨fc, rfl⟩ : ∃ k, fc = k + 1 := ⟨fc - 1, by omega⟩
      obtain ⟨f, rfl⟩ : ∃ k, f = k + 1 := ⟨f - 1, by omega⟩
      rw [lBranchL_s, if_neg (show ¬ (true && beginsB p x) = true by rw [beginsB_eq, hb]; decide), lChoiceL_s, if_neg (show ¬ (true && (atB p x == 124)) = true by rw [hb]; decide), zPatL_s, if_neg (by omega)]
      exact ⟨fun _ => rfl, fun e => by (cases e)⟩
/-- behind a piece there is no mark -/
theorem pieceL_stop : ∀ (f : Nat) (x : Int) (L : Lang), x ≤ p.size → (p.size : Int) + 2 ≤ f + x → isMark (atB p (lPieceL p f ⟨x, true, L⟩).next) = false
  | 0, x, L, h1, h2 => by omega
  | f + 1, x, L, h1, h2 => by
    rw [lPieceL_s]
    dsimp only
    rw [Bool.true_and]
    by_cases c : isMark (atB p x) = true
    · rw [if_pos c]
      have := atB_lt (s := p) (i := x) (mark_in c)
      exact pieceL_stop f _ _ (by omega) (by omega)
    · rw [if_neg c]; simpa using c
theorem zPat_rel {pc : Int → Int} {a : Int → LR} (hP : ∀ x : Int, 0 ≤ x → x ≤ p.size → Says (pc x) (lPiece a p x)) (hga : LGoodF p a) (hg : LGoodF p (lPiece a p)) (hbeg : ∀ x, (lPiece a p x).ok = true → begC (atB p x) = true) {i : Int} (h0 : 0 ≤ i) (h1 : i ≤ p.size) :
    SaysP p (zPat pc p i) (lChoice (lBranch (lPiece a p) p) p i) := by
  have hst : ∀ y : Int, 0 ≤ y → y ≤ p.size → (lPiece a p y).ok = true → isMark (atB p (lPiece a p y).next) = false := fun y y0 y1 hy => by
    have ha := piece_ok hy
    have g := hga y y0 y1 ha
    unfold lPiece
    rw [lr_eta ha]
    exact pieceL_stop _ _ _ (by omega) (by omega)
  have hs := hP i h0 h1
  unfold Says at hs
  unfold zPat lChoice
  cases hk : (lPiece a p i).ok
  · rw [hk] at hs
    have e1 : pc i = -1 := hs
    have q0 : lBranch (lPiece a p) p i = lPiece a p i := by unfold lBranch; exact lBranchL_bad _ p _ _ hk
    rw [q0, lChoiceL_bad _ p _ _ hk, e1]
    show SaysP p (zPatL pc p (p.size + 4 + 1) (-1)) _
    rw [zPatL_s, if_neg (by omega)]
    exact ⟨fun e => by rw [hk] at e; (cases e), fun _ => .inl (by decide)⟩
  · rw [hk] at hs
    have e1 : pc i = (lPiece a p i).next := hs
    have g := hg i h0 h1 hk
    have eb : lBranch (lPiece a p) p i = lBranchL (lPiece a p) p (p.size + 5) ⟨(lPiece a p i).next, true, (lPiece a p i).lang⟩ := by unfold lBranch; rw [← lr_eta hk]
    rw [eb, e1]
    exact zPatL_rel hP hg hbeg p.size _ _ _ _ _ (by omega) (by omega) (by omega) (hst i h0 h1 hk) (by omega) (by omega) (by omega) hst
/-- brackets -/
theorem zGrp_rel {pt : Int → Int} {c : Int → LR} {i : Int} (h : SaysP p (pt (i + 1)) (c (i + 1))) (h0 : (c (i + 1)).ok = true → 0 ≤ (c (i + 1)).next) : Says (zGrp pt p i) (lGroup c p i) := by
  unfold Says zGrp lGroup
  cases hk : (c (i + 1)).ok
  · rw [if_pos rfl]
    rw [if_neg (fun q => by
      rcases h.bad hk with b | ⟨_, _, b⟩
      · omega
      · rw [q.2] at b
        revert b; decide)]
    rfl
  · have e1 := h.good hk
    have e2 := h0 hk
    rw [e1]
    have e3 : ¬ (true = false) := by simp
    rw [if_neg e3]
    by_cases c2 : atB p (c (i + 1)).next = 41
    · rw [if_pos ⟨e2, c2⟩, if_neg (by rw [c2]; simp)]
      rfl
    · rw [if_neg (fun q => c2 q.2), if_pos c2]
      rfl
theorem piece_begins {k : Nat} {x : Int} (h : (lPiece (lAtom (lgK p k) p) p x).ok = true) : begC (atB p x) = true := atom_begins (piece_ok h)
theorem zgK_rel : ∀ (k : Nat) (i : Int), 0 ≤ i → atB p i = 40 → Says (zgK p k i) (lgK p k i)
  | 0, i, _, _ => rfl
  | k + 1, i, h0, h40 => by
    have hi := atB_lt (s := p) (i := i) (by omega)
    have ha : ∀ x : Int, 0 ≤ x → x ≤ p.size → Says (zAtom (zgK p k) p x) (lAtom (lgK p k) p x) := fun x x0 _ => zAtom_rel (fun h => zgK_rel k x x0 h)
    have hpc : ∀ x : Int, 0 ≤ x → x ≤ p.size → Says (zPiece (zAtom (zgK p k) p) p x) (lPiece (lAtom (lgK p k) p) p x) := fun x x0 x1 => zPiece_rel (ha x x0 x1) (fun h => by have := lg_atom p k x x0 x1 h; omega)
    exact zGrp_rel (zPat_rel hpc (lg_atom p k) (lg_piece p k) (fun x h => piece_begins h) (by omega) (by omega)) (fun h => by have := lg_chK p k (i + 1) (by omega) (by omega) h; show 0 ≤ (lchK p k (i + 1)).next; omega)
theorem zAtomK_rel (k : Nat) {x : Int} (x0 : 0 ≤ x) : Says (zAtom (zgK p k) p x) (lAtom (lgK p k) p x) := zAtom_rel (fun h => zgK_rel k x x0 h)
theorem zPieceK_rel (k : Nat) {x : Int} (x0 : 0 ≤ x) (x1 : x ≤ p.size) : Says (zPiece (zAtom (zgK p k) p) p x) (lPiece (lAtom (lgK p k) p) p x) := zPiece_rel (zAtomK_rel k x0) (fun h => by have := lg_atom p k x x0 x1 h; omega)
theorem zpK_rel (k : Nat) {i : Int} (h0 : 0 ≤ i) (h1 : i ≤ p.size) : SaysP p (zpK p k i) (lchK p k i) := zPat_rel (fun x x0 x1 => zPieceK_rel k x0 x1) (lg_atom p k) (lg_piece p k) (fun x h => piece_begins h) h0 h1
end
end Go.Proofs.YtcpgklcimacngaaGreat
namespace Go.Proofs.YtcpgklcimacngaaGreat
open Go.RowKit
set_option linter.unusedVariables false
set_option linter.unusedSimpArgs false

theorem atB_ix {p : ByteArray} {i : Nat} (h : i < p.size) : atB p (i : Nat) = p[i].toNat := by unfold atB; rw [dif_pos ⟨by omega, by simpa using h⟩]; simp
theorem atB_out {p : ByteArray} {i : Int} (h : p.size ≤ i) : atB p i = -1 := by unfold atB; rw [dif_neg (by omega)]
theorem okI_t (x : Int) : okI true x = x := rfl
theorem okI_f (x : Int) : okI false x = -1 := rfl
/-- what the reference's pattern says, at this depth -/
def PatC (p : ByteArray) (d : Nat) (f : Int → Int) : Prop := ∀ (i : Nat) (w : World), i ≤ p.size + 1 → Calls Tryz.prog 61 #[.string p, .int .i64 i, .int .i64 d] w fun e w' => e = .returned (.int .i64 (f i)) ∧ w' = w
def AtmC (p : ByteArray) (d : Nat) (f : Int → Int) : Prop := ∀ (i : Nat) (w : World), i ≤ p.size + 1 → Calls Tryz.prog 90 #[.string p, .int .i64 i, .int .i64 d] w fun e w' => e = .returned (.int .i64 (f i)) ∧ w' = w
def PceC (p : ByteArray) (d : Nat) (f : Int → Int) : Prop := ∀ (i : Nat) (w : World), i ≤ p.size + 1 → Calls Tryz.prog 84 #[.string p, .int .i64 i, .int .i64 d] w fun e w' => e = .returned (.int .i64 (f i)) ∧ w' = w

set_option maxRecDepth 20000 in
set_option maxHeartbeats 600000 in
theorem zatom_any (p : ByteArray) (k d : Nat) (hp : p.size ≤ 80000) (hd : d + k = 6) (ih : ∀ k', k = k' + 1 → PatC p (d + 1) (zpK p k')) : AtmC p d (zAtom (zgK p k) p) := by
  intro i w hi
  by_cases h1 : i < p.size
  · have hb := atB_ix h1
    have hbl : p[i].toNat < 256 := p[i].toNat_lt
    have h11 : ¬ (p.size : Int) ≤ (i : Int) := by omega
    have h12 : (i : Int) < (p.size : Int) := by omega
    have ZP := hid (fun w => zplain_any p[i].toNat w (by omega))
    unfold zAtom
    unfold rSet
    rw [hb]
    by_cases q46 : p[i].toNat = 46
    · have kk : ((p[i].toNat : Int) == 46) = true := by simp [q46]
      rw [if_neg (by omega), if_pos (by omega)]
      dsimp only
      rw [okI_t]
      rw [show isPlainB (p[i].toNat : Int) = false from by rw [q46]; decide] at ZP
      clear hb q46
      go_enter Tryz.func90, Tryz.ntmps90
      go_wp2_with (first
        | (go_at_call 94; refine (ZP.out _).mono ?_; rintro e w' ⟨rfl, hw⟩; rw [hw]; clear hw))
      go_ret
      exact ⟨rfl, rfl⟩
    · have k46 : ((p[i].toNat : Int) == 46) = false := by simp; omega
      by_cases qpl : isPlainB (p[i].toNat : Int) = true
      · have n40 : p[i].toNat ≠ 40 := fun e => by rw [e] at qpl; revert qpl; decide
        have n91 : p[i].toNat ≠ 91 := fun e => by rw [e] at qpl; revert qpl; decide
        have n92 : p[i].toNat ≠ 92 := fun e => by rw [e] at qpl; revert qpl; decide
        rw [if_neg (by omega), if_neg (by omega), if_neg (by omega), if_neg (by omega), if_neg (by rw [qpl]; simp)]
        dsimp only
        rw [okI_t]
        rw [qpl] at ZP
        clear hb qpl
        go_enter Tryz.func90, Tryz.ntmps90
        go_wp2_with (first
          | (go_at_call 94; refine (ZP.out _).mono ?_; rintro e w' ⟨rfl, hw⟩; rw [hw]; clear hw))
        go_ret
        exact ⟨rfl, rfl⟩
      · have qpl' : isPlainB (p[i].toNat : Int) = false := by simpa using qpl
        rw [qpl'] at ZP
        clear qpl
        by_cases q92 : p[i].toNat = 92
        · have k92 : ((p[i].toNat : Int) == 92) = true := by simp [q92]
          rw [if_neg (by omega), if_neg (by omega), if_neg (by omega), if_pos (by omega)]
          dsimp only
          rw [mkF_mark]
          by_cases h3 : i + 1 < p.size
          · have hb2 : atB p ((i : Int) + 1) = p[i + 1].toNat := by rw [← atB_ix h3]; rfl
            have hbl2 : p[i + 1].toNat < 256 := p[i + 1].toNat_lt
            have h32 : (i : Int) + 1 < (p.size : Int) := by omega
            have h33 : ((i : Int) + 1).toNat = i + 1 := by omega
            rw [hb2]
            have ZM := hid (fun w => zmarked_any p[i + 1].toNat w (by omega))
            generalize mkF (p[i + 1].toNat : Int) = m at ZM ⊢
            obtain ⟨v, ok⟩ := m
            dsimp only at ZM ⊢
            clear hb hb2 qpl' q92
            cases ok
            · rw [if_neg (by simp)]
              dsimp only
              rw [okI_f]
              go_enter Tryz.func90, Tryz.ntmps90
              go_wp2_with (first
                | (go_at_call 94; refine (ZP.out _).mono ?_; rintro e w' ⟨rfl, hw⟩; rw [hw]; clear hw)
                | (go_at_call 95; refine (ZM.out _).mono ?_; rintro e w' ⟨rfl, hw⟩; rw [hw]; clear hw))
              go_ret
              exact ⟨rfl, rfl⟩
            · rw [if_pos rfl]
              dsimp only
              rw [okI_t, show (i : Int) + 1 + 1 = (i : Int) + 2 by omega]
              go_enter Tryz.func90, Tryz.ntmps90
              go_wp2_with (first
                | (go_at_call 94; refine (ZP.out _).mono ?_; rintro e w' ⟨rfl, hw⟩; rw [hw]; clear hw)
                | (go_at_call 95; refine (ZM.out _).mono ?_; rintro e w' ⟨rfl, hw⟩; rw [hw]; clear hw))
              go_ret
              exact ⟨rfl, rfl⟩
          · have h31 : ¬ (i : Int) + 1 < (p.size : Int) := by omega
            have hb2 : atB p ((i : Int) + 1) = -1 := atB_out (by omega)
            rw [hb2, show mkF (-1) = (-1, false) from by decide]
            dsimp only
            rw [if_neg (by simp)]
            dsimp only
            rw [okI_f]
            clear hb hb2 qpl' q92
            go_enter Tryz.func90, Tryz.ntmps90
            go_wp2_with (first
              | (go_at_call 94; refine (ZP.out _).mono ?_; rintro e w' ⟨rfl, hw⟩; rw [hw]; clear hw))
            go_ret
            exact ⟨rfl, rfl⟩
        · have k92 : ((p[i].toNat : Int) == 92) = false := by simp; omega
          by_cases q91 : p[i].toNat = 91
          · have k91 : ((p[i].toNat : Int) == 91) = true := by simp [q91]
            rw [if_neg (by omega), if_neg (by omega), if_pos (by omega)]
            have ZC := hid (fun w => zclass_any p i w (by omega) h1)
            generalize okI (rBr p ((i : Int) + 1)).2.2 (rBr p ((i : Int) + 1)).2.1 = v at ZC ⊢
            clear hb qpl' q91
            go_enter Tryz.func90, Tryz.ntmps90
            go_wp2_with (first
              | (go_at_call 94; refine (ZP.out _).mono ?_; rintro e w' ⟨rfl, hw⟩; rw [hw]; clear hw)
              | (go_at_call 96; refine (ZC.out _).mono ?_; rintro e w' ⟨rfl, hw⟩; rw [hw]; clear hw))
            go_ret
            exact ⟨rfl, rfl⟩
          · have k91 : ((p[i].toNat : Int) == 91) = false := by simp; omega
            by_cases q40 : p[i].toNat = 40
            · have k40 : ((p[i].toNat : Int) == 40) = true := by simp [q40]
              rw [if_pos (by omega)]
              cases k with
              | zero =>
                show Calls _ _ _ _ (fun e w' => e = .returned (.int .i64 (-1)) ∧ w' = w)
                have hd6 : ¬ (d : Int) < 6 := by omega
                clear hb qpl' ih q40
                go_enter Tryz.func90, Tryz.ntmps90
                go_wp2_with (first
                  | (go_at_call 94; refine (ZP.out _).mono ?_; rintro e w' ⟨rfl, hw⟩; rw [hw]; clear hw))
                go_ret
                exact ⟨rfl, rfl⟩
              | succ k' =>
                have hd6 : (d : Int) < 6 := by omega
                have hd7 : d ≤ 6 := by omega
                have PT := hid (fun w => ih k' rfl (i + 1) w (by omega))
                have ei : ((i + 1 : Nat) : Int) = (i : Int) + 1 := by omega
                have ed : ((d + 1 : Nat) : Int) = (d : Int) + 1 := by omega
                rw [ei, ed] at PT
                show Calls _ _ _ _ (fun e w' => e = .returned (.int .i64 (zGrp (zpK p k') p i)) ∧ w' = w)
                unfold zGrp
                generalize zpK p k' ((i : Int) + 1) = v at PT ⊢
                clear hb qpl' ih q40
                by_cases hv : 0 ≤ v
                · obtain ⟨j, rfl⟩ : ∃ j : Nat, v = j := ⟨v.toNat, by omega⟩
                  by_cases hj : j < p.size
                  · have hbj := atB_ix hj
                    have hblj : p[j].toNat < 256 := p[j].toNat_lt
                    have hj1 : (j : Int) < (p.size : Int) := by omega
                    rw [hbj]
                    by_cases q41 : p[j].toNat = 41
                    · have k41 : ((p[j].toNat : Int) == 41) = true := by simp [q41]
                      rw [if_pos ⟨hv, by omega⟩]
                      clear hbj q41
                      go_enter Tryz.func90, Tryz.ntmps90
                      go_wp2_with (first
                        | (go_at_call 94; refine (ZP.out _).mono ?_; rintro e w' ⟨rfl, hw⟩; rw [hw]; clear hw)
                        | (go_at_call 61; refine (PT.out _).mono ?_; rintro e w' ⟨rfl, hw⟩; rw [hw]; clear hw))
                      go_ret
                      exact ⟨rfl, rfl⟩
                    · have k41 : ((p[j].toNat : Int) == 41) = false := by simp; omega
                      rw [if_neg (by omega)]
                      clear hbj
                      go_enter Tryz.func90, Tryz.ntmps90
                      go_wp2_with (first
                        | (go_at_call 94; refine (ZP.out _).mono ?_; rintro e w' ⟨rfl, hw⟩; rw [hw]; clear hw)
                        | (go_at_call 61; refine (PT.out _).mono ?_; rintro e w' ⟨rfl, hw⟩; rw [hw]; clear hw))
                      go_ret
                      exact ⟨rfl, rfl⟩
                  · have hj1 : ¬ (j : Int) < (p.size : Int) := by omega
                    rw [atB_out (by omega), if_neg (by omega)]
                    go_enter Tryz.func90, Tryz.ntmps90
                    go_wp2_with (first
                      | (go_at_call 94; refine (ZP.out _).mono ?_; rintro e w' ⟨rfl, hw⟩; rw [hw]; clear hw)
                      | (go_at_call 61; refine (PT.out _).mono ?_; rintro e w' ⟨rfl, hw⟩; rw [hw]; clear hw))
                    go_ret
                    exact ⟨rfl, rfl⟩
                · rw [if_neg (fun e => hv e.1)]
                  go_enter Tryz.func90, Tryz.ntmps90
                  go_wp2_with (first
                    | (go_at_call 94; refine (ZP.out _).mono ?_; rintro e w' ⟨rfl, hw⟩; rw [hw]; clear hw)
                    | (go_at_call 61; refine (PT.out _).mono ?_; rintro e w' ⟨rfl, hw⟩; rw [hw]; clear hw))
                  go_ret
                  exact ⟨rfl, rfl⟩
            · have k40 : ((p[i].toNat : Int) == 40) = false := by simp; omega
              rw [if_neg (by omega), if_neg (by omega), if_neg (by omega), if_neg (by omega), if_pos qpl']
              dsimp only
              rw [okI_f]
              clear hb qpl' ih
              go_enter Tryz.func90, Tryz.ntmps90
              go_wp2_with (first
                | (go_at_call 94; refine (ZP.out _).mono ?_; rintro e w' ⟨rfl, hw⟩; rw [hw]; clear hw))
              go_ret
              exact ⟨rfl, rfl⟩
  · have h11 : (p.size : Int) ≤ (i : Int) := by omega
    have hE : zAtom (zgK p k) p i = -1 := by
      have hb : atB p (i : Nat) = -1 := atB_out (by omega)
      unfold zAtom rSet
      rw [hb, if_neg (by decide), if_neg (by decide), if_neg (by decide), if_neg (by decide), if_pos (by decide)]
      exact okI_f _
    rw [hE]
    clear hE ih
    go_enter Tryz.func90, Tryz.ntmps90
    go_wp2
    go_ret
    exact ⟨rfl, rfl⟩
end Go.Proofs.YtcpgklcimacngaaGreat
