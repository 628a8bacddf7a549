import Derived.Test.YtjcknghdgfcboaaLa4
namespace Go.Proofs.Ytjcknghdgfcboaa
open Go.RowKit
set_option linter.unusedVariables false
set_option linter.unusedSimpArgs false

/-- what a reading yields: behind it, whether it is one, what it means -/
structure LR where
  next : Int
  ok : Bool
  lang : Lang
def noL : Lang := fun _ => False
def lAtom (g : Int → LR) (s : ByteArray) (i : Int) : LR :=
  if atB s i = 40 then g i
  else if (rSet s i).2.2 = false then ⟨(rSet s i).2.1, false, noL⟩
  else ⟨(rSet s i).2.1, true, Lang.byte fun c => hasB (rSet s i).1 c = true⟩
def lPieceL (s : ByteArray) : Nat → LR → LR
  | 0, r => r
  | f + 1, r => if (r.ok && isMark (atB s r.next)) = true then lPieceL s f ⟨r.next + 1, true, Lang.rep (atB s r.next) r.lang⟩ else r
def lPiece (a : Int → LR) (s : ByteArray) (i : Int) : LR := lPieceL s (s.size + 5) (a i)
def lJoin (r p : LR) : LR := if p.ok then ⟨p.next, true, Lang.cat r.lang p.lang⟩ else ⟨p.next, false, noL⟩
def lBranchL (p : Int → LR) (s : ByteArray) : Nat → LR → LR
  | 0, r => r
  | f + 1, r => if (r.ok && beginsB s r.next) = true then lBranchL p s f (lJoin r (p r.next)) else r
def lBranch (p : Int → LR) (s : ByteArray) (i : Int) : LR := lBranchL p s (s.size + 5) (p i)
def lEither (r p : LR) : LR := if p.ok then ⟨p.next, true, Lang.alt r.lang p.lang⟩ else ⟨p.next, false, noL⟩
def lChoiceL (p : Int → LR) (s : ByteArray) : Nat → LR → LR
  | 0, r => r
  | f + 1, r => if (r.ok && (atB s r.next == 124)) = true then lChoiceL p s f (lEither r (p (r.next + 1))) else r
def lChoice (p : Int → LR) (s : ByteArray) (i : Int) : LR := lChoiceL p s (s.size + 5) (p i)
def lGroup (c : Int → LR) (s : ByteArray) (i : Int) : LR :=
  if (c (i + 1)).ok = false then ⟨(c (i + 1)).next, false, noL⟩
  else if atB s (c (i + 1)).next ≠ 41 then ⟨(c (i + 1)).next, false, noL⟩
  else ⟨(c (i + 1)).next + 1, true, (c (i + 1)).lang⟩
def lgK (s : ByteArray) : Nat → Int → LR
  | 0 => fun i => ⟨i, false, noL⟩
  | k + 1 => lGroup (lChoice (lBranch (lPiece (lAtom (lgK s k) s) s) s) s) s
def lchK (s : ByteArray) (k : Nat) : Int → LR := lChoice (lBranch (lPiece (lAtom (lgK s k) s) s) s) s

/-- the nodes that are read mean what is read -/
structure Lk (ns : List Node) (r : PR) (l : LR) : Prop where
  ok : r.ok = l.ok
  next : r.next = l.next
  frg : l.ok = true → ns.length ≤ r.ns.length ∧ (∀ x, x < ns.length → r.ns[x]? = ns[x]?) ∧ ∃ a e : Nat, r.st = a ∧ r.en = e ∧ Frg r.ns ns.length r.ns.length a e l.lang
def LkF (f : Int → List Node → PR) (l : Int → LR) : Prop := ∀ i ns, Lk ns (f i ns) (l i)
theorem lk_atom {g : Int → List Node → PR} {l : Int → LR} {s : ByteArray} (h : LkF g l) : LkF (rAtom g s) (lAtom l s) := by
  intro i ns
  unfold rAtom lAtom
  split
  · exact h i ns
  · split
    · exact ⟨rfl, rfl, fun e => by cases e⟩
    · have hl : (oneN ns (rSet s i).1).length = ns.length + 2 := by simp [oneN]
      refine ⟨rfl, rfl, fun _ => ⟨by dsimp only; omega, fun x hx => ?_, ns.length + 1, ns.length, by dsimp only; omega, rfl, ?_⟩⟩
      · dsimp only [oneN]
        rw [List.append_assoc, List.getElem?_append_left hx]
      · dsimp only
        rw [hl]; exact Frg.one ns _
theorem lk_pieceL (s : ByteArray) (ns : List Node) : ∀ (f : Nat) (r : PR) (l : LR), Lk ns r l → Lk ns (rPieceL s f r) (lPieceL s f l)
  | 0, r, l, h => h
  | f + 1, r, l, h => by
    unfold rPieceL lPieceL
    rw [h.ok, h.next]
    split
    · rename_i hc
      rw [Bool.and_eq_true] at hc
      refine lk_pieceL s ns f _ _ ⟨rfl, rfl, fun _ => ?_⟩
      obtain ⟨q1, q2, a, e, q3, q4, q5⟩ := h.frg hc.1
      have i2 := q5.ie
      obtain ⟨ln, hat⟩ := repeat_at (a := a) (atB s l.next) q5.en
      dsimp only
      rw [q3, q4]
      refine ⟨by omega, fun x hx => ?_, r.ns.length, r.ns.length + 1, rfl, by omega, ?_⟩
      · rw [hat, if_neg (by omega), if_neg (by omega), if_neg (by omega)]; exact q2 x hx
      · rw [ln]; exact q5.rep _
    · exact h
theorem lk_piece {f : Int → List Node → PR} {l : Int → LR} {s : ByteArray} (h : LkF f l) : LkF (rPiece f s) (lPiece l s) := fun i ns => lk_pieceL s ns _ _ _ (h i ns)
theorem lk_join {ns : List Node} {r p : PR} {l q : LR} (h : Lk ns r l) (hok : l.ok = true) (hp : Lk r.ns p q) : Lk ns (joinR r p) (lJoin l q) := by
  unfold joinR lJoin
  rw [hp.ok]
  cases hq : q.ok
  · exact ⟨rfl, hp.next, fun e => by cases e⟩
  · obtain ⟨q1, q2, a, e, q3, q4, q5⟩ := h.frg hok
    obtain ⟨p1, p2, b, f, p3, p4, p5⟩ := hp.frg hq
    have i2 := q5.ie
    simp only [if_true]
    refine ⟨rfl, hp.next, fun _ => ?_⟩
    dsimp only
    rw [q3, q4, p3, p4]
    have hk := q5.keep p1 (fun x _ h2 => p2 x h2)
    rw [linkN_len]
    refine ⟨by omega, fun x hx => ?_, a, f, rfl, rfl, hk.join p5⟩
    rw [linkN_get _ (by omega), if_neg (by omega), p2 x (by omega)]; exact q2 x hx
theorem lk_branchL {p : Int → List Node → PR} {q : Int → LR} {s : ByteArray} (hp : LkF p q) (ns : List Node) : ∀ (f : Nat) (r : PR) (l : LR), Lk ns r l → Lk ns (rBranchL p s f r) (lBranchL q s f l)
  | 0, r, l, h => h
  | f + 1, r, l, h => by
    unfold rBranchL lBranchL
    rw [h.ok, h.next]
    split
    · rename_i hc
      rw [Bool.and_eq_true] at hc
      exact lk_branchL hp ns f _ _ (lk_join h hc.1 (hp _ _))
    · exact h
theorem lk_branch {f : Int → List Node → PR} {l : Int → LR} {s : ByteArray} (h : LkF f l) : LkF (rBranch f s) (lBranch l s) := fun i ns => lk_branchL h ns _ _ _ (h i ns)
theorem lk_either {ns : List Node} {r p : PR} {l q : LR} (h : Lk ns r l) (hok : l.ok = true) (hp : Lk r.ns p q) : Lk ns (eitherR r p) (lEither l q) := by
  unfold eitherR lEither
  rw [hp.ok]
  cases hq : q.ok
  · exact ⟨rfl, hp.next, fun e => by cases e⟩
  · obtain ⟨q1, q2, a, e, q3, q4, q5⟩ := h.frg hok
    obtain ⟨p1, p2, b, f, p3, p4, p5⟩ := hp.frg hq
    have i2 := q5.ie
    have i4 := p5.ie
    simp only [if_true]
    refine ⟨rfl, hp.next, fun _ => ?_⟩
    dsimp only
    rw [q3, q4, p3, p4]
    have hk := q5.keep p1 (fun x _ h2 => p2 x h2)
    obtain ⟨ln, hat⟩ := either_at (a := a) (b := b) hk.en p5.en (by omega)
    refine ⟨by omega, fun x hx => ?_, p.ns.length, p.ns.length + 1, rfl, by omega, ?_⟩
    · rw [hat, if_neg (by omega), if_neg (by omega), if_neg (by omega), p2 x (by omega)]; exact q2 x hx
    · rw [ln]; exact hk.either p5
theorem lk_choiceL {p : Int → List Node → PR} {q : Int → LR} {s : ByteArray} (hp : LkF p q) (ns : List Node) : ∀ (f : Nat) (r : PR) (l : LR), Lk ns r l → Lk ns (rChoiceL p s f r) (lChoiceL q s f l)
  | 0, r, l, h => h
  | f + 1, r, l, h => by
    unfold rChoiceL lChoiceL
    rw [h.ok, h.next]
    split
    · rename_i hc
      rw [Bool.and_eq_true] at hc
      exact lk_choiceL hp ns f _ _ (lk_either h hc.1 (hp _ _))
    · exact h
theorem lk_choice {f : Int → List Node → PR} {l : Int → LR} {s : ByteArray} (h : LkF f l) : LkF (rChoice f s) (lChoice l s) := fun i ns => lk_choiceL h ns _ _ _ (h i ns)
theorem lk_group {f : Int → List Node → PR} {l : Int → LR} {s : ByteArray} (h : LkF f l) : LkF (rGroup f s) (lGroup l s) := by
  intro i ns
  have hh := h (i + 1) ns
  unfold rGroup lGroup
  rw [hh.ok, hh.next]
  split
  · exact ⟨rfl, rfl, fun e => by cases e⟩
  · rename_i h1
    split
    · exact ⟨rfl, rfl, fun e => by cases e⟩
    · exact ⟨rfl, rfl, fun _ => hh.frg (by simpa using h1)⟩
theorem lk_gK (s : ByteArray) : ∀ k, LkF (gK s k) (lgK s k)
  | 0 => fun i ns => ⟨rfl, rfl, fun e => by cases e⟩
  | k + 1 => lk_group (lk_choice (lk_branch (lk_piece (lk_atom (lk_gK s k)))))
theorem lk_chK (s : ByteArray) (k : Nat) : LkF (chK s k) (lchK s k) := lk_choice (lk_branch (lk_piece (lk_atom (lk_gK s k))))
/-- the bytes of a text -/
def bytesOf (t : ByteArray) : List Nat := bytesK t 0 t.size
/-- what a rule matches is what its pattern means -/
theorem match_lang {s : ByteArray} {i : Int} (hok : (rRead s i).ok = true) (d : Wd) (sk : Bool) (t : ByteArray) : ruleMatch ⟨d, sk, (rRead s i).ns, (rRead s i).st, (rRead s i).en, []⟩ t = true ↔ (lchK s 6 i).lang (bytesOf t) := by
  have h := lk_chK s 6 i []
  obtain ⟨_, _, a, e, h3, h4, h5⟩ := h.frg (by rw [← h.ok]; exact hok)
  have h3 : (rRead s i).st = a := h3
  have h4 : (rRead s i).en = e := h4
  have h5 : Frg (rRead s i).ns 0 (rRead s i).ns.length a e (lchK s 6 i).lang := h5
  have m := match_acc ⟨d, sk, (rRead s i).ns, (rRead s i).st, (rRead s i).en, []⟩ t 0 t.size (by omega)
  rw [Nat.zero_add, show t.extract 0 t.size = t from by simp] at m
  rw [m]
  dsimp only
  rw [h3, h4, accK_path h5.ia.2 h5.ie.2 t 0 t.size (by omega)]
  exact h5.lg _
end Go.Proofs.Ytjcknghdgfcboaa
namespace Go.Proofs.Ytjcknghdgfcboaa
open Go.RowKit
set_option linter.unusedVariables false
set_option linter.unusedSimpArgs false

/-- two texts are alike at two places for n bytes -/
def Alike (s : ByteArray) (i : Int) (s' : ByteArray) (i' : Int) (n : Nat) : Prop := ∀ j : Nat, j < n → atB s (i + j) = atB s' (i' + j)
theorem Alike.at0 {s s' : ByteArray} {i i' : Int} {n : Nat} (h : Alike s i s' i' n) (hn : 0 < n) : atB s' i' = atB s i := by
  have := h 0 hn
  simpa using this.symm
theorem Alike.on {s s' : ByteArray} {i i' : Int} {n : Nat} (h : Alike s i s' i' n) (k : Nat) : Alike s (i + k) s' (i' + k) (n - k) := fun j hj => by
  have := h (k + j) (by omega)
  rw [show i + (k : Int) + (j : Int) = i + ((k + j : Nat) : Int) by omega, show i' + (k : Int) + (j : Int) = i' + ((k + j : Nat) : Int) by omega]
  exact this
theorem Alike.less {s s' : ByteArray} {i i' : Int} {n m : Nat} (h : Alike s i s' i' n) (hm : m ≤ n) : Alike s i s' i' m := fun j hj => h j (by omega)
theorem Alike.atK {s s' : ByteArray} {i i' : Int} {n : Nat} (h : Alike s i s' i' n) {x : Int} (h0 : i ≤ x) (h1 : x < i + n) : atB s' (x - i + i') = atB s x := by
  have := h (x - i).toNat (by omega)
  rw [show i + ((x - i).toNat : Int) = x by omega, show i' + ((x - i).toNat : Int) = x - i + i' by omega] at this
  exact this.symm
theorem Alike.tail {s s' : ByteArray} {i i' : Int} {n : Nat} (h : Alike s i s' i' n) : Alike s (i + 1) s' (i' + 1) (n - 1) := h.on 1
theorem rEndsL_s (s : ByteArray) (i : Int) (f : Nat) (next : Int) (ws : List Int) : rEndsL s i (f + 1) next ws = if next = i ∨ atB s next ≠ 93 then
      if (rRange s next).2.2.2 = false then (zero4, (rRange s next).2.2.1, false)
      else rEndsL s i f (rRange s next).2.2.1 (withF ws (rRange s next).1 (rRange s next).2.1)
    else (ws, next + 1, true) := rfl
section
variable {s s' : ByteArray} {i i' : Int} {n : Nat}
theorem rMark_loc (h : Alike s i s' i' n) (h0 : 0 ≤ i) (hok : (rMark s i).2.2 = true) (hn : (rMark s i).2.1 ≤ i + n) : rMark s' i' = ((rMark s i).1, (rMark s i).2.1 - i + i', true) := by
  have hb := (rMark_bd s i h0).2.2.2.2 hok
  have e := h.at0 (by omega)
  unfold rMark at hok hb ⊢
  rw [e]
  split
  · simp; omega
  · split
    · simp; omega
    · rename_i h1 h2
      rw [if_neg h1, if_neg h2] at hok
      split
      · rename_i h3; rw [if_pos h3] at hok; cases hok
      · simp; omega
theorem rEnd_loc (h : Alike s i s' i' n) (h0 : 0 ≤ i) (hok : (rEnd s i).2.2 = true) (hn : (rEnd s i).2.1 ≤ i + n) : rEnd s' i' = ((rEnd s i).1, (rEnd s i).2.1 - i + i', true) := by
  have hb := (rEnd_bd s i h0).2.2.2.2 hok
  have e := h.at0 (by omega)
  unfold rEnd at hok hb hn ⊢
  rw [e]
  split
  · rename_i h1
    rw [if_pos h1] at hok hn hb
    have := rMark_loc h.tail (by omega) hok (by omega)
    rw [this]
    simp; omega
  · rename_i h1
    rw [if_neg h1] at hok
    split
    · rename_i h2; rw [if_pos h2] at hok; cases hok
    · rename_i h2
      rw [if_neg h2] at hok
      split
      · rename_i h3; rw [if_pos h3] at hok; cases hok
      · simp; omega
theorem rRange_loc (h : Alike s i s' i' n) (h0 : 0 ≤ i) (hok : (rRange s i).2.2.2 = true) (hn : (rRange s i).2.2.1 < i + n) : rRange s' i' = ((rRange s i).1, (rRange s i).2.1, (rRange s i).2.2.1 - i + i', true) := by
  have b1 := rEnd_bd s i h0
  have b2 := rEnd_bd s ((rEnd s i).2.1 + 1) (by omega)
  unfold rRange at hok hn ⊢
  by_cases c1 : (rEnd s i).2.2 = false
  · rw [if_pos c1] at hok; cases hok
  · have c1' : (rEnd s i).2.2 = true := by simpa using c1
    have b3 := b1.2.2.2.2 c1'
    rw [if_neg c1] at hok hn ⊢
    by_cases c2 : atB s (rEnd s i).2.1 ≠ 45
    · rw [if_pos c2] at hok hn ⊢
      have r1 := rEnd_loc h h0 c1' (by dsimp only at hn; omega)
      have a1 := h.atK (x := (rEnd s i).2.1) (by omega) hn
      rw [r1]
      dsimp only
      rw [if_neg (by simp), a1, if_pos c2]
    · rw [if_neg c2] at hok hn ⊢
      by_cases c3 : (rEnd s ((rEnd s i).2.1 + 1)).2.2 = false
      · rw [if_pos c3] at hok; cases hok
      · have c3' : (rEnd s ((rEnd s i).2.1 + 1)).2.2 = true := by simpa using c3
        have b4 := b2.2.2.2.2 c3'
        rw [if_neg c3] at hok hn ⊢
        by_cases c4 : (rEnd s ((rEnd s i).2.1 + 1)).1 < (rEnd s i).1
        · rw [if_pos c4] at hok; cases hok
        · rw [if_neg c4] at hok hn ⊢
          dsimp only at hn ⊢
          have r1 := rEnd_loc h h0 c1' (by omega)
          have a1 := h.atK (x := (rEnd s i).2.1) (by omega) (by omega)
          have hh := h.on ((rEnd s i).2.1 + 1 - i).toNat
          rw [show i + (((rEnd s i).2.1 + 1 - i).toNat : Int) = (rEnd s i).2.1 + 1 by omega, show i' + (((rEnd s i).2.1 + 1 - i).toNat : Int) = (rEnd s i).2.1 - i + i' + 1 by omega] at hh
          have r2 := rEnd_loc hh (by omega) c3' (by omega)
          rw [r1]
          dsimp only
          rw [if_neg (by simp), a1, if_neg c2, r2]
          dsimp only
          rw [if_neg (by simp), if_neg c4]
          simp; omega
theorem rEndsL_loc (h : Alike s i s' i' n) (h0 : 0 ≤ i) : ∀ (f : Nat) (next : Int) (ws : List Int), i ≤ next → (rEndsL s i f next ws).2.2 = true → (rEndsL s i f next ws).2.1 ≤ i + n →
    ∀ f' : Nat, (s'.size : Int) + 2 ≤ f' + (next - i + i') → rEndsL s' i' f' (next - i + i') ws = ((rEndsL s i f next ws).1, (rEndsL s i f next ws).2.1 - i + i', true) ∧ next < (rEndsL s i f next ws).2.1
  | 0, next, ws, _, hok, _, _, _ => by cases hok
  | f + 1, next, ws, hi, hok, hn, f', hf => by
    rw [rEndsL_s s i f next ws] at hok hn ⊢
    by_cases c : next = i ∨ atB s next ≠ 93
    · rw [if_pos c] at hok hn ⊢
      by_cases c1 : (rRange s next).2.2.2 = false
      · rw [if_pos c1] at hok; cases hok
      · have c1' : (rRange s next).2.2.2 = true := by simpa using c1
        have b := (rRange_bd s next (by omega)).2.2.2.2.2.2 c1'
        rw [if_neg c1] at hok hn ⊢
        have rcv := fun f' hf => rEndsL_loc h h0 f (rRange s next).2.2.1 (withF ws (rRange s next).1 (rRange s next).2.1) (by omega) hok hn f' hf
        have r1 := (rcv (s'.size + 2 + ((rRange s next).2.2.1 - i + i').natAbs) (by omega)).2
        have hh := h.on (next - i).toNat
        rw [show i + ((next - i).toNat : Int) = next by omega, show i' + ((next - i).toNat : Int) = next - i + i' by omega] at hh
        have r2 := rRange_loc hh (by omega) c1' (by omega)
        have b' := (rRange_bd s' (next - i + i') (by
          by_cases q : 0 ≤ next - i + i'
          · exact q
          · exfalso
            have a0 := h.atK (x := next) hi (by omega)
            have hz : atB s' (next - i + i') = -1 := by unfold atB; rw [dif_neg (by omega)]
            rw [hz] at a0
            have hz2 : (rEnd s next).2.2 = false := by
              unfold rEnd
              rw [← a0]
              simp [isPrB]
            unfold rRange at c1'
            rw [if_pos hz2] at c1'
            cases c1')).2.2.2.2.2.2 (by rw [r2])
        rw [r2] at b'
        dsimp only at b'
        cases f' with
        | zero => omega
        | succ f' =>
          rw [rEndsL_s s' i' f']
          have a1 : next - i + i' = i' ∨ atB s' (next - i + i') ≠ 93 := by
            rcases c with c | c
            · exact .inl (by omega)
            · exact .inr (by rw [h.atK hi (by omega)]; exact c)
          rw [if_pos a1, r2]
          dsimp only
          rw [if_neg (by simp)]
          have e : (rRange s next).2.2.1 - next + (next - i + i') = (rRange s next).2.2.1 - i + i' := by omega
          rw [e]
          exact ⟨(rcv f' (by omega)).1, by omega⟩
    · rw [if_neg c] at hok hn ⊢
      dsimp only at hn ⊢
      have c' : ¬ next = i ∧ atB s next = 93 := by
        by_cases q : next = i
        · exact absurd (.inl q) c
        · exact ⟨q, by
            by_cases q2 : atB s next = 93
            · exact q2
            · exact absurd (.inr q2) c⟩
      have a1 := h.atK hi (x := next) (by omega)
      have a2 := atB_lt (s := s') (i := next - i + i') (by rw [a1, c'.2]; decide)
      cases f' with
      | zero => omega
      | succ f' =>
        rw [rEndsL_s s' i' f']
        rw [if_neg (by rw [a1]; intro q; rcases q with q | q; omega; exact q c'.2)]
        exact ⟨by simp; omega, by omega⟩
theorem rEnds_loc (h : Alike s i s' i' n) (h0 : 0 ≤ i) (h0' : 0 ≤ i') (hok : (rEnds s i).2.2 = true) (hn : (rEnds s i).2.1 ≤ i + n) : rEnds s' i' = ((rEnds s i).1, (rEnds s i).2.1 - i + i', true) := by
  have := (rEndsL_loc h h0 (s.size + 5) i zero4 (by omega) hok hn (s'.size + 5) (by omega)).1
  rw [show i - i + i' = i' by omega] at this
  exact this
theorem rBr_loc (h : Alike s i s' i' n) (h0 : 0 ≤ i) (h0' : 0 ≤ i') (hs : i ≤ s.size) (hok : (rBr s i).2.2 = true) (hn : (rBr s i).2.1 ≤ i + n) : rBr s' i' = ((rBr s i).1, (rBr s i).2.1 - i + i', true) := by
  have hb := (rBr_bd s i h0 hs).2.2 hok
  have e := h.at0 (by omega)
  unfold rBr at hok hn ⊢
  rw [e]
  split
  · rename_i h1
    rw [if_pos h1] at hok hn
    have := rEnds_loc h.tail (by omega) (by omega) hok (by dsimp only at hn; omega)
    rw [this]
    simp; omega
  · rename_i h1
    rw [if_neg h1] at hok hn
    exact rEnds_loc h h0 h0' hok hn
/-- a set is read alike where the texts are alike -/
theorem rSet_loc (h : Alike s i s' i' n) (h0 : 0 ≤ i) (h0' : 0 ≤ i') (hok : (rSet s i).2.2 = true) (hn : (rSet s i).2.1 ≤ i + n) : rSet s' i' = ((rSet s i).1, (rSet s i).2.1 - i + i', true) := by
  have hb := (rSet_bd s i h0).2.2 hok
  have e := h.at0 (by omega)
  unfold rSet at hok hn hb ⊢
  rw [e]
  by_cases c1 : atB s i = 46
  · rw [if_pos c1, if_pos c1]; simp; omega
  · rw [if_neg c1] at hok hn hb ⊢
    rw [if_neg c1]
    by_cases c2 : atB s i = 91
    · rw [if_pos c2] at hok hn hb ⊢
      rw [if_pos c2]
      have := rBr_loc h.tail (by omega) (by omega) (by omega) hok (by omega)
      rw [this]; simp; omega
    · rw [if_neg c2] at hok hn hb ⊢
      rw [if_neg c2]
      by_cases c3 : atB s i = 92
      · rw [if_pos c3] at hok hn hb ⊢
        rw [if_pos c3]
        have := rMark_loc h.tail (by omega) hok (by dsimp only at hn; omega)
        rw [this]; simp; omega
      · rw [if_neg c3] at hok hn hb ⊢
        rw [if_neg c3]
        by_cases c4 : isPlainB (atB s i) = false
        · rw [if_pos c4] at hok; cases hok
        · rw [if_neg c4, if_neg c4]; simp; omega
end
end Go.Proofs.Ytjcknghdgfcboaa
