import Derived.Test.YtnhhboikbbnklaaBld4
namespace Go.Proofs.Ytnhhboikbbnklaa
open Go.RowKit
set_option linter.unusedVariables false
set_option linter.unusedSimpArgs false

structure PR where
  st : Int
  en : Int
  next : Int
  ok : Bool
  ns : List Node

def rAtom (g : Int → List Node → PR) (s : ByteArray) (i : Int) (ns : List Node) : PR :=
  if atB s i = 40 then g i ns
  else if (rSet s i).2.2 = false then ⟨0, 0, (rSet s i).2.1, false, ns⟩
  else ⟨ns.length + 1, ns.length, (rSet s i).2.1, true, oneN ns (rSet s i).1⟩
def isMark (c : Int) : Bool := c == 42 || c == 43 || c == 63
def rPieceL (s : ByteArray) : Nat → PR → PR
  | 0, r => r
  | f + 1, r =>
    if (r.ok && isMark (atB s r.next)) = true then rPieceL s f ⟨r.ns.length, r.ns.length + 1, r.next + 1, true, repeatN r.ns r.st r.en (atB s r.next)⟩
    else r
def rPiece (a : Int → List Node → PR) (s : ByteArray) (i : Int) (ns : List Node) : PR := rPieceL s (s.size + 5) (a i ns)
def joinR (r p : PR) : PR := if p.ok then ⟨r.st, p.en, p.next, true, linkN p.ns r.en p.st⟩ else ⟨r.st, r.en, p.next, false, p.ns⟩
def rBranchL (p : Int → List Node → PR) (s : ByteArray) : Nat → PR → PR
  | 0, r => r
  | f + 1, r => if (r.ok && beginsB s r.next) = true then rBranchL p s f (joinR r (p r.next r.ns)) else r
def rBranch (p : Int → List Node → PR) (s : ByteArray) (i : Int) (ns : List Node) : PR := rBranchL p s (s.size + 5) (p i ns)
def eitherR (r p : PR) : PR := if p.ok then ⟨p.ns.length, p.ns.length + 1, p.next, true, eitherN p.ns r.st r.en p.st p.en⟩ else ⟨r.st, r.en, p.next, false, p.ns⟩
def rChoiceL (p : Int → List Node → PR) (s : ByteArray) : Nat → PR → PR
  | 0, r => r
  | f + 1, r => if (r.ok && (atB s r.next == 124)) = true then rChoiceL p s f (eitherR r (p (r.next + 1) r.ns)) else r
def rChoice (p : Int → List Node → PR) (s : ByteArray) (i : Int) (ns : List Node) : PR := rChoiceL p s (s.size + 5) (p i ns)
def rGroup (c : Int → List Node → PR) (s : ByteArray) (i : Int) (ns : List Node) : PR :=
  if (c (i + 1) ns).ok = false then ⟨0, 0, (c (i + 1) ns).next, false, (c (i + 1) ns).ns⟩
  else if atB s (c (i + 1) ns).next ≠ 41 then ⟨0, 0, (c (i + 1) ns).next, false, (c (i + 1) ns).ns⟩
  else ⟨(c (i + 1) ns).st, (c (i + 1) ns).en, (c (i + 1) ns).next + 1, true, (c (i + 1) ns).ns⟩
def gK (s : ByteArray) : Nat → Int → List Node → PR
  | 0 => fun i ns => ⟨0, 0, i, false, ns⟩
  | k + 1 => rGroup (rChoice (rBranch (rPiece (rAtom (gK s k) s) s) s) s) s
def chK (s : ByteArray) (k : Nat) : Int → List Node → PR := rChoice (rBranch (rPiece (rAtom (gK s k) s) s) s) s

structure Good (s : ByteArray) (i : Int) (n0 : Nat) (r : PR) : Prop where
  lo : i ≤ r.next
  hi : r.next ≤ 2 * s.size + 20
  good : r.ok = true → i < r.next ∧ r.next ≤ s.size
  cnt : (r.ns.length : Int) ≤ n0 + 2 * (r.next - i)
def GoodF (s : ByteArray) (f : Int → List Node → PR) : Prop := ∀ (i : Int) (ns : List Node), 0 ≤ i → i ≤ s.size → Good s i ns.length (f i ns)

theorem good_atom {g : Int → List Node → PR} {s : ByteArray} (hg : GoodF s g) : GoodF s (rAtom g s) := by
  intro i ns h0 h1
  have hb := rSet_bd s i h0
  unfold rAtom
  split
  · exact hg i ns h0 h1
  · split
    · exact ⟨hb.1, by dsimp only; omega, by simp, by dsimp only; omega⟩
    · rename_i h3; have h4 := hb.2.2 (by simpa using h3)
      exact ⟨hb.1, by dsimp only; omega, fun _ => h4, by dsimp only; rw [oneN_len]; omega⟩
theorem good_pieceL (s : ByteArray) (i : Int) (n0 : Nat) (hi : 0 ≤ i) : ∀ (f : Nat) (r : PR), Good s i n0 r → Good s i n0 (rPieceL s f r)
  | 0, r, h => h
  | f + 1, r, h => by
    unfold rPieceL
    split
    · rename_i h3
      simp only [Bool.and_eq_true] at h3
      have h4 := h.good h3.1
      have h5 : atB s r.next ≠ -1 := by intro e; rw [e] at h3; simp [isMark] at h3
      have h6 := atB_lt h5
      exact good_pieceL s i n0 hi f _ ⟨by dsimp only; omega, by dsimp only; omega, fun _ => by dsimp only; omega, by dsimp only; rw [repeatN_len]; have := h.cnt; omega⟩
    · exact h
theorem good_piece {a : Int → List Node → PR} {s : ByteArray} (ha : GoodF s a) : GoodF s (rPiece a s) := by
  intro i ns h0 h1
  exact good_pieceL s i _ h0 _ _ (ha i ns h0 h1)
theorem good_joinR {s : ByteArray} {i : Int} {n0 : Nat} {r p : PR} (h0 : 0 ≤ i) (h : Good s i n0 r) (hok : r.ok = true) (hp : Good s r.next r.ns.length p) : Good s i n0 (joinR r p) := by
  have h4 := h.good hok
  have h7 := hp.cnt
  have h8 := h.cnt
  unfold joinR
  split
  · rename_i h5; have h6 := hp.good h5
    exact ⟨by dsimp only; omega, by dsimp only; omega, fun _ => by dsimp only; omega, by dsimp only; rw [linkN_len]; omega⟩
  · exact ⟨by have := hp.lo; dsimp only; omega, hp.hi, by simp, by dsimp only; omega⟩
theorem good_eitherR {s : ByteArray} {i : Int} {n0 : Nat} {r p : PR} (h0 : 0 ≤ i) (h : Good s i n0 r) (hok : r.ok = true) (hp : Good s (r.next + 1) r.ns.length p) : Good s i n0 (eitherR r p) := by
  have h4 := h.good hok
  have h7 := hp.cnt
  have h8 := h.cnt
  unfold eitherR
  split
  · rename_i h5; have h6 := hp.good h5
    exact ⟨by dsimp only; omega, by dsimp only; omega, fun _ => by dsimp only; omega, by dsimp only; rw [eitherN_len]; omega⟩
  · exact ⟨by have := hp.lo; dsimp only; omega, hp.hi, by simp, by dsimp only; omega⟩
theorem good_branchL {p : Int → List Node → PR} {s : ByteArray} (hp : GoodF s p) (i : Int) (n0 : Nat) (hi : 0 ≤ i) : ∀ (f : Nat) (r : PR), Good s i n0 r → Good s i n0 (rBranchL p s f r)
  | 0, r, h => h
  | f + 1, r, h => by
    unfold rBranchL
    split
    · rename_i h3
      simp only [Bool.and_eq_true] at h3
      have h4 := h.good h3.1
      exact good_branchL hp i n0 hi f _ (good_joinR hi h h3.1 (hp r.next r.ns (by omega) (by omega)))
    · exact h
theorem good_branch {p : Int → List Node → PR} {s : ByteArray} (hp : GoodF s p) : GoodF s (rBranch p s) := by
  intro i ns h0 h1
  exact good_branchL hp i _ h0 _ _ (hp i ns h0 h1)
theorem good_choiceL {p : Int → List Node → PR} {s : ByteArray} (hp : GoodF s p) (i : Int) (n0 : Nat) (hi : 0 ≤ i) : ∀ (f : Nat) (r : PR), Good s i n0 r → Good s i n0 (rChoiceL p s f r)
  | 0, r, h => h
  | f + 1, r, h => by
    unfold rChoiceL
    split
    · rename_i h3
      simp only [Bool.and_eq_true, beq_iff_eq] at h3
      have h4 := h.good h3.1
      have h6 := atB_lt (s := s) (i := r.next) (by omega)
      exact good_choiceL hp i n0 hi f _ (good_eitherR hi h h3.1 (hp (r.next + 1) r.ns (by omega) (by omega)))
    · exact h
theorem good_choice {p : Int → List Node → PR} {s : ByteArray} (hp : GoodF s p) : GoodF s (rChoice p s) := by
  intro i ns h0 h1
  exact good_choiceL hp i _ h0 _ _ (hp i ns h0 h1)
theorem good_group {c : Int → List Node → PR} {s : ByteArray} (hc : GoodF s c) (i : Int) (ns : List Node) (h0 : 0 ≤ i) (h1 : i < s.size) : Good s i ns.length (rGroup c s i ns) := by
  have h := hc (i + 1) ns (by omega) (by omega)
  have hl := h.lo
  have hk := h.cnt
  have hh := h.hi
  unfold rGroup
  split
  · exact ⟨by dsimp only; omega, h.hi, by simp, by dsimp only; omega⟩
  · rename_i h3; have h4 := h.good (by simpa using h3)
    split
    · exact ⟨by dsimp only; omega, h.hi, by simp, by dsimp only; omega⟩
    · rename_i h5
      have h6 := atB_lt (s := s) (i := (c (i + 1) ns).next) (by omega)
      exact ⟨by dsimp only; omega, by dsimp only; omega, fun _ => by dsimp only; omega, by dsimp only; omega⟩
/-- A group is only read where a ( stands. -/
def GoodG (s : ByteArray) (f : Int → List Node → PR) : Prop := ∀ (i : Int) (ns : List Node), 0 ≤ i → i < s.size → Good s i ns.length (f i ns)
theorem good_atom' {g : Int → List Node → PR} {s : ByteArray} (hg : GoodG s g) : GoodF s (rAtom g s) := by
  intro i ns h0 h1
  by_cases hc : atB s i = 40
  · have h6 := atB_lt (s := s) (i := i) (by omega)
    unfold rAtom; rw [if_pos hc]; exact hg i ns h0 h6.2
  · have := good_atom (g := fun i ns => ⟨0, 0, i, false, ns⟩) (s := s) (fun i ns h0 h1 => ⟨by simp, by dsimp only; omega, by simp, by simp⟩) i ns h0 h1
    unfold rAtom at this ⊢; rw [if_neg hc] at this ⊢; exact this
theorem good_gK (s : ByteArray) : ∀ k, GoodG s (gK s k)
  | 0 => fun i ns h0 h1 => ⟨by simp [gK], by simp [gK]; omega, by simp [gK], by simp [gK]⟩
  | k + 1 => fun i ns h0 h1 => good_group (good_choice (good_branch (good_piece (good_atom' (good_gK s k))))) i ns h0 h1
theorem good_chK (s : ByteArray) (k : Nat) : GoodF s (chK s k) := good_choice (good_branch (good_piece (good_atom' (good_gK s k))))

abbrev prRet (r : PR) : Value := .tuple #[frag r.st r.en, .int .i64 r.next, .bool r.ok]
/-- What a reading method does: f is what it reads. -/
def Con (fid : FuncId) (s : ByteArray) (d : Int) (f : Int → List Node → PR) : Prop :=
  ∀ (i : Int) (ns : List Node) (w : World) (bb : Nat) (v : Value), 0 ≤ i → i ≤ s.size → (ns.length : Int) ≤ 2 * i → BAt w bb v ns →
    Calls Try.prog fid #[bptr bb, .string s, .int .i64 i, .int .i64 d] w fun e w' => e = .returned (prRet (f i ns)) ∧ ∃ v', BNext w w' bb v v' (f i ns).ns
/-- The same, where a ( stands. -/
def ConG (fid : FuncId) (s : ByteArray) (d : Int) (f : Int → List Node → PR) : Prop :=
  ∀ (i : Int) (ns : List Node) (w : World) (bb : Nat) (v : Value), 0 ≤ i → i < s.size → (ns.length : Int) ≤ 2 * i → BAt w bb v ns →
    Calls Try.prog fid #[bptr bb, .string s, .int .i64 i, .int .i64 d] w fun e w' => e = .returned (prRet (f i ns)) ∧ ∃ v', BNext w w' bb v v' (f i ns).ns
end Go.Proofs.Ytnhhboikbbnklaa
