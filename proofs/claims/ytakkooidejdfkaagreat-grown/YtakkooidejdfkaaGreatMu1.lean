import Derived.Test.YtakkooidejdfkaaGreatKp8
import Derived.Deep.RegionWith
namespace Go.Proofs.YtakkooidejdfkaaGreat
open Go.RowKit
set_option linter.unusedVariables false
set_option linter.unusedSimpArgs false

theorem cutL_pre (lns : List Ln) (t : ByteArray) (f : Nat) : ∀ (i : Nat) (toks : List Tk), (cutL lns t f i toks).2.1 = 0 → ∃ l, (cutL lns t f i toks).1 = toks ++ l := by
  induction f with
  | zero => intro i toks h; simp [cutL] at h
  | succ f ih =>
    intro i toks h
    unfold cutL at h ⊢
    split
    · rename_i h1
      rw [if_pos h1] at h
      split
      · rename_i h2; rw [if_pos h2] at h; simp at h
      · rename_i h2
        rw [if_neg h2] at h
        obtain ⟨l, hl⟩ := ih _ _ h
        rw [hl]
        split
        · exact ⟨l, rfl⟩
        · exact ⟨⟨(bestF lns t i).1, i, (bestF lns t i).2⟩ :: l, by simp⟩
    · exact ⟨[], by simp⟩
theorem LOAt.skip {w : World} {b : Nat} {x : LO} {v0 v1 v2 v3 v4 v5 : Value} {nv sv : List Value} (h : LOAt w b x v0 v1 v2 v3 v4 v5 nv sv) (r : Nat) (hr : r < x.skip.length) :
    ∃ g c, v1 = .slice (some ⟨g, 0, none⟩) x.skip.length c ∧ w.cell? ⟨g, r, none⟩ = some (.bool x.skip[r]) := by
  have ho : w.ownsRow (b + 1) 4 1 v1 x.skip.length (bools x.skip) := by
    have := h.at'.own 1 _ rfl
    simpa using this
  obtain ⟨g, c, hv⟩ := Joins.ownsRow_form ho (by omega)
  refine ⟨g, c, hv, ?_⟩
  subst hv
  have := ho.cells (g := g) rfl r (.bool x.skip[r]) (by simp [hr])
  rwa [Addr.add_mid, Nat.zero_add] at this
end Go.Proofs.YtakkooidejdfkaaGreat
namespace Go.Proofs.YtakkooidejdfkaaGreat
open Go.RowKit
set_option linter.unusedVariables false
set_option linter.unusedSimpArgs false

/-- What the longest beginning by Match has to do with what Lex cuts off at i. -/
def BestAs (s t : ByteArray) (i : Nat) : Prop :=
  ∃ n r : Nat, longK s (rulesOf s).length (t.extract i t.size) (t.extract i t.size).size = ((n : Int), (r : Int)) ∧ i + n ≤ t.size ∧ (n = 0 → (bestF (rulesOf s) t i).2 ≤ i) ∧
    (0 < n → r < (rulesOf s).length ∧ bestF (rulesOf s) t i = ((r : Int), (i : Int) + n))
structure LinesAs (s : ByteArray) : Prop where
  sound : (linesF s).2 = true
  rules : (linesF s).1.rules.length = (rulesOf s).length
  skip : (linesF s).1.skip = (rulesOf s).map Ln.skip

end Go.Proofs.YtakkooidejdfkaaGreat
