import Derived.Test.YtdbdkdekeicmhaaKp8
import Derived.Deep.RegionWith
namespace Go.Proofs.Ytdbdkdekeicmhaa
open Go.RowKit
set_option linter.unusedVariables false
set_option linter.unusedSimpArgs false

theorem cutL_pre (lns : List Ln) (t : ByteArray) (f : Nat) : ∀ (i : Nat) (toks : List Tk), (cutL lns t f i toks).2.1 = 0 → ∃ l, (cutL lns t f i toks).1 = toks ++ l := by
  induction f with
  | zero => intro i toks h; simp [cutL] at h
  | succ f ih =>
    intro i toks h
    unfold cutL at h ⊢
    split
    · rename_i h1
      rw [if_pos h1] at h
      split
      · rename_i h2; rw [if_pos h2] at h; simp at h
      · rename_i h2
        rw [if_neg h2] at h
        obtain ⟨l, hl⟩ := ih _ _ h
        rw [hl]
        split
        · exact ⟨l, rfl⟩
        · exact ⟨⟨(bestF lns t i).1, i, (bestF lns t i).2⟩ :: l, by simp⟩
    · exact ⟨[], by simp⟩
end Go.Proofs.Ytdbdkdekeicmhaa
namespace Go.Proofs.Ytdbdkdekeicmhaa
open Go.RowKit
set_option linter.unusedVariables false
set_option linter.unusedSimpArgs false

/-- What the longest beginning by Match has to do with what Lex cuts off at i. -/
def BestAs (s t : ByteArray) (i : Nat) : Prop :=
  ∃ n r : Nat, longK s (rulesOf s).length (t.extract i t.size) (t.extract i t.size).size = ((n : Int), (r : Int)) ∧ i + n ≤ t.size ∧ (n = 0 → (bestF (rulesOf s) t i).2 ≤ i) ∧
    (0 < n → r < (rulesOf s).length ∧ bestF (rulesOf s) t i = ((r : Int), (i : Int) + n))
structure LinesAs (s : ByteArray) : Prop where
  sound : (linesF s).2 = true
  rules : (linesF s).1.rules.length = (rulesOf s).length
  skip : (linesF s).1.skip = (rulesOf s).map Ln.skip

end Go.Proofs.Ytdbdkdekeicmhaa
