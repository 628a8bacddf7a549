import Derived.Test.YtakkooidejdfkaaGreatKc4
namespace Go.Proofs.YtakkooidejdfkaaGreat
open Go.RowKit
set_option linter.unusedVariables false
set_option linter.unusedSimpArgs false

/-- what stands behind each head in a production is in its Follow -/
def BehOk (svs : List SV) (nR : Nat) (q : Nat) (sy : List Int) : Prop := ∀ j (hj : j < sy.length), sy[j] < 0 →
  (∀ t (ht : t < (kaF svs (sy.drop (j + 1)) (List.replicate (nR + 1) false)).1.length), (kaF svs (sy.drop (j + 1)) (List.replicate (nR + 1) false)).1[t] = true → (listT (hdAt svs sy[j]).fo).any (· == (t : Int)) = true) ∧
  ((kaF svs (sy.drop (j + 1)) (List.replicate (nR + 1) false)).2 = true → ∀ s, svs[q]? = some s → ∀ k ∈ listT s.hd.fo, (listT (hdAt svs sy[j]).fo).any (· == k) = true)

end Go.Proofs.YtakkooidejdfkaaGreat
