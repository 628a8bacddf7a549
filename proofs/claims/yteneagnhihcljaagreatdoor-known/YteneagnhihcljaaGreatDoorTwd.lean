import Derived.Test.YteneagnhihcljaaGreatDoorTwc
namespace Go.Proofs.YteneagnhihcljaaGreatDoor
open Go.RowKit
set_option linter.unusedVariables false
set_option linter.unusedSimpArgs false
theorem own_type {w : World} {B k n : Nat} {e : TypeId} {v : Value} {xs : List Value} (h : w.ownsRow B e k v n xs) {g : Nat} (hg : v.ownBlock = some g) : ∃ cur, w.heap[g]? = some (.cells cur e (0, 0)) := by
  rcases h.2 with ⟨rfl, _⟩ | ⟨g', cap, cur, rfl, _, hb, _⟩
  · simp [Value.ownBlock] at hg
  · simp [Value.ownBlock] at hg
    subst hg
    exact ⟨cur, hb⟩

theorem cutL_len (lns : List Ln) (t : ByteArray) (ht : t.size ≤ 200) : ∀ (f i : Nat) (toks : List Tk), toks.length ≤ i → i ≤ t.size → (cutL lns t f i toks).1.length ≤ t.size
  | 0, _, _, _, _ => by simp [cutL]
  | f + 1, i, toks, h, hi => by
    unfold cutL
    have hb := bestF_bd lns t i
    split
    · split
      · simp
      · rename_i h1 h2
        have hlen : (if skipB lns (bestF lns t i).1 then toks else toks ++ [⟨(bestF lns t i).1, i, (bestF lns t i).2⟩]).length ≤ toks.length + 1 := by
          split
          · omega
          · simp
        refine cutL_len lns t ht f _ _ ?_ ?_
        · omega
        · omega
    · show toks.length ≤ t.size
      omega
theorem cut_len (s t : ByteArray) (ht : t.size ≤ 200) : (cutF (rulesOf s) t).1.length ≤ 1000 := by
  have := cutL_len (rulesOf s) t ht (t.size + 1) 0 [] (by simp) (by omega)
  unfold cutF; omega

end Go.Proofs.YteneagnhihcljaaGreatDoor
