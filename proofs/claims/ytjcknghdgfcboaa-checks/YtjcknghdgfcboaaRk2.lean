import Derived.Test.YtjcknghdgfcboaaRi5
import Derived.ChangeKeysEq
namespace Go.Proofs.Ytjcknghdgfcboaa
open Go.RowKit
set_option linter.unusedVariables false
set_option linter.unusedSimpArgs false

/-- the rules of both, side by side -/
structure RulesBy (lns : List Ln) (rs : List ZLV) : Prop where
  len : lns.length = rs.length
  at' : ∀ (k : Nat) (x : Ln) (z : ZLV), lns[k]? = some x → rs[k]? = some z → z.ln.skip = x.skip ∧ ∃ L, PatIs z.ln.pat L ∧ z.ln.pat.size ≤ 1000 ∧ ∀ t, ruleMatch x t = true ↔ L (bytesOf t)
theorem updN_one (gs : List Bool) (a r : Nat) (b : Int × Int) : updN gs a r b 1 = b := by
  unfold updN
  rw [if_neg (fun q => absurd q.1 (Nat.lt_irrefl _))]; rfl
theorem updN_s (gs : List Bool) (a r : Nat) (b : Int × Int) (n : Nat) : updN gs a r b (n + 1) = if 0 < n ∧ gs.getD n false = true ∧ (updN gs a r b n).2 < (a : Int) + n then ((r : Int), (a : Int) + n) else updN gs a r b n := rfl

end Go.Proofs.Ytjcknghdgfcboaa
namespace Go.Proofs.Ytjcknghdgfcboaa
open Go.RowKit
set_option linter.unusedVariables false
set_option linter.unusedSimpArgs false

theorem rangeAt_blockZ {w w' : World} {g o : Nat} {cs : List Value} (h : w.rangeAt g o cs) (hb : w'.heap[g]? = w.heap[g]?) : w'.rangeAt g o cs := fun j v hj => by
  have := h j v hj
  unfold World.cell? at this ⊢
  dsimp only at this ⊢
  rw [hb]; exact this
theorem zcutL_ok (lns : List Ln) (t : ByteArray) : ∀ (f i : Nat) (toks : List Tk), i ≤ t.size → toks.length ≤ i → (∀ k ∈ toks, 0 ≤ k.r ∧ k.r < lns.length) → (∀ k ∈ (zcutL lns t f i toks).1, 0 ≤ k.r ∧ k.r < lns.length) ∧ (zcutL lns t f i toks).1.length ≤ t.size ∧ -1 ≤ (zcutL lns t f i toks).2
  | 0, i, toks, hi, hl, h => by simp [zcutL]
  | f + 1, i, toks, hi, hl, h => by
    obtain ⟨b1, b2, b3, b4⟩ := best_le (lns := lns) hi
    rw [zcutL_s]
    split
    · split
      · refine ⟨fun k hk => by (cases hk), by simp, by dsimp only; omega⟩
      · rename_i c1 c2
        refine zcutL_ok lns t f _ _ (by omega) (by simp; omega) (fun k hk => ?_)
        rcases List.mem_append.1 hk with hk | hk
        · exact h k hk
        · simp at hk; subst hk; exact ⟨b3, b4 (by omega)⟩
    · exact ⟨h, by dsimp only; omega, by simp⟩

theorem isAggIz (w : World) : (isAgg 3).run Try.prog w = .ok false w := by
  unfold isAgg; rw [Sem.run_bind, run_underlying Try.underlying3]; rfl
theorem partIz (xs : Array Value) (i : Nat) (v : Value) (h : xs[i]? = some v) (w : World) : (part 3 xs i).run Try.prog w = .ok v w := by
  simp [part, isAggIz, h]
end Go.Proofs.Ytjcknghdgfcboaa
