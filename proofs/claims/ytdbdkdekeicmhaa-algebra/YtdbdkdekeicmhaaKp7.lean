import Derived.Test.YtdbdkdekeicmhaaKp5
namespace Go.Proofs.Ytdbdkdekeicmhaa
open Go.RowKit
set_option linter.unusedVariables false
set_option linter.unusedSimpArgs false

section
variable {w : World} {b : Nat} {x : LO} {v0 v1 v2 v3 v4 v5 : Value} {nv sv : List Value}
end
theorem fcell {a b : World} {p : Addr} {v : Value} (h : Fresh a b) (hc : a.cell? p = some v) : b.cell? p = some v := by
  have hl := World.block_lt_of_cell? a _ hc
  have := h.block p.block hl (fun x => x)
  unfold World.cell? at hc ⊢
  rw [this]; exact hc
theorem fdrewN (w : World) (n : Nat) : Fresh w (w.drewN n) := ⟨rfl, rfl, rfl, Nat.le_refl _, fun _ _ _ => rfl⟩
theorem findF_bd (l : List ByteArray) (t : ByteArray) (h : l.length ≤ 1000) : -1 ≤ findF l t ∧ findF l t ≤ 1000 := by unfold findF; split <;> omega
theorem drop_cons {α : Type _} {l : List α} {i : Nat} (h : i < l.length) : l.drop i = l[i] :: l.drop (i + 1) := by rw [List.drop_eq_getElem_cons h]

theorem takeF_syms (s : ByteArray) (x : LO) : (takeF s x).syms = x.syms := by unfold takeF; split; rfl; split <;> rfl
end Go.Proofs.Ytdbdkdekeicmhaa
