import Derived.Test.YtnhhboikbbnklaaHeap
import Derived.Deep.WholeRow
import Derived.Deep.MidRow
namespace Go.Proofs.Ytnhhboikbbnklaa
open Go.RowKit
set_option linter.unusedVariables false
set_option linter.unusedSimpArgs false

/-- A whole struct into the block that was made last. -/
theorem wpList_store_new {P : Program} {ops : Array Oper} {rest : List Oper} {o : Oper} {a : Act} {w : World} {Q : Exit → Act → World → Prop} (hgd : o.guard = none) (ty : TypeId) (x y : Operand) (ho : o.op = .store ty x y)
    (W : World) (c cells : Array Value) (t : TypeId) (hw : w = W.alloc (.cells c t)) (hx : a.eval x = .pointer (some ⟨W.heap.size, 0, none⟩)) (hy : a.eval y = .agg cells)
    (hi : (P.info? ty).map (·.size) = some cells.size) (hold : c.size = cells.size) (h1 : cells.all (·.oneCell') = true)
    (h : wpList P ops Q rest (a.put o.dst undef) (W.alloc (.cells cells t))) : wpList P ops Q (o :: rest) a w := by
  subst hw
  exact wpList_store_row hgd ty x y ho W.heap.size cells hx hy t c (heap_alloc_at _ _) hi hold h1 (by rw [World.setRow_alloc_new]; exact h)

/-- The block that was made ahead of the last. -/
theorem heap_alloc_prev {W : World} {o : Obj} {b : Nat} {x : Obj} (h : W.heap[b]? = some x) : (W.alloc o).heap[b]? = some x := by
  rw [heap_alloc_old' (heap_lt h)]; exact h
theorem heap_setRow_prev {W : World} {g b : Nat} {cs : Array Value} {x : Obj} (h : W.heap[b]? = some x) (hne : b ≠ g) : (W.setRow g cs).heap[b]? = some x := by
  rw [setRow_other _ _ _ _ hne]; exact h
theorem heap_setCell_prev {W : World} {a : Addr} {b : Nat} {v : Value} {x : Obj} (h : W.heap[b]? = some x) (hne : b ≠ a.block) : (W.setCell a v).heap[b]? = some x := by
  rw [heap_setCell_other _ hne]; exact h

end Go.Proofs.Ytnhhboikbbnklaa
