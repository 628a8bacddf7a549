import Derived.Test.YteneagnhihcljaaGreatDoorSe6
namespace Go.Proofs.YteneagnhihcljaaGreatDoor
open Go.RowKit
set_option linter.unusedVariables false
set_option linter.unusedSimpArgs false

theorem hd_set0 (h : Hd) (v : Bool) : (hdA h).setIfInBounds 0 (.bool v) = hdA { h with nul := v } := by simp [hdA, Hd.cells]
theorem hd_set1 (h : Hd) (v : Bool) : (hdA h).setIfInBounds 1 (.bool v) = hdA { h with rch := v } := by simp [hdA, Hd.cells]
theorem hd_set2 (h : Hd) (v : Bool) : (hdA h).setIfInBounds 2 (.bool v) = hdA { h with fru := v } := by simp [hdA, Hd.cells]
theorem hd_setfi {h : Hd} (k : h.ok) {l : List Bool} (hl : l.length = 9) : setArr (hdA h) 3 (bls l) = hdA { h with fi := l } := by
  obtain ⟨n, r, f, fi, fo⟩ := h
  obtain ⟨a0, a1, a2, a3, a4, a5, a6, a7, a8, e⟩ := nine k.fi
  obtain ⟨b0, b1, b2, b3, b4, b5, b6, b7, b8, e2⟩ := nine k.fo
  obtain ⟨c0, c1, c2, c3, c4, c5, c6, c7, c8, e3⟩ := nine hl
  dsimp only at e e2
  subst e; subst e2; subst e3
  simp [hdA, Hd.cells, bls, setArr]
theorem hd_setfo {h : Hd} (k : h.ok) {l : List Bool} (hl : l.length = 9) : setArr (hdA h) 12 (bls l) = hdA { h with fo := l } := by
  obtain ⟨n, r, f, fi, fo⟩ := h
  obtain ⟨a0, a1, a2, a3, a4, a5, a6, a7, a8, e⟩ := nine k.fi
  obtain ⟨b0, b1, b2, b3, b4, b5, b6, b7, b8, e2⟩ := nine k.fo
  obtain ⟨c0, c1, c2, c3, c4, c5, c6, c7, c8, e3⟩ := nine hl
  dsimp only at e e2
  subst e; subst e2; subst e3
  simp [hdA, Hd.cells, bls, setArr]
theorem hd_there {w : World} {g : Nat} {h : Hd} {t : TypeId} (k : h.ok) (hb : w.heap[g]? = some (.cells (hdA h) t (0, 0))) {o n : Nat} (ho : o + n ≤ 21) : w.there g o n := fun j hj => by
  refine ⟨?_, frozenOf hb _⟩
  rw [cellOf hb]
  have := hd_size k
  simp [this]; omega
theorem cell_setCells_other {w : World} {g o : Nat} {vs : List Value} {b : Nat} {p : Nat} (hb : b ≠ g) : (w.setCells g o vs).cell? ⟨b, p, none⟩ = w.cell? ⟨b, p, none⟩ :=
  World.cell?_setCells_out g vs o w ⟨b, p, none⟩ (fun e => absurd e hb)

def growBegV (v : Value) : Nat → Prop := fun k => v.ownBlock = some k

end Go.Proofs.YteneagnhihcljaaGreatDoor
namespace Go.Proofs.YteneagnhihcljaaGreatDoor
open Go.RowKit
set_option linter.unusedVariables false
set_option linter.unusedSimpArgs false

theorem frozen_at {w : World} {b : Nat} {c : Array Value} {e : TypeId} (h : w.heap[b]? = some (.cells c e (0, 0))) (o : Nat) : w.frozen? ⟨b, o, none⟩ = false := frozenOf h o

end Go.Proofs.YteneagnhihcljaaGreatDoor
