import Derived.Test.YteneagnhihcljaaGreatDoorKn4
namespace Go.Proofs.YteneagnhihcljaaGreatDoor
open Go.RowKit
set_option linter.unusedVariables false
set_option linter.unusedSimpArgs false

attribute [local go_sem ↓] apS_rule
end Go.Proofs.YteneagnhihcljaaGreatDoor
namespace Go.Proofs.YteneagnhihcljaaGreatDoor
open Go.RowKit
set_option linter.unusedVariables false
set_option linter.unusedSimpArgs false

/-- how many steps the grower has taken -/
def lenV (v : Value) : Nat := match v with
  | .slice _ n _ => n
  | _ => 0
def stW (b : Nat) (w : World) : Nat := match w.heap[b]? with
  | some (.cells c _ _) => lenV (c.getD 5 undef)
  | _ => 0
theorem GA.stW {w : World} {b B : Nat} {R H : Int} {vp vg vk vs : Value} {k : List Sy} {st : List St} (h : GA w b B R H vp vg vk vs k st) : stW b w = st.length := by
  obtain ⟨a, c, hv⟩ := own_form h.ss
  unfold Proofs.YteneagnhihcljaaGreatDoor.stW
  rw [h.blk, hv]; rfl
/-- the guide in memory, below B -/
structure GdAt (w : World) (gb B : Nat) (fp : Value) (L : List Int) : Prop where
  lt : gb < B
  blk : w.heap[gb]? = some (.cells (gdA fp L) 108 (0, 0))
  len : L.length = 72
theorem GdAt.up {w w' : World} {gb B : Nat} {fp : Value} {L : List Int} (h : GdAt w gb B fp L) (hu : UpB B w w') : GdAt w' gb B fp L :=
  ⟨h.lt, by rw [hu.block gb (heap_lt h.blk) (by have := h.lt; omega)]; exact h.blk, h.len⟩
/-- the choices by the list -/
def chL (L : List Int) (X : Int) (t : Nat) : Int := if 0 ≤ X ∧ X < 8 ∧ t < 9 then L.getD (X.toNat * 9 + t) 0 else -1
/-- the symbols on the stack are symbols -/
def StkIn (R H : Int) (k : List Sy) : Prop := ∀ s ∈ k, 0 ≤ s.num ∧ s.num < (if s.isH then H else R)

attribute [local go_sem ↓] apS_rule
end Go.Proofs.YteneagnhihcljaaGreatDoor
