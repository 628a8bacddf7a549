import Derived.Test.YteneagnhihcljaaGreatDoorSea
namespace Go.Proofs.YteneagnhihcljaaGreatDoor
open Go.RowKit
set_option linter.unusedVariables false
set_option linter.unusedSimpArgs false

def isFv (v : Value) : Bool := match v with
  | .bool false => true
  | _ => false
def muW (vh : Value) (N : Nat) (w : World) : Nat := match vh with
  | .slice (some a) _ _ => (match w.heap[a.block]? with
    | some (.cells c _ _) => ((c.toList.take (N * 21)).filter isFv).length
    | _ => 0)
  | _ => 0
def boolN (v : Value) : Nat := match v with
  | .bool true => 1
  | _ => 0
theorem filter_bits : ∀ l : List Bool, ((l.map Value.bool).filter isFv).length = cntF l
  | [] => rfl
  | x :: l => by
    have := filter_bits l
    cases x <;> simp_all [cntF, isFv, List.filter_cons]
theorem filter_flat : ∀ hs : List Hd, ((flatC Hd.cells hs).filter isFv).length = cntH hs
  | [] => rfl
  | h :: l => by
    have ih := filter_flat l
    have e : h.cells = h.bits.map Value.bool := by simp [Hd.cells, Hd.bits, bls]
    have h1 := filter_bits h.bits
    unfold flatC at ih ⊢
    rw [List.flatMap_cons, List.filter_append, List.length_append, ih, e, h1]
    rfl
theorem FA.mu {w : World} {b : Nat} {R H : Int} {vp vh : Value} {ps : List PV} {hs : List Hd} (h : FA w b R H vp vh ps hs) : muW vh hs.length w = cntH hs := by
  obtain ⟨h1, h2⟩ := h.own
  rcases h2 with ⟨rfl, h3⟩ | ⟨g, cap, cur, rfl, _, hb, _, _, _, ht⟩
  · have : hs = [] := List.eq_nil_of_length_eq_zero h3
    subst this; rfl
  · unfold muW
    simp only [hb]
    rw [ht, filter_flat]
theorem FA.mu' {w : World} {b : Nat} {R H : Int} {vp vh : Value} {ps : List PV} {hs : List Hd} (h : FA w b R H vp vh ps hs) {N : Nat} (hN : hs.length = N) : muW vh N w = cntH hs := by
  rw [← hN]; exact h.mu
/-- the loop's word -/
def LoopG (step : List Hd → List Hd × Bool) (R1 : List Hd) (g : Bool) (hs' : List Hd) : Prop := if g then ∃ f, iterG step f hs' = R1 ∧ cntH hs' < f else hs' = R1
theorem LoopG.start (step : List Hd → List Hd × Bool) (hs : List Hd) : LoopG step (fixG step hs) true hs := ⟨cntH hs + 1, rfl, by omega⟩
theorem LoopG.next {step : List Hd → List Hd × Bool} (hg : GrowStep step) {R1 hs' : List Hd} (hok : ∀ x ∈ hs', x.ok) (h : LoopG step R1 true hs') : LoopG step R1 (step hs').2 (step hs').1 := by
  obtain ⟨f, h1, h2⟩ := h
  obtain ⟨f, rfl⟩ : ∃ k, f = k + 1 := ⟨f - 1, by omega⟩
  unfold iterG at h1
  unfold LoopG
  have h3 := hg hs' hok
  cases hq : (step hs').2
  · rw [hq] at h1
    simpa using h1
  · rw [hq] at h1
    simp only [if_true] at h1 ⊢
    refine ⟨f, h1, ?_⟩
    rcases h3.more hq with h4 | h4
    · cases h4
    · omega
theorem LoopG.less {step : List Hd → List Hd × Bool} (hg : GrowStep step) {hs' : List Hd} (hok : ∀ x ∈ hs', x.ok) : 2 * cntH (step hs').1 + boolN (.bool (step hs').2) < 2 * cntH hs' + boolN (.bool true) := by
  have h3 := hg hs' hok
  have h4 := h3.cnt
  cases hq : (step hs').2
  · simp [boolN]; omega
  · have : cntH (step hs').1 < cntH hs' := by
      rcases h3.more hq with h | h
      · cases h
      · exact h
    simp [boolN]; omega
end Go.Proofs.YteneagnhihcljaaGreatDoor
