import Derived.Test.YteneagnhihcljaaGreatDoorGt4
import Derived.Test.YteneagnhihcljaaGreatDoorKn4
import Derived.Laws.MakeOwn
namespace Go.Proofs.YteneagnhihcljaaGreatDoor
open Go.RowKit
set_option linter.unusedVariables false
set_option linter.unusedSimpArgs false

section
variable {α : Type} {cells : α → List Value} {k : Nat}
theorem flat_setX {l : List α} (hw : ∀ x, (cells x).length = k) (hk0 : 0 < k) {x : α} {i : Nat} (hi : i < l.length) (j : Nat) :
    (flatC cells (l.set i x))[j]? = if i * k ≤ j ∧ j < i * k + k then (cells x)[j - i * k]? else (flatC cells l)[j]? := by
  have l1 := flat_len cells k (xs := l) (fun x _ => hw x)
  have l2 := flat_len cells k (xs := l.set i x) (fun x _ => hw x)
  rw [List.length_set] at l2
  have hik : i * k + k ≤ l.length * k := by
    have : (i + 1) * k ≤ l.length * k := Nat.mul_le_mul_right k hi
    rw [Nat.add_mul, Nat.one_mul] at this; exact this
  by_cases hj : j < l.length * k
  · have hq : j / k < l.length := Nat.div_lt_of_lt_mul (by rw [Nat.mul_comm]; exact hj)
    have hr : j % k < k := Nat.mod_lt _ hk0
    have e : j / k * k + j % k = j := by rw [Nat.mul_comm]; exact Nat.div_add_mod j k
    have a1 := flat_at cells k (xs := l) (fun x _ => hw x) (j / k) (j % k) hq hr
    have a2 := flat_at cells k (xs := l.set i x) (fun x _ => hw x) (j / k) (j % k) (by simpa using hq) hr
    rw [e] at a1 a2
    rw [a1, a2, List.getElem_set]
    by_cases hk2 : i = j / k
    · rw [if_pos hk2, if_pos ⟨by rw [hk2]; omega, by rw [hk2]; omega⟩]
      congr 1; rw [hk2]; omega
    · rw [if_neg hk2, if_neg]
      rintro ⟨h1, h2⟩
      apply hk2
      have hd : j = k * i + (j - i * k) := by rw [Nat.mul_comm k i]; omega
      have hlt : j - i * k < k := by omega
      rw [hd, Nat.mul_add_div hk0, Nat.div_eq_of_lt hlt]; omega
  · rw [List.getElem?_eq_none (by omega), if_neg (by omega), List.getElem?_eq_none (by omega)]
/-- a row behind a store of one of its things -/
theorem own_set {w : World} {B g n cap : Nat} {e : TypeId} {l : List α} (hw : ∀ x, (cells x).length = k) (hk0 : 0 < k) (h : w.ownsRow B e k (.slice (some ⟨g, 0, none⟩) n cap) l.length (flatC cells l)) {i : Nat} (hi : i < l.length) (x : α) :
    (w.setCells g (i * k) (cells x)).ownsRow B e k (.slice (some ⟨g, 0, none⟩) n cap) (l.set i x).length (flatC cells (l.set i x)) := by
  have l2 := flat_len cells k (xs := l.set i x) (fun x _ => hw x)
  have hik : i * k + k ≤ l.length * k := by
    have : (i + 1) * k ≤ l.length * k := Nat.mul_le_mul_right k hi
    rw [Nat.add_mul, Nat.one_mul] at this; exact this
  obtain ⟨h1, h2⟩ := h
  refine ⟨l2, ?_⟩
  rcases h2 with ⟨h2, _⟩ | ⟨g', cap', cur, e1, e2, e3, e4, e5, e6, e7⟩
  · cases h2
  · rw [Value.slice.injEq] at e1
    obtain ⟨eg, rfl, rfl⟩ := e1
    have eg' : g = g' := by simpa using eg
    subst eg'
    have hmul : l.length * k ≤ cap * k := Nat.mul_le_mul_right _ e4
    refine .inr ⟨g, cap, setArr cur (i * k) (cells x), by rw [List.length_set], e2, heap_setCells_same _ _ _ _ _ _ _ e3, by rw [List.length_set]; exact e4, e5, by rw [setArr_size]; exact e6, ?_⟩
    apply List.ext_getElem?
    intro j
    rw [flat_setX hw hk0 hi, ← e7, List.length_set]
    by_cases hj : j < l.length * k
    · rw [List.getElem?_take_of_lt hj, List.getElem?_take_of_lt hj, Array.getElem?_toList, Array.getElem?_toList, setArr_at _ _ _ _ (by rw [hw]; omega), hw]
      simp
    · rw [List.getElem?_eq_none (by simp; omega), if_neg (by omega), List.getElem?_eq_none (by simp; omega)]
/-- a row behind a store of one cell of one of its things -/
theorem own_setC {w : World} {B g n cap : Nat} {e : TypeId} {l : List α} (hw : ∀ x, (cells x).length = k) (hk0 : 0 < k) (h : w.ownsRow B e k (.slice (some ⟨g, 0, none⟩) n cap) l.length (flatC cells l)) {i o : Nat} (hi : i < l.length) (ho : o < k) (v : Value) (x : α)
    (hx : cells x = (cells l[i]).set o v) :
    (w.setCell ⟨g, i * k + o, none⟩ v).ownsRow B e k (.slice (some ⟨g, 0, none⟩) n cap) (l.set i x).length (flatC cells (l.set i x)) := by
  have l2 := flat_len cells k (xs := l.set i x) (fun x _ => hw x)
  have hik : i * k + k ≤ l.length * k := by
    have : (i + 1) * k ≤ l.length * k := Nat.mul_le_mul_right k hi
    rw [Nat.add_mul, Nat.one_mul] at this; exact this
  obtain ⟨h1, h2⟩ := h
  refine ⟨l2, ?_⟩
  rcases h2 with ⟨h2, _⟩ | ⟨g', cap', cur, e1, e2, e3, e4, e5, e6, e7⟩
  · cases h2
  · rw [Value.slice.injEq] at e1
    obtain ⟨eg, rfl, rfl⟩ := e1
    have eg' : g = g' := by simpa using eg
    subst eg'
    have hmul : l.length * k ≤ cap * k := Nat.mul_le_mul_right _ e4
    refine .inr ⟨g, cap, cur.setIfInBounds (i * k + o) v, by rw [List.length_set], e2, Proofs.YteneagnhihcljaaGreatDoor.heap_setCell_same e3 _ _, by rw [List.length_set]; exact e4, e5, by simpa using e6, ?_⟩
    apply List.ext_getElem?
    intro j
    rw [flat_setX hw hk0 hi, List.length_set, hx]
    by_cases hj : j < l.length * k
    · have hc : cur.toList[j]? = (flatC cells l)[j]? := by rw [← e7, List.getElem?_take_of_lt hj]
      rw [List.getElem?_take_of_lt hj, Array.getElem?_toList, Array.getElem?_setIfInBounds, ← Array.getElem?_toList, hc]
      by_cases hin : i * k ≤ j ∧ j < i * k + k
      · rw [if_pos hin, List.getElem?_set]
        have hfa := flat_at cells k (xs := l) (fun x _ => hw x) i (j - i * k) hi (by omega)
        rw [show i * k + (j - i * k) = j by omega] at hfa
        by_cases ho2 : o = j - i * k
        · rw [if_pos (by omega), if_pos ho2, if_pos (by omega), if_pos (by rw [hw]; omega)]
        · rw [if_neg (by omega), if_neg ho2, hfa]
      · rw [if_neg hin, if_neg (by omega)]
    · rw [List.getElem?_eq_none (by simp; omega), if_neg (by omega), List.getElem?_eq_none]
      rw [flat_len cells k (xs := l) (fun x _ => hw x)]; omega
end
theorem Nd.cells_len (n : Nd) : n.cells.length = 4 := rfl

end Go.Proofs.YteneagnhihcljaaGreatDoor
