import Derived.Test.YteneagnhihcljaaGreatDoorTw6
import Derived.Deep.DeepCutAuto
import Derived.Deep.RegionWith
namespace Go.Proofs.YteneagnhihcljaaGreatDoor
open Go.RowKit
set_option linter.unusedVariables false
set_option linter.unusedSimpArgs false

/-- what is wanted, beginning with what is there already -/
def wanL (hs : List Hd) (R : Nat) : List Sy → List Bool → List Bool
  | [], acc => withT acc R
  | s :: l, acc => if (begF hs [s] zero9).2 then wanL hs R l (orL acc (begF hs [s] zero9).1) else orL acc (begF hs [s] zero9).1
theorem orL_zero {a : List Bool} (h : a.length = 9) : orL a zero9 = a := by
  obtain ⟨a0, a1, a2, a3, a4, a5, a6, a7, a8, rfl⟩ := nine h
  simp [orL, zero9]
theorem zero_orL {a : List Bool} (h : a.length = 9) : orL zero9 a = a := by
  obtain ⟨a0, a1, a2, a3, a4, a5, a6, a7, a8, rfl⟩ := nine h
  simp [orL, zero9]
theorem orL_with {a : List Bool} (h : a.length = 9) (n : Int) : orL a (withT zero9 n) = withT a n := by
  unfold withT
  split
  · rename_i hn
    obtain ⟨k, rfl⟩ : ∃ k : Nat, n = k := ⟨n.toNat, by omega⟩
    rw [Int.toNat_natCast]
    have hk : k < 9 := by omega
    obtain ⟨a0, a1, a2, a3, a4, a5, a6, a7, a8, rfl⟩ := nine h
    rcases k with _ | _ | _ | _ | _ | _ | _ | _ | _ | k
    all_goals first | (simp [orL, zero9]; done) | omega
  · exact orL_zero h
theorem wanL_eq {hs : List Hd} (hok : ∀ x ∈ hs, x.ok) (R : Nat) : ∀ (k : List Sy) (acc : List Bool), acc.length = 9 → wanL hs R k acc = if (begF hs k acc).2 then withT (begF hs k acc).1 R else (begF hs k acc).1
  | [], acc, _ => rfl
  | s :: l, acc, ha => by
    unfold wanL
    have hf := (getH_ok hok s.num).fi
    cases h1 : s.isH
    · have e1 : begF hs [s] zero9 = (withT zero9 s.num, false) := by simp [begF, h1]
      have e2 : begF hs (s :: l) acc = (withT acc s.num, false) := by simp [begF, h1]
      rw [e1, e2]
      simp only [Bool.false_eq_true, if_false]
      exact orL_with ha _
    · cases h2 : (getH hs s.num).nul
      · have e1 : begF hs [s] zero9 = (orL zero9 (getH hs s.num).fi, false) := by simp [begF, h1, h2]
        have e2 : begF hs (s :: l) acc = (orL acc (getH hs s.num).fi, false) := by simp [begF, h1, h2]
        rw [e1, e2, zero_orL hf]
        simp
      · have e1 : begF hs [s] zero9 = (orL zero9 (getH hs s.num).fi, true) := by simp [begF, h1, h2]
        have e2 : begF hs (s :: l) acc = begF hs l (orL acc (getH hs s.num).fi) := by simp [begF, h1, h2]
        rw [e1, e2, zero_orL hf]
        simp only [if_true]
        exact wanL_eq hok R l _ (orL_len ha hf)

theorem nine_store {S : Nat → Prop} {wr w1 : World} {p : Nat} (c0 c1 c2 c3 c4 c5 c6 c7 c8 : Bool) (hA : w1.heap[p]? = some (.cells (nineA c0 c1 c2 c3 c4 c5 c6 c7 c8) 110 (0, 0))) (hm : Mod S wr w1) (hp : p < wr.heap.size → S p) (a0 a1 a2 a3 a4 a5 a6 a7 a8 : Bool) :
    Mod S wr (((((((((w1.setCell ⟨p, 0, none⟩ (.bool a0)).setCell ⟨p, 1, none⟩ (.bool a1)).setCell ⟨p, 2, none⟩ (.bool a2)).setCell ⟨p, 3, none⟩ (.bool a3)).setCell ⟨p, 4, none⟩ (.bool a4)).setCell ⟨p, 5, none⟩ (.bool a5)).setCell ⟨p, 6, none⟩ (.bool a6)).setCell ⟨p, 7, none⟩ (.bool a7)).setCell ⟨p, 8, none⟩ (.bool a8)) ∧ (((((((((w1.setCell ⟨p, 0, none⟩ (.bool a0)).setCell ⟨p, 1, none⟩ (.bool a1)).setCell ⟨p, 2, none⟩ (.bool a2)).setCell ⟨p, 3, none⟩ (.bool a3)).setCell ⟨p, 4, none⟩ (.bool a4)).setCell ⟨p, 5, none⟩ (.bool a5)).setCell ⟨p, 6, none⟩ (.bool a6)).setCell ⟨p, 7, none⟩ (.bool a7)).setCell ⟨p, 8, none⟩ (.bool a8)).heap[p]? = some (.cells (nineA a0 a1 a2 a3 a4 a5 a6 a7 a8) 110 (0, 0)) := by
  refine ⟨((((((((hm.setCell hp _).setCell hp _).setCell hp _).setCell hp _).setCell hp _).setCell hp _).setCell hp _).setCell hp _).setCell hp _, ?_⟩
  have h0 : (w1.setCell ⟨p, 0, none⟩ (.bool a0)).heap[p]? = some (.cells (nineA a0 c1 c2 c3 c4 c5 c6 c7 c8) 110 (0, 0)) := Proofs.YteneagnhihcljaaGreatDoor.heap_setCell_same hA 0 (.bool a0)
  have h1 : ((w1.setCell ⟨p, 0, none⟩ (.bool a0)).setCell ⟨p, 1, none⟩ (.bool a1)).heap[p]? = some (.cells (nineA a0 a1 c2 c3 c4 c5 c6 c7 c8) 110 (0, 0)) := Proofs.YteneagnhihcljaaGreatDoor.heap_setCell_same h0 1 (.bool a1)
  have h2 : (((w1.setCell ⟨p, 0, none⟩ (.bool a0)).setCell ⟨p, 1, none⟩ (.bool a1)).setCell ⟨p, 2, none⟩ (.bool a2)).heap[p]? = some (.cells (nineA a0 a1 a2 c3 c4 c5 c6 c7 c8) 110 (0, 0)) := Proofs.YteneagnhihcljaaGreatDoor.heap_setCell_same h1 2 (.bool a2)
  have h3 : ((((w1.setCell ⟨p, 0, none⟩ (.bool a0)).setCell ⟨p, 1, none⟩ (.bool a1)).setCell ⟨p, 2, none⟩ (.bool a2)).setCell ⟨p, 3, none⟩ (.bool a3)).heap[p]? = some (.cells (nineA a0 a1 a2 a3 c4 c5 c6 c7 c8) 110 (0, 0)) := Proofs.YteneagnhihcljaaGreatDoor.heap_setCell_same h2 3 (.bool a3)
  have h4 : (((((w1.setCell ⟨p, 0, none⟩ (.bool a0)).setCell ⟨p, 1, none⟩ (.bool a1)).setCell ⟨p, 2, none⟩ (.bool a2)).setCell ⟨p, 3, none⟩ (.bool a3)).setCell ⟨p, 4, none⟩ (.bool a4)).heap[p]? = some (.cells (nineA a0 a1 a2 a3 a4 c5 c6 c7 c8) 110 (0, 0)) := Proofs.YteneagnhihcljaaGreatDoor.heap_setCell_same h3 4 (.bool a4)
  have h5 : ((((((w1.setCell ⟨p, 0, none⟩ (.bool a0)).setCell ⟨p, 1, none⟩ (.bool a1)).setCell ⟨p, 2, none⟩ (.bool a2)).setCell ⟨p, 3, none⟩ (.bool a3)).setCell ⟨p, 4, none⟩ (.bool a4)).setCell ⟨p, 5, none⟩ (.bool a5)).heap[p]? = some (.cells (nineA a0 a1 a2 a3 a4 a5 c6 c7 c8) 110 (0, 0)) := Proofs.YteneagnhihcljaaGreatDoor.heap_setCell_same h4 5 (.bool a5)
  have h6 : (((((((w1.setCell ⟨p, 0, none⟩ (.bool a0)).setCell ⟨p, 1, none⟩ (.bool a1)).setCell ⟨p, 2, none⟩ (.bool a2)).setCell ⟨p, 3, none⟩ (.bool a3)).setCell ⟨p, 4, none⟩ (.bool a4)).setCell ⟨p, 5, none⟩ (.bool a5)).setCell ⟨p, 6, none⟩ (.bool a6)).heap[p]? = some (.cells (nineA a0 a1 a2 a3 a4 a5 a6 c7 c8) 110 (0, 0)) := Proofs.YteneagnhihcljaaGreatDoor.heap_setCell_same h5 6 (.bool a6)
  have h7 : ((((((((w1.setCell ⟨p, 0, none⟩ (.bool a0)).setCell ⟨p, 1, none⟩ (.bool a1)).setCell ⟨p, 2, none⟩ (.bool a2)).setCell ⟨p, 3, none⟩ (.bool a3)).setCell ⟨p, 4, none⟩ (.bool a4)).setCell ⟨p, 5, none⟩ (.bool a5)).setCell ⟨p, 6, none⟩ (.bool a6)).setCell ⟨p, 7, none⟩ (.bool a7)).heap[p]? = some (.cells (nineA a0 a1 a2 a3 a4 a5 a6 a7 c8) 110 (0, 0)) := Proofs.YteneagnhihcljaaGreatDoor.heap_setCell_same h6 7 (.bool a7)
  have h8 : (((((((((w1.setCell ⟨p, 0, none⟩ (.bool a0)).setCell ⟨p, 1, none⟩ (.bool a1)).setCell ⟨p, 2, none⟩ (.bool a2)).setCell ⟨p, 3, none⟩ (.bool a3)).setCell ⟨p, 4, none⟩ (.bool a4)).setCell ⟨p, 5, none⟩ (.bool a5)).setCell ⟨p, 6, none⟩ (.bool a6)).setCell ⟨p, 7, none⟩ (.bool a7)).setCell ⟨p, 8, none⟩ (.bool a8)).heap[p]? = some (.cells (nineA a0 a1 a2 a3 a4 a5 a6 a7 a8) 110 (0, 0)) := Proofs.YteneagnhihcljaaGreatDoor.heap_setCell_same h7 8 (.bool a8)
  exact h8

end Go.Proofs.YteneagnhihcljaaGreatDoor
