import Derived.Test.YteneagnhihcljaaGreatDoorTw4
import Derived.Test.YteneagnhihcljaaGreatDoorSg2
namespace Go.Proofs.YteneagnhihcljaaGreatDoor
open Go.RowKit
set_option linter.unusedVariables false
set_option linter.unusedSimpArgs false

def hdOr (l : List Int) : Int := match l with
  | [] => -1
  | a :: _ => a
def chT (z : List (Pr × List Bool)) (j : Nat) : Int := hdOr (ovL ((j / 9 : Nat) : Int) ((j % 9 : Nat) : Int) z 0)
def tabL (z : List (Pr × List Bool)) (j : Nat) : List Int := (List.range j).map (chT z) ++ List.replicate (72 - j) 0
theorem tabL_len (z : List (Pr × List Bool)) {j : Nat} (h : j ≤ 72) : (tabL z j).length = 72 := by simp [tabL]; omega
theorem tabL_set (z : List (Pr × List Bool)) {j : Nat} (h : j < 72) : (tabL z j).set j (chT z j) = tabL z (j + 1) := by
  unfold tabL
  rw [List.set_append_right _ _ (by simp)]
  simp only [List.length_map, List.length_range, Nat.sub_self]
  rw [show 72 - j = (72 - (j + 1)) + 1 by omega, List.replicate_succ, List.set_cons_zero, List.range_succ, List.map_append, List.append_assoc]
  rfl
theorem tabL_at (z : List (Pr × List Bool)) {n t : Nat} (hn : n < 8) (ht : t < 9) : (tabL z 72).getD (n * 9 + t) 0 = hdOr (ovL (n : Int) (t : Int) z 0) := by
  have h1 : n * 9 + t < 72 := by omega
  unfold tabL
  simp only [Nat.sub_self, List.replicate_zero, List.append_nil]
  rw [List.getD_eq_getElem?_getD, List.getElem?_map, List.getElem?_range h1]
  simp only [Option.map_some, Option.getD_some, chT]
  rw [show (n * 9 + t) / 9 = n by omega, show (n * 9 + t) % 9 = t by omega]
theorem gd_set (fp : Value) (L : List Int) (j : Nat) (v : Int) : (gdA fp L).setIfInBounds (1 + j) (.int .i64 v) = gdA fp (L.set j v) := by
  unfold gdA
  rw [Nat.add_comm]
  simp [List.map_set]

theorem gd_zero0 : Tryz.zeroCells108.toList.drop 1 = nums (List.replicate 72 0) := by kernel_rfl
theorem gd_zero (b : Nat) : Tryz.zeroCells108.setIfInBounds 0 (bptr b) = gdA (bptr b) (List.replicate 72 0) := by
  apply Array.ext'
  unfold gdA
  rw [Array.toList_setIfInBounds]
  have h := gd_zero0
  cases hq : Tryz.zeroCells108.toList with
  | nil => rw [hq] at h; simp at h
  | cons x l => rw [hq] at h; simp only [List.drop_succ_cons, List.drop_zero] at h; rw [h]; rfl

end Go.Proofs.YteneagnhihcljaaGreatDoor
