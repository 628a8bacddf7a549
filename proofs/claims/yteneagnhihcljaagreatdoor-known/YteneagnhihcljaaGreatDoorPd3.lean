import Derived.Test.YteneagnhihcljaaGreatDoorCk7
import Derived.Test.YteneagnhihcljaaGreatDoorSe3
namespace Go.Proofs.YteneagnhihcljaaGreatDoor
open Go.RowKit
set_option linter.unusedVariables false
set_option linter.unusedSimpArgs false

def headsL : List Ln → List Wd → List Wd
  | [], hs => hs
  | x :: l, hs => if ruleB x then headsL l hs else if wordF hs x.front.ls < hs.length then headsL l hs else headsL l (hs ++ [x.front])
def headsOf (lns : List Ln) : List Wd := headsL lns []
theorem wordF_le (ds : List Wd) (ls : List Int) : wordF ds ls ≤ ds.length := by unfold wordF; exact List.findIdx_le_length

end Go.Proofs.YteneagnhihcljaaGreatDoor
namespace Go.Proofs.YteneagnhihcljaaGreatDoor
open Go.RowKit
set_option linter.unusedVariables false
set_option linter.unusedSimpArgs false

def symF (names heads : List Wd) (d : Wd) : Sy := ⟨headB d, if headB d then (wordF heads d.ls : Int) else (wordF names d.ls : Int)⟩
def prOf (names heads : List Wd) (x : Ln) : Pr := ⟨(wordF heads x.front.ls : Int), x.syms.map (symF names heads)⟩

theorem infoSy : (Tryz.prog.info? 84).map (fun i => (i.zero, i.size, i.bytes)) = some (some (.agg #[.bool false, .int .i64 0]), 2, 16) := by kernel_rfl
theorem infoSy' : ∃ i, Tryz.prog.info? 84 = some i ∧ i.zero = some (.agg #[.bool false, .int .i64 0]) ∧ i.size = 2 ∧ i.bytes = 16 := by
  have h := infoSy
  cases hq : Tryz.prog.info? 84 with
  | none => simp [hq] at h
  | some i => simp [hq] at h; exact ⟨i, rfl, h.1, h.2.1, h.2.2⟩
theorem szSy2 : (Tryz.prog.info? 84).map (·.size) = some 2 := by kernel_rfl
theorem szPr2 : (Tryz.prog.info? 73).map (·.size) = some 2 := by kernel_rfl

end Go.Proofs.YteneagnhihcljaaGreatDoor
