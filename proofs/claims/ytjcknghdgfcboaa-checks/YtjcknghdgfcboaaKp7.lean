import Derived.Test.YtjcknghdgfcboaaKp5
namespace Go.Proofs.Ytjcknghdgfcboaa
open Go.RowKit
set_option linter.unusedVariables false
set_option linter.unusedSimpArgs false

section
variable {w : World} {b : Nat} {x : LO} {v0 v1 v2 v3 v4 v5 : Value} {nv sv : List Value}
end
theorem fcell {a b : World} {p : Addr} {v : Value} (h : Fresh a b) (hc : a.cell? p = some v) : b.cell? p = some v := by
  have hl := World.block_lt_of_cell? a _ hc
  have := h.block p.block hl (fun x => x)
  unfold World.cell? at hc ⊢
  rw [this]; exact hc
theorem fdrewN (w : World) (n : Nat) : Fresh w (w.drewN n) := ⟨rfl, rfl, rfl, Nat.le_refl _, fun _ _ _ => rfl⟩
theorem findF_bd (l : List ByteArray) (t : ByteArray) (h : l.length ≤ 1000) : -1 ≤ findF l t ∧ findF l t ≤ 1000 := by unfold findF; split <;> omega
theorem drop_cons {α : Type _} {l : List α} {i : Nat} (h : i < l.length) : l.drop i = l[i] :: l.drop (i + 1) := by rw [List.drop_eq_getElem_cons h]

theorem takeF_syms (s : ByteArray) (x : LO) : (takeF s x).syms = x.syms := by unfold takeF; split; rfl; split <;> rfl
end Go.Proofs.Ytjcknghdgfcboaa
namespace Go.Proofs.Ytjcknghdgfcboaa
open Go.RowKit
set_option linter.unusedVariables false
set_option linter.unusedSimpArgs false

abbrev fix1 : ByteArray := ⟨#[97, 61, 120, 10, 83, 58, 32, 97, 10]⟩
abbrev fix2 : ByteArray := ⟨#[97, 61, 120, 10, 83, 58, 32, 98, 10]⟩
theorem fix1_ok : checkF fix1 = (0, 0) := by kernel_rfl
theorem fix2_ok : checkF fix2 = (4, 7) := by kernel_rfl

theorem check_fix (w : World) (s : ByteArray) (r : Int × Int) (h : checkF s = r) (hs : s.size ≤ 900) : Calls Try.prog 4 #[.string s] w fun e w' => e = .returned (.tuple #[.int .i64 r.1, .int .i64 r.2]) ∧ Fresh w w' := by
  rw [← h]; exact check_any s w (by unfold maxLen; omega)
/-- of n bytes: the first rule from r on that matches, by Match -/
def firstR (s t : ByteArray) (rules : Nat) : Nat → Nat → Option Nat
  | 0, _ => none
  | f + 1, r => if r < rules then (if (matchF s r t).1 then some r else firstR s t rules f (r + 1)) else none
def longK (s : ByteArray) (rules : Nat) (t : ByteArray) : Nat → Int × Int
  | 0 => (0, 0)
  | n + 1 => match firstR s (t.extract 0 (n + 1)) rules (rules + 1) 0 with
    | some r => ((n : Int) + 1, (r : Int))
    | none => longK s rules t n
end Go.Proofs.Ytjcknghdgfcboaa
