import Derived.Test.YtjcknghdgfcboaaCk7
namespace Go.Proofs.Ytjcknghdgfcboaa
open Go.RowKit
set_option linter.unusedVariables false
set_option linter.unusedSimpArgs false

theorem bestL_bd (lns : List Ln) (t : ByteArray) (i : Nat) : ∀ (f k : Nat) (b : Int × Int), 0 ≤ b.1 → (i : Int) ≤ b.2 → (b.2 ≤ i ∨ b.2 ≤ t.size) → 0 ≤ (bestL lns t i f k b).1 ∧ (i : Int) ≤ (bestL lns t i f k b).2 ∧ ((bestL lns t i f k b).2 ≤ i ∨ (bestL lns t i f k b).2 ≤ t.size)
  | 0, _, b, h1, h2, h3 => ⟨h1, h2, h3⟩
  | f + 1, k, b, h1, h2, h3 => by
    unfold bestL; split
    · rename_i x hx
      have := longF_bd x.ns x.st x.en t i
      refine bestL_bd lns t i f (k + 1) _ ?_ ?_ ?_ <;> split <;> (try dsimp only) <;> omega
    · exact ⟨h1, h2, h3⟩
theorem bestF_bd (lns : List Ln) (t : ByteArray) (i : Nat) : 0 ≤ (bestF lns t i).1 ∧ (i : Int) ≤ (bestF lns t i).2 ∧ ((bestF lns t i).2 ≤ i ∨ (bestF lns t i).2 ≤ t.size) := bestL_bd lns t i _ _ _ (by simp) (by simp) (by simp)

structure Tk where
  r : Int
  a : Int
  b : Int
def Tk.cells (x : Tk) : List Value := [.int .i64 x.r, .int .i64 x.a, .int .i64 x.b]
def cutL (lns : List Ln) (t : ByteArray) : Nat → Nat → List Tk → List Tk × Int × Int
  | 0, _, _ => ([], 9, 0)
  | f + 1, i, toks =>
    if i < t.size then
      if (bestF lns t i).2 ≤ i then ([], 9, i)
      else cutL lns t f (bestF lns t i).2.toNat (if skipB lns (bestF lns t i).1 then toks else toks ++ [⟨(bestF lns t i).1, i, (bestF lns t i).2⟩])
    else (toks, 0, 0)
def cutF (lns : List Ln) (t : ByteArray) : List Tk × Int × Int := cutL lns t (t.size + 1) 0 []
/-- the tokens, the error, the place -/
def lexF (s t : ByteArray) : List Tk × Int × Int := if errF s t ≠ 0 then ([], errF s t, 0) else cutF (rulesOf s) t
end Go.Proofs.Ytjcknghdgfcboaa
namespace Go.Proofs.Ytjcknghdgfcboaa
open Go.RowKit
set_option linter.unusedVariables false
set_option linter.unusedSimpArgs false

theorem atB_at (s : ByteArray) (j : Nat) (h : j < s.size) : atB s j = ((s[j].toNat : Nat) : Int) := by simp [atB, h]
/-- how many bytes stand ahead of the first that is a or b -/
def upToF (s : ByteArray) (a b : Int) : Nat := (List.range s.size).findIdx (fun j : Nat => (atB s j == a) || (atB s j == b))
theorem upToF_le (s : ByteArray) (a b : Int) : upToF s a b ≤ s.size := by
  have := List.findIdx_le_length (xs := List.range s.size) (p := fun j : Nat => (atB s j == a) || (atB s j == b))
  simpa [upToF] using this

/-- v is a slice of these strings (it may begin in the middle of a row). -/
def StrsAt (w : World) (v : Value) (l : List ByteArray) : Prop :=
  ∃ a c, v = .slice a l.length c ∧ ∀ j (hj : j < l.length), ∃ g o, a = some ⟨g, o, none⟩ ∧ w.cell? ⟨g, o + j, none⟩ = some (.string l[j])
def findF (l : List ByteArray) (s : ByteArray) : Int := if l.findIdx (fun x => x.toList == s.toList) < l.length then (l.findIdx (fun x => x.toList == s.toList) : Int) else -1

end Go.Proofs.Ytjcknghdgfcboaa
namespace Go.Proofs.Ytjcknghdgfcboaa
open Go.RowKit
set_option linter.unusedVariables false
set_option linter.unusedSimpArgs false

theorem ext_ext (s : ByteArray) (k n m : Nat) (hk : k ≤ s.size) (h : m ≤ s.size - k) : (s.extract k s.size).extract n m = s.extract (k + n) (k + m) := by
  apply ByteArray.ext
  simp only [ByteArray.data_extract, Array.extract_extract]
  congr 1
  have : s.size = s.data.size := rfl
  omega
theorem ext_size (s : ByteArray) (k : Nat) : (s.extract k s.size).size = s.size - k := by
  simp [ByteArray.size_extract]

def wordsL (s0 : ByteArray) : Nat → Nat → List ByteArray → List ByteArray
  | 0, _, acc => acc
  | f + 1, k, acc =>
    if k < s0.size then
      wordsL s0 f (if k + upToF (s0.extract k s0.size) 32 32 < s0.size then k + upToF (s0.extract k s0.size) 32 32 + 1 else k + upToF (s0.extract k s0.size) 32 32)
        (if 0 < upToF (s0.extract k s0.size) 32 32 then acc ++ [s0.extract k (k + upToF (s0.extract k s0.size) 32 32)] else acc)
    else acc
def wordsF (s0 : ByteArray) : List ByteArray := wordsL s0 (s0.size + 1) 0 []
theorem ext_all (s : ByteArray) : s.extract 0 s.size = s := by
  apply ByteArray.ext; simp [ByteArray.data_extract]

theorem infoStr : (Try.prog.info? 9).map (fun i => (i.zero, i.size, i.bytes)) = some (some (.string ⟨#[]⟩), 1, 16) := by kernel_rfl
theorem infoStr' : ∃ i, Try.prog.info? 9 = some i ∧ i.zero = some (.string ⟨#[]⟩) ∧ i.size = 1 ∧ i.bytes = 16 := by
  have h := infoStr
  cases hq : Try.prog.info? 9 with
  | none => simp [hq] at h
  | some i => simp [hq] at h; exact ⟨i, rfl, h.1, h.2.1, h.2.2⟩

end Go.Proofs.Ytjcknghdgfcboaa
