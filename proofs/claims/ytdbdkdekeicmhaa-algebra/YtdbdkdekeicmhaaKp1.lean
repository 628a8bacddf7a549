import Derived.Test.YtdbdkdekeicmhaaLx1
namespace Go.Proofs.Ytdbdkdekeicmhaa
open Go.RowKit
set_option linter.unusedVariables false
set_option linter.unusedSimpArgs false

theorem atB_at (s : ByteArray) (j : Nat) (h : j < s.size) : atB s j = ((s[j].toNat : Nat) : Int) := by simp [atB, h]
/-- how many bytes stand ahead of the first that is a or b -/
def upToF (s : ByteArray) (a b : Int) : Nat := (List.range s.size).findIdx (fun j : Nat => (atB s j == a) || (atB s j == b))
theorem upToF_le (s : ByteArray) (a b : Int) : upToF s a b ≤ s.size := by
  have := List.findIdx_le_length (xs := List.range s.size) (p := fun j : Nat => (atB s j == a) || (atB s j == b))
  simpa [upToF] using this

/-- v is a slice of these strings (it may begin in the middle of a row). -/
def StrsAt (w : World) (v : Value) (l : List ByteArray) : Prop :=
  ∃ a c, v = .slice a l.length c ∧ ∀ j (hj : j < l.length), ∃ g o, a = some ⟨g, o, none⟩ ∧ w.cell? ⟨g, o + j, none⟩ = some (.string l[j])
def findF (l : List ByteArray) (s : ByteArray) : Int := if l.findIdx (fun x => x.toList == s.toList) < l.length then (l.findIdx (fun x => x.toList == s.toList) : Int) else -1

end Go.Proofs.Ytdbdkdekeicmhaa
namespace Go.Proofs.Ytdbdkdekeicmhaa
open Go.RowKit
set_option linter.unusedVariables false
set_option linter.unusedSimpArgs false

theorem ext_ext (s : ByteArray) (k n m : Nat) (hk : k ≤ s.size) (h : m ≤ s.size - k) : (s.extract k s.size).extract n m = s.extract (k + n) (k + m) := by
  apply ByteArray.ext
  simp only [ByteArray.data_extract, Array.extract_extract]
  congr 1
  have : s.size = s.data.size := rfl
  omega
theorem ext_size (s : ByteArray) (k : Nat) : (s.extract k s.size).size = s.size - k := by
  simp [ByteArray.size_extract]

def wordsL (s0 : ByteArray) : Nat → Nat → List ByteArray → List ByteArray
  | 0, _, acc => acc
  | f + 1, k, acc =>
    if k < s0.size then
      wordsL s0 f (if k + upToF (s0.extract k s0.size) 32 32 < s0.size then k + upToF (s0.extract k s0.size) 32 32 + 1 else k + upToF (s0.extract k s0.size) 32 32)
        (if 0 < upToF (s0.extract k s0.size) 32 32 then acc ++ [s0.extract k (k + upToF (s0.extract k s0.size) 32 32)] else acc)
    else acc
def wordsF (s0 : ByteArray) : List ByteArray := wordsL s0 (s0.size + 1) 0 []
theorem ext_all (s : ByteArray) : s.extract 0 s.size = s := by
  apply ByteArray.ext; simp [ByteArray.data_extract]

theorem infoStr : (Try.prog.info? 9).map (fun i => (i.zero, i.size, i.bytes)) = some (some (.string ⟨#[]⟩), 1, 16) := by kernel_rfl
theorem infoStr' : ∃ i, Try.prog.info? 9 = some i ∧ i.zero = some (.string ⟨#[]⟩) ∧ i.size = 1 ∧ i.bytes = 16 := by
  have h := infoStr
  cases hq : Try.prog.info? 9 with
  | none => simp [hq] at h
  | some i => simp [hq] at h; exact ⟨i, rfl, h.1, h.2.1, h.2.2⟩

end Go.Proofs.Ytdbdkdekeicmhaa
