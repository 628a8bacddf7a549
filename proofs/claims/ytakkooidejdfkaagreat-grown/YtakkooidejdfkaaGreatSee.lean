import Derived.Test.YtakkooidejdfkaaGreatSed
namespace Go.Proofs.YtakkooidejdfkaaGreat
open Go.RowKit
set_option linter.unusedVariables false
set_option linter.unusedSimpArgs false

structure SV where
  hd : Hd
  v1 : Value
  v2 : Value
def SV.cells (s : SV) : List Value := [.bool s.hd.nul, s.v1, s.v2, .bool s.hd.rch, .bool s.hd.fru]
abbrev IntOwn (w : World) (base : Nat) (v : Value) (l : List Int) : Prop := w.ownsRow base 3 1 v l.length (nums l)
end Go.Proofs.YtakkooidejdfkaaGreat
namespace Go.Proofs.YtakkooidejdfkaaGreat
open Go.RowKit
set_option linter.unusedVariables false
set_option linter.unusedSimpArgs false

def setsF (s : ByteArray) : List Hd := allF (tableOf (rLines s).1) (initH ((frontsOf (rLines s).1).length : Nat) (headsOf (rLines s).1).length)
theorem headsL_le : ∀ (l : List Ln) (acc : List Wd), (headsL l acc).length ≤ acc.length + l.length
  | [], acc => by simp [headsL]
  | x :: l, acc => by
    unfold headsL
    have h1 := headsL_le l acc
    have h2 := headsL_le l (acc ++ [x.front])
    simp only [List.length_append, List.length_cons, List.length_nil] at h1 h2 ⊢
    split
    · omega
    · split <;> omega
theorem tab_sizes {s : ByteArray} (h : (checkF s).1 = 0) : (frontsOf (rLines s).1).length ≤ 800 ∧ (headsOf (rLines s).1).length ≤ 800 ∧ (tableOf (rLines s).1).length ≤ 800 := by
  have hsz := check_sz h
  have hle := (rLines_ok s).1
  have h1 := headsL_le (rLines s).1 []
  have h2 := List.length_filter_le ruleB (rLines s).1
  have h3 := List.length_filter_le (fun x => !ruleB x) (rLines s).1
  unfold frontsOf headsOf tableOf prodsOf
  simp only [List.length_map, List.length_nil] at *
  omega

end Go.Proofs.YtakkooidejdfkaaGreat
