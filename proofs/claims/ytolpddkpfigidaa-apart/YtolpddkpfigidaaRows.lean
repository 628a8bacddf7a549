/-
  No cell of these rows narrows 'for every input' (looked for: loops, veiled, ifaces, maps, wideKeys, modest, calm, conditions, laid).
  DERIVED. THE GIVEN ROWS OF THIS SEAT. 7 by the template 'for every input the law returns true; each argument reads behind the call as it read before'; 0 by the template 'total and deterministic' (their statements: YtolpddkpfigidaaTotals.lean).
  GIVEN WITH THE SEED: the statements are not yours to turn. If you find one false, say at which input.
  Laid BY PROGRAM, IN A SANDBOX (cutbox-rows.mjs): the forced cells as the released guide's own fill.sh prints them over the translation 7d7e264da8b5cbcb… (all of the seat's roots in one cut). By AI agents, Wed Nov 11 2026. No macro, syntax, notation, axiom, sorry.
-/
import Derived.Test.YtolpddkpfigidaaChecked
import GoSem.Claim
import GoSem.ClaimJoined
import GoSem.ClaimMapViews
import Derived.JoinedTies
import Derived.KernelRfl
namespace Go.Proofs.Ytolpddkpfigidaa
/- THE CELL 'sum', in the pinned program and in every row, IS THE sha256 OF THE DUMP (.gsa) THAT YtolpddkpfigidaaProg.lean LOADS. Nothing in Lean hashes anything: it is a label: what it is worth is what the hold of that sum in a sandbox is worth. -/
noncomputable def Try.pinned : Pinned := { name := "ytolpddkpfigidaa", sum := "7d7e264da8b5cbcbd534f7d79eda30c262dbfe20730b2e2f7cf45c8aee1978b7", checked := Try.checked }
namespace Rows
def none {H : Type} : Left H := { results := [], args := [] }

/-- 'grammarlaw.Checks': WHATEVER THE INPUT: true; the input reads as it did. -/
def checksSpec : ChangeSpec := { name := "checks", fn := fun _ => fun
  | [d] => { results := [.lit (.bool true)], args := [d] }
  | _ => none }
def checksRow : OpenClaim := { program := "ytolpddkpfigidaa", sum := "7d7e264da8b5cbcbd534f7d79eda30c262dbfe20730b2e2f7cf45c8aee1978b7", func := "grammar/grammarlaw.Checks", spec := "checks", recurses := true, apart := false }
def ChecksSaid : Prop := checksRow.holds Try.pinned (OpenSpec.ofChange checksSpec)

/-- ITS FALSE NEIGHBOUR: 'it returns false'. Refute it at one input. -/
def checksWrong : ChangeSpec := { name := "checks", fn := fun _ => fun
  | [d] => { results := [.lit (.bool false)], args := [d] }
  | _ => none }
def ChecksWrongFalsely : Prop := checksRow.holds Try.pinned (OpenSpec.ofChange checksWrong)

/-- 'grammarlaw.Matches': WHATEVER THE INPUT: true; the input reads as it did. -/
def matchesSpec : ChangeSpec := { name := "matches", fn := fun _ => fun
  | [d1, d2, d3] => { results := [.lit (.bool true)], args := [d1, d2, d3] }
  | _ => none }
def matchesRow : OpenClaim := { program := "ytolpddkpfigidaa", sum := "7d7e264da8b5cbcbd534f7d79eda30c262dbfe20730b2e2f7cf45c8aee1978b7", func := "grammar/grammarlaw.Matches", spec := "matches", recurses := true, apart := false }
def MatchesSaid : Prop := matchesRow.holds Try.pinned (OpenSpec.ofChange matchesSpec)

/-- ITS FALSE NEIGHBOUR: 'it returns false'. Refute it at one input. -/
def matchesWrong : ChangeSpec := { name := "matches", fn := fun _ => fun
  | [d1, d2, d3] => { results := [.lit (.bool false)], args := [d1, d2, d3] }
  | _ => none }
def MatchesWrongFalsely : Prop := matchesRow.holds Try.pinned (OpenSpec.ofChange matchesWrong)

/-- 'grammarlaw.Lexed': WHATEVER THE INPUT: true; the input reads as it did. -/
def lexedSpec : ChangeSpec := { name := "lexed", fn := fun _ => fun
  | [d1, d2] => { results := [.lit (.bool true)], args := [d1, d2] }
  | _ => none }
def lexedRow : OpenClaim := { program := "ytolpddkpfigidaa", sum := "7d7e264da8b5cbcbd534f7d79eda30c262dbfe20730b2e2f7cf45c8aee1978b7", func := "grammar/grammarlaw.Lexed", spec := "lexed", recurses := true, apart := false }
def LexedSaid : Prop := lexedRow.holds Try.pinned (OpenSpec.ofChange lexedSpec)

/-- ITS FALSE NEIGHBOUR: 'it returns false'. Refute it at one input. -/
def lexedWrong : ChangeSpec := { name := "lexed", fn := fun _ => fun
  | [d1, d2] => { results := [.lit (.bool false)], args := [d1, d2] }
  | _ => none }
def LexedWrongFalsely : Prop := lexedRow.holds Try.pinned (OpenSpec.ofChange lexedWrong)

/-- 'grammarkeep.Munched': WHATEVER THE INPUT: true; the input reads as it did. -/
def munchedSpec : ChangeSpec := { name := "munched", fn := fun _ => fun
  | [d1, d2] => { results := [.lit (.bool true)], args := [d1, d2] }
  | _ => none }
def munchedRow : OpenClaim := { program := "ytolpddkpfigidaa", sum := "7d7e264da8b5cbcbd534f7d79eda30c262dbfe20730b2e2f7cf45c8aee1978b7", func := "grammar/grammarkeep.Munched", spec := "munched", recurses := true, apart := false }
def MunchedSaid : Prop := munchedRow.holds Try.pinned (OpenSpec.ofChange munchedSpec)

/-- ITS FALSE NEIGHBOUR: 'it returns false'. Refute it at one input. -/
def munchedWrong : ChangeSpec := { name := "munched", fn := fun _ => fun
  | [d1, d2] => { results := [.lit (.bool false)], args := [d1, d2] }
  | _ => none }
def MunchedWrongFalsely : Prop := munchedRow.holds Try.pinned (OpenSpec.ofChange munchedWrong)

/-- 'grammarkeep.Algebra': WHATEVER THE INPUT: true; the input reads as it did. -/
def algebraSpec : ChangeSpec := { name := "algebra", fn := fun _ => fun
  | [d1, d2, d3, d4] => { results := [.lit (.bool true)], args := [d1, d2, d3, d4] }
  | _ => none }
def algebraRow : OpenClaim := { program := "ytolpddkpfigidaa", sum := "7d7e264da8b5cbcbd534f7d79eda30c262dbfe20730b2e2f7cf45c8aee1978b7", func := "grammar/grammarkeep.Algebra", spec := "algebra", recurses := true, apart := false }
def AlgebraSaid : Prop := algebraRow.holds Try.pinned (OpenSpec.ofChange algebraSpec)

/-- ITS FALSE NEIGHBOUR: 'it returns false'. Refute it at one input. -/
def algebraWrong : ChangeSpec := { name := "algebra", fn := fun _ => fun
  | [d1, d2, d3, d4] => { results := [.lit (.bool false)], args := [d1, d2, d3, d4] }
  | _ => none }
def AlgebraWrongFalsely : Prop := algebraRow.holds Try.pinned (OpenSpec.ofChange algebraWrong)

/-- 'grammarkeep.Closed': WHATEVER THE INPUT: true; the input reads as it did. -/
def closedSpec : ChangeSpec := { name := "closed", fn := fun _ => fun
  | [d] => { results := [.lit (.bool true)], args := [d] }
  | _ => none }
def closedRow : OpenClaim := { program := "ytolpddkpfigidaa", sum := "7d7e264da8b5cbcbd534f7d79eda30c262dbfe20730b2e2f7cf45c8aee1978b7", func := "grammar/grammarkeep.Closed", spec := "closed", recurses := true, apart := false }
def ClosedSaid : Prop := closedRow.holds Try.pinned (OpenSpec.ofChange closedSpec)

/-- ITS FALSE NEIGHBOUR: 'it returns false'. Refute it at one input. -/
def closedWrong : ChangeSpec := { name := "closed", fn := fun _ => fun
  | [d] => { results := [.lit (.bool false)], args := [d] }
  | _ => none }
def ClosedWrongFalsely : Prop := closedRow.holds Try.pinned (OpenSpec.ofChange closedWrong)

/-- 'grammarkeep.Apart': WHATEVER THE INPUT: true; the input reads as it did. -/
def apartSpec : ChangeSpec := { name := "apart", fn := fun _ => fun
  | [d] => { results := [.lit (.bool true)], args := [d] }
  | _ => none }
def apartRow : OpenClaim := { program := "ytolpddkpfigidaa", sum := "7d7e264da8b5cbcbd534f7d79eda30c262dbfe20730b2e2f7cf45c8aee1978b7", func := "grammar/grammarkeep.Apart", spec := "apart", recurses := true, apart := false }
def ApartSaid : Prop := apartRow.holds Try.pinned (OpenSpec.ofChange apartSpec)

/-- ITS FALSE NEIGHBOUR: 'it returns false'. Refute it at one input. -/
def apartWrong : ChangeSpec := { name := "apart", fn := fun _ => fun
  | [d] => { results := [.lit (.bool false)], args := [d] }
  | _ => none }
def ApartWrongFalsely : Prop := apartRow.holds Try.pinned (OpenSpec.ofChange apartWrong)

/- THE SECOND FORM. 'bulk': how many values and letters a reading holds, each counted each time it is reached (what is shared counts as often as it is met; a slice's spare places count too). A statement '..UptoSaid' is the law's where the arguments, and the package variables that the reading takes, are together of bulk at most 1048576: NARROWER than '..Said'. Prove '..Said' where nothing that the law and all that it calls make is longer than what came in: it says more and counts as full. Else prove '..UptoSaid'. A law counts once. -/
mutual
def uptoBulk {H : Type} : DataW H → Nat
  | .lit (.string bytes) => bytes.length + 1
  | .lit _ => 1
  | .nil => 1
  | .ptr d => uptoBulk d + 1
  | .slice elems spare => uptoBulkAll elems + uptoBulkAll spare + 1
  | .agg parts => uptoBulkAll parts + 1
  | .iface _ d => uptoBulk d + 1
  | .map entries => uptoBulkEntries entries + 1
  | .held _ => 1
def uptoBulkAll {H : Type} : List (DataW H) → Nat
  | [] => 0
  | d :: r => uptoBulk d + uptoBulkAll r
def uptoBulkEntries {H : Type} : List (Lit × DataW H) → Nat
  | [] => 0
  | x :: r => uptoBulkEntry x + uptoBulkEntries r
def uptoBulkEntry {H : Type} : Lit × DataW H → Nat
  | (.string bytes, d) => bytes.length + uptoBulk d + 1
  | (_, d) => uptoBulk d + 1
 end
def uptoSmall : (H : Type) → List (DataW H) → Bool := fun _ ds => decide (uptoBulkAll ds ≤ 1048576)
def OpenSpec.upto (s : _root_.Go.ChangeSpec) : _root_.Go.OpenSpec := { _root_.Go.OpenSpec.ofChange s with cond := some uptoSmall }

/-- 'grammarlaw.Checks', WHERE WHAT IT READS IS OF BULK AT MOST 1048576: true; the input reads as it did. -/
def checksUptoRow : OpenClaim := { program := "ytolpddkpfigidaa", sum := "7d7e264da8b5cbcbd534f7d79eda30c262dbfe20730b2e2f7cf45c8aee1978b7", func := "grammar/grammarlaw.Checks", spec := "checks", recurses := true, apart := false, narrowed := true }
def ChecksUptoSaid : Prop := checksUptoRow.holds Try.pinned (OpenSpec.upto checksSpec)

/-- 'grammarlaw.Matches', WHERE WHAT IT READS IS OF BULK AT MOST 1048576: true; the input reads as it did. -/
def matchesUptoRow : OpenClaim := { program := "ytolpddkpfigidaa", sum := "7d7e264da8b5cbcbd534f7d79eda30c262dbfe20730b2e2f7cf45c8aee1978b7", func := "grammar/grammarlaw.Matches", spec := "matches", recurses := true, apart := false, narrowed := true }
def MatchesUptoSaid : Prop := matchesUptoRow.holds Try.pinned (OpenSpec.upto matchesSpec)

/-- 'grammarlaw.Lexed', WHERE WHAT IT READS IS OF BULK AT MOST 1048576: true; the input reads as it did. -/
def lexedUptoRow : OpenClaim := { program := "ytolpddkpfigidaa", sum := "7d7e264da8b5cbcbd534f7d79eda30c262dbfe20730b2e2f7cf45c8aee1978b7", func := "grammar/grammarlaw.Lexed", spec := "lexed", recurses := true, apart := false, narrowed := true }
def LexedUptoSaid : Prop := lexedUptoRow.holds Try.pinned (OpenSpec.upto lexedSpec)

/-- 'grammarkeep.Munched', WHERE WHAT IT READS IS OF BULK AT MOST 1048576: true; the input reads as it did. -/
def munchedUptoRow : OpenClaim := { program := "ytolpddkpfigidaa", sum := "7d7e264da8b5cbcbd534f7d79eda30c262dbfe20730b2e2f7cf45c8aee1978b7", func := "grammar/grammarkeep.Munched", spec := "munched", recurses := true, apart := false, narrowed := true }
def MunchedUptoSaid : Prop := munchedUptoRow.holds Try.pinned (OpenSpec.upto munchedSpec)

/-- 'grammarkeep.Algebra', WHERE WHAT IT READS IS OF BULK AT MOST 1048576: true; the input reads as it did. -/
def algebraUptoRow : OpenClaim := { program := "ytolpddkpfigidaa", sum := "7d7e264da8b5cbcbd534f7d79eda30c262dbfe20730b2e2f7cf45c8aee1978b7", func := "grammar/grammarkeep.Algebra", spec := "algebra", recurses := true, apart := false, narrowed := true }
def AlgebraUptoSaid : Prop := algebraUptoRow.holds Try.pinned (OpenSpec.upto algebraSpec)

/-- 'grammarkeep.Closed', WHERE WHAT IT READS IS OF BULK AT MOST 1048576: true; the input reads as it did. -/
def closedUptoRow : OpenClaim := { program := "ytolpddkpfigidaa", sum := "7d7e264da8b5cbcbd534f7d79eda30c262dbfe20730b2e2f7cf45c8aee1978b7", func := "grammar/grammarkeep.Closed", spec := "closed", recurses := true, apart := false, narrowed := true }
def ClosedUptoSaid : Prop := closedUptoRow.holds Try.pinned (OpenSpec.upto closedSpec)

/-- 'grammarkeep.Apart', WHERE WHAT IT READS IS OF BULK AT MOST 1048576: true; the input reads as it did. -/
def apartUptoRow : OpenClaim := { program := "ytolpddkpfigidaa", sum := "7d7e264da8b5cbcbd534f7d79eda30c262dbfe20730b2e2f7cf45c8aee1978b7", func := "grammar/grammarkeep.Apart", spec := "apart", recurses := true, apart := false, narrowed := true }
def ApartUptoSaid : Prop := apartUptoRow.holds Try.pinned (OpenSpec.upto apartSpec)

end Rows
end Go.Proofs.Ytolpddkpfigidaa
