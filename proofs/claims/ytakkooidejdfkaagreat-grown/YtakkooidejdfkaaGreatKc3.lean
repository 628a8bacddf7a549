import Derived.Test.YtakkooidejdfkaaGreatKc1
namespace Go.Proofs.YtakkooidejdfkaaGreat
open Go.RowKit
set_option linter.unusedVariables false
set_option linter.unusedSimpArgs false

def setAll (out : List Bool) (l : List Int) : List Bool := l.foldl (fun o k => o.set k.toNat true) out
theorem setAll_len : ∀ (l : List Int) (out : List Bool), (setAll out l).length = out.length
  | [], _ => rfl
  | k :: l, out => by unfold setAll; rw [List.foldl_cons]; have := setAll_len l (out.set k.toNat true); unfold setAll at this; rw [this]; simp
def hdAt (svs : List SV) (s : Int) : Hd := match svs[(-1 - s).toNat]? with
  | some x => x.hd
  | none => zeroHd
/-- with which rules what these symbols derive begins, by the sets; do they derive the empty string -/
def kaF (svs : List SV) : List Int → List Bool → List Bool × Bool
  | [], out => (out, true)
  | s :: l, out => if 0 ≤ s then (out.set s.toNat true, false) else
      if (hdAt svs s).nul = false then (setAll out (listT (hdAt svs s).fi), false) else kaF svs l (setAll out (listT (hdAt svs s).fi))
theorem kaF_len (svs : List SV) : ∀ (l : List Int) (out : List Bool), (kaF svs l out).1.length = out.length
  | [], _ => rfl
  | s :: l, out => by
    unfold kaF
    split
    · simp
    · split
      · rw [setAll_len]
      · rw [kaF_len svs l, setAll_len]
/-- a symbol that there is -/
def SymOk (nR nH : Nat) (s : Int) : Prop := s ≤ nR ∧ -(nH : Int) ≤ s
theorem made_tk (n : Nat) : madeCells #[.bool false] n = tkA (List.replicate n false) := by
  unfold madeCells tkA bls
  apply Array.ext_getElem?
  intro i
  by_cases h : i < n <;> simp [h, Nat.mod_one]

theorem KV.range {K : KP} {w : World} {nR : Nat} {head : List Int} {syms : List (List Int)} {svs : List SV} (h : KV K w nR head syms svs) (k : Nat) (hk : k < svs.length) : w.rangeAt K.gl (k * 5) svs[k].cells := fun j v hj => by
  rw [h.st k hk j (by have := (List.getElem?_eq_some_iff.1 hj).1; simpa [SV.cells] using this)]; exact hj

end Go.Proofs.YtakkooidejdfkaaGreat
