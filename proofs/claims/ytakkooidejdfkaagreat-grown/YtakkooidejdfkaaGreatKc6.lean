import Derived.Test.YtakkooidejdfkaaGreatKc5
import Derived.Test.YtakkooidejdfkaaGreatMu3
namespace Go.Proofs.YtakkooidejdfkaaGreat
open Go.RowKit
set_option linter.unusedVariables false
set_option linter.unusedSimpArgs false

def cntT (l : List Bool) : Nat := (l.filter fun b => b).length
structure ClosedOk (svs : List SV) (nR : Nat) (head : List Int) (syms : List (List Int)) : Prop where
  bR : nR ≤ 900
  bH : svs.length ≤ 1000
  bP : syms.length ≤ 1000
  pos : 0 < svs.length
  hl : head.length = syms.length
  ne : 0 < syms.length
  ris : ∀ s ∈ svs, Rises (listT s.hd.fi) nR ∧ Rises (listT s.hd.fo) (nR + 1)
  sl : ∀ l ∈ syms, l.length ≤ 1000
  so : ∀ l ∈ syms, ∀ s ∈ l, SymOk nR svs.length s
  hd : ∀ p (h : p < head.length), ∃ q : Nat, q < svs.length ∧ head[p] = (q : Int)
  start : ∀ s, svs[0]? = some s → s.hd.rch = true ∧ (listT s.hd.fo).any (· == (nR : Int)) = true
  un1 : ∀ h (hh : h < svs.length), ∀ t (ht : t < (unL svs nR h (head.zip syms) (List.replicate (nR + 1) false) false false).1.length), (unL svs nR h (head.zip syms) (List.replicate (nR + 1) false) false false).1[t] = true → (listT svs[h].hd.fi).any (· == (t : Int)) = true
  un2 : ∀ h (hh : h < svs.length), cntT (unL svs nR h (head.zip syms) (List.replicate (nR + 1) false) false false).1 = (listT svs[h].hd.fi).length
  un3 : ∀ h (hh : h < svs.length), (unL svs nR h (head.zip syms) (List.replicate (nR + 1) false) false false).2.1 = svs[h].hd.nul
  un4 : ∀ h (hh : h < svs.length), (unL svs nR h (head.zip syms) (List.replicate (nR + 1) false) false false).2.2 = svs[h].hd.fru
  be : ∀ p (hp : p < syms.length) (q : Nat), head[p]? = some (q : Int) → BehOk svs nR q syms[p]
  re : ∀ p (hp : p < syms.length) (q : Nat), head[p]? = some (q : Int) → ∀ x, svs[q]? = some x → x.hd.rch = true → ∀ s ∈ syms[p], s < 0 → (hdAt svs s).rch = true

theorem unL_len (svs : List SV) (nR : Nat) (hd : Int) : ∀ (l : List (Int × List Int)) (out : List Bool) (em fr : Bool), out.length = nR + 1 → (unL svs nR hd l out em fr).1.length = nR + 1
  | [], _, _, _, h => h
  | p :: l, out, em, fr, h => by
    unfold unL
    split
    · refine unL_len svs nR hd l _ _ _ ?_
      have := kaF_len svs p.2 (List.replicate (nR + 1) false)
      simp [orL, h, this]
    · exact unL_len svs nR hd l _ _ _ h

end Go.Proofs.YtakkooidejdfkaaGreat
namespace Go.Proofs.YtakkooidejdfkaaGreat
open Go.RowKit
set_option linter.unusedVariables false
set_option linter.unusedSimpArgs false

end Go.Proofs.YtakkooidejdfkaaGreat
