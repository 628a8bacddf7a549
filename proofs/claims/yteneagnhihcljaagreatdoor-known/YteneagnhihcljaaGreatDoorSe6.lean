import Derived.Test.YteneagnhihcljaaGreatDoorSe3
namespace Go.Proofs.YteneagnhihcljaaGreatDoor
open Go.RowKit
set_option linter.unusedVariables false
set_option linter.unusedSimpArgs false

theorem results_row1 {P : Program} {fn : Func} {p u : Tmp} {ty : TypeId} (h : fn.results = #[.cell p ty, .tmp u]) (tmps : Array Value) (w : World) (g : Nat) (t : TypeId) (cs : Array Value) (fr : Nat × Nat) (d : TypeDesc)
    (hp : tmps.getD p undef = .pointer (some ⟨g, 0, none⟩)) (hg : w.heap[g]? = some (.cells cs t fr))
    (hu : P.underlying ty = some d) (hd : (match d with | .struct _ | .array _ _ => true | _ => false) = true) (hi : (P.info? ty).map (·.size) = some cs.size) :
    (results fn tmps).run P w = .ok (.tuple #[.agg cs, tmps.getD u undef]) w := by
  have hp' : tmps[p]?.getD undef = .pointer (some ⟨g, 0, none⟩) := by simpa using hp
  simp [results, h, hp', asAddr, run_loadVar_row w g t ty cs fr d hg hu hd hi]

def begF (hs : List Hd) : List Sy → List Bool → List Bool × Bool
  | [], acc => (acc, true)
  | s :: l, acc => if s.isH = false then (withT acc s.num, false) else
      if (getH hs s.num).nul = false then (orL acc (getH hs s.num).fi, false) else begF hs l (orL acc (getH hs s.num).fi)
theorem begF_len {hs : List Hd} (h : ∀ x ∈ hs, x.ok) : ∀ (l : List Sy) (acc : List Bool), acc.length = 9 → (begF hs l acc).1.length = 9
  | [], acc, ha => ha
  | s :: l, acc, ha => by
    unfold begF
    split
    · exact withT_len ha
    · split
      · exact orL_len ha (getH_ok h _).fi
      · exact begF_len h l _ (orL_len ha (getH_ok h _).fi)

theorem hdRangeFi {w : World} {g : Nat} {h : Hd} {t : TypeId} (k : h.ok) (hb : w.heap[g]? = some (.cells (hdA h) t (0, 0))) : w.rangeAt g 3 (bls h.fi) := fun j v hj => by
  rw [cellOf hb]
  have hlt := (List.getElem?_eq_some_iff.1 hj).1
  simp only [hdA, Hd.cells, List.getElem?_toArray]
  have e : 3 + j = j + 1 + 1 + 1 := by omega
  rw [e]
  simp only [List.getElem?_cons_succ]
  rw [List.getElem?_append_left hlt]; exact hj
theorem hdRangeFo {w : World} {g : Nat} {h : Hd} {t : TypeId} (k : h.ok) (hb : w.heap[g]? = some (.cells (hdA h) t (0, 0))) : w.rangeAt g 12 (bls h.fo) := fun j v hj => by
  rw [cellOf hb]
  simp only [hdA, Hd.cells, List.getElem?_toArray]
  have e : 12 + j = j + 9 + 1 + 1 + 1 := by omega
  rw [e]
  simp only [List.getElem?_cons_succ]
  rw [List.getElem?_append_right (by simp [bls, k.fi])]
  simpa [bls, k.fi] using hj

theorem szSy : (Tryz.prog.info? 84).map (·.size) = some 2 := by kernel_rfl

end Go.Proofs.YteneagnhihcljaaGreatDoor
namespace Go.Proofs.YteneagnhihcljaaGreatDoor
open Go.RowKit
set_option linter.unusedVariables false
set_option linter.unusedSimpArgs false

def fruB (hs : List Hd) (s : Sy) : Bool := !s.isH || (getH hs s.num).fru
def allFru (hs : List Hd) (l : List Sy) : Bool := l.all (fruB hs)

/-- the productions by themselves -/
def prsOf (ps : List PV) : List Pr := ps.map PV.pr
def growB1 (hs : List Hd) (p : Pr) : List Hd × Bool :=
  let h := getH hs p.head
  let r := begF hs p.syms zero9
  let h' : Hd := { h with nul := h.nul || r.2, fi := orL h.fi r.1 }
  (putF hs p.head h', putB hs p.head h')
def growBL : List Pr → List Hd → Bool → List Hd × Bool
  | [], hs, g => (hs, g)
  | p :: l, hs, g => growBL l (growB1 hs p).1 (g || (growB1 hs p).2)
def growF1 (hs : List Hd) (p : Pr) : List Hd × Bool :=
  let h := getH hs p.head
  let h' : Hd := { h with fru := h.fru || allFru hs p.syms }
  (putF hs p.head h', putB hs p.head h')
def growFL : List Pr → List Hd → Bool → List Hd × Bool
  | [], hs, g => (hs, g)
  | p :: l, hs, g => growFL l (growF1 hs p).1 (g || (growF1 hs p).2)
theorem putF_ok {hs : List Hd} (h : ∀ x ∈ hs, x.ok) (n : Int) {y : Hd} (hy : y.ok) : ∀ x ∈ putF hs n y, x.ok := by
  intro x hx
  unfold putF at hx
  split at hx
  · rcases List.mem_or_eq_of_mem_set hx with h1 | h1
    · exact h x h1
    · rw [h1]; exact hy
  · exact h x hx
theorem putF_len (hs : List Hd) (n : Int) (y : Hd) : (putF hs n y).length = hs.length := by unfold putF; split <;> simp

theorem szPV : (Tryz.prog.info? 73).map (·.size) = some 2 := by kernel_rfl
variable {w w' : World} {b : Nat} {R H : Int} {vp vh : Value} {ps : List PV} {hs : List Hd}
theorem FA.size (h : FA w b R H vp vh ps hs) : b < w.heap.size := heap_lt h.blk
theorem FA.kept (h : FA w b R H vp vh ps hs) {S : Nat → Prop} (hm : Mod S w w') (hS : ∀ k, S k → w.heap.size ≤ k) : FA w' b R H vp vh ps hs :=
  h.fresh ⟨hm.os, hm.tape, hm.output, hm.size, fun k hk _ => hm.block k hk (fun x => by have := hS k x; omega)⟩
end Go.Proofs.YteneagnhihcljaaGreatDoor
