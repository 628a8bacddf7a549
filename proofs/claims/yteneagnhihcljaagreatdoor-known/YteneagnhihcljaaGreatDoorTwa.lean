import Derived.Test.YteneagnhihcljaaGreatDoorTw7
import Derived.Test.YteneagnhihcljaaGreatDoorTw9
import Derived.Test.YteneagnhihcljaaGreatDoorKc9
namespace Go.Proofs.YteneagnhihcljaaGreatDoor
open Go.RowKit
set_option linter.unusedVariables false
set_option linter.unusedSimpArgs false

theorem listT_has {l : List Bool} (h : l.length = 9) (t : Nat) : (listT l).any (· == (t : Int)) = l.getD t false := listT_any h t
theorem par_one (vn vw : Value) (a : Int) (h1 : vn.oneCell' = true) (h2 : vw.oneCell' = true) : (#[vn, vw, Value.int .i64 a] : Array Value).all (·.oneCell') = true :=
  all_oneCell_toArray (cs := [vn, vw, .int .i64 a]) (by intro v hv; simp only [List.mem_cons, List.not_mem_nil, or_false] at hv; rcases hv with rfl | rfl | rfl; exact h1; exact h2; rfl)
/-- where the growing stands -/
def GrS (ps : List Pr) (hs : List Hd) (R H : Nat) (kinds : List Int) (G : GOut) (a : Nat) (k : List Sy) (st : List St) : Prop :=
  if a ≤ kinds.length then grwF ps hs R H (kinds.drop a) a k st = G else G = ⟨0, [], 0, st⟩
theorem GrS.kind {ps : List Pr} {hs : List Hd} {R H : Nat} {kinds : List Int} {G : GOut} {a : Nat} {k : List Sy} {st : List St} (h : GrS ps hs R H kinds G a k st) (ha : a < kinds.length) (t : Nat) (ht : kinds[a] = t) :
    if (wanB hs R k).getD t false then GrS ps hs R H kinds G (a + 1) (gToF ps hs H t k st).1 (gToF ps hs H t k st).2 else G = ⟨10, listT (wanB hs R k), a, []⟩ := by
  unfold GrS at h ⊢
  rw [if_pos (by omega), List.drop_eq_getElem_cons ha, ht] at h
  unfold grwF at h
  rw [Int.toNat_natCast] at h
  rw [if_pos (show a + 1 ≤ kinds.length by omega)]
  split
  · rename_i e; rw [if_pos e] at h; exact h
  · rename_i e; rw [if_neg e] at h; exact h.symm
theorem GrS.last {ps : List Pr} {hs : List Hd} {R H : Nat} {kinds : List Int} {G : GOut} {a : Nat} {k : List Sy} {st : List St} (h : GrS ps hs R H kinds G a k st) (ha : a = kinds.length) :
    if (wanB hs R k).getD R false then GrS ps hs R H kinds G (a + 1) (gToF ps hs H R k st).1 (gToF ps hs H R k st).2 else G = ⟨10, listT (wanB hs R k), a, []⟩ := by
  unfold GrS at h ⊢
  rw [if_pos (by omega), ha, List.drop_length] at h
  unfold grwF at h
  rw [if_neg (show ¬ (a + 1 ≤ kinds.length) by omega)]
  split
  · rename_i e; rw [if_pos e] at h; exact h.symm
  · rename_i e; rw [if_neg e] at h; rw [ha]; exact h.symm

theorem gbound {a kl sl rl pl : Nat} (ha : a ≤ 60) (h1 : kl ≤ 1 + 48 * a) (h2 : sl ≤ a * 2000000000) (h3 : rl ≤ sl + (kl * 335923 + 16124313)) (h4 : pl ≤ kl + 48) (h5 : sl ≤ rl) :
    rl ≤ 1000000000000 ∧ kl + 6 * rl ≤ 100000000000 + 6 * sl ∧ rl ≤ (a + 1) * 2000000000 ∧ pl ≤ 1 + 48 * (a + 1) := by omega
abbrev parA (vn vw : Value) (a : Int) : Array Value := #[vn, vw, .int .i64 a]
theorem szPar : (Tryz.prog.info? 50).map (·.size) = some 3 := by kernel_rfl
end Go.Proofs.YteneagnhihcljaaGreatDoor
namespace Go.Proofs.YteneagnhihcljaaGreatDoor
open Go.RowKit
set_option linter.unusedVariables false
set_option linter.unusedSimpArgs false

/-- what a right specification without clashes gives -/
theorem tab_of {s : ByteArray} (hc : (checkF s).1 = 0) (hcl : clashF s = []) : Tab (tableOf (rLines s).1) (frontsOf (rLines s).1).length (headsOf (rLines s).1).length (setsF s) := by
  have hc2 := check_zero hc
  obtain ⟨h1, h2, h3, h4, h5⟩ := check_parts hc2
  have hI := linesInv hc2
  have hI2 := linesInv2 hc2
  have hT := tabOk h3 hI.places hI2.mem
  have hR := rules_le (fun y hy => (hI.places y hy).1) h5
  obtain ⟨c1, c2, c3⟩ := counts_le (fun y hy => (hI.places y hy).1) h5
  have hS := allF_ok hT hR
  have hH0 : 0 < (headsOf (rLines s).1).length := by
    unfold hasProd at h4
    rw [List.any_eq_true] at h4
    obtain ⟨y, hy, hq⟩ := h4
    have := hI2.mem y (List.mem_filter.2 ⟨hy, hq⟩)
    omega
  exact ⟨llg hT hR hH0 c3 hcl, hS.ok, hR, c1, hH0, c2⟩
theorem sets_ok {s : ByteArray} (hc : (checkF s).1 = 0) : ∀ x ∈ setsF s, x.ok := by
  have hc2 := check_zero hc
  obtain ⟨h1, h2, h3, h4, h5⟩ := check_parts hc2
  have hI := linesInv hc2
  have hI2 := linesInv2 hc2
  exact (allF_ok (tabOk h3 hI.places hI2.mem) (rules_le (fun y hy => (hI.places y hy).1) h5)).ok

def nR (s : ByteArray) : Nat := (frontsOf (rLines s).1).length
def nH (s : ByteArray) : Nat := (headsOf (rLines s).1).length
def tabF (s : ByteArray) : List Pr := tableOf (rLines s).1
def growS (s : ByteArray) (kinds : List Int) : GOut := grwF (tabF s) (setsF s) (nR s) (nH s) kinds 0 [⟨true, 0⟩] []
/-- the table, and what the calls on it answer -/
theorem table_calls (s : ByteArray) (hc : (checkF s).1 = 0) {pvs : List PV} (hm : pvs.map PV.pr = tableOf (rLines s).1) : prsOf pvs = tabF s ∧ pvs.length ≤ 1000 ∧ nH s ≤ 1000 ∧ nR s ≤ 1000 ∧ setsF s = allF (prsOf pvs) (initH (nR s) (nH s)) := by
  obtain ⟨z1, z2, z3⟩ := tab_sizes hc
  have h1 : pvs.length = (tableOf (rLines s).1).length := by rw [← hm]; simp
  refine ⟨hm, by omega, by unfold nH; omega, by unfold nR; omega, ?_⟩
  unfold setsF prsOf nR nH
  rw [hm]
theorem clash_len (s : ByteArray) (hc : (checkF s).1 = 0) {pvs : List PV} (hm : pvs.map PV.pr = tableOf (rLines s).1) : clashL ((prsOf pvs).zip (aheadsF (allF (prsOf pvs) (initH (nR s) (nH s))) (prsOf pvs))) (nR s) (nH s) = clashF s := by
  obtain ⟨h1, _, _, _, h5⟩ := table_calls s hc hm
  rw [← h5, h1]; rfl

end Go.Proofs.YteneagnhihcljaaGreatDoor
