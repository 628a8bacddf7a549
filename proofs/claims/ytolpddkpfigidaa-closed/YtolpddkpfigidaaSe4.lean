import Derived.Test.YtolpddkpfigidaaSe1
namespace Go.Proofs.Ytolpddkpfigidaa
open Go.RowKit
set_option linter.unusedVariables false
set_option linter.unusedSimpArgs false

structure Sy where
  isH : Bool
  num : Int
def Sy.cells (s : Sy) : List Value := [.bool s.isH, .int .i64 s.num]
structure Pr where
  head : Int
  syms : List Sy
structure PV where
  pr : Pr
  vs : Value
def PV.cells (p : PV) : List Value := [.int .i64 p.pr.head, p.vs]

/-- v is these symbols, in blocks below B. -/
def SymAt (w : World) (B : Nat) (v : Value) (l : List Sy) : Prop :=
  ∃ ao cap, v = .slice ao l.length cap ∧ l.length ≤ cap ∧ cap ≤ maxLen ∧ ∀ i (h : i < l.length), ∃ g o, ao = some ⟨g, o, none⟩ ∧ g < B ∧ w.rangeAt g (o + i * 2) (l[i]).cells
theorem rangeAt_block {w w' : World} {g o : Nat} {cs : List Value} (h : w.rangeAt g o cs) (hb : w'.heap[g]? = w.heap[g]?) : w'.rangeAt g o cs := fun j v hj => by
  have := h j v hj
  simpa [World.cell?, hb] using this
theorem SymAt.kept {S : Nat → Prop} {w w' : World} {B : Nat} {v : Value} {l : List Sy} (h : SymAt w B v l) (hB : B ≤ w.heap.size) (hm : Mod S w w') (hs : ∀ k, k < B → ¬ S k) : SymAt w' B v l := by
  obtain ⟨ao, cap, h1, h2, h3, h4⟩ := h
  refine ⟨ao, cap, h1, h2, h3, fun i hi => ?_⟩
  obtain ⟨g, o, h5, h6, h7⟩ := h4 i hi
  exact ⟨g, o, h5, h6, rangeAt_block h7 (hm.block g (by omega) (hs g h6))⟩
structure PrsAt (w : World) (B : Nat) (v : Value) (ps : List PV) : Prop where
  row : RowAt PV.cells 2 178 w v ps
  lt : ∀ g, v.ownBlock = some g → g < B
  syms : ∀ p ∈ ps, SymAt w B p.vs p.pr.syms
theorem PrsAt.kept {S : Nat → Prop} {w w' : World} {B : Nat} {v : Value} {l : List PV} (h : PrsAt w B v l) (hB : B ≤ w.heap.size) (hm : Mod S w w') (hs : ∀ k, k < B → ¬ S k) : PrsAt w' B v l :=
  ⟨h.row.kept hm (fun b hb => hs b (h.lt b hb)), h.lt, fun p hp => (h.syms p hp).kept hB hm hs⟩

structure FA (w : World) (b : Nat) (R H : Int) (vp vh : Value) (ps : List PV) (hs : List Hd) : Prop where
  blk : w.heap[b]? = some (.cells #[.int .i64 R, .int .i64 H, vp, vh] 150 (0, 0))
  prs : PrsAt w b vp ps
  own : w.ownsRow (b + 1) 154 21 vh hs.length (flatC Hd.cells hs)
  ok : ∀ h ∈ hs, h.ok
variable {w w' : World} {b : Nat} {R H : Int} {vp vh : Value} {ps : List PV} {hs : List Hd}
theorem FA.fresh (h : FA w b R H vp vh ps hs) (hm : Fresh w w') : FA w' b R H vp vh ps hs :=
  ⟨hm.at h.blk (fun x => x), h.prs.kept (Nat.le_of_lt (heap_lt h.blk)) hm (fun _ _ x => x), ownsRow_other h.own (fun g hg => hm.block g (h.own.lt g hg).2 (fun x => x)), h.ok⟩
theorem FA.cell (h : FA w b R H vp vh ps hs) (o : Nat) : w.cell? ⟨b, o, none⟩ = #[.int .i64 R, .int .i64 H, vp, vh][o]? := cellOf h.blk o
theorem FA.row (h : FA w b R H vp vh ps hs) : RowAt Hd.cells 21 154 w vh hs := ⟨ownsRow_base h.own (Nat.zero_le _), fun x hx => Hd.cells_len (h.ok x hx)⟩

def getH (hs : List Hd) (n : Int) : Hd := if 0 ≤ n then (hs[n.toNat]?).getD zeroHd else zeroHd
theorem zeroHd_ok : zeroHd.ok := ⟨rfl, rfl⟩
theorem getH_ok {hs : List Hd} (h : ∀ x ∈ hs, x.ok) (n : Int) : (getH hs n).ok := by
  unfold getH
  split
  · cases hq : hs[n.toNat]? with
    | none => exact zeroHd_ok
    | some x => exact h x (List.mem_of_getElem? hq)
  · exact zeroHd_ok
def putF (hs : List Hd) (n : Int) (h : Hd) : List Hd := if 0 ≤ n then hs.set n.toNat h else hs
def putB (hs : List Hd) (n : Int) (h : Hd) : Bool := if 0 ≤ n then (match hs[n.toNat]? with | some x => !hdEq x h | none => false) else false

set_option maxRecDepth 20000 in
set_option maxHeartbeats 2000000 in
theorem get_any (w : World) (b : Nat) (R H : Int) (vp vh : Value) (ps : List PV) (hs : List Hd) (n : Int) (h : FA w b R H vp vh ps hs) :
    Calls Try.prog 94 #[bptr b, .int .i64 n] w fun e w' => e = .returned (.agg (hdA (getH hs n))) ∧ Fresh w w' := by
  have k3 := h.cell 3
  simp at k3
  have HF := hid h
  have zb : Hid ((w.alloc (.cells (hdA zeroHd) 154 (0, 0))).heap[w.heap.size]? = some (.cells (hdA zeroHd) 154 (0, 0))) := heap_alloc_at _ _
  have hb := heap_lt h.blk
  have k3' : (w.alloc (.cells #[.bool false, .bool false, .bool false, .bool false, .bool false, .bool false, .bool false, .bool false, .bool false, .bool false, .bool false, .bool false, .bool false, .bool false, .bool false, .bool false, .bool false, .bool false, .bool false, .bool false, .bool false] 154 (0, 0))).cell? ⟨b, 3, none⟩ = some vh := by
    rw [cellOf (heap_alloc_prev h.blk) 3]; rfl
  obtain ⟨ao, cap, hv⟩ := own_form h.own
  subst hv
  by_cases h0 : 0 ≤ n
  · obtain ⟨k, rfl⟩ : ∃ k : Nat, n = k := ⟨n.toNat, by omega⟩
    by_cases hk : k < hs.length
    · have e1 : Hid (getH hs k = hs[k]) := by unfold Hid getH; rw [if_pos h0]; simp [hk]
      obtain ⟨g, cap', hv'⟩ := Joins.ownsRow_form h.own (by omega)
      rw [Value.slice.injEq] at hv'
      obtain ⟨rfl, _, rfl⟩ := hv'
      have RG := hid ((h.fresh ((Mod.refl _ w).alloc (.cells (hdA zeroHd) 154 (0, 0)))).row.range k hk)
      have HOK := hid (h.ok hs[k] (by simp))
      rw [e1.out]
      have b1 : decide ((k : Int) < 0) = false := by simp
      have b2 : decide ((hs.length : Int) ≤ (k : Int)) = false := by simp; omega
      have b3 : decide (hs.length ≤ k) = false := by simp; omega
      have b4 : (k : Int) < (hs.length : Int) := by omega
      clear h e1
      go_enter Try.func94, Try.ntmps94
      go_wp2_with (first
        | (refine wpList_load_mid rfl 154 _ rfl g (k * 21) rfl hs[k].cells _ RG.out Try.underlying154 rfl (szHdL HOK.out) ?_)
        | (refine wpList_store_row rfl 154 _ _ rfl w.heap.size (hdA hs[k]) rfl rfl _ _ zb.out (szHdOf HOK.out) (sameSize rfl (hd_size HOK.out)) (hd_one _) ?_))
      refine bodyPost_ret (results_cell_row rfl _ _ w.heap.size 154 _ (0, 0) _ rfl (setRow_heap _ _ _ _ _ _ zb.out) Try.underlying154 rfl (szHdOf HOK.out)) rfl ⟨rfl, ?_⟩
      exact ((Mod.refl _ w).alloc _).setRow (by simp) _
    · have e1 : getH hs k = zeroHd := by unfold getH; rw [if_pos h0]; simp [hk]
      rw [e1]
      have b1 : decide ((k : Int) < 0) = false := by simp
      have b2 : decide ((hs.length : Int) ≤ (k : Int)) = true := by simp; omega
      have b3 : decide (hs.length ≤ k) = true := by simp; omega
      have b4 : ¬ (k : Int) < (hs.length : Int) := by omega
      clear h e1
      go_enter Try.func94, Try.ntmps94
      go_wp2_with (first
        | (refine wpList_store_row rfl 154 _ _ rfl w.heap.size (hdA zeroHd) rfl rfl _ _ zb.out (szHdOf zeroHd_ok) rfl (hd_one _) ?_))
      refine bodyPost_ret (results_cell_row rfl _ _ w.heap.size 154 _ (0, 0) _ rfl (setRow_heap _ _ _ _ _ _ zb.out) Try.underlying154 rfl (szHdOf zeroHd_ok)) rfl ⟨rfl, ?_⟩
      exact ((Mod.refl _ w).alloc _).setRow (by simp) _
  · have e1 : getH hs n = zeroHd := by unfold getH; rw [if_neg h0]
    rw [e1]
    have b1 : decide (n < 0) = true := by simp; omega
    clear h e1
    go_enter Try.func94, Try.ntmps94
    go_wp2_with (first
      | (refine wpList_store_row rfl 154 _ _ rfl w.heap.size (hdA zeroHd) rfl rfl _ _ zb.out (szHdOf zeroHd_ok) rfl (hd_one _) ?_))
    refine bodyPost_ret (results_cell_row rfl _ _ w.heap.size 154 _ (0, 0) _ rfl (setRow_heap _ _ _ _ _ _ zb.out) Try.underlying154 rfl (szHdOf zeroHd_ok)) rfl ⟨rfl, ?_⟩
    exact ((Mod.refl _ w).alloc _).setRow (by simp) _
end Go.Proofs.Ytolpddkpfigidaa
