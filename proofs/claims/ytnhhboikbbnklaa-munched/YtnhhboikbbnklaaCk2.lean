import Derived.Test.YtnhhboikbbnklaaEq8
namespace Go.Proofs.Ytnhhboikbbnklaa
open Go.RowKit
set_option linter.unusedVariables false
set_option linter.unusedSimpArgs false

theorem LV.at0 (x : LV) : x.cells.toArray[0]? = some (.int .i64 x.ln.front.place) := by simp [LV.cells, Wd.cells]
theorem LV.at9 {x : LV} (h : x.ln.front.ls.length = 8) : x.cells.toArray[9]? = some (.bool x.ln.skip) := by
  obtain ⟨a, b, c, d, e, f, g, k, hl⟩ := eight h; simp [LV.cells, Wd.cells, hl]
theorem LV.at13 {x : LV} (h : x.ln.front.ls.length = 8) : x.cells.toArray[13]? = some x.vs := by
  obtain ⟨a, b, c, d, e, f, g, k, hl⟩ := eight h; simp [LV.cells, Wd.cells, hl]
theorem LV.at10 {x : LV} (h : x.ln.front.ls.length = 8) : x.cells.toArray[10]? = some x.vn ∧ x.cells.toArray[11]? = some (.int .i64 x.ln.st) ∧ x.cells.toArray[12]? = some (.int .i64 x.ln.en) := by
  obtain ⟨a, b, c, d, e, f, g, k, hl⟩ := eight h; simp [LV.cells, Wd.cells, hl]
theorem LinesAt.frontRange {w : World} {g n cap : Nat} {xs : List LV} (h : LinesAt w (.slice (some ⟨g, 0, none⟩) n cap) xs) (i : Nat) (hi : i < xs.length) : w.rangeAt g (i * 14) (xs[i]).ln.front.cells := by
  intro j v hj
  refine h.row.range i hi j v ?_
  unfold LV.cells
  rw [List.getElem?_append_left (List.getElem?_eq_some_iff.1 hj).1]; exact hj
theorem LinesAt.cell9 {w : World} {g n cap : Nat} {xs : List LV} (h : LinesAt w (.slice (some ⟨g, 0, none⟩) n cap) xs) (i : Nat) (hi : i < xs.length) : w.cell? ⟨g, i * 14 + 9, none⟩ = some (.bool (xs[i]).ln.skip) := by
  rw [h.cells14 i 9 hi (by omega)]
  have := LV.at9 (h.each xs[i] (by simp)).front; simpa using this

def aheadB (lns : List Ln) (i : Nat) : Bool := match lns[i]? with | some x => decide (frontF lns x.front.ls < i) | none => false
def symB (lns : List Ln) (d : Wd) : Bool := match lns[frontF lns d.ls]? with | some x => !x.skip | none => false
theorem frontF_le (lns : List Ln) (ls : List Int) : frontF lns ls ≤ lns.length := by unfold frontF; exact List.findIdx_le_length

set_option maxRecDepth 20000 in
set_option maxHeartbeats 4000000 in
theorem ahead_any (w : World) (v : Value) (xs : List LV) (i : Nat) (hL : LinesAt w v xs) (hn : xs.length ≤ 100000) (hi : i < xs.length) :
    Calls Try.prog 59 #[v, .int .i64 i] w fun e w' => e = .returned (.bool (aheadB (xs.map LV.ln) i)) ∧ Fresh w w' := by
  obtain ⟨g, cap, hv⟩ := Joins.ownsRow_form hL.own (by omega)
  subst hv
  have hA := hL.each xs[i] (by simp)
  have HF := hid hA.front
  have HL := hid hL
  have RG := hid (hL.frontRange i hi)
  have e1 : aheadB (xs.map LV.ln) i = decide (frontF (xs.map LV.ln) xs[i].ln.front.ls < i) := by unfold aheadB; simp [hi]
  rw [e1]
  have hfl := frontF_le (xs.map LV.ln) xs[i].ln.front.ls
  simp only [List.length_map] at hfl
  clear hA hL e1
  go_enter Try.func59, Try.ntmps59
  go_wp2_with (first
    | (go_at_call 73; refine (findFront_any _ _ xs _ HL.out hn HF.out).mono ?_; rintro e w1 ⟨rfl, hf⟩)
    | (refine wpList_load_mid rfl 69 _ rfl g (i * 14) rfl xs[i].ln.front.cells _ RG.out Try.underlying69 rfl (by rw [Wd.cells_len HF.out]; exact szWord) ?_))
  go_ret
  exact ⟨ret_bool (by simp), hf⟩

set_option maxRecDepth 20000 in
set_option maxHeartbeats 4000000 in
theorem isSymbol_any (w : World) (v : Value) (xs : List LV) (dd : Wd) (hL : LinesAt w v xs) (hn : xs.length ≤ 100000) (hl : dd.ls.length = 8) :
    Calls Try.prog 60 #[v, .agg dd.cells.toArray] w fun e w' => e = .returned (.bool (symB (xs.map LV.ln) dd)) ∧ Fresh w w' := by
  obtain ⟨ao, cap, hv⟩ := own_form hL.own
  subst hv
  have HL := hid hL
  have HLn := hid hl
  have hfl := frontF_le (xs.map LV.ln) dd.ls
  simp only [List.length_map] at hfl
  have m1 : Fresh w (w.alloc (.cells dd.cells.toArray 69 (0, 0))) := (Mod.refl _ w).alloc _
  have HL1 := hid (hL.fresh m1)
  clear hL hl
  generalize hff : frontF (xs.map LV.ln) dd.ls = ff at hfl
  have HFF := hid hff
  clear hff
  by_cases hlt : ff < xs.length
  · obtain ⟨g, cap', hv'⟩ := Joins.ownsRow_form HL.out.own (by omega)
    rw [Value.slice.injEq] at hv'
    obtain ⟨rfl, _, rfl⟩ := hv'
    have e1 : symB (xs.map LV.ln) dd = !xs[ff].ln.skip := by unfold symB; rw [HFF.out]; simp [hlt]
    rw [e1]
    clear e1
    go_enter Try.func60, Try.ntmps60
    go_wp2_with (first
      | (go_at_call 73; refine (findFront_any _ _ xs _ HL1.out hn HLn.out).mono ?_; rw [HFF.out]; rintro e w1 ⟨rfl, hf⟩; have c9 := (HL1.out.fresh hf).cell9 ff hlt)
      | (refine wpList_load_row rfl 69 _ rfl w.heap.size rfl _ _ _ _ (heap_alloc_at _ _) Try.underlying69 rfl (szWordOf HLn.out) ?_))
    go_ret
    exact ⟨rfl, m1.trans hf⟩
  · have hfe : ff = xs.length := by omega
    have e1 : symB (xs.map LV.ln) dd = false := by unfold symB; rw [HFF.out]; simp [hfe]
    rw [e1]
    have HFE := hid hfe
    clear e1 hfe
    go_enter Try.func60, Try.ntmps60
    go_wp2_with (first
      | (go_at_call 73; refine (findFront_any _ _ xs _ HL1.out hn HLn.out).mono ?_; rw [HFF.out]; rintro e w1 ⟨rfl, hf⟩)
      | (refine wpList_load_row rfl 69 _ rfl w.heap.size rfl _ _ _ _ (heap_alloc_at _ _) Try.underlying69 rfl (szWordOf HLn.out) ?_))
    go_ret
    exact ⟨rfl, m1.trans hf⟩
end Go.Proofs.Ytnhhboikbbnklaa
