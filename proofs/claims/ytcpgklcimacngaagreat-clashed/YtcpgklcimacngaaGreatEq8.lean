import Derived.Test.YtcpgklcimacngaaGreatSh5
namespace Go.Proofs.YtcpgklcimacngaaGreat
open Go.RowKit
set_option linter.unusedVariables false
set_option linter.unusedSimpArgs false

theorem isAgg5 (w : World) : (isAgg 5).run Tryz.prog w = .ok false w := by
  unfold isAgg; rw [Sem.run_bind, run_underlying Tryz.underlying5]; rfl
theorem size5 : (Tryz.prog.info? 5).map (·.size) = some 1 := by kernel_rfl
theorem sizeOf5 (w : World) : (sizeOf 5).run Tryz.prog w = .ok 1 w := by
  have h := size5
  cases hq : Tryz.prog.info? 5 with
  | none => simp [hq] at h
  | some i => simp [hq] at h; simp [sizeOf, typeInfo, hq, h]
theorem equalIn5 (d : Nat) (a b : Int) (w : World) : (Op.equalIn (d + 1) 5 (.int .u8 a) (.int .u8 b)).run Tryz.prog w = .ok (a == b) w := run_equalIn_int w d 5 .u8 _ a b Tryz.underlying5
theorem arr8 (d : Nat) (w : World) (a1 a2 a3 a4 a5 a6 a7 a8 b1 b2 b3 b4 b5 b6 b7 b8 : Int) :
    (Op.equalIn (d + 2) 78 (.agg #[.int .u8 a1, .int .u8 a2, .int .u8 a3, .int .u8 a4, .int .u8 a5, .int .u8 a6, .int .u8 a7, .int .u8 a8]) (.agg #[.int .u8 b1, .int .u8 b2, .int .u8 b3, .int .u8 b4, .int .u8 b5, .int .u8 b6, .int .u8 b7, .int .u8 b8])).run Tryz.prog w = .ok ([a1, a2, a3, a4, a5, a6, a7, a8] == [b1, b2, b3, b4, b5, b6, b7, b8]) w := by
  rw [Op.equalIn]
  simp only [Sem.run_bind, run_underlying Tryz.underlying78, Result.andThen_ok, sizeOf5, part]
  simp
  rw [show List.range' 0 8 = [0, 1, 2, 3, 4, 5, 6, 7] from rfl]
  by_cases e1 : a1 = b1
  · by_cases e2 : a2 = b2
    · by_cases e3 : a3 = b3
      · by_cases e4 : a4 = b4
        · by_cases e5 : a5 = b5
          · by_cases e6 : a6 = b6
            · by_cases e7 : a7 = b7
              · by_cases e8 : a8 = b8
                · simp [List.forIn_cons, isAgg5, equalIn5, e1, e2, e3, e4, e5, e6, e7, e8]
                · simp [List.forIn_cons, isAgg5, equalIn5, e1, e2, e3, e4, e5, e6, e7, e8]
              · simp [List.forIn_cons, isAgg5, equalIn5, e1, e2, e3, e4, e5, e6, e7]
            · simp [List.forIn_cons, isAgg5, equalIn5, e1, e2, e3, e4, e5, e6]
          · simp [List.forIn_cons, isAgg5, equalIn5, e1, e2, e3, e4, e5]
        · simp [List.forIn_cons, isAgg5, equalIn5, e1, e2, e3, e4]
      · simp [List.forIn_cons, isAgg5, equalIn5, e1, e2, e3]
    · simp [List.forIn_cons, isAgg5, equalIn5, e1, e2]
  · simp [List.forIn_cons, isAgg5, equalIn5, e1]
theorem guard8 : Tryz.prog.eqGuardType Tryz.prog.depth 78 = false := by kernel_rfl
end Go.Proofs.YtcpgklcimacngaaGreat
namespace Go.Proofs.YtcpgklcimacngaaGreat
open Go.RowKit
set_option linter.unusedVariables false
set_option linter.unusedSimpArgs false

def frontF (lns : List Ln) (ls : List Int) : Nat := lns.findIdx (fun x => x.front.ls == ls)

theorem LinesAt.cells14 {w : World} {g n cap : Nat} {xs : List LV} (h : LinesAt w (.slice (some ⟨g, 0, none⟩) n cap) xs) (i j : Nat) (hi : i < xs.length) (hj : j < 14) : w.cell? ⟨g, i * 14 + j, none⟩ = (xs[i]).cells[j]? := h.row.cell i j hi hj

set_option maxRecDepth 20000 in
set_option maxHeartbeats 4000000 in
theorem findFront_any (w : World) (v : Value) (xs : List LV) (dd : Wd) (hL : LinesAt w v xs) (hn : xs.length ≤ 100000) (hl : dd.ls.length = 8) :
    Calls Tryz.prog 72 #[v, .agg dd.cells.toArray] w fun e w' => e = .returned (.int .i64 (frontF (xs.map LV.ln) dd.ls)) ∧ Fresh w w' := by
  obtain ⟨p, ls⟩ := dd
  obtain ⟨b1, b2, b3, b4, b5, b6, b7, b8, rfl⟩ := eight hl
  have e1 : (Wd.cells ⟨p, [b1, b2, b3, b4, b5, b6, b7, b8]⟩).toArray = wdArr p b1 b2 b3 b4 b5 b6 b7 b8 := rfl
  rw [e1]
  obtain ⟨ao, cap, hv⟩ := own_form hL.own
  subst hv
  have HL := hid hL
  clear hL e1 hl
  go_enter Tryz.func72, Tryz.ntmps72
  go_wp2
  go_loopw [8] (fun x8 wr => ∃ (k : Nat), x8 = .int .i64 k ∧ k ≤ xs.length ∧ (∀ j (hj : j < k) (hx : j < xs.length), xs[j].ln.front.ls ≠ [b1, b2, b3, b4, b5, b6, b7, b8]) ∧ Fresh w wr ∧ wr.heap[w.heap.size]? = some (.cells (wdArr p b1 b2 b3 b4 b5 b6 b7 b8) 80 (0, 0)))
      (fun x _ => 100001 - (intOf x).toNat)
  case atStart => exact ⟨0, rfl, by omega, fun j hj => by omega, (Mod.refl _ w).alloc _, heap_alloc_at _ _⟩
  case round =>
    obtain ⟨k, rfl, hk, hall, hfr, hb⟩ := hrel
    have HA := hid hall
    have HME := hid (meas (B := 100001) k (by omega))
    have HB := hid hb
    have c1 := cellOf hb
    clear hall hb
    by_cases hlt : k < xs.length
    · obtain ⟨g, cap', hv'⟩ := Joins.ownsRow_form HL.out.own (by omega)
      rw [Value.slice.injEq] at hv'
      obtain ⟨rfl, _, rfl⟩ := hv'
      have HL2 := hid (HL.out.fresh hfr)
      have hcells := fun j hj => HL2.out.cells14 k j hlt hj
      have hA := HL.out.each xs[k] (by simp)
      have HFL := hid hA.front
      obtain ⟨a1, a2, a3, a4, a5, a6, a7, a8, hls⟩ := eight hA.front
      have HLS := hid hls
      have d1 : wr.cell? ⟨g, k * 14 + 1, none⟩ = some (.int .u8 a1) := by rw [hcells 1 (by omega)]; simp [LV.cells, Wd.cells, hls]
      have d2 : wr.cell? ⟨g, k * 14 + 2, none⟩ = some (.int .u8 a2) := by rw [hcells 2 (by omega)]; simp [LV.cells, Wd.cells, hls]
      have d3 : wr.cell? ⟨g, k * 14 + 3, none⟩ = some (.int .u8 a3) := by rw [hcells 3 (by omega)]; simp [LV.cells, Wd.cells, hls]
      have d4 : wr.cell? ⟨g, k * 14 + 4, none⟩ = some (.int .u8 a4) := by rw [hcells 4 (by omega)]; simp [LV.cells, Wd.cells, hls]
      have d5 : wr.cell? ⟨g, k * 14 + 5, none⟩ = some (.int .u8 a5) := by rw [hcells 5 (by omega)]; simp [LV.cells, Wd.cells, hls]
      have d6 : wr.cell? ⟨g, k * 14 + 6, none⟩ = some (.int .u8 a6) := by rw [hcells 6 (by omega)]; simp [LV.cells, Wd.cells, hls]
      have d7 : wr.cell? ⟨g, k * 14 + 7, none⟩ = some (.int .u8 a7) := by rw [hcells 7 (by omega)]; simp [LV.cells, Wd.cells, hls]
      have d8 : wr.cell? ⟨g, k * 14 + 8, none⟩ = some (.int .u8 a8) := by rw [hcells 8 (by omega)]; simp [LV.cells, Wd.cells, hls]
      obtain ⟨qq, hqq, q8⟩ : ∃ qq, qq = ([a1, a2, a3, a4, a5, a6, a7, a8] == [b1, b2, b3, b4, b5, b6, b7, b8]) ∧ ∀ w, (Op.equalIn 10000 78 (.agg #[.int .u8 a1, .int .u8 a2, .int .u8 a3, .int .u8 a4, .int .u8 a5, .int .u8 a6, .int .u8 a7, .int .u8 a8]) (.agg #[.int .u8 b1, .int .u8 b2, .int .u8 b3, .int .u8 b4, .int .u8 b5, .int .u8 b6, .int .u8 b7, .int .u8 b8])).run Tryz.prog w = .ok qq w := ⟨_, rfl, fun w => arr8 9998 w a1 a2 a3 a4 a5 a6 a7 a8 b1 b2 b3 b4 b5 b6 b7 b8⟩
      have HQ := hid hqq
      clear hqq
      have g8 := guard8
      clear hcells hA hls
      go_wp2
      go_quiet (fail)
      cases qq
      · clear q8 g8
        go_wp2
        go_roundw
        case rel =>
          refine ⟨k + 1, by go_num, by omega, ?_, Mod.of_heap hfr rfl rfl rfl rfl, HB.out⟩
          intro j hj hx
          by_cases e : j = k
          · subst e; rw [HLS.out]; intro e2; have := HQ.out; rw [e2] at this; simp at this
          · exact HA.out j (by omega) hx
        case measure => exact HME.out
      · clear q8 g8
        go_wp2
        go_ret
        refine ⟨ret_int ?_, Mod.of_heap hfr rfl rfl rfl rfl⟩
        have : frontF (xs.map LV.ln) [b1, b2, b3, b4, b5, b6, b7, b8] = k := by
          unfold frontF
          rw [List.findIdx_eq (by simpa using hlt)]
          refine ⟨?_, ?_⟩
          · simp only [List.getElem_map, HLS.out]; exact HQ.out.symm
          · intro j hj; simp only [List.getElem_map]; simpa using HA.out j hj (by omega)
        rw [this]
    · have hk2 : k = xs.length := by omega
      subst hk2
      go_wp2
      go_ret
      refine ⟨ret_int ?_, hfr⟩
      have : frontF (xs.map LV.ln) [b1, b2, b3, b4, b5, b6, b7, b8] = xs.length := by
        unfold frontF
        have h1 : (xs.map LV.ln).length = xs.length := by simp
        rw [← h1]
        apply List.findIdx_eq_length_of_false
        intro x hx
        simp only [List.mem_map] at hx
        obtain ⟨y, hy, rfl⟩ := hx
        obtain ⟨j, hj, rfl⟩ := List.getElem_of_mem hy
        simpa using HA.out j hj hj
      rw [this]
end Go.Proofs.YtcpgklcimacngaaGreat
namespace Go.Proofs.YtcpgklcimacngaaGreat
open Go.RowKit
set_option linter.unusedVariables false
set_option linter.unusedSimpArgs false

theorem LV.at0 (x : LV) : x.cells.toArray[0]? = some (.int .i64 x.ln.front.place) := by simp [LV.cells, Wd.cells]
theorem LV.at9 {x : LV} (h : x.ln.front.ls.length = 8) : x.cells.toArray[9]? = some (.bool x.ln.skip) := by
  obtain ⟨a, b, c, d, e, f, g, k, hl⟩ := eight h; simp [LV.cells, Wd.cells, hl]
theorem LV.at13 {x : LV} (h : x.ln.front.ls.length = 8) : x.cells.toArray[13]? = some x.vs := by
  obtain ⟨a, b, c, d, e, f, g, k, hl⟩ := eight h; simp [LV.cells, Wd.cells, hl]
theorem LV.at10 {x : LV} (h : x.ln.front.ls.length = 8) : x.cells.toArray[10]? = some x.vn ∧ x.cells.toArray[11]? = some (.int .i64 x.ln.st) ∧ x.cells.toArray[12]? = some (.int .i64 x.ln.en) := by
  obtain ⟨a, b, c, d, e, f, g, k, hl⟩ := eight h; simp [LV.cells, Wd.cells, hl]
theorem LinesAt.frontRange {w : World} {g n cap : Nat} {xs : List LV} (h : LinesAt w (.slice (some ⟨g, 0, none⟩) n cap) xs) (i : Nat) (hi : i < xs.length) : w.rangeAt g (i * 14) (xs[i]).ln.front.cells := by
  intro j v hj
  refine h.row.range i hi j v ?_
  unfold LV.cells
  rw [List.getElem?_append_left (List.getElem?_eq_some_iff.1 hj).1]; exact hj
theorem LinesAt.cell9 {w : World} {g n cap : Nat} {xs : List LV} (h : LinesAt w (.slice (some ⟨g, 0, none⟩) n cap) xs) (i : Nat) (hi : i < xs.length) : w.cell? ⟨g, i * 14 + 9, none⟩ = some (.bool (xs[i]).ln.skip) := by
  rw [h.cells14 i 9 hi (by omega)]
  have := LV.at9 (h.each xs[i] (by simp)).front; simpa using this

def aheadB (lns : List Ln) (i : Nat) : Bool := match lns[i]? with | some x => decide (frontF lns x.front.ls < i) | none => false
def symB (lns : List Ln) (d : Wd) : Bool := match lns[frontF lns d.ls]? with | some x => !x.skip | none => false
theorem frontF_le (lns : List Ln) (ls : List Int) : frontF lns ls ≤ lns.length := by unfold frontF; exact List.findIdx_le_length

set_option maxRecDepth 20000 in
set_option maxHeartbeats 4000000 in
theorem ahead_any (w : World) (v : Value) (xs : List LV) (i : Nat) (hL : LinesAt w v xs) (hn : xs.length ≤ 100000) (hi : i < xs.length) :
    Calls Tryz.prog 51 #[v, .int .i64 i] w fun e w' => e = .returned (.bool (aheadB (xs.map LV.ln) i)) ∧ Fresh w w' := by
  obtain ⟨g, cap, hv⟩ := Joins.ownsRow_form hL.own (by omega)
  subst hv
  have hA := hL.each xs[i] (by simp)
  have HF := hid hA.front
  have HL := hid hL
  have RG := hid (hL.frontRange i hi)
  have e1 : aheadB (xs.map LV.ln) i = decide (frontF (xs.map LV.ln) xs[i].ln.front.ls < i) := by unfold aheadB; simp [hi]
  rw [e1]
  have hfl := frontF_le (xs.map LV.ln) xs[i].ln.front.ls
  simp only [List.length_map] at hfl
  clear hA hL e1
  go_enter Tryz.func51, Tryz.ntmps51
  go_wp2_with (first
    | (go_at_call 72; refine (findFront_any _ _ xs _ HL.out hn HF.out).mono ?_; rintro e w1 ⟨rfl, hf⟩)
    | (refine wpList_load_mid rfl 80 _ rfl g (i * 14) rfl xs[i].ln.front.cells _ RG.out Tryz.underlying80 rfl (by rw [Wd.cells_len HF.out]; exact szWord) ?_))
  go_ret
  exact ⟨ret_bool (by simp), hf⟩

set_option maxRecDepth 20000 in
set_option maxHeartbeats 4000000 in
theorem isSymbol_any (w : World) (v : Value) (xs : List LV) (dd : Wd) (hL : LinesAt w v xs) (hn : xs.length ≤ 100000) (hl : dd.ls.length = 8) :
    Calls Tryz.prog 52 #[v, .agg dd.cells.toArray] w fun e w' => e = .returned (.bool (symB (xs.map LV.ln) dd)) ∧ Fresh w w' := by
  obtain ⟨ao, cap, hv⟩ := own_form hL.own
  subst hv
  have HL := hid hL
  have HLn := hid hl
  have hfl := frontF_le (xs.map LV.ln) dd.ls
  simp only [List.length_map] at hfl
  have m1 : Fresh w (w.alloc (.cells dd.cells.toArray 80 (0, 0))) := (Mod.refl _ w).alloc _
  have HL1 := hid (hL.fresh m1)
  clear hL hl
  generalize hff : frontF (xs.map LV.ln) dd.ls = ff at hfl
  have HFF := hid hff
  clear hff
  by_cases hlt : ff < xs.length
  · obtain ⟨g, cap', hv'⟩ := Joins.ownsRow_form HL.out.own (by omega)
    rw [Value.slice.injEq] at hv'
    obtain ⟨rfl, _, rfl⟩ := hv'
    have e1 : symB (xs.map LV.ln) dd = !xs[ff].ln.skip := by unfold symB; rw [HFF.out]; simp [hlt]
    rw [e1]
    clear e1
    go_enter Tryz.func52, Tryz.ntmps52
    go_wp2_with (first
      | (go_at_call 72; refine (findFront_any _ _ xs _ HL1.out hn HLn.out).mono ?_; rw [HFF.out]; rintro e w1 ⟨rfl, hf⟩; have c9 := (HL1.out.fresh hf).cell9 ff hlt)
      | (refine wpList_load_row rfl 80 _ rfl w.heap.size rfl _ _ _ _ (heap_alloc_at _ _) Tryz.underlying80 rfl (szWordOf HLn.out) ?_))
    go_ret
    exact ⟨rfl, m1.trans hf⟩
  · have hfe : ff = xs.length := by omega
    have e1 : symB (xs.map LV.ln) dd = false := by unfold symB; rw [HFF.out]; simp [hfe]
    rw [e1]
    have HFE := hid hfe
    clear e1 hfe
    go_enter Tryz.func52, Tryz.ntmps52
    go_wp2_with (first
      | (go_at_call 72; refine (findFront_any _ _ xs _ HL1.out hn HLn.out).mono ?_; rw [HFF.out]; rintro e w1 ⟨rfl, hf⟩)
      | (refine wpList_load_row rfl 80 _ rfl w.heap.size rfl _ _ _ _ (heap_alloc_at _ _) Tryz.underlying80 rfl (szWordOf HLn.out) ?_))
    go_ret
    exact ⟨rfl, m1.trans hf⟩
end Go.Proofs.YtcpgklcimacngaaGreat
