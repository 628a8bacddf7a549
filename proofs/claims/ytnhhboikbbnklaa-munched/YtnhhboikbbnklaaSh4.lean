import Derived.Test.YtnhhboikbbnklaaSh3
namespace Go.Proofs.Ytnhhboikbbnklaa
open Go.RowKit
set_option linter.unusedVariables false
set_option linter.unusedSimpArgs false

/-- the line, behind it, whether it is one -/
def rRule (s : ByteArray) (i : Int) (d : Wd) : Ln × Int × Bool :=
  if atB s i ≠ 61 ∧ atB s i ≠ 126 then (zeroLn, i, false)
  else if (rRead s (i + 1)).ok = false then (zeroLn, (rRead s (i + 1)).next, false)
  else if atB s (rRead s (i + 1)).next ≠ 10 then (zeroLn, (rRead s (i + 1)).next, false)
  else (⟨d, atB s i == 126, (rRead s (i + 1)).ns, (rRead s (i + 1)).st, (rRead s (i + 1)).en, []⟩, (rRead s (i + 1)).next + 1, true)

/-- What reading a line leaves. -/
def LineRet (w : World) (r : Ln × Int × Bool) (e : Ending) (w' : World) : Prop :=
  ∃ x : LV, x.ln = r.1 ∧ e = .returned (.tuple #[.agg x.cells.toArray, .int .i64 r.2.1, .bool r.2.2]) ∧ Fresh w w' ∧ x.At w' ∧ (∀ k, x.vn.ownBlock = some k → w.heap.size ≤ k) ∧ (∀ k, x.vs.ownBlock = some k → w.heap.size ≤ k)
theorem lineRet_zero {w w' : World} {i : Int} {e : Ending} (he : e = .returned (.tuple #[.agg zeroLV.cells.toArray, .int .i64 i, .bool false])) (hf : Fresh w w') : LineRet w (zeroLn, i, false) e w' :=
  ⟨zeroLV, rfl, he, hf, zeroLV_at _, by simp [zeroLV, Value.ownBlock], by simp [zeroLV, Value.ownBlock]⟩

theorem good_read (s : ByteArray) (i : Int) (h0 : 0 ≤ i) (h1 : i ≤ s.size) : Good s i 0 (rRead s i) := good_chK s 6 i [] h0 h1

abbrev wdArr (p a b c d e f g k : Int) : Array Value := #[.int .i64 p, .int .u8 a, .int .u8 b, .int .u8 c, .int .u8 d, .int .u8 e, .int .u8 f, .int .u8 g, .int .u8 k]

set_option maxRecDepth 20000 in
set_option maxHeartbeats 2000000 in
theorem readRule_any (s : ByteArray) (i : Int) (dd : Wd) (w : World) (hs : s.size ≤ 1000) (h0 : 0 ≤ i) (h1 : i ≤ 2000) (hl : dd.ls.length = 8) :
    Calls Try.prog 72 #[.string s, .int .i64 i, .agg dd.cells.toArray] w fun e w' => LineRet w (rRule s i dd) e w' := by
  obtain ⟨p, ls⟩ := dd
  obtain ⟨a, b, c, d, e, f, g, k, rfl⟩ := eight hl
  have e1 : (Wd.cells ⟨p, [a, b, c, d, e, f, g, k]⟩).toArray = wdArr p a b c d e f g k := rfl
  rw [e1]
  generalize hR : rRule s i ⟨p, [a, b, c, d, e, f, g, k]⟩ = R
  unfold rRule at hR
  clear e1 hl
  by_cases hc : atB s i ≠ 61 ∧ atB s i ≠ 126
  · rw [if_pos hc] at hR
    have c1 : (atB s i != 61) = true := by simpa using hc.1
    have c2 : (atB s i != 126) = true := by simpa using hc.2
    have HR := hid hR
    clear hR hc
    go_enter Try.func72, Try.ntmps72
    go_wp2_with (first
      | (go_at_call 49; refine (at_any _ _ _ (by unfold maxLen; omega)).mono ?_; rintro e w' ⟨rfl, hw⟩; rw [hw]; clear hw))
    refine bodyPost_ret (results_row2 rfl _ _ (w.heap.size + 1) 75 zeroLV.cells.toArray (0, 0) _ rfl (heap_alloc2_new _ _ _) Try.underlying75 rfl szLine) rfl ?_
    rw [← HR.out]
    exact lineRet_zero rfl (((Mod.refl _ w).alloc _).alloc _)
  · rw [if_neg hc] at hR
    have hc' : (atB s i != 61) = false ∨ ((atB s i != 61) = true ∧ (atB s i != 126) = false) := by
      by_cases h : atB s i = 61
      · left; simpa using h
      · right; exact ⟨by simpa using h, by simp; omega⟩
    have hlt := atB_lt (s := s) (i := i) (by omega)
    have hG := good_read s (i + 1) (by omega) (by omega)
    obtain ⟨g1, g2, g3, g4⟩ := hG
    cases hok : (rRead s (i + 1)).ok
    · rw [if_pos hok] at hR
      have HR := hid hR
      clear hR hc g3
      have RB := hid (fun w => read_bad s (i + 1) w hs (by omega) (by omega) hok)
      generalize rRead s (i + 1) = pp at g1 g2 g4 HR RB
      rcases hc' with c1 | ⟨c1, c2⟩
      all_goals
        go_enter Try.func72, Try.ntmps72
        go_wp2_with (first
          | (go_at_call 49; refine (at_any _ _ _ (by unfold maxLen; omega)).mono ?_; rintro e w' ⟨rfl, hw⟩; rw [hw]; clear hw)
          | (go_at_call 83; refine (RB.out _).mono ?_; rintro e w1 ⟨rfl, hf1⟩; have hz : w.heap.size + 1 < w1.heap.size := (by have := hf1.size; simp at this; omega))
          | (refine wpList_store_row rfl 75 _ _ rfl (w.heap.size + 1) zeroLV.cells.toArray rfl rfl _ _ (heap_alloc_prev (hf1.at (heap_alloc2_new _ _ _) (fun x => x))) szLine rfl (zeroLV_at w).one ?_))
        refine bodyPost_ret (results_row2 rfl _ _ (w.heap.size + 1) 75 zeroLV.cells.toArray (0, 0) _ rfl (setRow_heap _ _ _ _ _ _ (heap_alloc_prev (hf1.at (heap_alloc2_new _ _ _) (fun x => x)))) Try.underlying75 rfl szLine) rfl ?_
        rw [← HR.out]
        exact lineRet_zero rfl (((((((Mod.refl _ w).alloc _).alloc _).trans hf1).alloc _)).setRow (by simp) _)
    · rw [if_neg (by simp [hok])] at hR
      have g5 := g3 hok
      have RG := hid (fun w => read_good s (i + 1) w hs (by omega) (by omega) hok)
      generalize rRead s (i + 1) = pp at g1 g2 g4 g5 hR RG
      by_cases hnl : atB s pp.next = 10
      · rw [if_neg (by simp [hnl])] at hR
        have HR := hid hR
        have c3 : (atB s pp.next != 10) = false := by simp [hnl]
        clear hR hc g3 hok hnl
        rcases hc' with c1 | ⟨c1, c2⟩
        all_goals
          go_enter Try.func72, Try.ntmps72
          go_wp2_with (first
            | (go_at_call 49; refine (at_any _ _ _ (by unfold maxLen; omega)).mono ?_; rintro e w' ⟨rfl, hw⟩; rw [hw]; clear hw)
            | (go_at_call 83; refine (RG.out _).mono ?_; rintro e w1 ⟨v, rfl, hf1, hN1, hk1⟩; obtain ⟨ao, cap, hv⟩ := own_form hN1.own; subst hv; have hz : w.heap.size + 1 < w1.heap.size := (by have := hf1.size; simp at this; omega); have H0 := hid (hf1.at (heap_alloc2_old _ _ _) (fun x => x)))
            | (refine wpList_load_row rfl 69 _ rfl w.heap.size rfl _ _ _ _ (heap_alloc_prev H0.out) Try.underlying69 rfl szWord ?_)
            | (refine wpList_store_row rfl 75 _ _ rfl (w.heap.size + 1) (LV.cells ⟨⟨⟨p, [a, b, c, d, e, f, g, k]⟩, atB s i == 126, pp.ns, pp.st, pp.en, []⟩, .slice ao pp.ns.length cap, .slice none 0 0⟩).toArray rfl rfl _ _ (heap_alloc_prev (hf1.at (heap_alloc2_new _ _ _) (fun x => x))) szLine rfl ?_ ?_))
          case refine_1 => 
            refine LV.At.one (w := w1) ⟨hN1, RowAt.nil _ _ _ _, rfl, ?_⟩
            show pp.ns.length ≤ 5000
            simp at g4; omega
          refine bodyPost_ret (results_row2 rfl _ _ (w.heap.size + 1) 75 _ (0, 0) _ rfl (setRow_heap _ _ _ _ _ _ (heap_alloc_prev (hf1.at (heap_alloc2_new _ _ _) (fun x => x)))) Try.underlying75 rfl szLine) rfl ?_
          rw [← HR.out]
          have m1 : Fresh w1 ((w1.alloc (.cells #[.slice ao pp.ns.length cap, .int .i64 pp.st, .int .i64 pp.en] 72 (0, 0)))) := (Mod.refl _ w1).alloc _
          have hk1' : ∀ k, (Value.slice ao pp.ns.length cap).ownBlock = some k → w.heap.size + 2 ≤ k := fun k hk => by have := hk1 k hk; simpa using this
          refine ⟨⟨⟨⟨p, [a, b, c, d, e, f, g, k]⟩, atB s i == 126, pp.ns, pp.st, pp.en, []⟩, .slice ao pp.ns.length cap, .slice none 0 0⟩, rfl, rfl, (((((((Mod.refl _ w).alloc _).alloc _).trans hf1).alloc _)).setRow (by simp) _), ⟨?_, RowAt.nil _ _ _ _, rfl, by show pp.ns.length ≤ 5000; simp at g4; omega⟩, fun k hk => by have := hk1' k hk; omega, by simp [Value.ownBlock]⟩
          exact (hN1.fresh m1).kept (S := fun k => k = w.heap.size + 1) (Mod.setRow (S := fun k => k = w.heap.size + 1) (Mod.refl _ _) (fun _ => rfl) _) (fun k hk e => by have := hk1' k hk; omega)
      · rw [if_pos hnl] at hR
        have HR := hid hR
        have c3 : (atB s pp.next != 10) = true := by simpa using hnl
        clear hR hc g3 hok hnl
        rcases hc' with c1 | ⟨c1, c2⟩
        all_goals
          go_enter Try.func72, Try.ntmps72
          go_wp2_with (first
            | (go_at_call 49; refine (at_any _ _ _ (by unfold maxLen; omega)).mono ?_; rintro e w' ⟨rfl, hw⟩; rw [hw]; clear hw)
            | (go_at_call 83; refine (RG.out _).mono ?_; rintro e w1 ⟨v, rfl, hf1, hN1, hk1⟩; obtain ⟨ao, cap, hv⟩ := own_form hN1.own; subst hv; have hz : w.heap.size + 1 < w1.heap.size := (by have := hf1.size; simp at this; omega))
            | (refine wpList_store_row rfl 75 _ _ rfl (w.heap.size + 1) zeroLV.cells.toArray rfl rfl _ _ (heap_alloc_prev (hf1.at (heap_alloc2_new _ _ _) (fun x => x))) szLine rfl (zeroLV_at w).one ?_))
          refine bodyPost_ret (results_row2 rfl _ _ (w.heap.size + 1) 75 zeroLV.cells.toArray (0, 0) _ rfl (setRow_heap _ _ _ _ _ _ (heap_alloc_prev (hf1.at (heap_alloc2_new _ _ _) (fun x => x)))) Try.underlying75 rfl szLine) rfl ?_
          rw [← HR.out]
          exact lineRet_zero rfl (((((((Mod.refl _ w).alloc _).alloc _).trans hf1).alloc _)).setRow (by simp) _)
end Go.Proofs.Ytnhhboikbbnklaa
