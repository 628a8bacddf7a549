import Derived.Test.YtnhhboikbbnklaaSh1
namespace Go.Proofs.Ytnhhboikbbnklaa
open Go.RowKit
set_option linter.unusedVariables false
set_option linter.unusedSimpArgs false

abbrev wordRet (r : Wd × Int × Bool) : Value := .tuple #[.agg r.1.cells.toArray, .int .i64 r.2.1, .bool r.2.2]
theorem wd_set (p : Int) (ls : List Int) (n : Nat) (c : Int) : (Wd.cells ⟨p, ls⟩).toArray.setIfInBounds (n + 1) (.int .u8 c) = (Wd.cells ⟨p, ls.set n c⟩).toArray := by
  simp [Wd.cells, List.map_set]
theorem wd_at (p : Int) (ls : List Int) (n : Nat) (h : n < ls.length) : (Wd.cells ⟨p, ls⟩).toArray[n + 1]? = some (.int .u8 (ls.getD n 0)) := by
  simp [Wd.cells, h]
theorem small_bd {c : Int} (h : isSmallB c = true) : 97 ≤ c ∧ c ≤ 122 := by simp [isSmallB] at h; omega
theorem cap_bd {c : Int} (h : isCapB c = true) : 65 ≤ c ∧ c ≤ 90 := by simp [isCapB] at h; omega

set_option maxRecDepth 20000 in
set_option maxHeartbeats 2000000 in
theorem readWord_no (s : ByteArray) (i : Int) (w : World) (hs : s.size ≤ 1000) (h0 : 0 ≤ i) (h1 : i ≤ 2000) (hc : (!isSmallB (atB s i) && !isCapB (atB s i)) = true) :
    Calls Try.prog 69 #[.string s, .int .i64 i] w fun e w' => e = .returned (wordRet (rWord s i)) ∧ Fresh w w' := by
  have e1 : rWord s i = (⟨0, zero8⟩, i, false) := by unfold rWord; rw [if_pos hc]
  rw [e1]
  simp only [Bool.and_eq_true, Bool.not_eq_true'] at hc
  obtain ⟨c1, c2⟩ := hc
  clear e1
  go_enter Try.func69, Try.ntmps69
  go_wp2_with (first
    | (go_at_call 49; refine (at_any _ _ _ (by unfold maxLen; omega)).mono ?_; rintro e w' ⟨rfl, hw⟩; rw [hw]; clear hw)
    | (go_at_call 81; refine (isSmall_any _ _).mono ?_; rw [c1]; rintro e w' ⟨rfl, hw⟩; rw [hw]; clear hw)
    | (go_at_call 82; refine (isCap_any _ _).mono ?_; rw [c2]; rintro e w' ⟨rfl, hw⟩; rw [hw]; clear hw))
  refine bodyPost_ret (results_row2 rfl _ _ w.heap.size 69 (Wd.cells ⟨0, zero8⟩).toArray (0, 0) _ rfl ?_ Try.underlying69 rfl szWord) rfl ⟨rfl, ?_⟩
  · exact heap_alloc2_old _ _ _
  · exact ((Mod.refl _ w).alloc _).alloc _

set_option maxRecDepth 20000 in
set_option maxHeartbeats 2000000 in
theorem readWord_yes (s : ByteArray) (i : Int) (w : World) (hs : s.size ≤ 1000) (h0 : 0 ≤ i) (h1 : i ≤ 2000) (hc : (!isSmallB (atB s i) && !isCapB (atB s i)) = false) :
    Calls Try.prog 69 #[.string s, .int .i64 i] w fun e w' => e = .returned (wordRet (rWord s i)) ∧ Fresh w w' := by
  have e1 : rWord s i = (⟨i, (rWordL s i 9 1 (zero8.set 0 (atB s i))).1⟩, (rWordL s i 9 1 (zero8.set 0 (atB s i))).2, true) := by unfold rWord; rw [if_neg (by simp [hc])]
  rw [e1]
  have hlen := rWordL_len s i 9 1 (zero8.set 0 (atB s i)) rfl
  generalize hR : rWordL s i 9 1 (zero8.set 0 (atB s i)) = R at hlen
  have HR := hid hR
  have HLen := hid hlen
  have hcb : 0 ≤ atB s i ∧ atB s i ≤ 255 := by
    have := atB_bd s i
    refine ⟨?_, by omega⟩
    simp only [Bool.and_eq_false_iff, Bool.not_eq_false'] at hc
    rcases hc with h | h
    · have := small_bd h; omega
    · have := cap_bd h; omega
  obtain ⟨cb0, cb1⟩ := hcb
  have hc' : isSmallB (atB s i) = true ∨ isSmallB (atB s i) = false ∧ isCapB (atB s i) = true := by
    simp only [Bool.and_eq_false_iff, Bool.not_eq_false'] at hc
    cases h : isSmallB (atB s i)
    · right; rcases hc with h2 | h2
      · rw [h] at h2; cases h2
      · exact ⟨rfl, h2⟩
    · exact .inl rfl
  clear e1 hR hc hlen
  rcases hc' with c1 | ⟨c1, c2⟩
  all_goals
    go_enter Try.func69, Try.ntmps69
    go_wp2_with (first
      | (go_at_call 49; refine (at_any _ _ _ (by unfold maxLen; omega)).mono ?_; rintro e w' ⟨rfl, hw⟩; rw [hw]; clear hw)
      | (go_at_call 81; refine (isSmall_any _ _).mono ?_; rw [c1]; rintro e w' ⟨rfl, hw⟩; rw [hw]; clear hw)
      | (go_at_call 82; refine (isCap_any _ _).mono ?_; rw [c2]; rintro e w' ⟨rfl, hw⟩; rw [hw]; clear hw))
    go_loopw [8, 9] (fun x8 x9 wr => ∃ (f n : Nat) (ls : List Int) (c : Int), x8 = .int .i64 c ∧ x9 = .int .i64 n ∧ rWordL s i f n ls = R ∧ ls.length = 8 ∧ n ≤ 8 ∧ 10 ≤ f + n ∧
        wr.heap[w.heap.size]? = some (.cells (Wd.cells ⟨0, zero8⟩).toArray 69 (0, 0)) ∧ wr.heap[w.heap.size + 1]? = some (.cells (Wd.cells ⟨i, ls⟩).toArray 69 (0, 0)) ∧ Fresh w wr)
        (fun _ x _ => 9 - (intOf x).toNat)
    case atStart =>
      refine ⟨9, 1, zero8.set 0 (atB s i), _, rfl, rfl, HR.out, rfl, by omega, by omega, heap_alloc2_old _ _ _, ?_, ((Mod.refl _ w).alloc _).alloc _⟩
      exact heap_alloc2_new _ _ _
    case round =>
      obtain ⟨f, n, ls, c, rfl, rfl, hR, hl, hn8, hfu, hb0, hb1, hfr⟩ := hrel
      obtain ⟨f, rfl⟩ : ∃ g, f = g + 1 := ⟨f - 1, by omega⟩
      unfold rWordL at hR
      have HME := hid (meas (B := 9) n (by omega))
      have HB0 := hid hb0
      have HB1 := hid hb1
      have HL := hid hl
      have hab := atB_bd s (i + n)
      obtain ⟨hab0, hab1⟩ := hab
      clear hb0 hb1 hl
      by_cases h8 : n < 8
      · rw [if_pos h8] at hR
        cases hsm : isSmallB (atB s (i + n))
        · rw [hsm] at hR
          simp only [Bool.false_eq_true, if_false] at hR
          have HRR := hid hR
          clear hR
          go_wp2_with (first
            | (go_at_call 49; refine (at_any _ _ _ (by unfold maxLen; omega)).mono ?_; rintro e w' ⟨rfl, hw⟩; rw [hw]; clear hw)
            | (go_at_call 81; refine (isSmall_any _ _).mono ?_; rw [hsm]; rintro e w' ⟨rfl, hw⟩; rw [hw]; clear hw)
            | (refine wpList_load_row rfl 69 _ rfl (w.heap.size + 1) rfl _ _ _ _ HB1.out Try.underlying69 rfl (szWordOf HL.out) ?_)
            | (refine wpList_store_row rfl 69 _ _ rfl w.heap.size _ rfl rfl _ _ HB0.out (szWordOf HL.out) (sameSize rfl (Wd.size HL.out)) (Wd.one _) ?_))
          refine bodyPost_ret (results_row2 rfl _ _ w.heap.size 69 _ (0, 0) _ rfl (setRow_heap _ _ _ _ _ _ HB0.out) Try.underlying69 rfl (szWordOf HL.out)) rfl ⟨?_, hfr.setRow (by simp) _⟩
          rw [← HRR.out]; rfl
        · rw [hsm] at hR
          simp only [if_true] at hR
          have HRR := hid hR
          have hsb := small_bd hsm
          have k1 : wr.cell? ⟨w.heap.size + 1, n + 1, none⟩ = some (.int .u8 (ls.getD n 0)) := by rw [cellOf HB1.out, wd_at _ _ _ (by rw [HL.out]; omega)]
          have k1' : wr.cell? ⟨w.heap.size + 1, 1 + n, none⟩ = some (.int .u8 (ls.getD n 0)) := by rw [Nat.add_comm 1 n]; exact k1
          have k2 := frozenOf HB1.out
          clear hR
          go_wp2_with (first
            | (go_at_call 49; refine (at_any _ _ _ (by unfold maxLen; omega)).mono ?_; rintro e w' ⟨rfl, hw⟩; rw [hw]; clear hw)
            | (go_at_call 81; refine (isSmall_any _ _).mono ?_; rw [hsm]; rintro e w' ⟨rfl, hw⟩; rw [hw]; clear hw))
          go_roundw
          case rel =>
            refine ⟨f, n + 1, _, _, rfl, by go_num, HRR.out, by simpa using HL.out, by omega, by omega, ?_, ?_, hfr.setCell (by simp) _⟩
            · exact heap_setCell_prev HB0.out (by simp)
            · rw [Proofs.Ytnhhboikbbnklaa.heap_setCell_same HB1.out]
              first
                | rw [wd_set]
                | rw [Nat.add_comm 1 n, wd_set]
          case measure => exact HME.out
      · rw [if_neg h8] at hR
        have hn : n = 8 := by omega
        subst hn
        have HRR := hid hR
        clear hR
        go_wp2_with (first
          | (refine wpList_load_row rfl 69 _ rfl (w.heap.size + 1) rfl _ _ _ _ HB1.out Try.underlying69 rfl (szWordOf HL.out) ?_)
          | (refine wpList_store_row rfl 69 _ _ rfl w.heap.size _ rfl rfl _ _ HB0.out (szWordOf HL.out) (sameSize rfl (Wd.size HL.out)) (Wd.one _) ?_))
        refine bodyPost_ret (results_row2 rfl _ _ w.heap.size 69 _ (0, 0) _ rfl (setRow_heap _ _ _ _ _ _ HB0.out) Try.underlying69 rfl (szWordOf HL.out)) rfl ⟨?_, hfr.setRow (by simp) _⟩
        rw [← HRR.out]; rfl

theorem readWord_any (s : ByteArray) (i : Int) (w : World) (hs : s.size ≤ 1000) (h0 : 0 ≤ i) (h1 : i ≤ 2000) :
    Calls Try.prog 69 #[.string s, .int .i64 i] w fun e w' => e = .returned (wordRet (rWord s i)) ∧ Fresh w w' := by
  cases hc : (!isSmallB (atB s i) && !isCapB (atB s i))
  · exact readWord_yes s i w hs h0 h1 hc
  · exact readWord_no s i w hs h0 h1 hc
end Go.Proofs.Ytnhhboikbbnklaa
