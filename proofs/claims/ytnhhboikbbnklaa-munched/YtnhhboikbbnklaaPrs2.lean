import Derived.Test.YtnhhboikbbnklaaPrs1
namespace Go.Proofs.Ytnhhboikbbnklaa
open Go.RowKit
set_option linter.unusedVariables false
set_option linter.unusedSimpArgs false

set_option maxHeartbeats 1000000 in
theorem readAtom_ok (s : ByteArray) (d : Int) (g : Int → List Node → PR) (hs : s.size ≤ 1000) (hd0 : 0 ≤ d) (hd1 : d ≤ 100) (hg : ConG 106 s d g) :
    Con 103 s d (rAtom g s) := by
  intro i ns w bb v h0 h1 hn h
  have H : Hid _ := h
  have hN := fun k (hk : w.heap.size ≤ k) => h.not_foot hk
  have HN : Hid _ := hN
  clear h hN
  by_cases hc : atB s i = 40
  · have hlt := atB_lt (s := s) (i := i) (by omega)
    have e1 : rAtom g s i ns = g i ns := by unfold rAtom; rw [if_pos hc]
    rw [e1]
    have c1 : (atB s i == 40) = true := by simpa using hc
    clear e1 hc
    go_enter Try.func103, Try.ntmps103
    go_wp2_with (first
      | (go_at_call 49; refine (at_any _ _ _ (by unfold maxLen; omega)).mono ?_; rintro e w' ⟨rfl, hw⟩; rw [hw]; clear hw)
      | (go_at_call 106; refine (hg i ns _ bb v (by omega) (by omega) hn (H.out.fresh ((Mod.refl _ w).alloc _))).mono ?_; rintro e w1 ⟨rfl, v1, h1⟩; have k3 := h1.loc (heap_alloc_at _ _) (HN.out _ (by omega)); have k4 := frozenOf (h1.mod.at (heap_alloc_at _ _) (HN.out _ (by omega)))))
    have hf := h1.nf (k := w.heap.size) (by simp) (HN.out _ (by omega))
    refine bodyPost_ret (results_row2 rfl _ _ w.heap.size 148 #[.int .i64 (g i ns).st, .int .i64 (g i ns).en] (0, 0) _ rfl ?_ Try.underlying148 rfl szFrag) rfl ⟨rfl, v1, ?_⟩
    · rw [Proofs.Ytnhhboikbbnklaa.heap_setCell_same (Proofs.Ytnhhboikbbnklaa.heap_setCell_same (h1.mod.at (heap_alloc_at _ _) (HN.out _ (by omega))) 0 _) 1 _]; rfl
    · exact ((BNext.ahead ((Mod.refl _ w).alloc _) h1).put (by simp) hf _).put (by simp) hf _
  · have c1 : (atB s i == 40) = false := by simpa using hc
    have hl := rSet_len s i
    obtain ⟨b1, b2, b3⟩ := rSet_bd s i h0
    by_cases hok : (rSet s i).2.2 = false
    · have e1 : rAtom g s i ns = ⟨0, 0, (rSet s i).2.1, false, ns⟩ := by unfold rAtom; rw [if_neg hc, if_pos hok]
      rw [e1]
      have c2 : (!(rSet s i).2.2) = true := by simp [hok]
      have HL : Hid _ := hl
      clear e1 hc hok hg b3 hl
      go_enter Try.func103, Try.ntmps103
      go_wp2_with (first
        | (go_at_call 49; refine (at_any _ _ _ (by unfold maxLen; omega)).mono ?_; rintro e w' ⟨rfl, hw⟩; rw [hw]; clear hw)
        | (go_at_call 107; refine (readSet_any _ _ _ (by omega) (by omega) (by omega)).mono ?_; rintro e w1 ⟨rfl, hf1⟩; have hz : w.heap.size < w1.heap.size := (by have := hf1.size; simp at this; omega); have k3 := cellOf (hf1.at (heap_alloc_at _ _) (fun x => x)); have k4 := frozenOf (hf1.at (heap_alloc_at _ _) (fun x => x)))
        | (refine wpList_store_new rfl 130 _ _ rfl w1 _ _ _ rfl rfl rfl (szOf _ HL.out) (eq4 rfl (u4 HL.out)) (u64s_one _) ?_))
      have hb := hf1.at (heap_alloc_at _ _) (fun x => x)
      refine bodyPost_ret (results_row2 rfl _ _ w.heap.size 148 #[.int .i64 0, .int .i64 0] (0, 0) _ rfl ?_ Try.underlying148 rfl szFrag) rfl ⟨rfl, v, ?_⟩
      · refine heap_alloc_prev ?_
        rw [Proofs.Ytnhhboikbbnklaa.heap_setCell_same (Proofs.Ytnhhboikbbnklaa.heap_setCell_same hb 0 _) 1 _]; rfl
      · have m1 : Fresh w w1 := ((Mod.refl _ w).alloc _).trans hf1
        exact ((((BNext.ahead m1 (BNext.refl (H.out.fresh m1))).put (p := ⟨w.heap.size, 0, none⟩) (by simp) (HN.out _ (by simp)) _).put (p := ⟨w.heap.size, 1, none⟩) (by simp) (HN.out _ (by simp)) _).alloc _)
    · have e1 : rAtom g s i ns = ⟨ns.length + 1, ns.length, (rSet s i).2.1, true, oneN ns (rSet s i).1⟩ := by unfold rAtom; rw [if_neg hc, if_neg hok]
      rw [e1]
      have c2 : (!(rSet s i).2.2) = false := by simpa using hok
      have HL : Hid _ := hl
      clear e1 hc hok hg b3 hl
      go_enter Try.func103, Try.ntmps103
      go_wp2_with (first
        | (go_at_call 49; refine (at_any _ _ _ (by unfold maxLen; omega)).mono ?_; rintro e w' ⟨rfl, hw⟩; rw [hw]; clear hw)
        | (go_at_call 107; refine (readSet_any _ _ _ (by omega) (by omega) (by omega)).mono ?_; rintro e w1 ⟨rfl, hf1⟩; have hz : w.heap.size < w1.heap.size := (by have := hf1.size; simp at this; omega))
        | (go_at_call 108; refine (readOne_any _ bb v ns _ (H.out.fresh (((((Mod.refl _ w).alloc _).trans hf1).alloc _))) (by omega) HL.out).mono ?_; rintro e w2 ⟨rfl, v2, h2⟩; have hb := h2.mod.at (heap_alloc_prev (hf1.at (heap_alloc_at _ _) (fun x => x))) (HN.out _ (by omega)); have k3 := cellOf hb; have k4 := frozenOf hb)
        | (refine wpList_store_new rfl 130 _ _ rfl w1 _ _ _ rfl rfl rfl (szOf _ HL.out) (eq4 rfl (u4 HL.out)) (u64s_one _) ?_)
        | (refine wpList_load_row rfl 130 _ rfl w1.heap.size rfl _ _ _ _ (heap_alloc_at _ _) Try.underlying130 rfl (szOf _ HL.out) ?_))
      have hnf := h2.nf (k := w.heap.size) (by simp; omega) (HN.out _ (by simp))
      refine bodyPost_ret (results_row2 rfl _ _ w.heap.size 148 #[.int .i64 (ns.length + 1), .int .i64 ns.length] (0, 0) _ rfl ?_ Try.underlying148 rfl szFrag) rfl ⟨rfl, v2, ?_⟩
      · rw [Proofs.Ytnhhboikbbnklaa.heap_setCell_same (Proofs.Ytnhhboikbbnklaa.heap_setCell_same hb 0 _) 1 _]; rfl
      · exact ((h2.ahead ((((Mod.refl _ w).alloc _).trans hf1).alloc _)).put (by simp) hnf _).put (by simp) hnf _
end Go.Proofs.Ytnhhboikbbnklaa
