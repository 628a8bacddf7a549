import Derived.Test.YtnhhboikbbnklaaSh5
namespace Go.Proofs.Ytnhhboikbbnklaa
open Go.RowKit
set_option linter.unusedVariables false
set_option linter.unusedSimpArgs false

theorem rWordL_zero (s : ByteArray) (i : Int) : ∀ (f n : Nat) (ls : List Int), 1 ≤ n → (rWordL s i f n ls).1.getD 0 0 = ls.getD 0 0
  | 0, _, _, _ => rfl
  | f + 1, n, ls, h => by
    unfold rWordL; split
    · split
      · rw [rWordL_zero s i f (n + 1) _ (by omega)]
        simp [List.getElem?_set, show ¬ n = 0 by omega]
      · rfl
    · rfl
theorem rWord_zero (s : ByteArray) (i : Int) : 0 ≤ (rWord s i).1.ls.getD 0 0 ∧ (rWord s i).1.ls.getD 0 0 ≤ 255 := by
  unfold rWord; split
  · simp [zero8]
  · rename_i h
    dsimp only
    rw [rWordL_zero _ _ _ _ _ (by omega)]
    have hb := atB_bd s i
    have hn : atB s i ≠ -1 := by intro e; rw [e] at h; simp [isSmallB, isCapB] at h
    simp [zero8]; omega

def rLine (s : ByteArray) (i : Int) : Ln × Int × Bool :=
  if (rWord s i).2.2 = false then (zeroLn, (rWord s i).2.1, false)
  else if headB (rWord s i).1 = true then rProd s (rWord s i).2.1 (rWord s i).1
  else rRule s (rWord s i).2.1 (rWord s i).1

set_option maxRecDepth 20000 in
set_option maxHeartbeats 4000000 in
theorem readLine_any (s : ByteArray) (i : Int) (w : World) (hs : s.size ≤ 1000) (h0 : 0 ≤ i) (h1 : i ≤ 1900) :
    Calls Try.prog 57 #[.string s, .int .i64 i] w fun e w' => LineRet w (rLine s i) e w' := by
  generalize hR : rLine s i = R
  unfold rLine at hR
  obtain ⟨b1, b2, b3⟩ := rWord_bd s i h0
  have hwl := rWord_len s i
  have hz := rWord_zero s i
  have RW := hid (fun w => readWord_any s i w hs h0 (by omega))
  have HP := hid (fun w => readProd_any s (rWord s i).2.1 (rWord s i).1 w hs (by omega) (by omega) hwl)
  have HRu := hid (fun w => readRule_any s (rWord s i).2.1 (rWord s i).1 w hs (by omega) (by omega) hwl)
  have HZ := hid hz
  have HWL := hid hwl
  simp only [wordRet] at RW
  clear hwl hz b3
  cases hok : (rWord s i).2.2
  · rw [if_pos hok] at hR
    rw [hok] at RW
    have HR := hid hR
    clear hR
    go_enter Try.func57, Try.ntmps57
    go_wp2_with (first
      | (go_at_call 69; refine (RW.out _).mono ?_; rintro e w1 ⟨rfl, hf1⟩; have hz : w.heap.size < w1.heap.size := (by have := hf1.size; simp at this; omega))
      | (refine wpList_store_new rfl 69 _ _ rfl w1 _ _ _ rfl rfl rfl (szWordOf HWL.out) (sameSize rfl (Wd.size HWL.out)) (Wd.one _) ?_)
      | (refine wpList_store_row rfl 75 _ _ rfl w.heap.size zeroLV.cells.toArray rfl rfl _ _ (heap_alloc_prev (hf1.at (heap_alloc_at _ _) (fun x => x))) szLine rfl (zeroLV_at w).one ?_))
    refine bodyPost_ret (results_row2 rfl _ _ w.heap.size 75 zeroLV.cells.toArray (0, 0) _ rfl (setRow_heap _ _ _ _ _ _ (heap_alloc_prev (hf1.at (heap_alloc_at _ _) (fun x => x)))) Try.underlying75 rfl szLine) rfl ?_
    rw [← HR.out]
    exact lineRet_zero rfl (((((Mod.refl _ w).alloc _).trans hf1).alloc _).setRow (by simp) _)
  · rw [if_neg (by simp [hok])] at hR
    rw [hok] at RW
    have fin : ∀ (w1 w2 w3 : World) (r : Ln × Int × Bool), Hid (r = R → Fresh (w.alloc (.cells zeroLV.cells.toArray 75 (0, 0))) w2 → ∀ x : LV, x.ln = r.1 → Fresh w2 w3 → x.At w3 → (∀ k, x.vn.ownBlock = some k → w2.heap.size ≤ k) → (∀ k, x.vs.ownBlock = some k → w2.heap.size ≤ k) →
        LineRet w R (.returned (.tuple #[.agg x.cells.toArray, .int .i64 r.2.1, .bool r.2.2])) (w3.setRow w.heap.size x.cells.toArray)) := by
      intro w1 w2 w3 r hr hf2 x hx hf3 hA hk1 hk2
      subst hr
      have hz2 : w.heap.size < w2.heap.size := by have := hf2.size; simp at this; omega
      refine ⟨x, hx, rfl, ((((Mod.refl _ w).alloc _).trans hf2).trans hf3).setRow (by simp) _, ⟨?_, ?_, hA.front, hA.small⟩, fun k hk => by have := hk1 k hk; omega, fun k hk => by have := hk2 k hk; omega⟩
      · exact hA.nodes.kept (S := fun k => k = w.heap.size) (Mod.setRow (S := fun k => k = w.heap.size) (Mod.refl _ _) (fun _ => rfl) _) (fun k hk e => by have := hk1 k hk; omega)
      · exact hA.syms.kept (S := fun k => k = w.heap.size) (Mod.setRow (S := fun k => k = w.heap.size) (Mod.refl _ _) (fun _ => rfl) _) (fun k hk e => by have := hk2 k hk; omega)
    cases hh : headB (rWord s i).1
    · rw [if_neg (by simp [hh])] at hR
      have HR := hid hR
      clear hR HP
      go_enter Try.func57, Try.ntmps57
      go_wp2_with (first
        | (go_at_call 69; refine (RW.out _).mono ?_; rintro e w1 ⟨rfl, hf1⟩; have hz : w.heap.size < w1.heap.size := (by have := hf1.size; simp at this; omega))
        | (go_at_call 70; refine (isHead_any _ _ HWL.out HZ.out).mono ?_; rw [hh]; rintro e w2 ⟨rfl, hf2⟩)
        | (go_at_call 72; refine (HRu.out _).mono ?_; rintro e w3 ⟨x, hx, rfl, hf3, hA, hk1, hk2⟩; have H3 := hid (hf3.at (hf2.at (heap_alloc_prev (hf1.at (heap_alloc_at _ _) (fun x => x))) (fun x => x)) (fun x => x)))
        | (refine wpList_store_new rfl 69 _ _ rfl w1 _ _ _ rfl rfl rfl (szWordOf HWL.out) (sameSize rfl (Wd.size HWL.out)) (Wd.one _) ?_)
        | (refine wpList_load_row rfl 69 _ rfl w1.heap.size rfl _ _ _ _ (heap_alloc_at _ _) Try.underlying69 rfl (szWordOf HWL.out) ?_)
        | (refine wpList_load_row rfl 69 _ rfl w1.heap.size rfl _ _ _ _ (hf2.at (heap_alloc_at _ _) (fun x => x)) Try.underlying69 rfl (szWordOf HWL.out) ?_)
        | (refine wpList_store_row rfl 75 _ _ rfl w.heap.size x.cells.toArray rfl rfl _ _ H3.out (szLineOf hA.front) (sameSize rfl (LV.size hA.front)) hA.one ?_))
      refine bodyPost_ret (results_row2 rfl _ _ w.heap.size 75 x.cells.toArray (0, 0) _ rfl (setRow_heap _ _ _ _ _ _ H3.out) Try.underlying75 rfl (szLineOf hA.front)) rfl ?_
      exact (fin w1 w2 w3 _).out HR.out ((hf1.alloc _).trans hf2) x hx hf3 hA hk1 hk2
    · rw [if_pos hh] at hR
      have HR := hid hR
      clear hR HRu
      go_enter Try.func57, Try.ntmps57
      go_wp2_with (first
        | (go_at_call 69; refine (RW.out _).mono ?_; rintro e w1 ⟨rfl, hf1⟩; have hz : w.heap.size < w1.heap.size := (by have := hf1.size; simp at this; omega))
        | (go_at_call 70; refine (isHead_any _ _ HWL.out HZ.out).mono ?_; rw [hh]; rintro e w2 ⟨rfl, hf2⟩)
        | (go_at_call 71; refine (HP.out _).mono ?_; rintro e w3 ⟨x, hx, rfl, hf3, hA, hk1, hk2⟩; have H3 := hid (hf3.at (hf2.at (heap_alloc_prev (hf1.at (heap_alloc_at _ _) (fun x => x))) (fun x => x)) (fun x => x)))
        | (refine wpList_store_new rfl 69 _ _ rfl w1 _ _ _ rfl rfl rfl (szWordOf HWL.out) (sameSize rfl (Wd.size HWL.out)) (Wd.one _) ?_)
        | (refine wpList_load_row rfl 69 _ rfl w1.heap.size rfl _ _ _ _ (heap_alloc_at _ _) Try.underlying69 rfl (szWordOf HWL.out) ?_)
        | (refine wpList_load_row rfl 69 _ rfl w1.heap.size rfl _ _ _ _ (hf2.at (heap_alloc_at _ _) (fun x => x)) Try.underlying69 rfl (szWordOf HWL.out) ?_)
        | (refine wpList_store_row rfl 75 _ _ rfl w.heap.size x.cells.toArray rfl rfl _ _ H3.out (szLineOf hA.front) (sameSize rfl (LV.size hA.front)) hA.one ?_))
      refine bodyPost_ret (results_row2 rfl _ _ w.heap.size 75 x.cells.toArray (0, 0) _ rfl (setRow_heap _ _ _ _ _ _ H3.out) Try.underlying75 rfl (szLineOf hA.front)) rfl ?_
      exact (fin w1 w2 w3 _).out HR.out ((hf1.alloc _).trans hf2) x hx hf3 hA hk1 hk2
end Go.Proofs.Ytnhhboikbbnklaa
