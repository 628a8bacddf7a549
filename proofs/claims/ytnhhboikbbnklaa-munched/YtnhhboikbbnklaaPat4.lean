import Derived.Test.YtnhhboikbbnklaaPat3
import Derived.Test.YtnhhboikbbnklaaHeap2
namespace Go.Proofs.Ytnhhboikbbnklaa
open Go.RowKit
set_option linter.unusedVariables false
set_option linter.unusedSimpArgs false

theorem rEndsL_bd (s : ByteArray) (i : Int) (hi : 0 ≤ i) : ∀ (f : Nat) (next : Int) (ws : List Int), i ≤ next → next ≤ s.size + 1 → (s.size : Int) + 5 ≤ f + next →
    i ≤ (rEndsL s i f next ws).2.1 ∧ (rEndsL s i f next ws).2.1 ≤ s.size + 6 ∧ ((rEndsL s i f next ws).2.2 = true → i < (rEndsL s i f next ws).2.1 ∧ (rEndsL s i f next ws).2.1 ≤ s.size)
  | 0, next, ws, h1, h2, h3 => by omega
  | f + 1, next, ws, h1, h2, h3 => by
    obtain ⟨r1, r2, r3, r4, r5, r6, r7⟩ := rRange_bd s next (by omega)
    unfold rEndsL
    split
    · split
      · simp; omega
      · rename_i h5; have r8 := r7 (by simpa using h5)
        exact rEndsL_bd s i hi f _ _ (by omega) (by omega) (by omega)
    · have := atB_lt (s := s) (i := next) (by omega)
      simp; omega
theorem rEnds_bd (s : ByteArray) (i : Int) (h0 : 0 ≤ i) (h1 : i ≤ s.size + 1) :
    i ≤ (rEnds s i).2.1 ∧ (rEnds s i).2.1 ≤ s.size + 6 ∧ ((rEnds s i).2.2 = true → i < (rEnds s i).2.1 ∧ (rEnds s i).2.1 ≤ s.size) :=
  rEndsL_bd s i h0 _ _ _ (by omega) (by omega) (by omega)
theorem oppN_len' (ws : List Int) (h : ws.length = 4) : (oppN ws 4).length = 4 := by rw [oppN_len]; exact h

def rBr (s : ByteArray) (i : Int) : List Int × Int × Bool :=
  if atB s i = 94 then (oppN (rEnds s (i + 1)).1 4, (rEnds s (i + 1)).2.1, (rEnds s (i + 1)).2.2) else rEnds s i
theorem rBr_len (s : ByteArray) (i : Int) : (rBr s i).1.length = 4 := by
  unfold rBr; split
  · exact oppN_len' _ (rEnds_len _ _)
  · exact rEnds_len _ _
theorem rBr_bd (s : ByteArray) (i : Int) (h0 : 0 ≤ i) (h1 : i ≤ s.size) :
    i ≤ (rBr s i).2.1 ∧ (rBr s i).2.1 ≤ s.size + 6 ∧ ((rBr s i).2.2 = true → i < (rBr s i).2.1 ∧ (rBr s i).2.1 ≤ s.size) := by
  unfold rBr; split
  · have := rEnds_bd s (i + 1) (by omega) (by omega); exact ⟨by dsimp only; omega, by dsimp only; omega, fun h => by have := this.2.2 h; dsimp only; omega⟩
  · exact rEnds_bd s i (by omega) (by omega)

theorem eq4 {a b : Array Value} (ha : a.size = 4) (hb : b.size = 4) : a.size = b.size := ha.trans hb.symm
theorem u4 {ws : List Int} (h : ws.length = 4) : (u64s ws).size = 4 := by rw [u64s_size, h]

set_option maxHeartbeats 1000000 in
theorem readBr_any (s : ByteArray) (i : Int) (w : World) (hs : s.size ≤ 1000) (h0 : 0 ≤ i) (h1 : i ≤ s.size) :
    Calls Try.prog 112 #[.string s, .int .i64 i] w fun e w' => e = .returned (.tuple #[.agg (u64s (rBr s i).1), .int .i64 (rBr s i).2.1, .bool (rBr s i).2.2]) ∧ Fresh w w' := by
  by_cases hc : atB s i = 94
  · have hc' : (atB s i == 94) = true := by simpa using hc
    have hR : rBr s i = (oppN (rEnds s (i + 1)).1 4, (rEnds s (i + 1)).2.1, (rEnds s (i + 1)).2.2) := by unfold rBr; rw [if_pos hc]
    rw [hR]
    have hl := oppN_len' _ (rEnds_len s (i + 1))
    have HL : Hid _ := hl
    have HL0 : Hid _ := rEnds_len s (i + 1)
    clear hc hR hl
    go_enter Try.func112, Try.ntmps112
    go_wp2_with (first
      | (go_at_call 49; refine (at_any _ _ _ (by unfold maxLen; omega)).mono ?_; rintro e w' ⟨rfl, rfl⟩)
      | (go_at_call 115; refine (readEnds_any _ _ _ (by omega) (by omega) (by omega)).mono ?_; rintro e w1 ⟨rfl, hf1⟩; have hz : w.heap.size < w1.heap.size := (by have := hf1.size; simp at this; omega))
      | (go_at_call 111; refine (opp_any _ _ HL0.out).mono ?_; rintro e w2 ⟨rfl, hf2⟩)
      | (refine wpList_store_new rfl _ _ _ rfl w1 _ _ _ rfl rfl rfl (szOf _ HL0.out) (eq4 rfl (u4 HL0.out)) (u64s_one _) ?_)
      | (refine wpList_load_row rfl _ _ rfl w1.heap.size rfl _ _ _ _ (heap_alloc_at _ _) Try.underlying130 rfl (szOf _ HL0.out) ?_)
      | (refine wpList_store_row rfl _ _ _ rfl w1.heap.size _ rfl rfl _ _ (hf2.at (heap_alloc_at _ _) (fun x => x)) (szOf _ HL.out) (eq4 (u4 HL0.out) (u4 HL.out)) (u64s_one _) ?_)
      | (refine wpList_load_row rfl _ _ rfl w1.heap.size rfl _ _ _ _ (setRow_heap _ _ _ _ _ _ (hf2.at (heap_alloc_at _ _) (fun x => x))) Try.underlying130 rfl (szOf _ HL.out) ?_)
      | (refine wpList_store_row rfl _ _ _ rfl w.heap.size _ rfl rfl _ _ (heap_setRow_prev (hf2.at (heap_alloc_prev (hf1.at (heap_alloc_at _ _) (fun x => x))) (fun x => x)) (by omega)) (szOf _ HL.out) (eq4 rfl (u4 HL.out)) (u64s_one _) ?_))
    refine bodyPost_ret (results_row2 rfl _ _ w.heap.size 130 _ (0, 0) _ rfl (setRow_heap _ _ _ _ _ _ (heap_setRow_prev (hf2.at (heap_alloc_prev (hf1.at (heap_alloc_at _ _) (fun x => x))) (fun x => x)) (by omega))) Try.underlying130 rfl (szOf _ HL.out)) rfl ⟨rfl, ?_⟩
    exact (((((((Mod.refl _ w).alloc _).trans hf1).alloc _).trans hf2).setRow (by omega) _).setRow (by simp) _)
  · have hc' : (atB s i == 94) = false := by simpa using hc
    have hR : rBr s i = rEnds s i := by unfold rBr; rw [if_neg hc]
    rw [hR]
    have HL0 : Hid _ := rEnds_len s i
    clear hc hR
    go_enter Try.func112, Try.ntmps112
    go_wp2_with (first
      | (go_at_call 49; refine (at_any _ _ _ (by unfold maxLen; omega)).mono ?_; rintro e w' ⟨rfl, rfl⟩)
      | (go_at_call 115; refine (readEnds_any _ _ _ (by omega) (by omega) (by omega)).mono ?_; rintro e w1 ⟨rfl, hf1⟩; have hz : w.heap.size < w1.heap.size := (by have := hf1.size; simp at this; omega))
      | (refine wpList_store_new rfl _ _ _ rfl w1 _ _ _ rfl rfl rfl (szOf _ HL0.out) (eq4 rfl (u4 HL0.out)) (u64s_one _) ?_)
      | (refine wpList_load_row rfl _ _ rfl w1.heap.size rfl _ _ _ _ (heap_alloc_at _ _) Try.underlying130 rfl (szOf _ HL0.out) ?_)
      | (refine wpList_store_row rfl _ _ _ rfl w.heap.size _ rfl rfl _ _ (heap_alloc_prev (hf1.at (heap_alloc_at _ _) (fun x => x))) (szOf _ HL0.out) (eq4 rfl (u4 HL0.out)) (u64s_one _) ?_))
    refine bodyPost_ret (results_row2 rfl _ _ w.heap.size 130 _ (0, 0) _ rfl (setRow_heap _ _ _ _ _ _ (heap_alloc_prev (hf1.at (heap_alloc_at _ _) (fun x => x)))) Try.underlying130 rfl (szOf _ HL0.out)) rfl ⟨rfl, ?_⟩
    exact (((((Mod.refl _ w).alloc _).trans hf1).alloc _).setRow (by simp) _)

def rSet (s : ByteArray) (i : Int) : List Int × Int × Bool :=
  if atB s i = 46 then (oppN (withF zero4 10 10) 4, i + 1, true)
  else if atB s i = 91 then rBr s (i + 1)
  else if atB s i = 92 then (withF zero4 (rMark s (i + 1)).1 (rMark s (i + 1)).1, (rMark s (i + 1)).2.1, (rMark s (i + 1)).2.2)
  else if isPlainB (atB s i) = false then (zero4, i, false)
  else (withF zero4 (atB s i) (atB s i), i + 1, true)
theorem rSet_len (s : ByteArray) (i : Int) : (rSet s i).1.length = 4 := by
  unfold rSet
  split
  · exact oppN_len' _ (withF_len _ _ _)
  · split
    · exact rBr_len _ _
    · split
      · exact withF_len _ _ _
      · split
        · rfl
        · exact withF_len _ _ _
theorem rSet_bd (s : ByteArray) (i : Int) (h0 : 0 ≤ i) :
    i ≤ (rSet s i).2.1 ∧ (rSet s i).2.1 ≤ i + s.size + 10 ∧ ((rSet s i).2.2 = true → i < (rSet s i).2.1 ∧ (rSet s i).2.1 ≤ s.size) := by
  have hb := atB_bd s i
  unfold rSet
  split
  · have := atB_lt (s := s) (i := i) (by omega); simp; omega
  · split
    · have := atB_lt (s := s) (i := i) (by omega)
      have h2 := rBr_bd s (i + 1) (by omega) (by omega)
      exact ⟨by omega, by omega, fun h => by have := h2.2.2 h; omega⟩
    · split
      · have := atB_lt (s := s) (i := i) (by omega)
        have h2 := rMark_bd s (i + 1) (by omega)
        exact ⟨by dsimp only; omega, by dsimp only; omega, fun h => by have := h2.2.2.2.2 h; dsimp only; omega⟩
      · split
        · simp; omega
        · rename_i h5
          have h7 : 32 ≤ atB s i := by unfold isPlainB isPrB at h5; simp at h5; omega
          have := atB_lt (s := s) (i := i) (by omega)
          simp; omega
end Go.Proofs.Ytnhhboikbbnklaa
