import Derived.Test.YtnhhboikbbnklaaPat2
namespace Go.Proofs.Ytnhhboikbbnklaa
open Go.RowKit
set_option linter.unusedVariables false
set_option linter.unusedSimpArgs false

theorem szSet : (Try.prog.info? 130).map (·.size) = some 4 := by kernel_rfl
theorem u64s_size (ws : List Int) : (u64s ws).size = ws.length := by simp [u64s]
theorem u64s_one (ws : List Int) : (u64s ws).all (·.oneCell') = true := by
  rw [Array.all_eq_true_iff_forall_mem]; intro v hv; simp [u64s] at hv; obtain ⟨a, _, rfl⟩ := hv; rfl
theorem withF_len (ws : List Int) (low high : Int) : (withF ws low high).length = ws.length := withN_len _ _ _

set_option maxHeartbeats 1000000 in
theorem single_any (c : Int) (w : World) (h0 : 0 ≤ c) (h1 : c ≤ 255) :
    Calls Try.prog 110 #[.int .i64 c] w fun e w' => e = .returned (.agg (u64s (withF [0,0,0,0] c c))) ∧ Fresh w w' := by
  have sz : (Try.prog.info? 130).map (·.size) = some (u64s (withF [0,0,0,0] c c)).size := by rw [u64s_size, withF_len]; exact szSet
  have SZ : Hid _ := sz
  clear sz
  go_enter Try.func110, Try.ntmps110
  go_wp2_with (first
    | (go_at_call 114; refine (with_any [0,0,0,0] _ _ _ rfl (by omega) (by omega) (by omega) (by omega)).mono ?_; rintro e w' ⟨rfl, hf⟩)
    | (refine wpList_store_row rfl _ _ _ rfl w.heap.size _ rfl rfl _ _ (hf.at (heap_alloc_at _ _) (fun x => x)) SZ.out ?_ (u64s_one _) ?_))
  case refine_1 => rw [u64s_size, withF_len]; rfl
  go_wp2
  refine bodyPost_ret (results_cell_row rfl _ _ w.heap.size 130 _ (0, 0) _ rfl (setRow_heap _ _ _ _ _ _ (hf.at (heap_alloc_at _ _) (fun x => x))) Try.underlying130 rfl SZ.out) rfl ⟨rfl, ?_⟩
  exact (((Mod.refl _ w).alloc _).trans hf).setRow (by simp) _

def flip64 (v : Int) : Int := bits BinOp.xor IntKind.u64 (if IntKind.u64.signed = true then -1 else IntKind.u64.max) v
def oppN (ws : List Int) : Nat → List Int
  | 0 => ws
  | n + 1 => (oppN ws n).set n (flip64 ((oppN ws n)[n]?.getD 0))
theorem oppN_len (ws : List Int) (n : Nat) : (oppN ws n).length = ws.length := by
  induction n with
  | zero => rfl
  | succ n ih => simp [oppN, ih]

set_option maxHeartbeats 1000000 in
theorem opp_any (ws : List Int) (w : World) (hl : ws.length = 4) :
    Calls Try.prog 111 #[.agg (u64s ws)] w fun e w' => e = .returned (.agg (u64s (oppN ws 4))) ∧ Fresh w w' := by
  obtain ⟨a, b, c, d, hws⟩ := four hl
  have HW : Hid (ws = [a, b, c, d]) := hws
  have e1 : u64s ws = #[.int .u64 a, .int .u64 b, .int .u64 c, .int .u64 d] := by rw [hws]; rfl
  rw [e1]
  clear hws e1
  go_enter Try.func111, Try.ntmps111
  go_wp2
  go_loopw [4] (fun i wr => ∃ n : Nat, i = .int .i64 n ∧ n ≤ 4 ∧ 
      wr.heap[w.heap.size]? = some (.cells (u64s (oppN ws n)) 130 (0,0)) ∧
      wr.heap[w.heap.size + 1]? = some (.cells #[.int .u64 0, .int .u64 0, .int .u64 0, .int .u64 0] 130 (0,0)) ∧ Fresh w wr)
      (fun i _ => 4 - (intOf i).toNat)
  case atStart =>
    refine ⟨0, by simp, by omega, ?_, heap_alloc2_new _ _ _, ((Mod.refl _ _).alloc _).alloc _⟩
    rw [heap_alloc2_old]; simp only [oppN]; rw [HW.out]; rfl
  case round =>
    obtain ⟨n, rfl, hn, hb0, hb1, hf⟩ := hrel
    have hl' := oppN_len ws n
    by_cases hx : n < 4
    · have hc : wr.cell? ⟨w.heap.size, n, none⟩ = some (.int .u64 ((oppN ws n).getD n 0)) := by rw [cellOf hb0, u64s_at _ _ (by omega)]
      have hz := frozenOf hb0
      have HB0 : Hid _ := hb0
      have HB1 : Hid _ := hb1
      clear hb0 hb1 hl' hl
      go_wp2
      go_roundw
      case rel =>
        refine ⟨n + 1, by go_num, by omega, ?_, ?_, hf.setCell (by simp) _⟩
        · rw [Proofs.Ytnhhboikbbnklaa.heap_setCell_same HB0.out, u64s_set]; rfl
        · rw [Proofs.Ytnhhboikbbnklaa.heap_setCell_other _ (by simp)]; exact HB1.out
      case measure => simp [intOf]; omega
    · have hn4 : n = 4 := by omega
      subst hn4
      have sz : (Try.prog.info? 130).map (·.size) = some (u64s (oppN ws 4)).size := by rw [u64s_size, hl', hl]; exact szSet
      have SZ : Hid _ := sz
      clear sz
      have HB0 : Hid _ := hb0
      have HB1 : Hid _ := hb1
      have HL : Hid _ := hl
      have HL' : Hid _ := hl'
      clear hb0 hb1 hl' hl
      go_wp2_with (first
        | (refine wpList_load_row rfl _ _ rfl w.heap.size rfl _ _ _ _ HB0.out Try.underlying130 rfl SZ.out ?_)
        | (refine wpList_store_row rfl _ _ _ rfl (w.heap.size + 1) _ rfl rfl _ _ HB1.out SZ.out ?hs (u64s_one _) ?_))
      case hs => rw [u64s_size, HL'.out, HL.out]; rfl
      go_wp2
      refine bodyPost_ret (results_cell_row rfl _ _ (w.heap.size + 1) 130 _ (0, 0) _ rfl (setRow_heap _ _ _ _ _ _ HB1.out) Try.underlying130 rfl SZ.out) rfl ⟨rfl, ?_⟩
      exact hf.setRow (by simp) _

def zero4 : List Int := [0, 0, 0, 0]
def rEndsL (s : ByteArray) (i : Int) : Nat → Int → List Int → List Int × Int × Bool
  | 0, next, ws => (ws, next, false)
  | f + 1, next, ws =>
    if next = i ∨ atB s next ≠ 93 then
      if (rRange s next).2.2.2 = false then (zero4, (rRange s next).2.2.1, false)
      else rEndsL s i f (rRange s next).2.2.1 (withF ws (rRange s next).1 (rRange s next).2.1)
    else (ws, next + 1, true)
def rEnds (s : ByteArray) (i : Int) : List Int × Int × Bool := rEndsL s i (s.size + 5) i zero4

theorem rRange_bd (s : ByteArray) (i : Int) (h : 0 ≤ i) :
    0 ≤ (rRange s i).1 ∧ (rRange s i).1 ≤ 255 ∧ 0 ≤ (rRange s i).2.1 ∧ (rRange s i).2.1 ≤ 255 ∧ i ≤ (rRange s i).2.2.1 ∧ (rRange s i).2.2.1 ≤ i + 5 ∧
    ((rRange s i).2.2.2 = true → i < (rRange s i).2.2.1 ∧ (rRange s i).2.2.1 ≤ s.size) := by
  obtain ⟨a1, a2, a3, a4, a5⟩ := rEnd_bd s i h
  obtain ⟨b1, b2, b3, b4, b5⟩ := rEnd_bd s ((rEnd s i).2.1 + 1) (by omega)
  unfold rRange
  split
  · simp; omega
  · rename_i h1; have a6 := a5 (by simpa using h1)
    split
    · simp; omega
    · split
      · simp; omega
      · rename_i h2; have b6 := b5 (by simpa using h2)
        split
        · simp; omega
        · simp; omega
theorem rEndsL_len (s : ByteArray) (i : Int) : ∀ (f : Nat) (next : Int) (ws : List Int), ws.length = 4 → (rEndsL s i f next ws).1.length = 4
  | 0, _, _, h => h
  | f + 1, next, ws, h => by
    unfold rEndsL
    split
    · split
      · rfl
      · exact rEndsL_len s i f _ _ (by rw [withF_len]; exact h)
    · exact h
theorem rEnds_len (s : ByteArray) (i : Int) : (rEnds s i).1.length = 4 := rEndsL_len s i _ _ _ rfl

theorem szOf (ws : List Int) (h : ws.length = 4) : (Try.prog.info? 130).map (·.size) = some (u64s ws).size := by rw [u64s_size, h]; exact szSet

set_option maxHeartbeats 1000000 in
theorem readEnds_any (s : ByteArray) (i : Int) (w : World) (hs : s.size ≤ 1000) (h0 : 0 ≤ i) (h1 : i ≤ s.size + 1) :
    Calls Try.prog 115 #[.string s, .int .i64 i] w fun e w' => e = .returned (.tuple #[.agg (u64s (rEnds s i).1), .int .i64 (rEnds s i).2.1, .bool (rEnds s i).2.2]) ∧ Fresh w w' := by
  go_enter Try.func115, Try.ntmps115
  go_wp2
  go_loopw [8] (fun v wr => ∃ (f : Nat) (next : Int) (ws : List Int), v = .int .i64 next ∧ rEndsL s i f next ws = rEnds s i ∧ ws.length = 4 ∧ i ≤ next ∧ next ≤ s.size + 1 ∧ (s.size : Int) + 5 ≤ f + next ∧
      wr.heap[w.heap.size]? = some (.cells (u64s zero4) 130 (0,0)) ∧
      wr.heap[w.heap.size + 1]? = some (.cells (u64s ws) 130 (0,0)) ∧ Fresh w wr)
      (fun i _ => s.size + 5 - (intOf i).toNat)
  case atStart =>
    exact ⟨s.size + 5, i, zero4, rfl, rfl, rfl, by omega, by omega, by omega, heap_alloc2_old _ _ _, heap_alloc2_new _ _ _, ((Mod.refl _ _).alloc _).alloc _⟩
  case round =>
    obtain ⟨f, next, ws, rfl, hR, hl, hn0, hn1, hfu, hb0, hb1, hf⟩ := hrel
    obtain ⟨f, rfl⟩ : ∃ g, f = g + 1 := ⟨f - 1, by omega⟩
    unfold rEndsL at hR
    obtain ⟨r1, r2, r3, r4, r5, r6, r7⟩ := rRange_bd s next (by omega)
    have HB0 : Hid _ := hb0
    have HB1 : Hid _ := hb1
    clear hb0 hb1
    by_cases hc : next = i ∨ atB s next ≠ 93
    · rw [if_pos hc] at hR
      have hc' : (next == i) = true ∨ (next == i) = false ∧ (atB s next != 93) = true := by
        by_cases h : next = i
        · left; simpa using h
        · right; exact ⟨by simpa using h, by simp; omega⟩
      by_cases hok : (rRange s next).2.2.2 = false
      · rw [if_pos hok] at hR
        have HR : Hid _ := hR
        have hok' : (!(rRange s next).2.2.2) = true := by simp [hok]
        clear hR hok r7 hc
        rcases hc' with hc' | ⟨hc', hc''⟩
        all_goals
          go_wp2_with (first
            | (go_at_call 49; refine (at_any _ _ _ (by unfold maxLen; omega)).mono ?_; rintro e w' ⟨rfl, rfl⟩)
            | (go_at_call 117; refine (readRange_any _ _ _ (by omega) (by omega) (by omega)).mono ?_; rintro e w' ⟨rfl, rfl⟩)
            | (refine wpList_store_row rfl _ _ _ rfl w.heap.size (u64s zero4) rfl rfl _ _ HB0.out szSet rfl (u64s_one _) ?_))
          refine bodyPost_ret (results_row2 rfl _ _ w.heap.size 130 _ (0, 0) _ rfl (setRow_heap _ _ _ _ _ _ HB0.out) Try.underlying130 rfl szSet) rfl ⟨?_, hf.setRow (by simp) _⟩
          rw [← HR.out]; rfl
      · rw [if_neg hok] at hR
        have r8 := r7 (by simpa using hok)
        have HR : Hid _ := hR
        have hok' : (!(rRange s next).2.2.2) = false := by simpa using hok
        have HL : Hid _ := hl
        clear hR hok r7 hc hl
        rcases hc' with hc' | ⟨hc', hc''⟩
        all_goals
          go_wp2_with (first
            | (go_at_call 49; refine (at_any _ _ _ (by unfold maxLen; omega)).mono ?_; rintro e w' ⟨rfl, rfl⟩)
            | (go_at_call 117; refine (readRange_any _ _ _ (by omega) (by omega) (by omega)).mono ?_; rintro e w' ⟨rfl, rfl⟩)
            | (go_at_call 114; refine (with_any ws _ _ _ HL.out (by omega) (by omega) (by omega) (by omega)).mono ?_; rintro e w1 ⟨rfl, hf1⟩)
            | (refine wpList_load_row rfl _ _ rfl (w.heap.size + 1) rfl _ _ _ _ HB1.out Try.underlying130 rfl (szOf _ HL.out) ?_)
            | (refine wpList_store_row rfl _ _ _ rfl (w.heap.size + 1) _ rfl rfl _ _ (hf1.at HB1.out (fun x => x)) (szOf _ (by rw [withF_len]; exact HL.out)) (by rw [u64s_size, u64s_size, withF_len]) (u64s_one _) ?_))
          go_roundw
          case rel =>
            refine ⟨f, _, _, rfl, HR.out, by rw [withF_len]; exact HL.out, by omega, by omega, by omega, ?_, ?_, ?_⟩
            · rw [setRow_other _ _ _ _ (by omega)]; exact hf1.at HB0.out (fun x => x)
            · exact setRow_heap _ _ _ _ _ _ (hf1.at HB1.out (fun x => x))
            · exact (hf.trans hf1).setRow (by simp) _
          case measure => simp [intOf]; omega
    · rw [if_neg hc] at hR
      have hc1 : (next == i) = false := by simp; omega
      have hc2 : (atB s next != 93) = false := by simp; omega
      have HR : Hid _ := hR
      have HL : Hid _ := hl
      clear hR hc hl
      go_wp2_with (first
        | (go_at_call 49; refine (at_any _ _ _ (by unfold maxLen; omega)).mono ?_; rintro e w' ⟨rfl, rfl⟩)
        | (refine wpList_load_row rfl _ _ rfl (w.heap.size + 1) rfl _ _ _ _ HB1.out Try.underlying130 rfl (szOf _ HL.out) ?_)
        | (refine wpList_store_row rfl _ _ _ rfl w.heap.size _ rfl rfl _ _ HB0.out (szOf _ HL.out) (by rw [u64s_size, u64s_size, HL.out]; rfl) (u64s_one _) ?_))
      refine bodyPost_ret (results_row2 rfl _ _ w.heap.size 130 _ (0, 0) _ rfl (setRow_heap _ _ _ _ _ _ HB0.out) Try.underlying130 rfl (szOf _ HL.out)) rfl ⟨?_, hf.setRow (by simp) _⟩
      rw [← HR.out]; rfl
end Go.Proofs.Ytnhhboikbbnklaa
