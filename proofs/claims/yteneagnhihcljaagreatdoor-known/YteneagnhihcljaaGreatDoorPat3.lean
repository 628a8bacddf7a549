import Derived.Test.YteneagnhihcljaaGreatDoorChars
import Derived.Deep.WholeRow
import Derived.Deep.MidRow
namespace Go.Proofs.YteneagnhihcljaaGreatDoor
open Go.RowKit
set_option linter.unusedVariables false
set_option linter.unusedSimpArgs false

theorem szSet : (Tryz.prog.info? 152).map (·.size) = some 4 := by kernel_rfl
theorem u64s_size (ws : List Int) : (u64s ws).size = ws.length := by simp [u64s]
theorem u64s_one (ws : List Int) : (u64s ws).all (·.oneCell') = true := by
  rw [Array.all_eq_true_iff_forall_mem]; intro v hv; simp [u64s] at hv; obtain ⟨a, _, rfl⟩ := hv; rfl
theorem withF_len (ws : List Int) (low high : Int) : (withF ws low high).length = ws.length := withN_len _ _ _

set_option maxHeartbeats 1000000 in
theorem single_any (c : Int) (w : World) (h0 : 0 ≤ c) (h1 : c ≤ 255) :
    Calls Tryz.prog 105 #[.int .i64 c] w fun e w' => e = .returned (.agg (u64s (withF [0,0,0,0] c c))) ∧ Fresh w w' := by
  have sz : (Tryz.prog.info? 152).map (·.size) = some (u64s (withF [0,0,0,0] c c)).size := by rw [u64s_size, withF_len]; exact szSet
  have SZ : Hid _ := sz
  clear sz
  go_enter Tryz.func105, Tryz.ntmps105
  go_wp2_with (first
    | (go_at_call 109; refine (with_any [0,0,0,0] _ _ _ rfl (by omega) (by omega) (by omega) (by omega)).mono ?_; rintro e w' ⟨rfl, hf⟩)
    | (refine wpList_store_row rfl _ _ _ rfl w.heap.size _ rfl rfl _ _ (hf.at (heap_alloc_at _ _) (fun x => x)) SZ.out ?_ (u64s_one _) ?_))
  case refine_1 => rw [u64s_size, withF_len]; rfl
  go_wp2
  refine bodyPost_ret (results_cell_row rfl _ _ w.heap.size 152 _ (0, 0) _ rfl (setRow_heap _ _ _ _ _ _ (hf.at (heap_alloc_at _ _) (fun x => x))) Tryz.underlying152 rfl SZ.out) rfl ⟨rfl, ?_⟩
  exact (((Mod.refl _ w).alloc _).trans hf).setRow (by simp) _

def flip64 (v : Int) : Int := bits BinOp.xor IntKind.u64 (if IntKind.u64.signed = true then -1 else IntKind.u64.max) v
def oppN (ws : List Int) : Nat → List Int
  | 0 => ws
  | n + 1 => (oppN ws n).set n (flip64 ((oppN ws n)[n]?.getD 0))
theorem oppN_len (ws : List Int) (n : Nat) : (oppN ws n).length = ws.length := by
  induction n with
  | zero => rfl
  | succ n ih => simp [oppN, ih]

set_option maxHeartbeats 1000000 in
theorem opp_any (ws : List Int) (w : World) (hl : ws.length = 4) :
    Calls Tryz.prog 106 #[.agg (u64s ws)] w fun e w' => e = .returned (.agg (u64s (oppN ws 4))) ∧ Fresh w w' := by
  obtain ⟨a, b, c, d, hws⟩ := four hl
  have HW : Hid (ws = [a, b, c, d]) := hws
  have e1 : u64s ws = #[.int .u64 a, .int .u64 b, .int .u64 c, .int .u64 d] := by rw [hws]; rfl
  rw [e1]
  clear hws e1
  go_enter Tryz.func106, Tryz.ntmps106
  go_wp2
  go_loopw [4] (fun i wr => ∃ n : Nat, i = .int .i64 n ∧ n ≤ 4 ∧ 
      wr.heap[w.heap.size]? = some (.cells (u64s (oppN ws n)) 152 (0,0)) ∧
      wr.heap[w.heap.size + 1]? = some (.cells #[.int .u64 0, .int .u64 0, .int .u64 0, .int .u64 0] 152 (0,0)) ∧ Fresh w wr)
      (fun i _ => 4 - (intOf i).toNat)
  case atStart =>
    refine ⟨0, by simp, by omega, ?_, heap_alloc2_new _ _ _, ((Mod.refl _ _).alloc _).alloc _⟩
    rw [heap_alloc2_old]; simp only [oppN]; rw [HW.out]; rfl
  case round =>
    obtain ⟨n, rfl, hn, hb0, hb1, hf⟩ := hrel
    have hl' := oppN_len ws n
    by_cases hx : n < 4
    · have hc : wr.cell? ⟨w.heap.size, n, none⟩ = some (.int .u64 ((oppN ws n).getD n 0)) := by rw [cellOf hb0, u64s_at _ _ (by omega)]
      have hz := frozenOf hb0
      have HB0 : Hid _ := hb0
      have HB1 : Hid _ := hb1
      clear hb0 hb1 hl' hl
      go_wp2
      go_roundw
      case rel =>
        refine ⟨n + 1, by go_num, by omega, ?_, ?_, hf.setCell (by simp) _⟩
        · rw [Proofs.YteneagnhihcljaaGreatDoor.heap_setCell_same HB0.out, u64s_set]; rfl
        · rw [Proofs.YteneagnhihcljaaGreatDoor.heap_setCell_other _ (by simp)]; exact HB1.out
      case measure => simp [intOf]; omega
    · have hn4 : n = 4 := by omega
      subst hn4
      have sz : (Tryz.prog.info? 152).map (·.size) = some (u64s (oppN ws 4)).size := by rw [u64s_size, hl', hl]; exact szSet
      have SZ : Hid _ := sz
      clear sz
      have HB0 : Hid _ := hb0
      have HB1 : Hid _ := hb1
      have HL : Hid _ := hl
      have HL' : Hid _ := hl'
      clear hb0 hb1 hl' hl
      go_wp2_with (first
        | (refine wpList_load_row rfl _ _ rfl w.heap.size rfl _ _ _ _ HB0.out Tryz.underlying152 rfl SZ.out ?_)
        | (refine wpList_store_row rfl _ _ _ rfl (w.heap.size + 1) _ rfl rfl _ _ HB1.out SZ.out ?hs (u64s_one _) ?_))
      case hs => rw [u64s_size, HL'.out, HL.out]; rfl
      go_wp2
      refine bodyPost_ret (results_cell_row rfl _ _ (w.heap.size + 1) 152 _ (0, 0) _ rfl (setRow_heap _ _ _ _ _ _ HB1.out) Tryz.underlying152 rfl SZ.out) rfl ⟨rfl, ?_⟩
      exact hf.setRow (by simp) _

def zero4 : List Int := [0, 0, 0, 0]
def rEndsL (s : ByteArray) (i : Int) : Nat → Int → List Int → List Int × Int × Bool
  | 0, next, ws => (ws, next, false)
  | f + 1, next, ws =>
    if next = i ∨ atB s next ≠ 93 then
      if (rRange s next).2.2.2 = false then (zero4, (rRange s next).2.2.1, false)
      else rEndsL s i f (rRange s next).2.2.1 (withF ws (rRange s next).1 (rRange s next).2.1)
    else (ws, next + 1, true)
def rEnds (s : ByteArray) (i : Int) : List Int × Int × Bool := rEndsL s i (s.size + 5) i zero4

theorem rRange_bd (s : ByteArray) (i : Int) (h : 0 ≤ i) :
    0 ≤ (rRange s i).1 ∧ (rRange s i).1 ≤ 255 ∧ 0 ≤ (rRange s i).2.1 ∧ (rRange s i).2.1 ≤ 255 ∧ i ≤ (rRange s i).2.2.1 ∧ (rRange s i).2.2.1 ≤ i + 5 ∧
    ((rRange s i).2.2.2 = true → i < (rRange s i).2.2.1 ∧ (rRange s i).2.2.1 ≤ s.size) := by
  obtain ⟨a1, a2, a3, a4, a5⟩ := rEnd_bd s i h
  obtain ⟨b1, b2, b3, b4, b5⟩ := rEnd_bd s ((rEnd s i).2.1 + 1) (by omega)
  unfold rRange
  split
  · simp; omega
  · rename_i h1; have a6 := a5 (by simpa using h1)
    split
    · simp; omega
    · split
      · simp; omega
      · rename_i h2; have b6 := b5 (by simpa using h2)
        split
        · simp; omega
        · simp; omega
theorem rEndsL_len (s : ByteArray) (i : Int) : ∀ (f : Nat) (next : Int) (ws : List Int), ws.length = 4 → (rEndsL s i f next ws).1.length = 4
  | 0, _, _, h => h
  | f + 1, next, ws, h => by
    unfold rEndsL
    split
    · split
      · rfl
      · exact rEndsL_len s i f _ _ (by rw [withF_len]; exact h)
    · exact h
theorem rEnds_len (s : ByteArray) (i : Int) : (rEnds s i).1.length = 4 := rEndsL_len s i _ _ _ rfl

theorem szOf (ws : List Int) (h : ws.length = 4) : (Tryz.prog.info? 152).map (·.size) = some (u64s ws).size := by rw [u64s_size, h]; exact szSet

set_option maxHeartbeats 1000000 in
theorem readEnds_any (s : ByteArray) (i : Int) (w : World) (hs : s.size ≤ 1000) (h0 : 0 ≤ i) (h1 : i ≤ s.size + 1) :
    Calls Tryz.prog 110 #[.string s, .int .i64 i] w fun e w' => e = .returned (.tuple #[.agg (u64s (rEnds s i).1), .int .i64 (rEnds s i).2.1, .bool (rEnds s i).2.2]) ∧ Fresh w w' := by
  go_enter Tryz.func110, Tryz.ntmps110
  go_wp2
  go_loopw [8] (fun v wr => ∃ (f : Nat) (next : Int) (ws : List Int), v = .int .i64 next ∧ rEndsL s i f next ws = rEnds s i ∧ ws.length = 4 ∧ i ≤ next ∧ next ≤ s.size + 1 ∧ (s.size : Int) + 5 ≤ f + next ∧
      wr.heap[w.heap.size]? = some (.cells (u64s zero4) 152 (0,0)) ∧
      wr.heap[w.heap.size + 1]? = some (.cells (u64s ws) 152 (0,0)) ∧ Fresh w wr)
      (fun i _ => s.size + 5 - (intOf i).toNat)
  case atStart =>
    exact ⟨s.size + 5, i, zero4, rfl, rfl, rfl, by omega, by omega, by omega, heap_alloc2_old _ _ _, heap_alloc2_new _ _ _, ((Mod.refl _ _).alloc _).alloc _⟩
  case round =>
    obtain ⟨f, next, ws, rfl, hR, hl, hn0, hn1, hfu, hb0, hb1, hf⟩ := hrel
    obtain ⟨f, rfl⟩ : ∃ g, f = g + 1 := ⟨f - 1, by omega⟩
    unfold rEndsL at hR
    obtain ⟨r1, r2, r3, r4, r5, r6, r7⟩ := rRange_bd s next (by omega)
    have HB0 : Hid _ := hb0
    have HB1 : Hid _ := hb1
    clear hb0 hb1
    by_cases hc : next = i ∨ atB s next ≠ 93
    · rw [if_pos hc] at hR
      have hc' : (next == i) = true ∨ (next == i) = false ∧ (atB s next != 93) = true := by
        by_cases h : next = i
        · left; simpa using h
        · right; exact ⟨by simpa using h, by simp; omega⟩
      by_cases hok : (rRange s next).2.2.2 = false
      · rw [if_pos hok] at hR
        have HR : Hid _ := hR
        have hok' : (!(rRange s next).2.2.2) = true := by simp [hok]
        clear hR hok r7 hc
        rcases hc' with hc' | ⟨hc', hc''⟩
        all_goals
          go_wp2_with (first
            | (go_at_call 62; refine (at_any _ _ _ (by unfold maxLen; omega)).mono ?_; rintro e w' ⟨rfl, rfl⟩)
            | (go_at_call 112; refine (readRange_any _ _ _ (by omega) (by omega) (by omega)).mono ?_; rintro e w' ⟨rfl, rfl⟩)
            | (refine wpList_store_row rfl _ _ _ rfl w.heap.size (u64s zero4) rfl rfl _ _ HB0.out szSet rfl (u64s_one _) ?_))
          refine bodyPost_ret (results_row2 rfl _ _ w.heap.size 152 _ (0, 0) _ rfl (setRow_heap _ _ _ _ _ _ HB0.out) Tryz.underlying152 rfl szSet) rfl ⟨?_, hf.setRow (by simp) _⟩
          rw [← HR.out]; rfl
      · rw [if_neg hok] at hR
        have r8 := r7 (by simpa using hok)
        have HR : Hid _ := hR
        have hok' : (!(rRange s next).2.2.2) = false := by simpa using hok
        have HL : Hid _ := hl
        clear hR hok r7 hc hl
        rcases hc' with hc' | ⟨hc', hc''⟩
        all_goals
          go_wp2_with (first
            | (go_at_call 62; refine (at_any _ _ _ (by unfold maxLen; omega)).mono ?_; rintro e w' ⟨rfl, rfl⟩)
            | (go_at_call 112; refine (readRange_any _ _ _ (by omega) (by omega) (by omega)).mono ?_; rintro e w' ⟨rfl, rfl⟩)
            | (go_at_call 109; refine (with_any ws _ _ _ HL.out (by omega) (by omega) (by omega) (by omega)).mono ?_; rintro e w1 ⟨rfl, hf1⟩)
            | (refine wpList_load_row rfl _ _ rfl (w.heap.size + 1) rfl _ _ _ _ HB1.out Tryz.underlying152 rfl (szOf _ HL.out) ?_)
            | (refine wpList_store_row rfl _ _ _ rfl (w.heap.size + 1) _ rfl rfl _ _ (hf1.at HB1.out (fun x => x)) (szOf _ (by rw [withF_len]; exact HL.out)) (by rw [u64s_size, u64s_size, withF_len]) (u64s_one _) ?_))
          go_roundw
          case rel =>
            refine ⟨f, _, _, rfl, HR.out, by rw [withF_len]; exact HL.out, by omega, by omega, by omega, ?_, ?_, ?_⟩
            · rw [setRow_other _ _ _ _ (by omega)]; exact hf1.at HB0.out (fun x => x)
            · exact setRow_heap _ _ _ _ _ _ (hf1.at HB1.out (fun x => x))
            · exact (hf.trans hf1).setRow (by simp) _
          case measure => simp [intOf]; omega
    · rw [if_neg hc] at hR
      have hc1 : (next == i) = false := by simp; omega
      have hc2 : (atB s next != 93) = false := by simp; omega
      have HR : Hid _ := hR
      have HL : Hid _ := hl
      clear hR hc hl
      go_wp2_with (first
        | (go_at_call 62; refine (at_any _ _ _ (by unfold maxLen; omega)).mono ?_; rintro e w' ⟨rfl, rfl⟩)
        | (refine wpList_load_row rfl _ _ rfl (w.heap.size + 1) rfl _ _ _ _ HB1.out Tryz.underlying152 rfl (szOf _ HL.out) ?_)
        | (refine wpList_store_row rfl _ _ _ rfl w.heap.size _ rfl rfl _ _ HB0.out (szOf _ HL.out) (by rw [u64s_size, u64s_size, HL.out]; rfl) (u64s_one _) ?_))
      refine bodyPost_ret (results_row2 rfl _ _ w.heap.size 152 _ (0, 0) _ rfl (setRow_heap _ _ _ _ _ _ HB0.out) Tryz.underlying152 rfl (szOf _ HL.out)) rfl ⟨?_, hf.setRow (by simp) _⟩
      rw [← HR.out]; rfl
end Go.Proofs.YteneagnhihcljaaGreatDoor
namespace Go.Proofs.YteneagnhihcljaaGreatDoor
open Go.RowKit
set_option linter.unusedVariables false
set_option linter.unusedSimpArgs false

/-- A whole struct into the block that was made last. -/
theorem wpList_store_new {P : Program} {ops : Array Oper} {rest : List Oper} {o : Oper} {a : Act} {w : World} {Q : Exit → Act → World → Prop} (hgd : o.guard = none) (ty : TypeId) (x y : Operand) (ho : o.op = .store ty x y)
    (W : World) (c cells : Array Value) (t : TypeId) (hw : w = W.alloc (.cells c t)) (hx : a.eval x = .pointer (some ⟨W.heap.size, 0, none⟩)) (hy : a.eval y = .agg cells)
    (hi : (P.info? ty).map (·.size) = some cells.size) (hold : c.size = cells.size) (h1 : cells.all (·.oneCell') = true)
    (h : wpList P ops Q rest (a.put o.dst undef) (W.alloc (.cells cells t))) : wpList P ops Q (o :: rest) a w := by
  subst hw
  exact wpList_store_row hgd ty x y ho W.heap.size cells hx hy t c (heap_alloc_at _ _) hi hold h1 (by rw [World.setRow_alloc_new]; exact h)

/-- The block that was made ahead of the last. -/
theorem heap_alloc_prev {W : World} {o : Obj} {b : Nat} {x : Obj} (h : W.heap[b]? = some x) : (W.alloc o).heap[b]? = some x := by
  rw [heap_alloc_old' (heap_lt h)]; exact h
theorem heap_setRow_prev {W : World} {g b : Nat} {cs : Array Value} {x : Obj} (h : W.heap[b]? = some x) (hne : b ≠ g) : (W.setRow g cs).heap[b]? = some x := by
  rw [setRow_other _ _ _ _ hne]; exact h
theorem heap_setCell_prev {W : World} {a : Addr} {b : Nat} {v : Value} {x : Obj} (h : W.heap[b]? = some x) (hne : b ≠ a.block) : (W.setCell a v).heap[b]? = some x := by
  rw [heap_setCell_other _ hne]; exact h

end Go.Proofs.YteneagnhihcljaaGreatDoor
namespace Go.Proofs.YteneagnhihcljaaGreatDoor
open Go.RowKit
set_option linter.unusedVariables false
set_option linter.unusedSimpArgs false

theorem rEndsL_bd (s : ByteArray) (i : Int) (hi : 0 ≤ i) : ∀ (f : Nat) (next : Int) (ws : List Int), i ≤ next → next ≤ s.size + 1 → (s.size : Int) + 5 ≤ f + next →
    i ≤ (rEndsL s i f next ws).2.1 ∧ (rEndsL s i f next ws).2.1 ≤ s.size + 6 ∧ ((rEndsL s i f next ws).2.2 = true → i < (rEndsL s i f next ws).2.1 ∧ (rEndsL s i f next ws).2.1 ≤ s.size)
  | 0, next, ws, h1, h2, h3 => by omega
  | f + 1, next, ws, h1, h2, h3 => by
    obtain ⟨r1, r2, r3, r4, r5, r6, r7⟩ := rRange_bd s next (by omega)
    unfold rEndsL
    split
    · split
      · simp; omega
      · rename_i h5; have r8 := r7 (by simpa using h5)
        exact rEndsL_bd s i hi f _ _ (by omega) (by omega) (by omega)
    · have := atB_lt (s := s) (i := next) (by omega)
      simp; omega
theorem rEnds_bd (s : ByteArray) (i : Int) (h0 : 0 ≤ i) (h1 : i ≤ s.size + 1) :
    i ≤ (rEnds s i).2.1 ∧ (rEnds s i).2.1 ≤ s.size + 6 ∧ ((rEnds s i).2.2 = true → i < (rEnds s i).2.1 ∧ (rEnds s i).2.1 ≤ s.size) :=
  rEndsL_bd s i h0 _ _ _ (by omega) (by omega) (by omega)
theorem oppN_len' (ws : List Int) (h : ws.length = 4) : (oppN ws 4).length = 4 := by rw [oppN_len]; exact h

def rBr (s : ByteArray) (i : Int) : List Int × Int × Bool :=
  if atB s i = 94 then (oppN (rEnds s (i + 1)).1 4, (rEnds s (i + 1)).2.1, (rEnds s (i + 1)).2.2) else rEnds s i
theorem rBr_len (s : ByteArray) (i : Int) : (rBr s i).1.length = 4 := by
  unfold rBr; split
  · exact oppN_len' _ (rEnds_len _ _)
  · exact rEnds_len _ _
theorem rBr_bd (s : ByteArray) (i : Int) (h0 : 0 ≤ i) (h1 : i ≤ s.size) :
    i ≤ (rBr s i).2.1 ∧ (rBr s i).2.1 ≤ s.size + 6 ∧ ((rBr s i).2.2 = true → i < (rBr s i).2.1 ∧ (rBr s i).2.1 ≤ s.size) := by
  unfold rBr; split
  · have := rEnds_bd s (i + 1) (by omega) (by omega); exact ⟨by dsimp only; omega, by dsimp only; omega, fun h => by have := this.2.2 h; dsimp only; omega⟩
  · exact rEnds_bd s i (by omega) (by omega)

theorem eq4 {a b : Array Value} (ha : a.size = 4) (hb : b.size = 4) : a.size = b.size := ha.trans hb.symm
theorem u4 {ws : List Int} (h : ws.length = 4) : (u64s ws).size = 4 := by rw [u64s_size, h]

set_option maxHeartbeats 1000000 in
theorem readBr_any (s : ByteArray) (i : Int) (w : World) (hs : s.size ≤ 1000) (h0 : 0 ≤ i) (h1 : i ≤ s.size) :
    Calls Tryz.prog 107 #[.string s, .int .i64 i] w fun e w' => e = .returned (.tuple #[.agg (u64s (rBr s i).1), .int .i64 (rBr s i).2.1, .bool (rBr s i).2.2]) ∧ Fresh w w' := by
  by_cases hc : atB s i = 94
  · have hc' : (atB s i == 94) = true := by simpa using hc
    have hR : rBr s i = (oppN (rEnds s (i + 1)).1 4, (rEnds s (i + 1)).2.1, (rEnds s (i + 1)).2.2) := by unfold rBr; rw [if_pos hc]
    rw [hR]
    have hl := oppN_len' _ (rEnds_len s (i + 1))
    have HL : Hid _ := hl
    have HL0 : Hid _ := rEnds_len s (i + 1)
    clear hc hR hl
    go_enter Tryz.func107, Tryz.ntmps107
    go_wp2_with (first
      | (go_at_call 62; refine (at_any _ _ _ (by unfold maxLen; omega)).mono ?_; rintro e w' ⟨rfl, rfl⟩)
      | (go_at_call 110; refine (readEnds_any _ _ _ (by omega) (by omega) (by omega)).mono ?_; rintro e w1 ⟨rfl, hf1⟩; have hz : w.heap.size < w1.heap.size := (by have := hf1.size; simp at this; omega))
      | (go_at_call 106; refine (opp_any _ _ HL0.out).mono ?_; rintro e w2 ⟨rfl, hf2⟩)
      | (refine wpList_store_new rfl _ _ _ rfl w1 _ _ _ rfl rfl rfl (szOf _ HL0.out) (eq4 rfl (u4 HL0.out)) (u64s_one _) ?_)
      | (refine wpList_load_row rfl _ _ rfl w1.heap.size rfl _ _ _ _ (heap_alloc_at _ _) Tryz.underlying152 rfl (szOf _ HL0.out) ?_)
      | (refine wpList_store_row rfl _ _ _ rfl w1.heap.size _ rfl rfl _ _ (hf2.at (heap_alloc_at _ _) (fun x => x)) (szOf _ HL.out) (eq4 (u4 HL0.out) (u4 HL.out)) (u64s_one _) ?_)
      | (refine wpList_load_row rfl _ _ rfl w1.heap.size rfl _ _ _ _ (setRow_heap _ _ _ _ _ _ (hf2.at (heap_alloc_at _ _) (fun x => x))) Tryz.underlying152 rfl (szOf _ HL.out) ?_)
      | (refine wpList_store_row rfl _ _ _ rfl w.heap.size _ rfl rfl _ _ (heap_setRow_prev (hf2.at (heap_alloc_prev (hf1.at (heap_alloc_at _ _) (fun x => x))) (fun x => x)) (by omega)) (szOf _ HL.out) (eq4 rfl (u4 HL.out)) (u64s_one _) ?_))
    refine bodyPost_ret (results_row2 rfl _ _ w.heap.size 152 _ (0, 0) _ rfl (setRow_heap _ _ _ _ _ _ (heap_setRow_prev (hf2.at (heap_alloc_prev (hf1.at (heap_alloc_at _ _) (fun x => x))) (fun x => x)) (by omega))) Tryz.underlying152 rfl (szOf _ HL.out)) rfl ⟨rfl, ?_⟩
    exact (((((((Mod.refl _ w).alloc _).trans hf1).alloc _).trans hf2).setRow (by omega) _).setRow (by simp) _)
  · have hc' : (atB s i == 94) = false := by simpa using hc
    have hR : rBr s i = rEnds s i := by unfold rBr; rw [if_neg hc]
    rw [hR]
    have HL0 : Hid _ := rEnds_len s i
    clear hc hR
    go_enter Tryz.func107, Tryz.ntmps107
    go_wp2_with (first
      | (go_at_call 62; refine (at_any _ _ _ (by unfold maxLen; omega)).mono ?_; rintro e w' ⟨rfl, rfl⟩)
      | (go_at_call 110; refine (readEnds_any _ _ _ (by omega) (by omega) (by omega)).mono ?_; rintro e w1 ⟨rfl, hf1⟩; have hz : w.heap.size < w1.heap.size := (by have := hf1.size; simp at this; omega))
      | (refine wpList_store_new rfl _ _ _ rfl w1 _ _ _ rfl rfl rfl (szOf _ HL0.out) (eq4 rfl (u4 HL0.out)) (u64s_one _) ?_)
      | (refine wpList_load_row rfl _ _ rfl w1.heap.size rfl _ _ _ _ (heap_alloc_at _ _) Tryz.underlying152 rfl (szOf _ HL0.out) ?_)
      | (refine wpList_store_row rfl _ _ _ rfl w.heap.size _ rfl rfl _ _ (heap_alloc_prev (hf1.at (heap_alloc_at _ _) (fun x => x))) (szOf _ HL0.out) (eq4 rfl (u4 HL0.out)) (u64s_one _) ?_))
    refine bodyPost_ret (results_row2 rfl _ _ w.heap.size 152 _ (0, 0) _ rfl (setRow_heap _ _ _ _ _ _ (heap_alloc_prev (hf1.at (heap_alloc_at _ _) (fun x => x)))) Tryz.underlying152 rfl (szOf _ HL0.out)) rfl ⟨rfl, ?_⟩
    exact (((((Mod.refl _ w).alloc _).trans hf1).alloc _).setRow (by simp) _)

def rSet (s : ByteArray) (i : Int) : List Int × Int × Bool :=
  if atB s i = 46 then (oppN (withF zero4 10 10) 4, i + 1, true)
  else if atB s i = 91 then rBr s (i + 1)
  else if atB s i = 92 then (withF zero4 (rMark s (i + 1)).1 (rMark s (i + 1)).1, (rMark s (i + 1)).2.1, (rMark s (i + 1)).2.2)
  else if isPlainB (atB s i) = false then (zero4, i, false)
  else (withF zero4 (atB s i) (atB s i), i + 1, true)
theorem rSet_len (s : ByteArray) (i : Int) : (rSet s i).1.length = 4 := by
  unfold rSet
  split
  · exact oppN_len' _ (withF_len _ _ _)
  · split
    · exact rBr_len _ _
    · split
      · exact withF_len _ _ _
      · split
        · rfl
        · exact withF_len _ _ _
theorem rSet_bd (s : ByteArray) (i : Int) (h0 : 0 ≤ i) :
    i ≤ (rSet s i).2.1 ∧ (rSet s i).2.1 ≤ i + s.size + 10 ∧ ((rSet s i).2.2 = true → i < (rSet s i).2.1 ∧ (rSet s i).2.1 ≤ s.size) := by
  have hb := atB_bd s i
  unfold rSet
  split
  · have := atB_lt (s := s) (i := i) (by omega); simp; omega
  · split
    · have := atB_lt (s := s) (i := i) (by omega)
      have h2 := rBr_bd s (i + 1) (by omega) (by omega)
      exact ⟨by omega, by omega, fun h => by have := h2.2.2 h; omega⟩
    · split
      · have := atB_lt (s := s) (i := i) (by omega)
        have h2 := rMark_bd s (i + 1) (by omega)
        exact ⟨by dsimp only; omega, by dsimp only; omega, fun h => by have := h2.2.2.2.2 h; dsimp only; omega⟩
      · split
        · simp; omega
        · rename_i h5
          have h7 : 32 ≤ atB s i := by unfold isPlainB isPrB at h5; simp at h5; omega
          have := atB_lt (s := s) (i := i) (by omega)
          simp; omega
end Go.Proofs.YteneagnhihcljaaGreatDoor
