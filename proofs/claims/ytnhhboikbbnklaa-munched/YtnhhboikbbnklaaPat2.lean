import Derived.Test.YtnhhboikbbnklaaPat1
import Derived.Test.YtnhhboikbbnklaaHeap
namespace Go.Proofs.Ytnhhboikbbnklaa
open Go.RowKit
set_option linter.unusedVariables false
set_option linter.unusedSimpArgs false

def u64s (ws : List Int) : Array Value := (ws.map (Value.int .u64)).toArray
theorem u64s_at (ws : List Int) (i : Nat) (h : i < ws.length) : (u64s ws)[i]? = some (.int .u64 (ws.getD i 0)) := by
  simp [u64s, h]
def setBit (ws : List Int) (x : Int) : List Int :=
  ws.set (x / 64).toNat (bits BinOp.or IntKind.u64 (ws[(x / 64).toNat]?.getD 0) (IntKind.u64.wrap (2 ^ (x % 64).toNat)))
def withN (ws : List Int) (low : Int) : Nat → List Int
  | 0 => ws
  | n + 1 => setBit (withN ws low n) (low + n)
def withF (ws : List Int) (low high : Int) : List Int := withN ws low (high + 1 - low).toNat
theorem withN_len (ws : List Int) (low : Int) (n : Nat) : (withN ws low n).length = ws.length := by
  induction n with
  | zero => rfl
  | succ n ih => simp [withN, setBit, ih]
theorem u64s_set (ws : List Int) (i : Nat) (v : Int) : (u64s ws).setIfInBounds i (.int .u64 v) = u64s (ws.set i v) := by
  simp [u64s, List.map_set]

theorem four {ws : List Int} (h : ws.length = 4) : ∃ a b c d, ws = [a, b, c, d] := by
  match ws, h with
  | [a, b, c, d], _ => exact ⟨a, b, c, d, rfl⟩

set_option maxHeartbeats 1000000 in
theorem with_any (ws : List Int) (low high : Int) (w : World) (hl : ws.length = 4) (h0 : 0 ≤ low) (h1 : low ≤ 255) (h2 : 0 ≤ high) (h3 : high ≤ 255) :
    Calls Try.prog 114 #[.agg (u64s ws), .int .i64 low, .int .i64 high] w fun e w' => e = .returned (.agg (u64s (withF ws low high))) ∧ Fresh w w' := by
  obtain ⟨a, b, c, d, hws⟩ := four hl
  have HW : Hid (ws = [a, b, c, d]) := hws
  have e1 : u64s ws = #[.int .u64 a, .int .u64 b, .int .u64 c, .int .u64 d] := by rw [hws]; rfl
  rw [e1]
  clear hws e1
  go_enter Try.func114, Try.ntmps114
  go_wp2
  go_loopw [7] (fun i wr => ∃ n : Nat, i = .int .i64 (low + n) ∧ low + n ≤ 256 ∧ (n = 0 ∨ low + n ≤ high + 1) ∧
      wr.heap[w.heap.size]? = some (.cells (u64s (withN ws low n)) 130 (0,0)) ∧
      wr.heap[w.heap.size + 1]? = some (.cells #[.int .u64 0, .int .u64 0, .int .u64 0, .int .u64 0] 130 (0,0)) ∧ Fresh w wr)
      (fun i _ => 256 - (intOf i).toNat)
  case atStart =>
    refine ⟨0, by simp, by omega, by omega, ?_, heap_alloc2_new _ _ _, ((Mod.refl _ _).alloc _).alloc _⟩
    rw [heap_alloc2_old]; simp only [withN]; rw [HW.out]; rfl
  case round =>
    obtain ⟨n, rfl, hx1, hx2, hb0, hb1, hf⟩ := hrel
    have hl' := withN_len ws low n
    by_cases hx : low + n ≤ high
    · have hc : wr.cell? ⟨w.heap.size, ((low + n) / 64).toNat, none⟩ = some (.int .u64 ((withN ws low n).getD ((low + n) / 64).toNat 0)) := by rw [cellOf hb0, u64s_at _ _ (by omega)]
      have hz := frozenOf hb0
      have HB0 : Hid _ := hb0
      have HB1 : Hid _ := hb1
      clear hb0 hb1 hl' hl
      go_wp2
      go_roundw
      case rel =>
        refine ⟨n + 1, by go_num, by omega, by omega, ?_, ?_, hf.setCell (by simp) _⟩
        · rw [Proofs.Ytnhhboikbbnklaa.heap_setCell_same HB0.out, u64s_set]; rfl
        · rw [Proofs.Ytnhhboikbbnklaa.heap_setCell_other _ (by simp)]; exact HB1.out
      case measure => simp [intOf]; omega
    · obtain ⟨a', b', c', d', e'⟩ := four (ws := withN ws low n) (by omega)
      have hn : (high + 1 - low).toNat = n := by omega
      have e2 : withF ws low high = [a', b', c', d'] := by rw [← e']; unfold withF; rw [hn]
      rw [e'] at hb0
      simp only [u64s, List.map] at hb0
      have hc := fun o => cellOf hb0 o
      have hz := frozenOf hb0
      have hc1 := fun o => cellOf hb1 o
      have hz1 := frozenOf hb1
      have HB1 : Hid _ := hb1
      have E2 : Hid _ := e2
      clear hb0 hb1 hl' hl e' hn e2 
      go_wp2
      refine bodyPost_ret (results_cell_row rfl _ _ (w.heap.size + 1) 130 #[.int .u64 a', .int .u64 b', .int .u64 c', .int .u64 d'] (0, 0) _ rfl ?_ Try.underlying130 rfl (by kernel_rfl)) rfl ⟨?_, ?_⟩
      · rw [Proofs.Ytnhhboikbbnklaa.heap_setCell_same (Proofs.Ytnhhboikbbnklaa.heap_setCell_same (Proofs.Ytnhhboikbbnklaa.heap_setCell_same (Proofs.Ytnhhboikbbnklaa.heap_setCell_same HB1.out _ _) _ _) _ _) _ _]; rfl
      · rw [E2.out]; rfl
      · exact (((hf.setCell (by simp) _).setCell (by simp) _).setCell (by simp) _).setCell (by simp) _
end Go.Proofs.Ytnhhboikbbnklaa
