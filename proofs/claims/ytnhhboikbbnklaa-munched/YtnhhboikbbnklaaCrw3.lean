import Derived.Test.YtnhhboikbbnklaaCrw2
import Derived.Deep.OwnRows
namespace Go.Proofs.Ytnhhboikbbnklaa
open Go.RowKit
set_option linter.unusedVariables false
set_option linter.unusedSimpArgs false

theorem made_int (n : Nat) : madeCells #[.int .i64 0] n = i64s (List.replicate n 0) := by
  unfold madeCells i64s
  apply Array.ext_getElem?
  intro i
  by_cases h : i < n <;> simp [h, Nat.mod_one]
theorem made_bool (n : Nat) : madeCells #[.bool false] n = boolsOf n [] := by
  unfold madeCells boolsOf
  apply Array.ext_getElem?
  intro i
  by_cases h : i < n <;> simp [h, Nat.mod_one]

set_option maxHeartbeats 2000000 in
theorem newCrowd_any (w : World) (n : Nat) (hn : n ≤ 100000) :
    Calls Try.prog 44 #[.int .i64 n] w fun e w' => ∃ cb lb ib, e = .returned (cptr cb) ∧ CrAt w' cb lb ib n [] ∧ Fresh w w' ∧ (∀ k, cfoot cb lb ib k → w.heap.size ≤ k) := by
  have h1 := fun w => run_make_row' (P := Try.prog) 48 3 (.int .i64 0) 8 Try.underlying48 (by kernel_rfl) rfl .i64 .i64 n (by omega) (by omega) w
  have h2 := fun w => run_make_row' (P := Try.prog) 47 4 (.bool false) 1 Try.underlying47 (by kernel_rfl) rfl .i64 .i64 n (by omega) (by omega) w
  go_enter Try.func44, Try.ntmps44
  go_wp2_with fail
  go_region
  all_goals
    go_wp2
    go_ret
  · refine ⟨w.heap.size + 2, w.heap.size, w.heap.size + 1, rfl, ⟨by simp, by simp, ?_, ⟨List.replicate n 0, by simp, by simp, ?_⟩, ?_, by omega, by omega, by omega⟩, Mod.of_heap ((((Mod.refl _ w).alloc _).alloc _).alloc _) rfl rfl rfl rfl, ?_⟩
    · exact heap_alloc3_3 _ _ _ _
    · rw [← made_int]; exact heap_alloc3_1 _ _ _ _
    · rw [← made_bool]; exact heap_alloc3_2 _ _ _ _
    · intro k hk; rcases hk with rfl | rfl | rfl <;> omega
  · refine ⟨w.heap.size + 2, w.heap.size + 1, w.heap.size, rfl, ⟨by simp, by simp, ?_, ⟨List.replicate n 0, by simp, by simp, ?_⟩, ?_, by omega, by omega, by omega⟩, Mod.of_heap ((((Mod.refl _ w).alloc _).alloc _).alloc _) rfl rfl rfl rfl, ?_⟩
    · exact heap_alloc3_3 _ _ _ _
    · rw [← made_int]; exact heap_alloc3_2 _ _ _ _
    · rw [← made_bool]; exact heap_alloc3_1 _ _ _ _
    · intro k hk; rcases hk with rfl | rfl | rfl <;> omega

set_option maxHeartbeats 2000000 in
theorem empty_any (w : World) (cb lb ib n : Nat) (l : List Nat) (h : CrAt w cb lb ib n l) (hn : n ≤ 100000) :
    Calls Try.prog 48 #[cptr cb] w fun e w' => e = .returned (.tuple #[]) ∧ CrAt w' cb lb ib n [] ∧ Mod (cfoot cb lb ib) w w' := by
  obtain ⟨⟨f1, f2, f3⟩, f4, _, f5, z1, z2, z3⟩ := h.facts
  have H := hid h
  clear f4 f5 h
  go_enter Try.func48, Try.ntmps48
  go_wp2
  go_loopw [8] (fun i wr => ∃ k : Nat, i = .int .i64 k ∧ k ≤ n ∧ wr.heap[cb]? = w.heap[cb]? ∧ wr.heap[lb]? = w.heap[lb]? ∧
      (∃ bs : Array Value, bs.size = n ∧ wr.heap[ib]? = some (.cells bs 4 (0, 0)) ∧ ∀ j, j < k → bs[j]? = some (.bool false)) ∧ Mod (cfoot cb lb ib) w wr)
      (fun i _ => n - (intOf i).toNat)
  case atStart => exact ⟨0, rfl, by omega, rfl, rfl, ⟨boolsOf n l, by simp [boolsOf], H.out.ins, by omega⟩, Mod.refl _ _⟩
  case round =>
    obtain ⟨k, rfl, hk, hb, hb2, ⟨bs, hbs, hb3, hall⟩, hmod⟩ := hrel
    have c1 := cellOf (hb.trans H.out.blk)
    have c4 := frozenOf (hb.trans H.out.blk)
    by_cases hx : k < n
    · have c2 : wr.cell? ⟨ib, k, none⟩ = some bs[k] := by rw [cellOf hb3]; simp
      have c3 := frozenOf hb3
      have HB := hid hb
      have HB2 := hid hb2
      have HB3 := hid hb3
      have HA := hid hall
      clear hb hb2 hb3 hall
      go_wp2
      go_roundw
      case rel =>
        refine ⟨k + 1, by go_num, by omega, ?_, ?_, ⟨bs.setIfInBounds k (.bool false), by simpa using hbs, Proofs.Ytnhhboikbbnklaa.heap_setCell_same HB3.out _ _, ?_⟩, ?_⟩
        · rw [Proofs.Ytnhhboikbbnklaa.heap_setCell_other _ (by simpa using H.out.d2)]; exact HB.out
        · rw [Proofs.Ytnhhboikbbnklaa.heap_setCell_other _ (by simpa using H.out.d3)]; exact HB2.out
        · intro j hj
          rw [Array.getElem?_setIfInBounds]
          by_cases e : k = j
          · rw [if_pos e, if_pos (by omega)]
          · rw [if_neg e]; exact HA.out j (by omega)
        · exact hmod.setCell (fun _ => .inr (.inr rfl)) _
      case measure => simp [intOf]; omega
    · have hkn : k = n := by omega
      subst hkn
      have HB := hid hb
      have HB2 := hid hb2
      have HB3 := hid hb3
      have HA := hid hall
      clear hb hb2 hb3 hall
      go_wp2
      refine bodyPost_end (results_none rfl _ _ _) rfl ⟨rfl, ?_, hmod.setCell (fun _ => .inl rfl) _⟩
      obtain ⟨ls, h1, h2, h3⟩ := H.out.lst
      refine ⟨by simp, by simp, ?_, ⟨ls, h1, by simp, ?_⟩, ?_, H.out.d1, H.out.d2, H.out.d3⟩
      · rw [Proofs.Ytnhhboikbbnklaa.heap_setCell_same (HB.out.trans H.out.blk) 1 _]; simp
      · exact heap_setCell_prev (HB2.out.trans h3) (by simpa using H.out.d1.symm)
      · refine heap_setCell_prev ?_ (by simpa using H.out.d2.symm)
        rw [HB3.out]
        have : bs = boolsOf k [] := by
          apply Array.ext_getElem?
          intro i
          by_cases hi : i < k
          · rw [HA.out i hi, boolsOf_at _ _ _ hi]; simp
          · rw [Array.getElem?_eq_none (by omega), Array.getElem?_eq_none (by simp [boolsOf]; omega)]
        rw [this]
end Go.Proofs.Ytnhhboikbbnklaa
