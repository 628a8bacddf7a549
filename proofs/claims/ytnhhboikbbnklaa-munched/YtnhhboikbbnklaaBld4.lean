import Derived.Test.YtnhhboikbbnklaaBld3
namespace Go.Proofs.Ytnhhboikbbnklaa
open Go.RowKit
set_option linter.unusedVariables false
set_option linter.unusedSimpArgs false

def readNode (ws : List Int) (e : Int) : Node := ⟨true, ws, e, -1⟩
def oneN (ns : List Node) (ws : List Int) : List Node := ns ++ [plainNode] ++ [readNode ws ns.length]

set_option maxHeartbeats 1000000 in
theorem readOne_any (w : World) (bb : Nat) (v : Value) (ns : List Node) (ws : List Int) (h : BAt w bb v ns) (hn : ns.length ≤ 50000) (hl : ws.length = 4) :
    Calls Try.prog 108 #[bptr bb, .agg (u64s ws)] w fun e w' => e = .returned (frag (ns.length + 1) ns.length) ∧ ∃ v', BNext w w' bb v v' (oneN ns ws) := by
  obtain ⟨i0, hi, hz0, hz1, hz2⟩ := infoNode'
  obtain ⟨a, b, c, d, hws⟩ := four hl
  have HW : Hid (ws = [a, b, c, d]) := hws
  have e1 : u64s ws = #[.int .u64 a, .int .u64 b, .int .u64 c, .int .u64 d] := by rw [hws]; rfl
  rw [e1]
  have H : Hid _ := h
  have hN := fun k (hk : w.heap.size ≤ k) => h.not_foot hk
  have HN : Hid _ := hN
  clear hws e1 h hN hl
  go_enter Try.func108, Try.ntmps108
  go_wp2_with (go_at_call 100; refine (addNode_any _ bb v ns (H.out.fresh ((((Mod.refl _ w).alloc _).alloc _))) (by omega)).mono ?_; rintro e w1 ⟨rfl, v1, h1⟩)
  have k1 := h1.loc (heap_alloc2_old _ _ _) (HN.out _ (by omega))
  obtain ⟨ao, cap, hv⟩ := own_form h1.at'.own
  have k2 := cellOf h1.at'.blk 0
  have k3 := frozenOf h1.at'.blk 0
  have H1 : Hid _ := h1
  clear h1
  subst hv
  simp at k2
  have HO : Hid (∀ o : Obj, (w1.alloc o).drew.ownsRow (bb + 1) 132 7 (.slice ao (ns ++ [plainNode]).length cap) (ns ++ [plainNode]).length (ncells (ns ++ [plainNode]))) := fun o => H1.out.at'.own.alloc o
  have HB : Hid (∀ (o : Obj) (v' : Value) (w2 : World), (w1.alloc o).drew.grownBy w2 (Value.ownBlock (.slice ao (ns ++ [plainNode]).length cap)) → w2.heap[bb]? = some (.cells #[.slice ao (ns ++ [plainNode]).length cap] 146 (0, 0))) := by
    intro o v' w2 hg
    have hl := H1.out.at'.lt
    rw [hg.block bb (by simp [World.drew]; omega) (fun e => by have := H1.out.at'.own_lt bb e.symm; omega)]
    show (w1.alloc o).heap[bb]? = _
    rw [heap_alloc_old' hl]; exact H1.out.at'.blk
  have hlt1 : w.heap.size + 1 < w1.heap.size := by have := H1.out.mod.size; simp at this; omega
  have hbb : bb < w1.heap.size := H1.out.at'.lt
  go_region_law (refine step_append_mine _ rfl (.tmp 12) (.tmp 16) 70 rfl (bb + 1) 132 i0 _ 7 56 Try.underlying70 hi hz0 hz1 hz2 rfl (by decide) (.slice ao (ns ++ [plainNode]).length cap) _ _ (by simp [Act.eval, Act.put]) (HO.out _) ⟨w1.heap.size, 0, none⟩ 1 1 [.bool true, .int .u64 a, .int .u64 b, .int .u64 c, .int .u64 d, .int .i64 ns.length, .int .i64 (-1)] (by simp [Act.eval, Act.put]) rfl (new_cells rfl) (by intro u hu; simp at hu; rcases hu with rfl | rfl | rfl | rfl | rfl | rfl | rfl <;> rfl) (by unfold maxLen; simp; omega) (by simp; omega) (by simp [World.drew]; omega) ?_; intro v' w2 hown hgrow hblk; obtain ⟨a', cap', hv'⟩ := own_form hown; have hc2 := cellOf (HB.out _ v' w2 hgrow) 0; have hz2 := frozenOf (HB.out _ v' w2 hgrow) 0; have HO2 : Hid _ := hown; have HG2 : Hid _ := hgrow; clear hown hgrow; subst hv')
  all_goals
    have hnf := H1.out.nf (k := w.heap.size + 1) (by simp) (HN.out _ (by omega))
    have hres : w2.heap[w.heap.size + 1]? = some (.cells #[.int .i64 0, .int .i64 0] 148 (0, 0)) := by
      rw [HG2.out.block _ (by simp [World.drew]; omega) (fun e => hnf (.inr e.symm))]
      exact heap_alloc_prev (H1.out.mod.at (heap_alloc2_new _ _ _) (HN.out _ (by omega)))
    have hne : w.heap.size + 1 ≠ bb := by have := H.out.lt; omega
    have hc3 := cellOf hres
    have hz3 := frozenOf hres
    have HR : Hid _ := hres
    have HNF : Hid _ := hnf
    have HE : Hid _ := hne
    clear hres hnf k1
    go_wp2
    have fin := badd (n := readNode ws ns.length) H1.out.at' (((Mod.refl _ w1).alloc _).drew) (by rw [HW.out]; rfl) (by rw [HW.out]; exact HO2.out) HG2.out (by simpa [World.drew] using hblk)
    have fin2 := H1.out.trans fin
    have hnf2 := fin.nf (k := w.heap.size + 1) (by omega) HNF.out
    refine bodyPost_ret (results_cell_row rfl _ _ (w.heap.size + 1) 148 #[.int .i64 (ns.length + 1), .int .i64 ns.length] (0, 0) _ rfl ?_ Try.underlying148 rfl szFrag) rfl ⟨rfl, .slice a' ((ns ++ [plainNode]).length + 1) cap', ?_⟩
    · rw [Proofs.Ytnhhboikbbnklaa.heap_setCell_same (Proofs.Ytnhhboikbbnklaa.heap_setCell_same (heap_setCell_prev HR.out HE.out) 0 _) 1 _]; rfl
    · have := ((BNext.ahead (((Mod.refl _ w).alloc _).alloc _) fin2).put (p := ⟨w.heap.size + 1, 0, none⟩) (by simp) hnf2 (.int .i64 (ns.length + 1))).put (p := ⟨w.heap.size + 1, 1, none⟩) (by simp) hnf2 (.int .i64 ns.length)
      simpa [oneN] using this
theorem oneN_len (ns : List Node) (ws : List Int) : (oneN ns ws).length = ns.length + 2 := by simp [oneN]
end Go.Proofs.Ytnhhboikbbnklaa
