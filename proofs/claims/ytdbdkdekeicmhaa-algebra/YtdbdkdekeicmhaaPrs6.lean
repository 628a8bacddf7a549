import Derived.Test.YtdbdkdekeicmhaaPrs4
namespace Go.Proofs.Ytdbdkdekeicmhaa
open Go.RowKit
set_option linter.unusedVariables false
set_option linter.unusedSimpArgs false

/-- v is a slice of these nodes. -/
structure NodesAt (w : World) (v : Value) (ns : List Node) : Prop where
  own : w.ownsRow 0 83 7 v ns.length (ncells ns)
  wf : Nwf ns
theorem NodesAt.kept {S : Nat → Prop} {w w' : World} {v : Value} {ns : List Node} (h : NodesAt w v ns) (hm : Mod S w w') (hs : ∀ k, v.ownBlock = some k → ¬ S k) : NodesAt w' v ns :=
  ⟨ownsRow_other h.own (fun g hg => hm.block g (h.own.lt g hg).2 (hs g hg)), h.wf⟩
def nilV : Value := .slice none 0 0
theorem szPat : (Try.prog.info? 54).map (·.size) = some 3 := by kernel_rfl
abbrev patV (v : Value) (a b : Int) : Value := .agg #[v, .int .i64 a, .int .i64 b]
def rRead (s : ByteArray) (i : Int) : PR := chK s 6 i []

theorem BAt_new (W : World) : BAt (W.alloc (.cells #[.slice none 0 0] 90 (0, 0))) W.heap.size (.slice none 0 0) [] :=
  ⟨heap_alloc_at _ _, World.ownsRow_nil _ _ _ _, fun _ h => by cases h⟩

theorem foot_nil {bb k : Nat} (h : foot bb (.slice none 0 0) k) : k = bb := by
  rcases h with h | h
  · exact h
  · simp [Value.ownBlock] at h
theorem fresh_read {w w1 : World} {A B : Obj} {v1 : Value} {ns : List Node} (h1 : BNext ((w.alloc A).alloc B) w1 (w.heap.size + 1) (.slice none 0 0) v1 ns) : Fresh w w1 :=
  Mod.trans' (T := foot (w.heap.size + 1) (.slice none 0 0)) (((Mod.refl _ w).alloc _).alloc _) h1.mod (fun i hi hf => by have := foot_nil hf; omega)

set_option maxHeartbeats 2000000 in
theorem read_bad (s : ByteArray) (i : Int) (w : World) (hs : s.size ≤ 1000) (h0 : 0 ≤ i) (h1 : i ≤ s.size) (hok : (rRead s i).ok = false) :
    Calls Try.prog 42 #[.string s, .int .i64 i] w fun e w' => e = .returned (.tuple #[patV (.slice none 0 0) 0 0, .int .i64 (rRead s i).next, .bool false]) ∧ Fresh w w' := by
  have HC := readChoice_any s hs i [] ((w.alloc (.cells #[.slice none 0 0, .int .i64 0, .int .i64 0] 54 (0, 0))).alloc (.cells #[.slice none 0 0] 90 (0, 0))) (w.heap.size + 1) (.slice none 0 0) h0 h1 (by simp; omega) (by simpa using BAt_new (w.alloc (.cells #[.slice none 0 0, .int .i64 0, .int .i64 0] 54 (0, 0))))
  have hG := good_chK s 6 i [] h0 h1
  unfold rRead at hok ⊢
  generalize hpp : chK s 6 i [] = pp at HC hG hok ⊢
  simp only [prRet] at HC
  obtain ⟨g1, g2, g3, g4⟩ := hG
  rw [hok] at HC
  have HC' := hid HC
  clear HC hpp g3 hok
  go_enter Try.func42, Try.ntmps42
  go_wp2_with (first
    | (go_at_call 43; refine HC'.out.mono ?_; rintro e w1 ⟨rfl, v1, h1⟩; have hz : w.heap.size < w1.heap.size := (by have := h1.mod.size; simp at this; omega); have hb := h1.mod.at (heap_alloc2_old _ _ _) (by rintro (h | h) <;> simp [Value.ownBlock] at h); have k3 := cellOf hb; have k4 := frozenOf hb))
  refine bodyPost_ret (results_row2 rfl _ _ w.heap.size 54 #[.slice none 0 0, .int .i64 0, .int .i64 0] (0, 0) _ rfl ?_ Try.underlying54 rfl szPat) rfl ⟨rfl, ?_⟩
  · refine heap_alloc_prev ?_
    rw [Proofs.Ytdbdkdekeicmhaa.heap_setCell_same (Proofs.Ytdbdkdekeicmhaa.heap_setCell_same (Proofs.Ytdbdkdekeicmhaa.heap_setCell_same hb 0 _) 1 _) 2 _]; rfl
  · exact ((((fresh_read h1).setCell (by simp) _).setCell (by simp) _).setCell (by simp) _).alloc _

set_option maxHeartbeats 2000000 in
theorem read_good (s : ByteArray) (i : Int) (w : World) (hs : s.size ≤ 1000) (h0 : 0 ≤ i) (h1 : i ≤ s.size) (hok : (rRead s i).ok = true) :
    Calls Try.prog 42 #[.string s, .int .i64 i] w fun e w' => ∃ v, e = .returned (.tuple #[patV v (rRead s i).st (rRead s i).en, .int .i64 (rRead s i).next, .bool true]) ∧ Fresh w w' ∧ NodesAt w' v (rRead s i).ns ∧ ∀ k, v.ownBlock = some k → w.heap.size ≤ k := by
  have HC := readChoice_any s hs i [] ((w.alloc (.cells #[.slice none 0 0, .int .i64 0, .int .i64 0] 54 (0, 0))).alloc (.cells #[.slice none 0 0] 90 (0, 0))) (w.heap.size + 1) (.slice none 0 0) h0 h1 (by simp; omega) (by simpa using BAt_new (w.alloc (.cells #[.slice none 0 0, .int .i64 0, .int .i64 0] 54 (0, 0))))
  have hG := good_chK s 6 i [] h0 h1
  unfold rRead at hok ⊢
  generalize hpp : chK s 6 i [] = pp at HC hG hok ⊢
  simp only [prRet] at HC
  obtain ⟨g1, g2, g3, g4⟩ := hG
  rw [hok] at HC
  have HC' := hid HC
  clear HC hpp g3 hok
  go_enter Try.func42, Try.ntmps42
  go_wp2_with (first
    | (go_at_call 43; refine HC'.out.mono ?_; rintro e w1 ⟨rfl, v1, h1⟩; have hz : w.heap.size < w1.heap.size := (by have := h1.mod.size; simp at this; omega); have hb := h1.mod.at (heap_alloc2_old _ _ _) (by rintro (h | h) <;> simp [Value.ownBlock] at h)))
  obtain ⟨ao, cap, hv⟩ := own_form h1.at'.own
  have HB := hid hb
  have H1 := hid h1
  have k1 := cellOf h1.at'.blk
  have hz1 : w.heap.size + 1 < w1.heap.size := by have := h1.mod.size; simp at this; omega
  have k3 := cellOf hb
  have k4 := frozenOf hb
  subst hv
  clear hb h1
  go_region
  all_goals
    go_wp2
    refine bodyPost_ret (results_row2 rfl _ _ w.heap.size 54 #[.slice ao pp.ns.length cap, .int .i64 pp.st, .int .i64 pp.en] (0, 0) _ rfl ?_ Try.underlying54 rfl szPat) rfl ⟨.slice ao pp.ns.length cap, rfl, ?_, ?_, ?_⟩
    · have q := Proofs.Ytdbdkdekeicmhaa.heap_setCell_same (Proofs.Ytdbdkdekeicmhaa.heap_setCell_same (Proofs.Ytdbdkdekeicmhaa.heap_setCell_same HB.out 0 (.slice ao pp.ns.length cap)) 1 (.int .i64 pp.st)) 2 (.int .i64 pp.en)
      exact heap_alloc_prev q
    · exact (((((fresh_read H1.out).setCell (by simp) _).setCell (by simp) _).setCell (by simp) _).alloc _).drew
    · have n1 : NodesAt w1 (.slice ao pp.ns.length cap) pp.ns := ⟨ownsRow_base H1.out.at'.own (Nat.zero_le _), H1.out.at'.wf⟩
      refine n1.kept (S := fun k => k = w.heap.size) ?_ (fun k hk e => by have := H1.out.at'.own_lt k hk; omega)
      exact ((((Mod.setCell (S := fun k => k = w.heap.size) (Mod.setCell (S := fun k => k = w.heap.size) (Mod.setCell (S := fun k => k = w.heap.size) (Mod.refl _ w1) (p := ⟨w.heap.size, 0, none⟩) (fun _ => rfl) _) (p := ⟨w.heap.size, 1, none⟩) (fun _ => rfl) _) (p := ⟨w.heap.size, 2, none⟩) (fun _ => rfl) _)).alloc _)).drew
    · intro k hk; have := H1.out.at'.own_lt k hk; omega
end Go.Proofs.Ytdbdkdekeicmhaa
