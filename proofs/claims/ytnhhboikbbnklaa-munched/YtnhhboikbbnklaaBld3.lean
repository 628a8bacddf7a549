import Derived.Test.YtnhhboikbbnklaaBld2
namespace Go.Proofs.Ytnhhboikbbnklaa
open Go.RowKit
set_option linter.unusedVariables false
set_option linter.unusedSimpArgs false

abbrev frag (a b : Int) : Value := .agg #[.int .i64 a, .int .i64 b]
theorem BAt.not_foot {w : World} {bb : Nat} {v : Value} {ns : List Node} (h : BAt w bb v ns) {k : Nat} (hk : w.heap.size ≤ k) : ¬ foot bb v k := by
  rintro (rfl | h1)
  · have := h.lt; omega
  · have := h.own_lt k h1; omega
theorem BAt.fresh {w w' : World} {bb : Nat} {v : Value} {ns : List Node} (h : BAt w bb v ns) (hm : Fresh w w') : BAt w' bb v ns := h.kept hm (fun _ _ x => x)
theorem BNext.nf {w w' : World} {bb : Nat} {v v' : Value} {ns' : List Node} (h : BNext w w' bb v v' ns') {k : Nat} (hk : k < w.heap.size) (hn : ¬ foot bb v k) : ¬ foot bb v' k := by
  rintro (rfl | h1)
  · exact hn (.inl rfl)
  · rcases h.foot' k h1 with h2 | h2
    · exact hn (.inr h2)
    · omega
theorem BNext.put {a b : World} {bb : Nat} {v v' : Value} {ns' : List Node} (h : BNext a b bb v v' ns') {p : Addr} (hk : a.heap.size ≤ p.block) (hf : ¬ foot bb v' p.block) (u : Value) : BNext a (b.setCell p u) bb v v' ns' :=
  h.behind (S := fun i => i = p.block) (Mod.setCell (S := fun i => i = p.block) (Mod.refl _ _) (fun _ => rfl) u) (fun i hi => by rw [hi]; exact hk) (fun i hi e => hf (by rw [← e]; exact hi))
theorem BNext.putRow {a b : World} {bb : Nat} {v v' : Value} {ns' : List Node} (h : BNext a b bb v v' ns') {g : Nat} (hk : a.heap.size ≤ g) (hf : ¬ foot bb v' g) (cs : Array Value) : BNext a (b.setRow g cs) bb v v' ns' :=
  h.behind (S := fun i => i = g) (Mod.setRow (S := fun i => i = g) (Mod.refl _ _) (fun _ => rfl) cs) (fun i hi => by rw [hi]; exact hk) (fun i hi e => hf (by rw [← e]; exact hi))
theorem BNext.alloc {a b : World} {bb : Nat} {v v' : Value} {ns' : List Node} (h : BNext a b bb v v' ns') (o : Obj) : BNext a (b.alloc o) bb v v' ns' :=
  h.behind (S := fun _ => False) ((Mod.refl _ _).alloc o) (fun _ x => x.elim) (fun _ _ x => x)
theorem BNext.loc {W w' : World} {bb : Nat} {v v' : Value} {ns' : List Node} (g : BNext W w' bb v v' ns') {k : Nat} {cs : Array Value} {e : TypeId} {f : Nat × Nat} (hb : W.heap[k]? = some (.cells cs e f)) (hn : ¬ foot bb v k) (o : Nat) :
    w'.cell? ⟨k, o, none⟩ = cs[o]? := cellOf (g.mod.at hb hn) o
theorem heap_alloc3_1 (w : World) (A B C : Obj) : (((w.alloc A).alloc B).alloc C).heap[w.heap.size]? = some A := heap_alloc_prev (heap_alloc_prev (heap_alloc_at _ _))
theorem heap_alloc3_2 (w : World) (A B C : Obj) : (((w.alloc A).alloc B).alloc C).heap[w.heap.size + 1]? = some B := heap_alloc_prev (heap_alloc2_new _ _ _)
theorem heap_alloc3_3 (w : World) (A B C : Obj) : (((w.alloc A).alloc B).alloc C).heap[w.heap.size + 2]? = some C := by
  have := heap_alloc_at ((w.alloc A).alloc B) C
  simpa using this
theorem szFrag : (Try.prog.info? 148).map (·.size) = some 2 := by kernel_rfl

set_option maxHeartbeats 1000000 in
theorem join_any (w : World) (bb : Nat) (v : Value) (ns : List Node) (a b c d : Int) (h : BAt w bb v ns) (hn : ns.length ≤ 100000) :
    Calls Try.prog 99 #[bptr bb, frag a b, frag c d] w fun e w' => e = .returned (frag a d) ∧ ∃ v', BNext w w' bb v v' (linkN ns b c) := by
  have H : Hid _ := h
  have hN := fun k (hk : w.heap.size ≤ k) => h.not_foot hk
  have HN : Hid _ := hN
  clear h hN
  go_enter Try.func99, Try.ntmps99
  go_wp2_with (go_at_call 101; refine (link_any _ bb v ns _ _ (H.out.fresh (((((Mod.refl _ w).alloc _).alloc _).alloc _))) (by omega)).mono ?_; rintro e w1 ⟨rfl, v1, h1⟩; have k1 := cellOf (h1.mod.at (heap_alloc3_1 _ _ _ _) (HN.out _ (by omega))); have k2 := cellOf (h1.mod.at (heap_alloc3_2 _ _ _ _) (HN.out _ (by omega))); have k3 := cellOf (h1.mod.at (heap_alloc3_3 _ _ _ _) (HN.out _ (by omega))); have k4 := frozenOf (h1.mod.at (heap_alloc3_3 _ _ _ _) (HN.out _ (by omega))))
  refine bodyPost_ret (results_cell_row rfl _ _ (w.heap.size + 2) 148 #[.int .i64 a, .int .i64 d] (0, 0) _ rfl ?_ Try.underlying148 rfl szFrag) rfl ⟨rfl, v1, ?_⟩
  · rw [Proofs.Ytnhhboikbbnklaa.heap_setCell_same (Proofs.Ytnhhboikbbnklaa.heap_setCell_same (h1.mod.at (heap_alloc3_3 _ _ _ _) (HN.out _ (by omega))) 0 _) 1 _]; rfl
  · have hf := h1.nf (k := w.heap.size + 2) (by simp) (HN.out _ (by omega))
    exact ((BNext.ahead ((((Mod.refl _ w).alloc _).alloc _).alloc _) h1).put (by simp; omega) hf _).put (by simp; omega) hf _

def eitherN (ns : List Node) (a b c d : Int) : List Node :=
  linkN (linkN (linkN (linkN (ns ++ [plainNode] ++ [plainNode]) ns.length a) ns.length c) b (ns.length + 1)) d (ns.length + 1)

set_option maxHeartbeats 1000000 in
theorem either_any (w : World) (bb : Nat) (v : Value) (ns : List Node) (a b c d : Int) (h : BAt w bb v ns) (hn : ns.length ≤ 50000) :
    Calls Try.prog 94 #[bptr bb, frag a b, frag c d] w fun e w' => e = .returned (frag ns.length (ns.length + 1)) ∧ ∃ v', BNext w w' bb v v' (eitherN ns a b c d) := by
  have H : Hid _ := h
  have hN := fun k (hk : w.heap.size ≤ k) => h.not_foot hk
  have HN : Hid _ := hN
  clear h hN
  go_enter Try.func94, Try.ntmps94
  go_wp2_with (go_at_call 100; refine (addNode_any _ bb v ns (H.out.fresh (((((Mod.refl _ w).alloc _).alloc _).alloc _))) (by omega)).mono ?_; rintro e w1 ⟨rfl, v1, h1⟩)
  go_wp2_with (go_at_call 100; refine (addNode_any _ bb v1 _ h1.at' (by simp; omega)).mono ?_; rintro e w2 ⟨rfl, v2, h2⟩; have g2 := h1.trans h2; have k1 := g2.loc (heap_alloc3_1 _ _ _ _) (HN.out _ (by omega)); have k2 := g2.loc (heap_alloc3_2 _ _ _ _) (HN.out _ (by omega)); clear h1 h2)
  clear k1 k2
  go_wp2_with (go_at_call 101; refine (link_any _ bb v2 _ _ _ g2.at' (by simp; omega)).mono ?_; rintro e w3 ⟨rfl, v3, h3⟩; have g3 := g2.trans h3; have k1 := g3.loc (heap_alloc3_1 _ _ _ _) (HN.out _ (by omega)); have k2 := g3.loc (heap_alloc3_2 _ _ _ _) (HN.out _ (by omega)); clear g2 h3)
  clear k1 k2
  go_wp2_with (go_at_call 101; refine (link_any _ bb v3 _ _ _ g3.at' (by rw [linkN_len]; simp; omega)).mono ?_; rintro e w4 ⟨rfl, v4, h4⟩; have g4 := g3.trans h4; have k1 := g4.loc (heap_alloc3_1 _ _ _ _) (HN.out _ (by omega)); have k2 := g4.loc (heap_alloc3_2 _ _ _ _) (HN.out _ (by omega)); clear g3 h4)
  clear k1 k2
  go_wp2_with (go_at_call 101; refine (link_any _ bb v4 _ _ _ g4.at' (by rw [linkN_len, linkN_len]; simp; omega)).mono ?_; rintro e w5 ⟨rfl, v5, h5⟩; have g5 := g4.trans h5; have k1 := g5.loc (heap_alloc3_1 _ _ _ _) (HN.out _ (by omega)); have k2 := g5.loc (heap_alloc3_2 _ _ _ _) (HN.out _ (by omega)); clear g4 h5)
  clear k1 k2
  go_wp2_with (go_at_call 101; refine (link_any _ bb v5 _ _ _ g5.at' (by rw [linkN_len, linkN_len, linkN_len]; simp; omega)).mono ?_; rintro e w6 ⟨rfl, v6, h6⟩; have g6 := g5.trans h6; have k3 := g6.loc (heap_alloc3_3 _ _ _ _) (HN.out _ (by omega)); have k4 := frozenOf (g6.mod.at (heap_alloc3_3 _ _ _ _) (HN.out _ (by omega))); clear g5 h6)
  refine bodyPost_ret (results_cell_row rfl _ _ (w.heap.size + 2) 148 #[.int .i64 ns.length, .int .i64 (ns.length + 1)] (0, 0) _ rfl ?_ Try.underlying148 rfl szFrag) rfl ⟨rfl, v6, ?_⟩
  · rw [Proofs.Ytnhhboikbbnklaa.heap_setCell_same (Proofs.Ytnhhboikbbnklaa.heap_setCell_same (g6.mod.at (heap_alloc3_3 _ _ _ _) (HN.out _ (by omega))) 0 _) 1 _]; rfl
  · have hf := g6.nf (k := w.heap.size + 2) (by simp) (HN.out _ (by omega))
    have := ((BNext.ahead ((((Mod.refl _ w).alloc _).alloc _).alloc _) g6).put (p := ⟨w.heap.size + 2, 0, none⟩) (by simp) hf (.int .i64 ns.length)).put (p := ⟨w.heap.size + 2, 1, none⟩) (by simp) hf (.int .i64 (ns.length + 1))
    exact this

def repeatN (ns : List Node) (a b m : Int) : List Node :=
  let n1 := linkN (linkN (ns ++ [plainNode] ++ [plainNode]) ns.length a) b (ns.length + 1)
  let n2 := if m = 43 then n1 else linkN n1 ns.length (ns.length + 1)
  if m = 63 then n2 else linkN n2 b a

set_option maxHeartbeats 1000000 in
theorem repeat_plus (w : World) (bb : Nat) (v : Value) (ns : List Node) (a b m : Int) (h : BAt w bb v ns) (hn : ns.length ≤ 50000) (hm : m = 43) :
    Calls Try.prog 104 #[bptr bb, frag a b, .int .i64 m] w fun e w' => e = .returned (frag ns.length (ns.length + 1)) ∧ ∃ v', BNext w w' bb v v' (repeatN ns a b m) := by
  have H : Hid _ := h
  have hN := fun k (hk : w.heap.size ≤ k) => h.not_foot hk
  have HN : Hid _ := hN
  have E : Hid (repeatN ns a b m = linkN (linkN (linkN (ns ++ [plainNode] ++ [plainNode]) ns.length a) b (ns.length + 1)) b a) := by unfold Hid repeatN; simp [hm]
  have m1 : (m != 43) = false := by simp [hm]
  have m2 : (m != 63) = true := by simp [hm]
  clear hm
  clear h hN
  go_enter Try.func104, Try.ntmps104
  go_wp2_with (go_at_call 100; refine (addNode_any _ bb v ns (H.out.fresh ((((Mod.refl _ w).alloc _).alloc _))) (by omega)).mono ?_; rintro e w1 ⟨rfl, v1, h1⟩)
  go_wp2_with (go_at_call 100; refine (addNode_any _ bb v1 _ h1.at' (by simp; omega)).mono ?_; rintro e w2 ⟨rfl, v2, h2⟩; have g2 := h1.trans h2; have k1 := g2.loc (heap_alloc2_old _ _ _) (HN.out _ (by omega)); clear h1 h2)
  clear k1
  go_wp2_with (go_at_call 101; refine (link_any _ bb v2 _ _ _ g2.at' (by simp; omega)).mono ?_; rintro e w3 ⟨rfl, v3, h3⟩; have g3 := g2.trans h3; have k1 := g3.loc (heap_alloc2_old _ _ _) (HN.out _ (by omega)); clear g2 h3)
  clear k1
  go_wp2_with (go_at_call 101; refine (link_any _ bb v3 _ _ _ g3.at' (by rw [linkN_len]; simp; omega)).mono ?_; rintro e w4 ⟨rfl, v4, h4⟩; have g4 := g3.trans h4; have k1 := g4.loc (heap_alloc2_old _ _ _) (HN.out _ (by omega)); clear g3 h4)
  clear k1
  go_wp2_with (go_at_call 101; refine (link_any _ bb v4 _ _ _ g4.at' (by rw [linkN_len, linkN_len]; simp; omega)).mono ?_; rintro e w5 ⟨rfl, v5, h5⟩; have g5 := g4.trans h5; have k3 := g5.loc (heap_alloc2_new _ _ _) (HN.out _ (by omega)); have k4 := frozenOf (g5.mod.at (heap_alloc2_new _ _ _) (HN.out _ (by omega))); clear g4 h5)
  refine bodyPost_ret (results_cell_row rfl _ _ (w.heap.size + 1) 148 #[.int .i64 ns.length, .int .i64 (ns.length + 1)] (0, 0) _ rfl ?_ Try.underlying148 rfl szFrag) rfl ⟨rfl, v5, ?_⟩
  · rw [Proofs.Ytnhhboikbbnklaa.heap_setCell_same (Proofs.Ytnhhboikbbnklaa.heap_setCell_same (g5.mod.at (heap_alloc2_new _ _ _) (HN.out _ (by omega))) 0 _) 1 _]; rfl
  · have hf := g5.nf (k := w.heap.size + 1) (by simp) (HN.out _ (by omega))
    have := ((BNext.ahead (((Mod.refl _ w).alloc _).alloc _) g5).put (p := ⟨w.heap.size + 1, 0, none⟩) (by simp) hf (.int .i64 ns.length)).put (p := ⟨w.heap.size + 1, 1, none⟩) (by simp) hf (.int .i64 (ns.length + 1))
    rw [E.out]; exact this

set_option maxHeartbeats 1000000 in
theorem repeat_opt (w : World) (bb : Nat) (v : Value) (ns : List Node) (a b m : Int) (h : BAt w bb v ns) (hn : ns.length ≤ 50000) (hm : m = 63) :
    Calls Try.prog 104 #[bptr bb, frag a b, .int .i64 m] w fun e w' => e = .returned (frag ns.length (ns.length + 1)) ∧ ∃ v', BNext w w' bb v v' (repeatN ns a b m) := by
  have H : Hid _ := h
  have hN := fun k (hk : w.heap.size ≤ k) => h.not_foot hk
  have HN : Hid _ := hN
  have E : Hid (repeatN ns a b m = linkN (linkN (linkN (ns ++ [plainNode] ++ [plainNode]) ns.length a) b (ns.length + 1)) ns.length (ns.length + 1)) := by unfold Hid repeatN; simp [hm]
  have m1 : (m != 43) = true := by simp [hm]
  have m2 : (m != 63) = false := by simp [hm]
  clear hm
  clear h hN
  go_enter Try.func104, Try.ntmps104
  go_wp2_with (go_at_call 100; refine (addNode_any _ bb v ns (H.out.fresh ((((Mod.refl _ w).alloc _).alloc _))) (by omega)).mono ?_; rintro e w1 ⟨rfl, v1, h1⟩)
  go_wp2_with (go_at_call 100; refine (addNode_any _ bb v1 _ h1.at' (by simp; omega)).mono ?_; rintro e w2 ⟨rfl, v2, h2⟩; have g2 := h1.trans h2; have k1 := g2.loc (heap_alloc2_old _ _ _) (HN.out _ (by omega)); clear h1 h2)
  clear k1
  go_wp2_with (go_at_call 101; refine (link_any _ bb v2 _ _ _ g2.at' (by simp; omega)).mono ?_; rintro e w3 ⟨rfl, v3, h3⟩; have g3 := g2.trans h3; have k1 := g3.loc (heap_alloc2_old _ _ _) (HN.out _ (by omega)); clear g2 h3)
  clear k1
  go_wp2_with (go_at_call 101; refine (link_any _ bb v3 _ _ _ g3.at' (by rw [linkN_len]; simp; omega)).mono ?_; rintro e w4 ⟨rfl, v4, h4⟩; have g4 := g3.trans h4; have k1 := g4.loc (heap_alloc2_old _ _ _) (HN.out _ (by omega)); clear g3 h4)
  clear k1
  go_wp2_with (go_at_call 101; refine (link_any _ bb v4 _ _ _ g4.at' (by rw [linkN_len, linkN_len]; simp; omega)).mono ?_; rintro e w5 ⟨rfl, v5, h5⟩; have g5 := g4.trans h5; have k3 := g5.loc (heap_alloc2_new _ _ _) (HN.out _ (by omega)); have k4 := frozenOf (g5.mod.at (heap_alloc2_new _ _ _) (HN.out _ (by omega))); clear g4 h5)
  refine bodyPost_ret (results_cell_row rfl _ _ (w.heap.size + 1) 148 #[.int .i64 ns.length, .int .i64 (ns.length + 1)] (0, 0) _ rfl ?_ Try.underlying148 rfl szFrag) rfl ⟨rfl, v5, ?_⟩
  · rw [Proofs.Ytnhhboikbbnklaa.heap_setCell_same (Proofs.Ytnhhboikbbnklaa.heap_setCell_same (g5.mod.at (heap_alloc2_new _ _ _) (HN.out _ (by omega))) 0 _) 1 _]; rfl
  · have hf := g5.nf (k := w.heap.size + 1) (by simp) (HN.out _ (by omega))
    have := ((BNext.ahead (((Mod.refl _ w).alloc _).alloc _) g5).put (p := ⟨w.heap.size + 1, 0, none⟩) (by simp) hf (.int .i64 ns.length)).put (p := ⟨w.heap.size + 1, 1, none⟩) (by simp) hf (.int .i64 (ns.length + 1))
    rw [E.out]; exact this

set_option maxHeartbeats 1000000 in
theorem repeat_star (w : World) (bb : Nat) (v : Value) (ns : List Node) (a b m : Int) (h : BAt w bb v ns) (hn : ns.length ≤ 50000) (hm : m ≠ 43) (hm2 : m ≠ 63) :
    Calls Try.prog 104 #[bptr bb, frag a b, .int .i64 m] w fun e w' => e = .returned (frag ns.length (ns.length + 1)) ∧ ∃ v', BNext w w' bb v v' (repeatN ns a b m) := by
  have H : Hid _ := h
  have hN := fun k (hk : w.heap.size ≤ k) => h.not_foot hk
  have HN : Hid _ := hN
  have E : Hid (repeatN ns a b m = linkN (linkN (linkN (linkN (ns ++ [plainNode] ++ [plainNode]) ns.length a) b (ns.length + 1)) ns.length (ns.length + 1)) b a) := by unfold Hid repeatN; simp [hm, hm2]
  have m1 : (m != 43) = true := by simpa using hm
  have m2 : (m != 63) = true := by simpa using hm2
  clear hm hm2
  clear h hN
  go_enter Try.func104, Try.ntmps104
  go_wp2_with (go_at_call 100; refine (addNode_any _ bb v ns (H.out.fresh ((((Mod.refl _ w).alloc _).alloc _))) (by omega)).mono ?_; rintro e w1 ⟨rfl, v1, h1⟩)
  go_wp2_with (go_at_call 100; refine (addNode_any _ bb v1 _ h1.at' (by simp; omega)).mono ?_; rintro e w2 ⟨rfl, v2, h2⟩; have g2 := h1.trans h2; have k1 := g2.loc (heap_alloc2_old _ _ _) (HN.out _ (by omega)); clear h1 h2)
  clear k1
  go_wp2_with (go_at_call 101; refine (link_any _ bb v2 _ _ _ g2.at' (by simp; omega)).mono ?_; rintro e w3 ⟨rfl, v3, h3⟩; have g3 := g2.trans h3; have k1 := g3.loc (heap_alloc2_old _ _ _) (HN.out _ (by omega)); clear g2 h3)
  clear k1
  go_wp2_with (go_at_call 101; refine (link_any _ bb v3 _ _ _ g3.at' (by rw [linkN_len]; simp; omega)).mono ?_; rintro e w4 ⟨rfl, v4, h4⟩; have g4 := g3.trans h4; have k1 := g4.loc (heap_alloc2_old _ _ _) (HN.out _ (by omega)); clear g3 h4)
  clear k1
  go_wp2_with (go_at_call 101; refine (link_any _ bb v4 _ _ _ g4.at' (by rw [linkN_len, linkN_len]; simp; omega)).mono ?_; rintro e w5 ⟨rfl, v5, h5⟩; have g5 := g4.trans h5; have k1 := g5.loc (heap_alloc2_old _ _ _) (HN.out _ (by omega)); clear g4 h5)
  clear k1
  go_wp2_with (go_at_call 101; refine (link_any _ bb v5 _ _ _ g5.at' (by rw [linkN_len, linkN_len, linkN_len]; simp; omega)).mono ?_; rintro e w6 ⟨rfl, v6, h6⟩; have g6 := g5.trans h6; have k3 := g6.loc (heap_alloc2_new _ _ _) (HN.out _ (by omega)); have k4 := frozenOf (g6.mod.at (heap_alloc2_new _ _ _) (HN.out _ (by omega))); clear g5 h6)
  refine bodyPost_ret (results_cell_row rfl _ _ (w.heap.size + 1) 148 #[.int .i64 ns.length, .int .i64 (ns.length + 1)] (0, 0) _ rfl ?_ Try.underlying148 rfl szFrag) rfl ⟨rfl, v6, ?_⟩
  · rw [Proofs.Ytnhhboikbbnklaa.heap_setCell_same (Proofs.Ytnhhboikbbnklaa.heap_setCell_same (g6.mod.at (heap_alloc2_new _ _ _) (HN.out _ (by omega))) 0 _) 1 _]; rfl
  · have hf := g6.nf (k := w.heap.size + 1) (by simp) (HN.out _ (by omega))
    have := ((BNext.ahead (((Mod.refl _ w).alloc _).alloc _) g6).put (p := ⟨w.heap.size + 1, 0, none⟩) (by simp) hf (.int .i64 ns.length)).put (p := ⟨w.heap.size + 1, 1, none⟩) (by simp) hf (.int .i64 (ns.length + 1))
    rw [E.out]; exact this

theorem repeat_any (w : World) (bb : Nat) (v : Value) (ns : List Node) (a b m : Int) (h : BAt w bb v ns) (hn : ns.length ≤ 50000) :
    Calls Try.prog 104 #[bptr bb, frag a b, .int .i64 m] w fun e w' => e = .returned (frag ns.length (ns.length + 1)) ∧ ∃ v', BNext w w' bb v v' (repeatN ns a b m) := by
  by_cases h1 : m = 43
  · exact repeat_plus w bb v ns a b m h hn h1
  · by_cases h2 : m = 63
    · exact repeat_opt w bb v ns a b m h hn h2
    · exact repeat_star w bb v ns a b m h hn h1 h2
theorem repeatN_len (ns : List Node) (a b m : Int) : (repeatN ns a b m).length = ns.length + 2 := by
  unfold repeatN; dsimp only; split <;> split <;> simp [linkN_len]
theorem eitherN_len (ns : List Node) (a b c d : Int) : (eitherN ns a b c d).length = ns.length + 2 := by
  unfold eitherN; simp [linkN_len]
end Go.Proofs.Ytnhhboikbbnklaa
