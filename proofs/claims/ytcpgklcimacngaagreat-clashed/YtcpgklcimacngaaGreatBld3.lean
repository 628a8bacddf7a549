import Derived.Test.YtcpgklcimacngaaGreatApp
namespace Go.Proofs.YtcpgklcimacngaaGreat
open Go.RowKit
set_option linter.unusedVariables false
set_option linter.unusedSimpArgs false

abbrev frag (a b : Int) : Value := .agg #[.int .i64 a, .int .i64 b]
theorem BAt.not_foot {w : World} {bb : Nat} {v : Value} {ns : List Node} (h : BAt w bb v ns) {k : Nat} (hk : w.heap.size ≤ k) : ¬ foot bb v k := by
  rintro (rfl | h1)
  · have := h.lt; omega
  · have := h.own_lt k h1; omega
theorem BAt.fresh {w w' : World} {bb : Nat} {v : Value} {ns : List Node} (h : BAt w bb v ns) (hm : Fresh w w') : BAt w' bb v ns := h.kept hm (fun _ _ x => x)
theorem BNext.nf {w w' : World} {bb : Nat} {v v' : Value} {ns' : List Node} (h : BNext w w' bb v v' ns') {k : Nat} (hk : k < w.heap.size) (hn : ¬ foot bb v k) : ¬ foot bb v' k := by
  rintro (rfl | h1)
  · exact hn (.inl rfl)
  · rcases h.foot' k h1 with h2 | h2
    · exact hn (.inr h2)
    · omega
theorem BNext.put {a b : World} {bb : Nat} {v v' : Value} {ns' : List Node} (h : BNext a b bb v v' ns') {p : Addr} (hk : a.heap.size ≤ p.block) (hf : ¬ foot bb v' p.block) (u : Value) : BNext a (b.setCell p u) bb v v' ns' :=
  h.behind (S := fun i => i = p.block) (Mod.setCell (S := fun i => i = p.block) (Mod.refl _ _) (fun _ => rfl) u) (fun i hi => by rw [hi]; exact hk) (fun i hi e => hf (by rw [← e]; exact hi))
theorem BNext.alloc {a b : World} {bb : Nat} {v v' : Value} {ns' : List Node} (h : BNext a b bb v v' ns') (o : Obj) : BNext a (b.alloc o) bb v v' ns' :=
  h.behind (S := fun _ => False) ((Mod.refl _ _).alloc o) (fun _ x => x.elim) (fun _ _ x => x)
theorem BNext.loc {W w' : World} {bb : Nat} {v v' : Value} {ns' : List Node} (g : BNext W w' bb v v' ns') {k : Nat} {cs : Array Value} {e : TypeId} {f : Nat × Nat} (hb : W.heap[k]? = some (.cells cs e f)) (hn : ¬ foot bb v k) (o : Nat) :
    w'.cell? ⟨k, o, none⟩ = cs[o]? := cellOf (g.mod.at hb hn) o
theorem heap_alloc3_1 (w : World) (A B C : Obj) : (((w.alloc A).alloc B).alloc C).heap[w.heap.size]? = some A := heap_alloc_prev (heap_alloc_prev (heap_alloc_at _ _))
theorem heap_alloc3_2 (w : World) (A B C : Obj) : (((w.alloc A).alloc B).alloc C).heap[w.heap.size + 1]? = some B := heap_alloc_prev (heap_alloc2_new _ _ _)
theorem heap_alloc3_3 (w : World) (A B C : Obj) : (((w.alloc A).alloc B).alloc C).heap[w.heap.size + 2]? = some C := by
  have := heap_alloc_at ((w.alloc A).alloc B) C
  simpa using this
theorem szFrag : (Tryz.prog.info? 156).map (·.size) = some 2 := by kernel_rfl

set_option maxHeartbeats 1000000 in
theorem join_any (w : World) (bb : Nat) (v : Value) (ns : List Node) (a b c d : Int) (h : BAt w bb v ns) (hn : ns.length ≤ 100000) :
    Calls Tryz.prog 104 #[bptr bb, frag a b, frag c d] w fun e w' => e = .returned (frag a d) ∧ ∃ v', BNext w w' bb v v' (linkN ns b c) := by
  have H : Hid _ := h
  have hN := fun k (hk : w.heap.size ≤ k) => h.not_foot hk
  have HN : Hid _ := hN
  clear h hN
  go_enter Tryz.func104, Tryz.ntmps104
  go_wp2_with (go_at_call 106; refine (link_any _ bb v ns _ _ (H.out.fresh (((((Mod.refl _ w).alloc _).alloc _).alloc _))) (by omega)).mono ?_; rintro e w1 ⟨rfl, v1, h1⟩; have k1 := cellOf (h1.mod.at (heap_alloc3_1 _ _ _ _) (HN.out _ (by omega))); have k2 := cellOf (h1.mod.at (heap_alloc3_2 _ _ _ _) (HN.out _ (by omega))); have k3 := cellOf (h1.mod.at (heap_alloc3_3 _ _ _ _) (HN.out _ (by omega))); have k4 := frozenOf (h1.mod.at (heap_alloc3_3 _ _ _ _) (HN.out _ (by omega))))
  refine bodyPost_ret (results_cell_row rfl _ _ (w.heap.size + 2) 156 #[.int .i64 a, .int .i64 d] (0, 0) _ rfl ?_ Tryz.underlying156 rfl szFrag) rfl ⟨rfl, v1, ?_⟩
  · rw [Proofs.YtcpgklcimacngaaGreat.heap_setCell_same (Proofs.YtcpgklcimacngaaGreat.heap_setCell_same (h1.mod.at (heap_alloc3_3 _ _ _ _) (HN.out _ (by omega))) 0 _) 1 _]; rfl
  · have hf := h1.nf (k := w.heap.size + 2) (by simp) (HN.out _ (by omega))
    exact ((BNext.ahead ((((Mod.refl _ w).alloc _).alloc _).alloc _) h1).put (by simp; omega) hf _).put (by simp; omega) hf _

def eitherN (ns : List Node) (a b c d : Int) : List Node :=
  linkN (linkN (linkN (linkN (ns ++ [plainNode] ++ [plainNode]) ns.length a) ns.length c) b (ns.length + 1)) d (ns.length + 1)

set_option maxHeartbeats 1000000 in
theorem either_any (w : World) (bb : Nat) (v : Value) (ns : List Node) (a b c d : Int) (h : BAt w bb v ns) (hn : ns.length ≤ 50000) :
    Calls Tryz.prog 99 #[bptr bb, frag a b, frag c d] w fun e w' => e = .returned (frag ns.length (ns.length + 1)) ∧ ∃ v', BNext w w' bb v v' (eitherN ns a b c d) := by
  have H : Hid _ := h
  have hN := fun k (hk : w.heap.size ≤ k) => h.not_foot hk
  have HN : Hid _ := hN
  clear h hN
  go_enter Tryz.func99, Tryz.ntmps99
  go_wp2_with (go_at_call 105; refine (addNode_any _ bb v ns (H.out.fresh (((((Mod.refl _ w).alloc _).alloc _).alloc _))) (by omega)).mono ?_; rintro e w1 ⟨rfl, v1, h1⟩)
  go_wp2_with (go_at_call 105; refine (addNode_any _ bb v1 _ h1.at' (by simp; omega)).mono ?_; rintro e w2 ⟨rfl, v2, h2⟩; have g2 := h1.trans h2; have k1 := g2.loc (heap_alloc3_1 _ _ _ _) (HN.out _ (by omega)); have k2 := g2.loc (heap_alloc3_2 _ _ _ _) (HN.out _ (by omega)); clear h1 h2)
  clear k1 k2
  go_wp2_with (go_at_call 106; refine (link_any _ bb v2 _ _ _ g2.at' (by simp; omega)).mono ?_; rintro e w3 ⟨rfl, v3, h3⟩; have g3 := g2.trans h3; have k1 := g3.loc (heap_alloc3_1 _ _ _ _) (HN.out _ (by omega)); have k2 := g3.loc (heap_alloc3_2 _ _ _ _) (HN.out _ (by omega)); clear g2 h3)
  clear k1 k2
  go_wp2_with (go_at_call 106; refine (link_any _ bb v3 _ _ _ g3.at' (by rw [linkN_len]; simp; omega)).mono ?_; rintro e w4 ⟨rfl, v4, h4⟩; have g4 := g3.trans h4; have k1 := g4.loc (heap_alloc3_1 _ _ _ _) (HN.out _ (by omega)); have k2 := g4.loc (heap_alloc3_2 _ _ _ _) (HN.out _ (by omega)); clear g3 h4)
  clear k1 k2
  go_wp2_with (go_at_call 106; refine (link_any _ bb v4 _ _ _ g4.at' (by rw [linkN_len, linkN_len]; simp; omega)).mono ?_; rintro e w5 ⟨rfl, v5, h5⟩; have g5 := g4.trans h5; have k1 := g5.loc (heap_alloc3_1 _ _ _ _) (HN.out _ (by omega)); have k2 := g5.loc (heap_alloc3_2 _ _ _ _) (HN.out _ (by omega)); clear g4 h5)
  clear k1 k2
  go_wp2_with (go_at_call 106; refine (link_any _ bb v5 _ _ _ g5.at' (by rw [linkN_len, linkN_len, linkN_len]; simp; omega)).mono ?_; rintro e w6 ⟨rfl, v6, h6⟩; have g6 := g5.trans h6; have k3 := g6.loc (heap_alloc3_3 _ _ _ _) (HN.out _ (by omega)); have k4 := frozenOf (g6.mod.at (heap_alloc3_3 _ _ _ _) (HN.out _ (by omega))); clear g5 h6)
  refine bodyPost_ret (results_cell_row rfl _ _ (w.heap.size + 2) 156 #[.int .i64 ns.length, .int .i64 (ns.length + 1)] (0, 0) _ rfl ?_ Tryz.underlying156 rfl szFrag) rfl ⟨rfl, v6, ?_⟩
  · rw [Proofs.YtcpgklcimacngaaGreat.heap_setCell_same (Proofs.YtcpgklcimacngaaGreat.heap_setCell_same (g6.mod.at (heap_alloc3_3 _ _ _ _) (HN.out _ (by omega))) 0 _) 1 _]; rfl
  · have hf := g6.nf (k := w.heap.size + 2) (by simp) (HN.out _ (by omega))
    have := ((BNext.ahead ((((Mod.refl _ w).alloc _).alloc _).alloc _) g6).put (p := ⟨w.heap.size + 2, 0, none⟩) (by simp) hf (.int .i64 ns.length)).put (p := ⟨w.heap.size + 2, 1, none⟩) (by simp) hf (.int .i64 (ns.length + 1))
    exact this

def repeatN (ns : List Node) (a b m : Int) : List Node :=
  let n1 := linkN (linkN (ns ++ [plainNode] ++ [plainNode]) ns.length a) b (ns.length + 1)
  let n2 := if m = 43 then n1 else linkN n1 ns.length (ns.length + 1)
  if m = 63 then n2 else linkN n2 b a

set_option maxHeartbeats 1000000 in
theorem repeat_plus (w : World) (bb : Nat) (v : Value) (ns : List Node) (a b m : Int) (h : BAt w bb v ns) (hn : ns.length ≤ 50000) (hm : m = 43) :
    Calls Tryz.prog 109 #[bptr bb, frag a b, .int .i64 m] w fun e w' => e = .returned (frag ns.length (ns.length + 1)) ∧ ∃ v', BNext w w' bb v v' (repeatN ns a b m) := by
  have H : Hid _ := h
  have hN := fun k (hk : w.heap.size ≤ k) => h.not_foot hk
  have HN : Hid _ := hN
  have E : Hid (repeatN ns a b m = linkN (linkN (linkN (ns ++ [plainNode] ++ [plainNode]) ns.length a) b (ns.length + 1)) b a) := by unfold Hid repeatN; simp [hm]
  have m1 : (m != 43) = false := by simp [hm]
  have m2 : (m != 63) = true := by simp [hm]
  clear hm
  clear h hN
  go_enter Tryz.func109, Tryz.ntmps109
  go_wp2_with (go_at_call 105; refine (addNode_any _ bb v ns (H.out.fresh ((((Mod.refl _ w).alloc _).alloc _))) (by omega)).mono ?_; rintro e w1 ⟨rfl, v1, h1⟩)
  go_wp2_with (go_at_call 105; refine (addNode_any _ bb v1 _ h1.at' (by simp; omega)).mono ?_; rintro e w2 ⟨rfl, v2, h2⟩; have g2 := h1.trans h2; have k1 := g2.loc (heap_alloc2_old _ _ _) (HN.out _ (by omega)); clear h1 h2)
  clear k1
  go_wp2_with (go_at_call 106; refine (link_any _ bb v2 _ _ _ g2.at' (by simp; omega)).mono ?_; rintro e w3 ⟨rfl, v3, h3⟩; have g3 := g2.trans h3; have k1 := g3.loc (heap_alloc2_old _ _ _) (HN.out _ (by omega)); clear g2 h3)
  clear k1
  go_wp2_with (go_at_call 106; refine (link_any _ bb v3 _ _ _ g3.at' (by rw [linkN_len]; simp; omega)).mono ?_; rintro e w4 ⟨rfl, v4, h4⟩; have g4 := g3.trans h4; have k1 := g4.loc (heap_alloc2_old _ _ _) (HN.out _ (by omega)); clear g3 h4)
  clear k1
  go_wp2_with (go_at_call 106; refine (link_any _ bb v4 _ _ _ g4.at' (by rw [linkN_len, linkN_len]; simp; omega)).mono ?_; rintro e w5 ⟨rfl, v5, h5⟩; have g5 := g4.trans h5; have k3 := g5.loc (heap_alloc2_new _ _ _) (HN.out _ (by omega)); have k4 := frozenOf (g5.mod.at (heap_alloc2_new _ _ _) (HN.out _ (by omega))); clear g4 h5)
  refine bodyPost_ret (results_cell_row rfl _ _ (w.heap.size + 1) 156 #[.int .i64 ns.length, .int .i64 (ns.length + 1)] (0, 0) _ rfl ?_ Tryz.underlying156 rfl szFrag) rfl ⟨rfl, v5, ?_⟩
  · rw [Proofs.YtcpgklcimacngaaGreat.heap_setCell_same (Proofs.YtcpgklcimacngaaGreat.heap_setCell_same (g5.mod.at (heap_alloc2_new _ _ _) (HN.out _ (by omega))) 0 _) 1 _]; rfl
  · have hf := g5.nf (k := w.heap.size + 1) (by simp) (HN.out _ (by omega))
    have := ((BNext.ahead (((Mod.refl _ w).alloc _).alloc _) g5).put (p := ⟨w.heap.size + 1, 0, none⟩) (by simp) hf (.int .i64 ns.length)).put (p := ⟨w.heap.size + 1, 1, none⟩) (by simp) hf (.int .i64 (ns.length + 1))
    rw [E.out]; exact this

set_option maxHeartbeats 1000000 in
theorem repeat_opt (w : World) (bb : Nat) (v : Value) (ns : List Node) (a b m : Int) (h : BAt w bb v ns) (hn : ns.length ≤ 50000) (hm : m = 63) :
    Calls Tryz.prog 109 #[bptr bb, frag a b, .int .i64 m] w fun e w' => e = .returned (frag ns.length (ns.length + 1)) ∧ ∃ v', BNext w w' bb v v' (repeatN ns a b m) := by
  have H : Hid _ := h
  have hN := fun k (hk : w.heap.size ≤ k) => h.not_foot hk
  have HN : Hid _ := hN
  have E : Hid (repeatN ns a b m = linkN (linkN (linkN (ns ++ [plainNode] ++ [plainNode]) ns.length a) b (ns.length + 1)) ns.length (ns.length + 1)) := by unfold Hid repeatN; simp [hm]
  have m1 : (m != 43) = true := by simp [hm]
  have m2 : (m != 63) = false := by simp [hm]
  clear hm
  clear h hN
  go_enter Tryz.func109, Tryz.ntmps109
  go_wp2_with (go_at_call 105; refine (addNode_any _ bb v ns (H.out.fresh ((((Mod.refl _ w).alloc _).alloc _))) (by omega)).mono ?_; rintro e w1 ⟨rfl, v1, h1⟩)
  go_wp2_with (go_at_call 105; refine (addNode_any _ bb v1 _ h1.at' (by simp; omega)).mono ?_; rintro e w2 ⟨rfl, v2, h2⟩; have g2 := h1.trans h2; have k1 := g2.loc (heap_alloc2_old _ _ _) (HN.out _ (by omega)); clear h1 h2)
  clear k1
  go_wp2_with (go_at_call 106; refine (link_any _ bb v2 _ _ _ g2.at' (by simp; omega)).mono ?_; rintro e w3 ⟨rfl, v3, h3⟩; have g3 := g2.trans h3; have k1 := g3.loc (heap_alloc2_old _ _ _) (HN.out _ (by omega)); clear g2 h3)
  clear k1
  go_wp2_with (go_at_call 106; refine (link_any _ bb v3 _ _ _ g3.at' (by rw [linkN_len]; simp; omega)).mono ?_; rintro e w4 ⟨rfl, v4, h4⟩; have g4 := g3.trans h4; have k1 := g4.loc (heap_alloc2_old _ _ _) (HN.out _ (by omega)); clear g3 h4)
  clear k1
  go_wp2_with (go_at_call 106; refine (link_any _ bb v4 _ _ _ g4.at' (by rw [linkN_len, linkN_len]; simp; omega)).mono ?_; rintro e w5 ⟨rfl, v5, h5⟩; have g5 := g4.trans h5; have k3 := g5.loc (heap_alloc2_new _ _ _) (HN.out _ (by omega)); have k4 := frozenOf (g5.mod.at (heap_alloc2_new _ _ _) (HN.out _ (by omega))); clear g4 h5)
  refine bodyPost_ret (results_cell_row rfl _ _ (w.heap.size + 1) 156 #[.int .i64 ns.length, .int .i64 (ns.length + 1)] (0, 0) _ rfl ?_ Tryz.underlying156 rfl szFrag) rfl ⟨rfl, v5, ?_⟩
  · rw [Proofs.YtcpgklcimacngaaGreat.heap_setCell_same (Proofs.YtcpgklcimacngaaGreat.heap_setCell_same (g5.mod.at (heap_alloc2_new _ _ _) (HN.out _ (by omega))) 0 _) 1 _]; rfl
  · have hf := g5.nf (k := w.heap.size + 1) (by simp) (HN.out _ (by omega))
    have := ((BNext.ahead (((Mod.refl _ w).alloc _).alloc _) g5).put (p := ⟨w.heap.size + 1, 0, none⟩) (by simp) hf (.int .i64 ns.length)).put (p := ⟨w.heap.size + 1, 1, none⟩) (by simp) hf (.int .i64 (ns.length + 1))
    rw [E.out]; exact this

set_option maxHeartbeats 1000000 in
theorem repeat_star (w : World) (bb : Nat) (v : Value) (ns : List Node) (a b m : Int) (h : BAt w bb v ns) (hn : ns.length ≤ 50000) (hm : m ≠ 43) (hm2 : m ≠ 63) :
    Calls Tryz.prog 109 #[bptr bb, frag a b, .int .i64 m] w fun e w' => e = .returned (frag ns.length (ns.length + 1)) ∧ ∃ v', BNext w w' bb v v' (repeatN ns a b m) := by
  have H : Hid _ := h
  have hN := fun k (hk : w.heap.size ≤ k) => h.not_foot hk
  have HN : Hid _ := hN
  have E : Hid (repeatN ns a b m = linkN (linkN (linkN (linkN (ns ++ [plainNode] ++ [plainNode]) ns.length a) b (ns.length + 1)) ns.length (ns.length + 1)) b a) := by unfold Hid repeatN; simp [hm, hm2]
  have m1 : (m != 43) = true := by simpa using hm
  have m2 : (m != 63) = true := by simpa using hm2
  clear hm hm2
  clear h hN
  go_enter Tryz.func109, Tryz.ntmps109
  go_wp2_with (go_at_call 105; refine (addNode_any _ bb v ns (H.out.fresh ((((Mod.refl _ w).alloc _).alloc _))) (by omega)).mono ?_; rintro e w1 ⟨rfl, v1, h1⟩)
  go_wp2_with (go_at_call 105; refine (addNode_any _ bb v1 _ h1.at' (by simp; omega)).mono ?_; rintro e w2 ⟨rfl, v2, h2⟩; have g2 := h1.trans h2; have k1 := g2.loc (heap_alloc2_old _ _ _) (HN.out _ (by omega)); clear h1 h2)
  clear k1
  go_wp2_with (go_at_call 106; refine (link_any _ bb v2 _ _ _ g2.at' (by simp; omega)).mono ?_; rintro e w3 ⟨rfl, v3, h3⟩; have g3 := g2.trans h3; have k1 := g3.loc (heap_alloc2_old _ _ _) (HN.out _ (by omega)); clear g2 h3)
  clear k1
  go_wp2_with (go_at_call 106; refine (link_any _ bb v3 _ _ _ g3.at' (by rw [linkN_len]; simp; omega)).mono ?_; rintro e w4 ⟨rfl, v4, h4⟩; have g4 := g3.trans h4; have k1 := g4.loc (heap_alloc2_old _ _ _) (HN.out _ (by omega)); clear g3 h4)
  clear k1
  go_wp2_with (go_at_call 106; refine (link_any _ bb v4 _ _ _ g4.at' (by rw [linkN_len, linkN_len]; simp; omega)).mono ?_; rintro e w5 ⟨rfl, v5, h5⟩; have g5 := g4.trans h5; have k1 := g5.loc (heap_alloc2_old _ _ _) (HN.out _ (by omega)); clear g4 h5)
  clear k1
  go_wp2_with (go_at_call 106; refine (link_any _ bb v5 _ _ _ g5.at' (by rw [linkN_len, linkN_len, linkN_len]; simp; omega)).mono ?_; rintro e w6 ⟨rfl, v6, h6⟩; have g6 := g5.trans h6; have k3 := g6.loc (heap_alloc2_new _ _ _) (HN.out _ (by omega)); have k4 := frozenOf (g6.mod.at (heap_alloc2_new _ _ _) (HN.out _ (by omega))); clear g5 h6)
  refine bodyPost_ret (results_cell_row rfl _ _ (w.heap.size + 1) 156 #[.int .i64 ns.length, .int .i64 (ns.length + 1)] (0, 0) _ rfl ?_ Tryz.underlying156 rfl szFrag) rfl ⟨rfl, v6, ?_⟩
  · rw [Proofs.YtcpgklcimacngaaGreat.heap_setCell_same (Proofs.YtcpgklcimacngaaGreat.heap_setCell_same (g6.mod.at (heap_alloc2_new _ _ _) (HN.out _ (by omega))) 0 _) 1 _]; rfl
  · have hf := g6.nf (k := w.heap.size + 1) (by simp) (HN.out _ (by omega))
    have := ((BNext.ahead (((Mod.refl _ w).alloc _).alloc _) g6).put (p := ⟨w.heap.size + 1, 0, none⟩) (by simp) hf (.int .i64 ns.length)).put (p := ⟨w.heap.size + 1, 1, none⟩) (by simp) hf (.int .i64 (ns.length + 1))
    rw [E.out]; exact this

theorem repeat_any (w : World) (bb : Nat) (v : Value) (ns : List Node) (a b m : Int) (h : BAt w bb v ns) (hn : ns.length ≤ 50000) :
    Calls Tryz.prog 109 #[bptr bb, frag a b, .int .i64 m] w fun e w' => e = .returned (frag ns.length (ns.length + 1)) ∧ ∃ v', BNext w w' bb v v' (repeatN ns a b m) := by
  by_cases h1 : m = 43
  · exact repeat_plus w bb v ns a b m h hn h1
  · by_cases h2 : m = 63
    · exact repeat_opt w bb v ns a b m h hn h2
    · exact repeat_star w bb v ns a b m h hn h1 h2
theorem repeatN_len (ns : List Node) (a b m : Int) : (repeatN ns a b m).length = ns.length + 2 := by
  unfold repeatN; dsimp only; split <;> split <;> simp [linkN_len]
theorem eitherN_len (ns : List Node) (a b c d : Int) : (eitherN ns a b c d).length = ns.length + 2 := by
  unfold eitherN; simp [linkN_len]
end Go.Proofs.YtcpgklcimacngaaGreat
namespace Go.Proofs.YtcpgklcimacngaaGreat
open Go.RowKit
set_option linter.unusedVariables false
set_option linter.unusedSimpArgs false

def readNode (ws : List Int) (e : Int) : Node := ⟨true, ws, e, -1⟩
def oneN (ns : List Node) (ws : List Int) : List Node := ns ++ [plainNode] ++ [readNode ws ns.length]

set_option maxHeartbeats 1000000 in
theorem readOne_any (w : World) (bb : Nat) (v : Value) (ns : List Node) (ws : List Int) (h : BAt w bb v ns) (hn : ns.length ≤ 50000) (hl : ws.length = 4) :
    Calls Tryz.prog 113 #[bptr bb, .agg (u64s ws)] w fun e w' => e = .returned (frag (ns.length + 1) ns.length) ∧ ∃ v', BNext w w' bb v v' (oneN ns ws) := by
  obtain ⟨i0, hi, hz0, hz1, hz2⟩ := infoNode'
  obtain ⟨a, b, c, d, hws⟩ := four hl
  have HW : Hid (ws = [a, b, c, d]) := hws
  have e1 : u64s ws = #[.int .u64 a, .int .u64 b, .int .u64 c, .int .u64 d] := by rw [hws]; rfl
  rw [e1]
  have H : Hid _ := h
  have hN := fun k (hk : w.heap.size ≤ k) => h.not_foot hk
  have HN : Hid _ := hN
  clear hws e1 h hN hl
  go_enter Tryz.func113, Tryz.ntmps113
  go_wp2_with (go_at_call 105; refine (addNode_any _ bb v ns (H.out.fresh ((((Mod.refl _ w).alloc _).alloc _))) (by omega)).mono ?_; rintro e w1 ⟨rfl, v1, h1⟩)
  have k1 := h1.loc (heap_alloc2_old _ _ _) (HN.out _ (by omega))
  obtain ⟨ao, cap, hv⟩ := own_form h1.at'.own
  have k2 := cellOf h1.at'.blk 0
  have k3 := frozenOf h1.at'.blk 0
  have H1 : Hid _ := h1
  clear h1
  subst hv
  simp at k2
  have HO : Hid (∀ o : Obj, (w1.alloc o).drew.ownsRow (bb + 1) 151 7 (.slice ao (ns ++ [plainNode]).length cap) (ns ++ [plainNode]).length (ncells (ns ++ [plainNode]))) := fun o => H1.out.at'.own.alloc o
  have HB : Hid (∀ (o : Obj) (v' : Value) (w2 : World), (w1.alloc o).drew.grownBy w2 (Value.ownBlock (.slice ao (ns ++ [plainNode]).length cap)) → w2.heap[bb]? = some (.cells #[.slice ao (ns ++ [plainNode]).length cap] 154 (0, 0))) := by
    intro o v' w2 hg
    have hl := H1.out.at'.lt
    rw [hg.block bb (by simp [World.drew]; omega) (fun e => by have := H1.out.at'.own_lt bb e.symm; omega)]
    show (w1.alloc o).heap[bb]? = _
    rw [heap_alloc_old' hl]; exact H1.out.at'.blk
  have hlt1 : w.heap.size + 1 < w1.heap.size := by have := H1.out.mod.size; simp at this; omega
  have hbb : bb < w1.heap.size := H1.out.at'.lt
  go_region_law (refine step_append_mine _ rfl (.tmp 12) (.tmp 16) 81 rfl (bb + 1) 151 i0 _ 7 56 Tryz.underlying81 hi hz0 hz1 hz2 rfl (by decide) (.slice ao (ns ++ [plainNode]).length cap) _ _ (by simp [Act.eval, Act.put]) (HO.out _) ⟨w1.heap.size, 0, none⟩ 1 1 [.bool true, .int .u64 a, .int .u64 b, .int .u64 c, .int .u64 d, .int .i64 ns.length, .int .i64 (-1)] (by simp [Act.eval, Act.put]) rfl (new_cells rfl) (by intro u hu; simp at hu; rcases hu with rfl | rfl | rfl | rfl | rfl | rfl | rfl <;> rfl) (by unfold maxLen; simp; omega) (by simp; omega) (by simp [World.drew]; omega) ?_; intro v' w2 hown hgrow hblk; obtain ⟨a', cap', hv'⟩ := own_form hown; have hc2 := cellOf (HB.out _ v' w2 hgrow) 0; have hz2 := frozenOf (HB.out _ v' w2 hgrow) 0; have HO2 : Hid _ := hown; have HG2 : Hid _ := hgrow; clear hown hgrow; subst hv')
  all_goals
    have hnf := H1.out.nf (k := w.heap.size + 1) (by simp) (HN.out _ (by omega))
    have hres : w2.heap[w.heap.size + 1]? = some (.cells #[.int .i64 0, .int .i64 0] 156 (0, 0)) := by
      rw [HG2.out.block _ (by simp [World.drew]; omega) (fun e => hnf (.inr e.symm))]
      exact heap_alloc_prev (H1.out.mod.at (heap_alloc2_new _ _ _) (HN.out _ (by omega)))
    have hne : w.heap.size + 1 ≠ bb := by have := H.out.lt; omega
    have hc3 := cellOf hres
    have hz3 := frozenOf hres
    have HR : Hid _ := hres
    have HNF : Hid _ := hnf
    have HE : Hid _ := hne
    clear hres hnf k1
    go_wp2
    have fin := badd (n := readNode ws ns.length) H1.out.at' (((Mod.refl _ w1).alloc _).drew) (by rw [HW.out]; rfl) (by rw [HW.out]; exact HO2.out) HG2.out (by simpa [World.drew] using hblk)
    have fin2 := H1.out.trans fin
    have hnf2 := fin.nf (k := w.heap.size + 1) (by omega) HNF.out
    refine bodyPost_ret (results_cell_row rfl _ _ (w.heap.size + 1) 156 #[.int .i64 (ns.length + 1), .int .i64 ns.length] (0, 0) _ rfl ?_ Tryz.underlying156 rfl szFrag) rfl ⟨rfl, .slice a' ((ns ++ [plainNode]).length + 1) cap', ?_⟩
    · rw [Proofs.YtcpgklcimacngaaGreat.heap_setCell_same (Proofs.YtcpgklcimacngaaGreat.heap_setCell_same (heap_setCell_prev HR.out HE.out) 0 _) 1 _]; rfl
    · have := ((BNext.ahead (((Mod.refl _ w).alloc _).alloc _) fin2).put (p := ⟨w.heap.size + 1, 0, none⟩) (by simp) hnf2 (.int .i64 (ns.length + 1))).put (p := ⟨w.heap.size + 1, 1, none⟩) (by simp) hnf2 (.int .i64 ns.length)
      simpa [oneN] using this
theorem oneN_len (ns : List Node) (ws : List Int) : (oneN ns ws).length = ns.length + 2 := by simp [oneN]
end Go.Proofs.YtcpgklcimacngaaGreat
namespace Go.Proofs.YtcpgklcimacngaaGreat
open Go.RowKit
set_option linter.unusedVariables false
set_option linter.unusedSimpArgs false

structure PR where
  st : Int
  en : Int
  next : Int
  ok : Bool
  ns : List Node

def rAtom (g : Int → List Node → PR) (s : ByteArray) (i : Int) (ns : List Node) : PR :=
  if atB s i = 40 then g i ns
  else if (rSet s i).2.2 = false then ⟨0, 0, (rSet s i).2.1, false, ns⟩
  else ⟨ns.length + 1, ns.length, (rSet s i).2.1, true, oneN ns (rSet s i).1⟩
def isMark (c : Int) : Bool := c == 42 || c == 43 || c == 63
def rPieceL (s : ByteArray) : Nat → PR → PR
  | 0, r => r
  | f + 1, r =>
    if (r.ok && isMark (atB s r.next)) = true then rPieceL s f ⟨r.ns.length, r.ns.length + 1, r.next + 1, true, repeatN r.ns r.st r.en (atB s r.next)⟩
    else r
def rPiece (a : Int → List Node → PR) (s : ByteArray) (i : Int) (ns : List Node) : PR := rPieceL s (s.size + 5) (a i ns)
def joinR (r p : PR) : PR := if p.ok then ⟨r.st, p.en, p.next, true, linkN p.ns r.en p.st⟩ else ⟨r.st, r.en, p.next, false, p.ns⟩
def rBranchL (p : Int → List Node → PR) (s : ByteArray) : Nat → PR → PR
  | 0, r => r
  | f + 1, r => if (r.ok && beginsB s r.next) = true then rBranchL p s f (joinR r (p r.next r.ns)) else r
def rBranch (p : Int → List Node → PR) (s : ByteArray) (i : Int) (ns : List Node) : PR := rBranchL p s (s.size + 5) (p i ns)
def eitherR (r p : PR) : PR := if p.ok then ⟨p.ns.length, p.ns.length + 1, p.next, true, eitherN p.ns r.st r.en p.st p.en⟩ else ⟨r.st, r.en, p.next, false, p.ns⟩
def rChoiceL (p : Int → List Node → PR) (s : ByteArray) : Nat → PR → PR
  | 0, r => r
  | f + 1, r => if (r.ok && (atB s r.next == 124)) = true then rChoiceL p s f (eitherR r (p (r.next + 1) r.ns)) else r
def rChoice (p : Int → List Node → PR) (s : ByteArray) (i : Int) (ns : List Node) : PR := rChoiceL p s (s.size + 5) (p i ns)
def rGroup (c : Int → List Node → PR) (s : ByteArray) (i : Int) (ns : List Node) : PR :=
  if (c (i + 1) ns).ok = false then ⟨0, 0, (c (i + 1) ns).next, false, (c (i + 1) ns).ns⟩
  else if atB s (c (i + 1) ns).next ≠ 41 then ⟨0, 0, (c (i + 1) ns).next, false, (c (i + 1) ns).ns⟩
  else ⟨(c (i + 1) ns).st, (c (i + 1) ns).en, (c (i + 1) ns).next + 1, true, (c (i + 1) ns).ns⟩
def gK (s : ByteArray) : Nat → Int → List Node → PR
  | 0 => fun i ns => ⟨0, 0, i, false, ns⟩
  | k + 1 => rGroup (rChoice (rBranch (rPiece (rAtom (gK s k) s) s) s) s) s
def chK (s : ByteArray) (k : Nat) : Int → List Node → PR := rChoice (rBranch (rPiece (rAtom (gK s k) s) s) s) s

structure Good (s : ByteArray) (i : Int) (n0 : Nat) (r : PR) : Prop where
  lo : i ≤ r.next
  hi : r.next ≤ 2 * s.size + 20
  good : r.ok = true → i < r.next ∧ r.next ≤ s.size
  cnt : (r.ns.length : Int) ≤ n0 + 2 * (r.next - i)
def GoodF (s : ByteArray) (f : Int → List Node → PR) : Prop := ∀ (i : Int) (ns : List Node), 0 ≤ i → i ≤ s.size → Good s i ns.length (f i ns)

theorem good_atom {g : Int → List Node → PR} {s : ByteArray} (hg : GoodF s g) : GoodF s (rAtom g s) := by
  intro i ns h0 h1
  have hb := rSet_bd s i h0
  unfold rAtom
  split
  · exact hg i ns h0 h1
  · split
    · exact ⟨hb.1, by dsimp only; omega, by simp, by dsimp only; omega⟩
    · rename_i h3; have h4 := hb.2.2 (by simpa using h3)
      exact ⟨hb.1, by dsimp only; omega, fun _ => h4, by dsimp only; rw [oneN_len]; omega⟩
theorem good_pieceL (s : ByteArray) (i : Int) (n0 : Nat) (hi : 0 ≤ i) : ∀ (f : Nat) (r : PR), Good s i n0 r → Good s i n0 (rPieceL s f r)
  | 0, r, h => h
  | f + 1, r, h => by
    unfold rPieceL
    split
    · rename_i h3
      simp only [Bool.and_eq_true] at h3
      have h4 := h.good h3.1
      have h5 : atB s r.next ≠ -1 := by intro e; rw [e] at h3; simp [isMark] at h3
      have h6 := atB_lt h5
      exact good_pieceL s i n0 hi f _ ⟨by dsimp only; omega, by dsimp only; omega, fun _ => by dsimp only; omega, by dsimp only; rw [repeatN_len]; have := h.cnt; omega⟩
    · exact h
theorem good_piece {a : Int → List Node → PR} {s : ByteArray} (ha : GoodF s a) : GoodF s (rPiece a s) := by
  intro i ns h0 h1
  exact good_pieceL s i _ h0 _ _ (ha i ns h0 h1)
theorem good_joinR {s : ByteArray} {i : Int} {n0 : Nat} {r p : PR} (h0 : 0 ≤ i) (h : Good s i n0 r) (hok : r.ok = true) (hp : Good s r.next r.ns.length p) : Good s i n0 (joinR r p) := by
  have h4 := h.good hok
  have h7 := hp.cnt
  have h8 := h.cnt
  unfold joinR
  split
  · rename_i h5; have h6 := hp.good h5
    exact ⟨by dsimp only; omega, by dsimp only; omega, fun _ => by dsimp only; omega, by dsimp only; rw [linkN_len]; omega⟩
  · exact ⟨by have := hp.lo; dsimp only; omega, hp.hi, by simp, by dsimp only; omega⟩
theorem good_eitherR {s : ByteArray} {i : Int} {n0 : Nat} {r p : PR} (h0 : 0 ≤ i) (h : Good s i n0 r) (hok : r.ok = true) (hp : Good s (r.next + 1) r.ns.length p) : Good s i n0 (eitherR r p) := by
  have h4 := h.good hok
  have h7 := hp.cnt
  have h8 := h.cnt
  unfold eitherR
  split
  · rename_i h5; have h6 := hp.good h5
    exact ⟨by dsimp only; omega, by dsimp only; omega, fun _ => by dsimp only; omega, by dsimp only; rw [eitherN_len]; omega⟩
  · exact ⟨by have := hp.lo; dsimp only; omega, hp.hi, by simp, by dsimp only; omega⟩
theorem good_branchL {p : Int → List Node → PR} {s : ByteArray} (hp : GoodF s p) (i : Int) (n0 : Nat) (hi : 0 ≤ i) : ∀ (f : Nat) (r : PR), Good s i n0 r → Good s i n0 (rBranchL p s f r)
  | 0, r, h => h
  | f + 1, r, h => by
    unfold rBranchL
    split
    · rename_i h3
      simp only [Bool.and_eq_true] at h3
      have h4 := h.good h3.1
      exact good_branchL hp i n0 hi f _ (good_joinR hi h h3.1 (hp r.next r.ns (by omega) (by omega)))
    · exact h
theorem good_branch {p : Int → List Node → PR} {s : ByteArray} (hp : GoodF s p) : GoodF s (rBranch p s) := by
  intro i ns h0 h1
  exact good_branchL hp i _ h0 _ _ (hp i ns h0 h1)
theorem good_choiceL {p : Int → List Node → PR} {s : ByteArray} (hp : GoodF s p) (i : Int) (n0 : Nat) (hi : 0 ≤ i) : ∀ (f : Nat) (r : PR), Good s i n0 r → Good s i n0 (rChoiceL p s f r)
  | 0, r, h => h
  | f + 1, r, h => by
    unfold rChoiceL
    split
    · rename_i h3
      simp only [Bool.and_eq_true, beq_iff_eq] at h3
      have h4 := h.good h3.1
      have h6 := atB_lt (s := s) (i := r.next) (by omega)
      exact good_choiceL hp i n0 hi f _ (good_eitherR hi h h3.1 (hp (r.next + 1) r.ns (by omega) (by omega)))
    · exact h
theorem good_choice {p : Int → List Node → PR} {s : ByteArray} (hp : GoodF s p) : GoodF s (rChoice p s) := by
  intro i ns h0 h1
  exact good_choiceL hp i _ h0 _ _ (hp i ns h0 h1)
theorem good_group {c : Int → List Node → PR} {s : ByteArray} (hc : GoodF s c) (i : Int) (ns : List Node) (h0 : 0 ≤ i) (h1 : i < s.size) : Good s i ns.length (rGroup c s i ns) := by
  have h := hc (i + 1) ns (by omega) (by omega)
  have hl := h.lo
  have hk := h.cnt
  have hh := h.hi
  unfold rGroup
  split
  · exact ⟨by dsimp only; omega, h.hi, by simp, by dsimp only; omega⟩
  · rename_i h3; have h4 := h.good (by simpa using h3)
    split
    · exact ⟨by dsimp only; omega, h.hi, by simp, by dsimp only; omega⟩
    · rename_i h5
      have h6 := atB_lt (s := s) (i := (c (i + 1) ns).next) (by omega)
      exact ⟨by dsimp only; omega, by dsimp only; omega, fun _ => by dsimp only; omega, by dsimp only; omega⟩
/-- A group is only read where a ( stands. -/
def GoodG (s : ByteArray) (f : Int → List Node → PR) : Prop := ∀ (i : Int) (ns : List Node), 0 ≤ i → i < s.size → Good s i ns.length (f i ns)
theorem good_atom' {g : Int → List Node → PR} {s : ByteArray} (hg : GoodG s g) : GoodF s (rAtom g s) := by
  intro i ns h0 h1
  by_cases hc : atB s i = 40
  · have h6 := atB_lt (s := s) (i := i) (by omega)
    unfold rAtom; rw [if_pos hc]; exact hg i ns h0 h6.2
  · have := good_atom (g := fun i ns => ⟨0, 0, i, false, ns⟩) (s := s) (fun i ns h0 h1 => ⟨by simp, by dsimp only; omega, by simp, by simp⟩) i ns h0 h1
    unfold rAtom at this ⊢; rw [if_neg hc] at this ⊢; exact this
theorem good_gK (s : ByteArray) : ∀ k, GoodG s (gK s k)
  | 0 => fun i ns h0 h1 => ⟨by simp [gK], by simp [gK]; omega, by simp [gK], by simp [gK]⟩
  | k + 1 => fun i ns h0 h1 => good_group (good_choice (good_branch (good_piece (good_atom' (good_gK s k))))) i ns h0 h1
theorem good_chK (s : ByteArray) (k : Nat) : GoodF s (chK s k) := good_choice (good_branch (good_piece (good_atom' (good_gK s k))))

abbrev prRet (r : PR) : Value := .tuple #[frag r.st r.en, .int .i64 r.next, .bool r.ok]
/-- What a reading method does: f is what it reads. -/
def Con (fid : FuncId) (s : ByteArray) (d : Int) (f : Int → List Node → PR) : Prop :=
  ∀ (i : Int) (ns : List Node) (w : World) (bb : Nat) (v : Value), 0 ≤ i → i ≤ s.size → (ns.length : Int) ≤ 2 * i → BAt w bb v ns →
    Calls Tryz.prog fid #[bptr bb, .string s, .int .i64 i, .int .i64 d] w fun e w' => e = .returned (prRet (f i ns)) ∧ ∃ v', BNext w w' bb v v' (f i ns).ns
/-- The same, where a ( stands. -/
def ConG (fid : FuncId) (s : ByteArray) (d : Int) (f : Int → List Node → PR) : Prop :=
  ∀ (i : Int) (ns : List Node) (w : World) (bb : Nat) (v : Value), 0 ≤ i → i < s.size → (ns.length : Int) ≤ 2 * i → BAt w bb v ns →
    Calls Tryz.prog fid #[bptr bb, .string s, .int .i64 i, .int .i64 d] w fun e w' => e = .returned (prRet (f i ns)) ∧ ∃ v', BNext w w' bb v v' (f i ns).ns
end Go.Proofs.YtcpgklcimacngaaGreat
