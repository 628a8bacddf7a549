import Derived.Test.YteneagnhihcljaaGreatDoorPat5
namespace Go.Proofs.YteneagnhihcljaaGreatDoor
open Go.RowKit
set_option linter.unusedVariables false
set_option linter.unusedSimpArgs false

abbrev bptr (bb : Nat) : Value := .pointer (some ⟨bb, 0, none⟩)

theorem own_form {w : World} {base size n : Nat} {e : TypeId} {v : Value} {xs : List Value} (h : w.ownsRow base e size v n xs) : ∃ a cap, v = .slice a n cap := by
  rcases h.2 with ⟨rfl, rfl⟩ | ⟨g, cap, cur, rfl, _⟩
  · exact ⟨none, 0, rfl⟩
  · exact ⟨some ⟨g, 0, none⟩, cap, rfl⟩
theorem new_cells {w : World} {cs : Array Value} {l : List Value} {e : TypeId} (h : cs.toList = l) : ∀ (j : Nat) (u : Value), l[j]? = some u → (w.alloc (.cells cs e)).cell? ((⟨w.heap.size, 0, none⟩ : Addr).add j) = some u := by
  intro j u hj
  rw [Addr.add_mid, Nat.zero_add, cellOf (heap_alloc_at _ _)]
  subst h; simpa using hj
theorem u64_one {ws : List Int} {u : Value} (h : u ∈ ws.map (Value.int .u64)) : u.oneCell' = true := by
  simp at h; obtain ⟨a, _, rfl⟩ := h; rfl
theorem Node.one (n : Node) : ∀ u ∈ n.cells, u.oneCell' = true := by
  intro u hu
  simp only [Node.cells, List.mem_cons, List.mem_append, List.not_mem_nil, or_false] at hu
  rcases hu with rfl | hu | rfl | rfl
  · rfl
  · exact u64_one hu
  · rfl
  · rfl
/-- The builder behind an append: the new slice is laid back into it. -/
theorem badd {w W w1 : World} {bb : Nat} {v v' : Value} {ns : List Node} {n : Node} (h : BAt w bb v ns) (hW : Fresh w W) (hn : n.wf)
    (hown : w1.ownsRow (bb + 1) 154 7 v' (ns.length + 1) (ncells ns ++ n.cells)) (hg : W.grownBy w1 v.ownBlock)
    (hb : ∀ k, v'.ownBlock = some k → v.ownBlock = some k ∨ W.heap.size ≤ k) :
    BNext w (w1.setCell ⟨bb, 0, none⟩ v') bb v v' (ns ++ [n]) := by
  have hbb : W.heap[bb]? = some (.cells #[v] 164 (0, 0)) := hW.at h.blk (fun x => x)
  have h1 : w1.heap[bb]? = some (.cells #[v] 164 (0, 0)) := by
    rw [hg.block bb (heap_lt hbb) (fun e => by have := h.own_lt bb e.symm; omega)]; exact hbb
  have hlt := hown.lt
  refine ⟨⟨?_, ?_, Nwf_append h.wf (fun m hm => by simp at hm; subst hm; exact hn)⟩, ?_, ?_⟩
  · have := Proofs.YteneagnhihcljaaGreatDoor.heap_setCell_same h1 0 v'; simpa using this
  · have : ncells (ns ++ [n]) = ncells ns ++ n.cells := by simp [ncells]
    rw [this]
    have e2 : (ns ++ [n]).length = ns.length + 1 := by simp
    rw [e2]
    exact ownsRow_other hown (fun g hg' => by rw [Proofs.YteneagnhihcljaaGreatDoor.heap_setCell_other _ (by have := hlt g hg'; simp; omega)])
  · have m1 : Mod (foot bb v) w W := hW.mono (fun _ _ x => x.elim)
    exact (m1.grown hg (fun k hk _ => .inr hk)).setCell (fun _ => .inl rfl) _
  · intro k hk
    rcases hb k hk with h2 | h2
    · exact .inl h2
    · right; have := hW.size; omega

set_option maxHeartbeats 1000000 in
theorem addNode_any (w : World) (bb : Nat) (v : Value) (ns : List Node) (h : BAt w bb v ns) (hn : ns.length ≤ 100000) :
    Calls Tryz.prog 96 #[bptr bb] w fun e w' => e = .returned (.int .i64 ns.length) ∧ ∃ v', BNext w w' bb v v' (ns ++ [plainNode]) := by
  obtain ⟨i0, hi, hz0, hz1, hz2⟩ := infoNode'
  obtain ⟨ao, cap, hv⟩ := own_form h.own
  have hc := cellOf h.blk 0
  have hlt := h.lt
  have H : Hid _ := h
  clear h
  subst hv
  simp at hc
  go_enter Tryz.func96, Tryz.ntmps96
  go_wp2_with (at_builtin; refine wpList_append_mine _ rfl _ _ 65 rfl (bb + 1) 154 i0 _ 7 56 Tryz.underlying65 hi hz0 hz1 hz2 rfl (by decide) _ _ _ rfl (H.out.own.alloc _) ⟨w.heap.size, 0, none⟩ 1 1 plainNode.cells rfl rfl ?c1 ?c2 ?c3 ?c4 ?c5 ?_)
  case c1 => exact new_cells rfl
  case c2 => exact Node.one _
  case c3 => unfold maxLen; omega
  case c4 => omega
  case c5 => simp; omega
  intro v' w1 hown hgrow hblk
  obtain ⟨a', cap', hv'⟩ := own_form hown
  have hc1 : w1.cell? ⟨bb, 0, none⟩ = some (.slice ao ns.length cap) := by
    rw [cellOf (b := bb) (c := #[.slice ao ns.length cap]) (e := 164) (f := (0, 0))]
    · rfl
    · rw [hgrow.block bb (by simp; omega) (fun e => by have := H.out.own_lt bb e.symm; omega), heap_alloc_old' hlt]; exact H.out.blk
  have hz1 : w1.frozen? ⟨bb, 0, none⟩ = false := by
    rw [frozenOf (b := bb) (c := #[.slice ao ns.length cap]) (e := 164)]
    · rw [hgrow.block bb (by simp; omega) (fun e => by have := H.out.own_lt bb e.symm; omega), heap_alloc_old' hlt]; exact H.out.blk
  have HO : Hid _ := hown
  have HG : Hid _ := hgrow
  clear hown hgrow
  subst hv'
  go_wp2
  go_ret
  refine ⟨ret_int (by simp), _, badd H.out ((Mod.refl _ w).alloc _) plain_wf HO.out HG.out (by simpa using hblk)⟩

theorem link_no (w : World) (bb : Nat) (v : Value) (ns : List Node) (a b : Int) (h : BAt w bb v ns) (hn : ns.length ≤ 100000) (ha : a < 0 ∨ (ns.length : Int) ≤ a) :
    Calls Tryz.prog 97 #[bptr bb, .int .i64 a, .int .i64 b] w fun e w' => e = .returned (.tuple #[]) ∧ ∃ v', BNext w w' bb v v' (linkN ns a b) := by
  have e1 : linkN ns a b = ns := by unfold linkN; rw [if_pos ha]
  rw [e1]
  obtain ⟨ao, cap, hv⟩ := own_form h.own
  have hc := cellOf h.blk 0
  have H : Hid _ := h
  clear h e1
  subst hv
  simp at hc
  rcases ha with ha | ha
  · go_enter Tryz.func97, Tryz.ntmps97
    go_wp2
    refine bodyPost_ret (results_none rfl _ _ _) rfl ?_
    exact ⟨rfl, _, BNext.refl H.out⟩
  · go_enter Tryz.func97, Tryz.ntmps97
    go_wp2
    refine bodyPost_ret (results_none rfl _ _ _) rfl ?_
    exact ⟨rfl, _, BNext.refl H.out⟩

theorem blink {w : World} {bb g n cap : Nat} {ns : List Node} (h : BAt w bb (.slice (some ⟨g, 0, none⟩) n cap) ns) (a j : Nat) (u : Value) (f : Node → Node) (ha : a < ns.length) (hj : j < 7)
    (hf : ∀ n, n.wf → (f n).cells = n.cells.set j u) (hw : ∀ n, n.wf → (f n).wf) :
    BNext w (w.setCell ⟨g, a * 7 + j, none⟩ u) bb (.slice (some ⟨g, 0, none⟩) n cap) (.slice (some ⟨g, 0, none⟩) n cap) (ns.modify a f) := by
  have hl := h.own_lt g rfl
  refine ⟨⟨?_, ?_, Nwf_modify h.wf _ _ hw⟩, ?_, fun k hk => .inl hk⟩
  · exact heap_setCell_prev h.blk (by simp; omega)
  · rw [List.length_modify, ← ncells_set h.wf a j ha hj u f hf]
    exact ownsRow_set h.own rfl _ _ (by rw [ncells_len h.wf]; omega)
  · exact (Mod.refl _ _).setCell (fun _ => .inr rfl) _
theorem modify_congr {ns : List Node} {a : Nat} (ha : a < ns.length) {f g : Node → Node} (h : f ns[a] = g ns[a]) : ns.modify a f = ns.modify a g := by
  induction ns generalizing a with
  | nil => simp at ha
  | cons n ns ih =>
    cases a with
    | zero => simp at h ⊢; exact h
    | succ a => simp at h ⊢; exact ih (by simpa using ha) h

set_option maxHeartbeats 1000000 in
theorem link_in (w : World) (bb : Nat) (v : Value) (ns : List Node) (a : Nat) (b : Int) (h : BAt w bb v ns) (hn : ns.length ≤ 100000) (ha : a < ns.length) :
    Calls Tryz.prog 97 #[bptr bb, .int .i64 a, .int .i64 b] w fun e w' => e = .returned (.tuple #[]) ∧ ∃ v', BNext w w' bb v v' (linkN ns a b) := by
  obtain ⟨g, cap, hv⟩ := Joins.ownsRow_form h.own (by omega)
  have hc := cellOf h.blk 0
  subst hv
  have hc5 : w.cell? ⟨g, a * 7 + 5, none⟩ = some (.int .i64 (ns[a]).next) := by
    have := h.own.cells (g := g) rfl (a * 7 + 5) (.int .i64 (ns[a]).next) (by rw [ncells_at h.wf a 5 ha (by omega), Node.cells_at (h.wf _ (by simp))]; rfl)
    rwa [Addr.add_mid, Nat.zero_add] at this
  have hc6 : w.cell? ⟨g, a * 7 + 6, none⟩ = some (.int .i64 (ns[a]).other) := by
    have := h.own.cells (g := g) rfl (a * 7 + 6) (.int .i64 (ns[a]).other) (by rw [ncells_at h.wf a 6 ha (by omega), Node.cells_at (h.wf _ (by simp))]; rfl)
    rwa [Addr.add_mid, Nat.zero_add] at this
  have hz : ∀ o, w.frozen? ⟨g, o, none⟩ = false := by
    rcases h.own.2 with ⟨h1, _⟩ | ⟨g', cap', cur, h1, _, hgg, _⟩
    · cases h1
    · simp at h1; obtain ⟨rfl, _⟩ := h1
      exact frozenOf hgg
  have H : Hid _ := h
  clear h
  simp at hc
  go_enter Tryz.func97, Tryz.ntmps97
  go_wp2
  · have h5 : (ns[a]).next = -1 := by simpa using ‹((ns[a]).next == -1) = true›
    refine bodyPost_ret (results_none rfl _ _ _) rfl ⟨rfl, .slice (some ⟨g, 0, none⟩) ns.length cap, ?_⟩
    have e1 : linkN ns a b = ns.modify a (fun n => { n with next := b }) := by
      unfold linkN; rw [if_neg (by omega), Int.toNat_natCast]; exact modify_congr ha (by simp [h5])
    rw [e1]
    exact blink H.out a 5 _ _ ha (by omega) (fun n hn => by obtain ⟨a, b, c, d, e⟩ := four hn; simp [Node.cells, e]) (fun n hn => hn)
  · have h5 : (ns[a]).next ≠ -1 := by simpa using ‹((ns[a]).next == -1) = false›
    refine bodyPost_end (results_none rfl _ _ _) rfl ⟨rfl, .slice (some ⟨g, 0, none⟩) ns.length cap, ?_⟩
    have e1 : linkN ns a b = ns.modify a (fun n => { n with other := b }) := by
      unfold linkN; rw [if_neg (by omega), Int.toNat_natCast]; exact modify_congr ha (by simp [h5])
    rw [e1]
    exact blink H.out a 6 _ _ ha (by omega) (fun n hn => by obtain ⟨a, b, c, d, e⟩ := four hn; simp [Node.cells, e]) (fun n hn => hn)

theorem link_any (w : World) (bb : Nat) (v : Value) (ns : List Node) (a b : Int) (h : BAt w bb v ns) (hn : ns.length ≤ 100000) :
    Calls Tryz.prog 97 #[bptr bb, .int .i64 a, .int .i64 b] w fun e w' => e = .returned (.tuple #[]) ∧ ∃ v', BNext w w' bb v v' (linkN ns a b) := by
  by_cases ha : a < 0 ∨ (ns.length : Int) ≤ a
  · exact link_no w bb v ns a b h hn ha
  · obtain ⟨k, rfl⟩ : ∃ k : Nat, a = k := ⟨a.toNat, by omega⟩
    exact link_in w bb v ns k b h hn (by omega)
end Go.Proofs.YteneagnhihcljaaGreatDoor
namespace Go.Proofs.YteneagnhihcljaaGreatDoor
open Go.RowKit
set_option linter.unusedVariables false
set_option linter.unusedSimpArgs false

abbrev frag (a b : Int) : Value := .agg #[.int .i64 a, .int .i64 b]
theorem BAt.not_foot {w : World} {bb : Nat} {v : Value} {ns : List Node} (h : BAt w bb v ns) {k : Nat} (hk : w.heap.size ≤ k) : ¬ foot bb v k := by
  rintro (rfl | h1)
  · have := h.lt; omega
  · have := h.own_lt k h1; omega
theorem BAt.fresh {w w' : World} {bb : Nat} {v : Value} {ns : List Node} (h : BAt w bb v ns) (hm : Fresh w w') : BAt w' bb v ns := h.kept hm (fun _ _ x => x)
theorem BNext.nf {w w' : World} {bb : Nat} {v v' : Value} {ns' : List Node} (h : BNext w w' bb v v' ns') {k : Nat} (hk : k < w.heap.size) (hn : ¬ foot bb v k) : ¬ foot bb v' k := by
  rintro (rfl | h1)
  · exact hn (.inl rfl)
  · rcases h.foot' k h1 with h2 | h2
    · exact hn (.inr h2)
    · omega
theorem BNext.put {a b : World} {bb : Nat} {v v' : Value} {ns' : List Node} (h : BNext a b bb v v' ns') {p : Addr} (hk : a.heap.size ≤ p.block) (hf : ¬ foot bb v' p.block) (u : Value) : BNext a (b.setCell p u) bb v v' ns' :=
  h.behind (S := fun i => i = p.block) (Mod.setCell (S := fun i => i = p.block) (Mod.refl _ _) (fun _ => rfl) u) (fun i hi => by rw [hi]; exact hk) (fun i hi e => hf (by rw [← e]; exact hi))
theorem BNext.alloc {a b : World} {bb : Nat} {v v' : Value} {ns' : List Node} (h : BNext a b bb v v' ns') (o : Obj) : BNext a (b.alloc o) bb v v' ns' :=
  h.behind (S := fun _ => False) ((Mod.refl _ _).alloc o) (fun _ x => x.elim) (fun _ _ x => x)
theorem BNext.loc {W w' : World} {bb : Nat} {v v' : Value} {ns' : List Node} (g : BNext W w' bb v v' ns') {k : Nat} {cs : Array Value} {e : TypeId} {f : Nat × Nat} (hb : W.heap[k]? = some (.cells cs e f)) (hn : ¬ foot bb v k) (o : Nat) :
    w'.cell? ⟨k, o, none⟩ = cs[o]? := cellOf (g.mod.at hb hn) o
theorem heap_alloc3_1 (w : World) (A B C : Obj) : (((w.alloc A).alloc B).alloc C).heap[w.heap.size]? = some A := heap_alloc_prev (heap_alloc_prev (heap_alloc_at _ _))
theorem heap_alloc3_2 (w : World) (A B C : Obj) : (((w.alloc A).alloc B).alloc C).heap[w.heap.size + 1]? = some B := heap_alloc_prev (heap_alloc2_new _ _ _)
theorem heap_alloc3_3 (w : World) (A B C : Obj) : (((w.alloc A).alloc B).alloc C).heap[w.heap.size + 2]? = some C := by
  have := heap_alloc_at ((w.alloc A).alloc B) C
  simpa using this
theorem szFrag : (Tryz.prog.info? 166).map (·.size) = some 2 := by kernel_rfl

set_option maxHeartbeats 1000000 in
theorem join_any (w : World) (bb : Nat) (v : Value) (ns : List Node) (a b c d : Int) (h : BAt w bb v ns) (hn : ns.length ≤ 100000) :
    Calls Tryz.prog 95 #[bptr bb, frag a b, frag c d] w fun e w' => e = .returned (frag a d) ∧ ∃ v', BNext w w' bb v v' (linkN ns b c) := by
  have H : Hid _ := h
  have hN := fun k (hk : w.heap.size ≤ k) => h.not_foot hk
  have HN : Hid _ := hN
  clear h hN
  go_enter Tryz.func95, Tryz.ntmps95
  go_wp2_with (go_at_call 97; refine (link_any _ bb v ns _ _ (H.out.fresh (((((Mod.refl _ w).alloc _).alloc _).alloc _))) (by omega)).mono ?_; rintro e w1 ⟨rfl, v1, h1⟩; have k1 := cellOf (h1.mod.at (heap_alloc3_1 _ _ _ _) (HN.out _ (by omega))); have k2 := cellOf (h1.mod.at (heap_alloc3_2 _ _ _ _) (HN.out _ (by omega))); have k3 := cellOf (h1.mod.at (heap_alloc3_3 _ _ _ _) (HN.out _ (by omega))); have k4 := frozenOf (h1.mod.at (heap_alloc3_3 _ _ _ _) (HN.out _ (by omega))))
  refine bodyPost_ret (results_cell_row rfl _ _ (w.heap.size + 2) 166 #[.int .i64 a, .int .i64 d] (0, 0) _ rfl ?_ Tryz.underlying166 rfl szFrag) rfl ⟨rfl, v1, ?_⟩
  · rw [Proofs.YteneagnhihcljaaGreatDoor.heap_setCell_same (Proofs.YteneagnhihcljaaGreatDoor.heap_setCell_same (h1.mod.at (heap_alloc3_3 _ _ _ _) (HN.out _ (by omega))) 0 _) 1 _]; rfl
  · have hf := h1.nf (k := w.heap.size + 2) (by simp) (HN.out _ (by omega))
    exact ((BNext.ahead ((((Mod.refl _ w).alloc _).alloc _).alloc _) h1).put (by simp; omega) hf _).put (by simp; omega) hf _

def eitherN (ns : List Node) (a b c d : Int) : List Node :=
  linkN (linkN (linkN (linkN (ns ++ [plainNode] ++ [plainNode]) ns.length a) ns.length c) b (ns.length + 1)) d (ns.length + 1)

set_option maxHeartbeats 1000000 in
theorem either_any (w : World) (bb : Nat) (v : Value) (ns : List Node) (a b c d : Int) (h : BAt w bb v ns) (hn : ns.length ≤ 50000) :
    Calls Tryz.prog 92 #[bptr bb, frag a b, frag c d] w fun e w' => e = .returned (frag ns.length (ns.length + 1)) ∧ ∃ v', BNext w w' bb v v' (eitherN ns a b c d) := by
  have H : Hid _ := h
  have hN := fun k (hk : w.heap.size ≤ k) => h.not_foot hk
  have HN : Hid _ := hN
  clear h hN
  go_enter Tryz.func92, Tryz.ntmps92
  go_wp2_with (go_at_call 96; refine (addNode_any _ bb v ns (H.out.fresh (((((Mod.refl _ w).alloc _).alloc _).alloc _))) (by omega)).mono ?_; rintro e w1 ⟨rfl, v1, h1⟩)
  go_wp2_with (go_at_call 96; refine (addNode_any _ bb v1 _ h1.at' (by simp; omega)).mono ?_; rintro e w2 ⟨rfl, v2, h2⟩; have g2 := h1.trans h2; have k1 := g2.loc (heap_alloc3_1 _ _ _ _) (HN.out _ (by omega)); have k2 := g2.loc (heap_alloc3_2 _ _ _ _) (HN.out _ (by omega)); clear h1 h2)
  clear k1 k2
  go_wp2_with (go_at_call 97; refine (link_any _ bb v2 _ _ _ g2.at' (by simp; omega)).mono ?_; rintro e w3 ⟨rfl, v3, h3⟩; have g3 := g2.trans h3; have k1 := g3.loc (heap_alloc3_1 _ _ _ _) (HN.out _ (by omega)); have k2 := g3.loc (heap_alloc3_2 _ _ _ _) (HN.out _ (by omega)); clear g2 h3)
  clear k1 k2
  go_wp2_with (go_at_call 97; refine (link_any _ bb v3 _ _ _ g3.at' (by rw [linkN_len]; simp; omega)).mono ?_; rintro e w4 ⟨rfl, v4, h4⟩; have g4 := g3.trans h4; have k1 := g4.loc (heap_alloc3_1 _ _ _ _) (HN.out _ (by omega)); have k2 := g4.loc (heap_alloc3_2 _ _ _ _) (HN.out _ (by omega)); clear g3 h4)
  clear k1 k2
  go_wp2_with (go_at_call 97; refine (link_any _ bb v4 _ _ _ g4.at' (by rw [linkN_len, linkN_len]; simp; omega)).mono ?_; rintro e w5 ⟨rfl, v5, h5⟩; have g5 := g4.trans h5; have k1 := g5.loc (heap_alloc3_1 _ _ _ _) (HN.out _ (by omega)); have k2 := g5.loc (heap_alloc3_2 _ _ _ _) (HN.out _ (by omega)); clear g4 h5)
  clear k1 k2
  go_wp2_with (go_at_call 97; refine (link_any _ bb v5 _ _ _ g5.at' (by rw [linkN_len, linkN_len, linkN_len]; simp; omega)).mono ?_; rintro e w6 ⟨rfl, v6, h6⟩; have g6 := g5.trans h6; have k3 := g6.loc (heap_alloc3_3 _ _ _ _) (HN.out _ (by omega)); have k4 := frozenOf (g6.mod.at (heap_alloc3_3 _ _ _ _) (HN.out _ (by omega))); clear g5 h6)
  refine bodyPost_ret (results_cell_row rfl _ _ (w.heap.size + 2) 166 #[.int .i64 ns.length, .int .i64 (ns.length + 1)] (0, 0) _ rfl ?_ Tryz.underlying166 rfl szFrag) rfl ⟨rfl, v6, ?_⟩
  · rw [Proofs.YteneagnhihcljaaGreatDoor.heap_setCell_same (Proofs.YteneagnhihcljaaGreatDoor.heap_setCell_same (g6.mod.at (heap_alloc3_3 _ _ _ _) (HN.out _ (by omega))) 0 _) 1 _]; rfl
  · have hf := g6.nf (k := w.heap.size + 2) (by simp) (HN.out _ (by omega))
    have := ((BNext.ahead ((((Mod.refl _ w).alloc _).alloc _).alloc _) g6).put (p := ⟨w.heap.size + 2, 0, none⟩) (by simp) hf (.int .i64 ns.length)).put (p := ⟨w.heap.size + 2, 1, none⟩) (by simp) hf (.int .i64 (ns.length + 1))
    exact this

def repeatN (ns : List Node) (a b m : Int) : List Node :=
  let n1 := linkN (linkN (ns ++ [plainNode] ++ [plainNode]) ns.length a) b (ns.length + 1)
  let n2 := if m = 43 then n1 else linkN n1 ns.length (ns.length + 1)
  if m = 63 then n2 else linkN n2 b a

set_option maxHeartbeats 1000000 in
theorem repeat_plus (w : World) (bb : Nat) (v : Value) (ns : List Node) (a b m : Int) (h : BAt w bb v ns) (hn : ns.length ≤ 50000) (hm : m = 43) :
    Calls Tryz.prog 99 #[bptr bb, frag a b, .int .i64 m] w fun e w' => e = .returned (frag ns.length (ns.length + 1)) ∧ ∃ v', BNext w w' bb v v' (repeatN ns a b m) := by
  have H : Hid _ := h
  have hN := fun k (hk : w.heap.size ≤ k) => h.not_foot hk
  have HN : Hid _ := hN
  have E : Hid (repeatN ns a b m = linkN (linkN (linkN (ns ++ [plainNode] ++ [plainNode]) ns.length a) b (ns.length + 1)) b a) := by unfold Hid repeatN; simp [hm]
  have m1 : (m != 43) = false := by simp [hm]
  have m2 : (m != 63) = true := by simp [hm]
  clear hm
  clear h hN
  go_enter Tryz.func99, Tryz.ntmps99
  go_wp2_with (go_at_call 96; refine (addNode_any _ bb v ns (H.out.fresh ((((Mod.refl _ w).alloc _).alloc _))) (by omega)).mono ?_; rintro e w1 ⟨rfl, v1, h1⟩)
  go_wp2_with (go_at_call 96; refine (addNode_any _ bb v1 _ h1.at' (by simp; omega)).mono ?_; rintro e w2 ⟨rfl, v2, h2⟩; have g2 := h1.trans h2; have k1 := g2.loc (heap_alloc2_old _ _ _) (HN.out _ (by omega)); clear h1 h2)
  clear k1
  go_wp2_with (go_at_call 97; refine (link_any _ bb v2 _ _ _ g2.at' (by simp; omega)).mono ?_; rintro e w3 ⟨rfl, v3, h3⟩; have g3 := g2.trans h3; have k1 := g3.loc (heap_alloc2_old _ _ _) (HN.out _ (by omega)); clear g2 h3)
  clear k1
  go_wp2_with (go_at_call 97; refine (link_any _ bb v3 _ _ _ g3.at' (by rw [linkN_len]; simp; omega)).mono ?_; rintro e w4 ⟨rfl, v4, h4⟩; have g4 := g3.trans h4; have k1 := g4.loc (heap_alloc2_old _ _ _) (HN.out _ (by omega)); clear g3 h4)
  clear k1
  go_wp2_with (go_at_call 97; refine (link_any _ bb v4 _ _ _ g4.at' (by rw [linkN_len, linkN_len]; simp; omega)).mono ?_; rintro e w5 ⟨rfl, v5, h5⟩; have g5 := g4.trans h5; have k3 := g5.loc (heap_alloc2_new _ _ _) (HN.out _ (by omega)); have k4 := frozenOf (g5.mod.at (heap_alloc2_new _ _ _) (HN.out _ (by omega))); clear g4 h5)
  refine bodyPost_ret (results_cell_row rfl _ _ (w.heap.size + 1) 166 #[.int .i64 ns.length, .int .i64 (ns.length + 1)] (0, 0) _ rfl ?_ Tryz.underlying166 rfl szFrag) rfl ⟨rfl, v5, ?_⟩
  · rw [Proofs.YteneagnhihcljaaGreatDoor.heap_setCell_same (Proofs.YteneagnhihcljaaGreatDoor.heap_setCell_same (g5.mod.at (heap_alloc2_new _ _ _) (HN.out _ (by omega))) 0 _) 1 _]; rfl
  · have hf := g5.nf (k := w.heap.size + 1) (by simp) (HN.out _ (by omega))
    have := ((BNext.ahead (((Mod.refl _ w).alloc _).alloc _) g5).put (p := ⟨w.heap.size + 1, 0, none⟩) (by simp) hf (.int .i64 ns.length)).put (p := ⟨w.heap.size + 1, 1, none⟩) (by simp) hf (.int .i64 (ns.length + 1))
    rw [E.out]; exact this

set_option maxHeartbeats 1000000 in
theorem repeat_opt (w : World) (bb : Nat) (v : Value) (ns : List Node) (a b m : Int) (h : BAt w bb v ns) (hn : ns.length ≤ 50000) (hm : m = 63) :
    Calls Tryz.prog 99 #[bptr bb, frag a b, .int .i64 m] w fun e w' => e = .returned (frag ns.length (ns.length + 1)) ∧ ∃ v', BNext w w' bb v v' (repeatN ns a b m) := by
  have H : Hid _ := h
  have hN := fun k (hk : w.heap.size ≤ k) => h.not_foot hk
  have HN : Hid _ := hN
  have E : Hid (repeatN ns a b m = linkN (linkN (linkN (ns ++ [plainNode] ++ [plainNode]) ns.length a) b (ns.length + 1)) ns.length (ns.length + 1)) := by unfold Hid repeatN; simp [hm]
  have m1 : (m != 43) = true := by simp [hm]
  have m2 : (m != 63) = false := by simp [hm]
  clear hm
  clear h hN
  go_enter Tryz.func99, Tryz.ntmps99
  go_wp2_with (go_at_call 96; refine (addNode_any _ bb v ns (H.out.fresh ((((Mod.refl _ w).alloc _).alloc _))) (by omega)).mono ?_; rintro e w1 ⟨rfl, v1, h1⟩)
  go_wp2_with (go_at_call 96; refine (addNode_any _ bb v1 _ h1.at' (by simp; omega)).mono ?_; rintro e w2 ⟨rfl, v2, h2⟩; have g2 := h1.trans h2; have k1 := g2.loc (heap_alloc2_old _ _ _) (HN.out _ (by omega)); clear h1 h2)
  clear k1
  go_wp2_with (go_at_call 97; refine (link_any _ bb v2 _ _ _ g2.at' (by simp; omega)).mono ?_; rintro e w3 ⟨rfl, v3, h3⟩; have g3 := g2.trans h3; have k1 := g3.loc (heap_alloc2_old _ _ _) (HN.out _ (by omega)); clear g2 h3)
  clear k1
  go_wp2_with (go_at_call 97; refine (link_any _ bb v3 _ _ _ g3.at' (by rw [linkN_len]; simp; omega)).mono ?_; rintro e w4 ⟨rfl, v4, h4⟩; have g4 := g3.trans h4; have k1 := g4.loc (heap_alloc2_old _ _ _) (HN.out _ (by omega)); clear g3 h4)
  clear k1
  go_wp2_with (go_at_call 97; refine (link_any _ bb v4 _ _ _ g4.at' (by rw [linkN_len, linkN_len]; simp; omega)).mono ?_; rintro e w5 ⟨rfl, v5, h5⟩; have g5 := g4.trans h5; have k3 := g5.loc (heap_alloc2_new _ _ _) (HN.out _ (by omega)); have k4 := frozenOf (g5.mod.at (heap_alloc2_new _ _ _) (HN.out _ (by omega))); clear g4 h5)
  refine bodyPost_ret (results_cell_row rfl _ _ (w.heap.size + 1) 166 #[.int .i64 ns.length, .int .i64 (ns.length + 1)] (0, 0) _ rfl ?_ Tryz.underlying166 rfl szFrag) rfl ⟨rfl, v5, ?_⟩
  · rw [Proofs.YteneagnhihcljaaGreatDoor.heap_setCell_same (Proofs.YteneagnhihcljaaGreatDoor.heap_setCell_same (g5.mod.at (heap_alloc2_new _ _ _) (HN.out _ (by omega))) 0 _) 1 _]; rfl
  · have hf := g5.nf (k := w.heap.size + 1) (by simp) (HN.out _ (by omega))
    have := ((BNext.ahead (((Mod.refl _ w).alloc _).alloc _) g5).put (p := ⟨w.heap.size + 1, 0, none⟩) (by simp) hf (.int .i64 ns.length)).put (p := ⟨w.heap.size + 1, 1, none⟩) (by simp) hf (.int .i64 (ns.length + 1))
    rw [E.out]; exact this

set_option maxHeartbeats 1000000 in
theorem repeat_star (w : World) (bb : Nat) (v : Value) (ns : List Node) (a b m : Int) (h : BAt w bb v ns) (hn : ns.length ≤ 50000) (hm : m ≠ 43) (hm2 : m ≠ 63) :
    Calls Tryz.prog 99 #[bptr bb, frag a b, .int .i64 m] w fun e w' => e = .returned (frag ns.length (ns.length + 1)) ∧ ∃ v', BNext w w' bb v v' (repeatN ns a b m) := by
  have H : Hid _ := h
  have hN := fun k (hk : w.heap.size ≤ k) => h.not_foot hk
  have HN : Hid _ := hN
  have E : Hid (repeatN ns a b m = linkN (linkN (linkN (linkN (ns ++ [plainNode] ++ [plainNode]) ns.length a) b (ns.length + 1)) ns.length (ns.length + 1)) b a) := by unfold Hid repeatN; simp [hm, hm2]
  have m1 : (m != 43) = true := by simpa using hm
  have m2 : (m != 63) = true := by simpa using hm2
  clear hm hm2
  clear h hN
  go_enter Tryz.func99, Tryz.ntmps99
  go_wp2_with (go_at_call 96; refine (addNode_any _ bb v ns (H.out.fresh ((((Mod.refl _ w).alloc _).alloc _))) (by omega)).mono ?_; rintro e w1 ⟨rfl, v1, h1⟩)
  go_wp2_with (go_at_call 96; refine (addNode_any _ bb v1 _ h1.at' (by simp; omega)).mono ?_; rintro e w2 ⟨rfl, v2, h2⟩; have g2 := h1.trans h2; have k1 := g2.loc (heap_alloc2_old _ _ _) (HN.out _ (by omega)); clear h1 h2)
  clear k1
  go_wp2_with (go_at_call 97; refine (link_any _ bb v2 _ _ _ g2.at' (by simp; omega)).mono ?_; rintro e w3 ⟨rfl, v3, h3⟩; have g3 := g2.trans h3; have k1 := g3.loc (heap_alloc2_old _ _ _) (HN.out _ (by omega)); clear g2 h3)
  clear k1
  go_wp2_with (go_at_call 97; refine (link_any _ bb v3 _ _ _ g3.at' (by rw [linkN_len]; simp; omega)).mono ?_; rintro e w4 ⟨rfl, v4, h4⟩; have g4 := g3.trans h4; have k1 := g4.loc (heap_alloc2_old _ _ _) (HN.out _ (by omega)); clear g3 h4)
  clear k1
  go_wp2_with (go_at_call 97; refine (link_any _ bb v4 _ _ _ g4.at' (by rw [linkN_len, linkN_len]; simp; omega)).mono ?_; rintro e w5 ⟨rfl, v5, h5⟩; have g5 := g4.trans h5; have k1 := g5.loc (heap_alloc2_old _ _ _) (HN.out _ (by omega)); clear g4 h5)
  clear k1
  go_wp2_with (go_at_call 97; refine (link_any _ bb v5 _ _ _ g5.at' (by rw [linkN_len, linkN_len, linkN_len]; simp; omega)).mono ?_; rintro e w6 ⟨rfl, v6, h6⟩; have g6 := g5.trans h6; have k3 := g6.loc (heap_alloc2_new _ _ _) (HN.out _ (by omega)); have k4 := frozenOf (g6.mod.at (heap_alloc2_new _ _ _) (HN.out _ (by omega))); clear g5 h6)
  refine bodyPost_ret (results_cell_row rfl _ _ (w.heap.size + 1) 166 #[.int .i64 ns.length, .int .i64 (ns.length + 1)] (0, 0) _ rfl ?_ Tryz.underlying166 rfl szFrag) rfl ⟨rfl, v6, ?_⟩
  · rw [Proofs.YteneagnhihcljaaGreatDoor.heap_setCell_same (Proofs.YteneagnhihcljaaGreatDoor.heap_setCell_same (g6.mod.at (heap_alloc2_new _ _ _) (HN.out _ (by omega))) 0 _) 1 _]; rfl
  · have hf := g6.nf (k := w.heap.size + 1) (by simp) (HN.out _ (by omega))
    have := ((BNext.ahead (((Mod.refl _ w).alloc _).alloc _) g6).put (p := ⟨w.heap.size + 1, 0, none⟩) (by simp) hf (.int .i64 ns.length)).put (p := ⟨w.heap.size + 1, 1, none⟩) (by simp) hf (.int .i64 (ns.length + 1))
    rw [E.out]; exact this

theorem repeat_any (w : World) (bb : Nat) (v : Value) (ns : List Node) (a b m : Int) (h : BAt w bb v ns) (hn : ns.length ≤ 50000) :
    Calls Tryz.prog 99 #[bptr bb, frag a b, .int .i64 m] w fun e w' => e = .returned (frag ns.length (ns.length + 1)) ∧ ∃ v', BNext w w' bb v v' (repeatN ns a b m) := by
  by_cases h1 : m = 43
  · exact repeat_plus w bb v ns a b m h hn h1
  · by_cases h2 : m = 63
    · exact repeat_opt w bb v ns a b m h hn h2
    · exact repeat_star w bb v ns a b m h hn h1 h2
theorem repeatN_len (ns : List Node) (a b m : Int) : (repeatN ns a b m).length = ns.length + 2 := by
  unfold repeatN; dsimp only; split <;> split <;> simp [linkN_len]
theorem eitherN_len (ns : List Node) (a b c d : Int) : (eitherN ns a b c d).length = ns.length + 2 := by
  unfold eitherN; simp [linkN_len]
end Go.Proofs.YteneagnhihcljaaGreatDoor
