import Derived.Test.YtnhhboikbbnklaaBld1
import Derived.Test.YtnhhboikbbnklaaApp
namespace Go.Proofs.Ytnhhboikbbnklaa
open Go.RowKit
set_option linter.unusedVariables false
set_option linter.unusedSimpArgs false

abbrev bptr (bb : Nat) : Value := .pointer (some ⟨bb, 0, none⟩)

theorem own_form {w : World} {base size n : Nat} {e : TypeId} {v : Value} {xs : List Value} (h : w.ownsRow base e size v n xs) : ∃ a cap, v = .slice a n cap := by
  rcases h.2 with ⟨rfl, rfl⟩ | ⟨g, cap, cur, rfl, _⟩
  · exact ⟨none, 0, rfl⟩
  · exact ⟨some ⟨g, 0, none⟩, cap, rfl⟩
theorem plain_cells : plainNode.cells = [.bool false, .int .u64 0, .int .u64 0, .int .u64 0, .int .u64 0, .int .i64 (-1), .int .i64 (-1)] := rfl

theorem new_cells {w : World} {cs : Array Value} {l : List Value} {e : TypeId} (h : cs.toList = l) : ∀ (j : Nat) (u : Value), l[j]? = some u → (w.alloc (.cells cs e)).cell? ((⟨w.heap.size, 0, none⟩ : Addr).add j) = some u := by
  intro j u hj
  rw [Addr.add_mid, Nat.zero_add, cellOf (heap_alloc_at _ _)]
  subst h; simpa using hj
theorem u64_one {ws : List Int} {u : Value} (h : u ∈ ws.map (Value.int .u64)) : u.oneCell' = true := by
  simp at h; obtain ⟨a, _, rfl⟩ := h; rfl
theorem Node.one (n : Node) : ∀ u ∈ n.cells, u.oneCell' = true := by
  intro u hu
  simp only [Node.cells, List.mem_cons, List.mem_append, List.not_mem_nil, or_false] at hu
  rcases hu with rfl | hu | rfl | rfl
  · rfl
  · exact u64_one hu
  · rfl
  · rfl
/-- The builder behind an append: the new slice is laid back into it. -/
theorem badd {w W w1 : World} {bb : Nat} {v v' : Value} {ns : List Node} {n : Node} (h : BAt w bb v ns) (hW : Fresh w W) (hn : n.wf)
    (hown : w1.ownsRow (bb + 1) 132 7 v' (ns.length + 1) (ncells ns ++ n.cells)) (hg : W.grownBy w1 v.ownBlock)
    (hb : ∀ k, v'.ownBlock = some k → v.ownBlock = some k ∨ W.heap.size ≤ k) :
    BNext w (w1.setCell ⟨bb, 0, none⟩ v') bb v v' (ns ++ [n]) := by
  have hbb : W.heap[bb]? = some (.cells #[v] 146 (0, 0)) := hW.at h.blk (fun x => x)
  have h1 : w1.heap[bb]? = some (.cells #[v] 146 (0, 0)) := by
    rw [hg.block bb (heap_lt hbb) (fun e => by have := h.own_lt bb e.symm; omega)]; exact hbb
  have hlt := hown.lt
  refine ⟨⟨?_, ?_, Nwf_append h.wf (fun m hm => by simp at hm; subst hm; exact hn)⟩, ?_, ?_⟩
  · have := Proofs.Ytnhhboikbbnklaa.heap_setCell_same h1 0 v'; simpa using this
  · have : ncells (ns ++ [n]) = ncells ns ++ n.cells := by simp [ncells]
    rw [this]
    have e2 : (ns ++ [n]).length = ns.length + 1 := by simp
    rw [e2]
    exact ownsRow_other hown (fun g hg' => by rw [Proofs.Ytnhhboikbbnklaa.heap_setCell_other _ (by have := hlt g hg'; simp; omega)])
  · have m1 : Mod (foot bb v) w W := hW.mono (fun _ _ x => x.elim)
    exact (m1.grown hg (fun k hk _ => .inr hk)).setCell (fun _ => .inl rfl) _
  · intro k hk
    rcases hb k hk with h2 | h2
    · exact .inl h2
    · right; have := hW.size; omega

set_option maxHeartbeats 1000000 in
theorem addNode_any (w : World) (bb : Nat) (v : Value) (ns : List Node) (h : BAt w bb v ns) (hn : ns.length ≤ 100000) :
    Calls Try.prog 100 #[bptr bb] w fun e w' => e = .returned (.int .i64 ns.length) ∧ ∃ v', BNext w w' bb v v' (ns ++ [plainNode]) := by
  obtain ⟨i0, hi, hz0, hz1, hz2⟩ := infoNode'
  obtain ⟨ao, cap, hv⟩ := own_form h.own
  have hc := cellOf h.blk 0
  have hlt := h.lt
  have H : Hid _ := h
  clear h
  subst hv
  simp at hc
  go_enter Try.func100, Try.ntmps100
  go_wp2_with (at_builtin; refine wpList_append_mine _ rfl _ _ 70 rfl (bb + 1) 132 i0 _ 7 56 Try.underlying70 hi hz0 hz1 hz2 rfl (by decide) _ _ _ rfl (H.out.own.alloc _) ⟨w.heap.size, 0, none⟩ 1 1 plainNode.cells rfl rfl ?c1 ?c2 ?c3 ?c4 ?c5 ?_)
  case c1 => exact new_cells rfl
  case c2 => exact Node.one _
  case c3 => unfold maxLen; omega
  case c4 => omega
  case c5 => simp; omega
  intro v' w1 hown hgrow hblk
  obtain ⟨a', cap', hv'⟩ := own_form hown
  have hc1 : w1.cell? ⟨bb, 0, none⟩ = some (.slice ao ns.length cap) := by
    rw [cellOf (b := bb) (c := #[.slice ao ns.length cap]) (e := 146) (f := (0, 0))]
    · rfl
    · rw [hgrow.block bb (by simp; omega) (fun e => by have := H.out.own_lt bb e.symm; omega), heap_alloc_old' hlt]; exact H.out.blk
  have hz1 : w1.frozen? ⟨bb, 0, none⟩ = false := by
    rw [frozenOf (b := bb) (c := #[.slice ao ns.length cap]) (e := 146)]
    · rw [hgrow.block bb (by simp; omega) (fun e => by have := H.out.own_lt bb e.symm; omega), heap_alloc_old' hlt]; exact H.out.blk
  have HO : Hid _ := hown
  have HG : Hid _ := hgrow
  clear hown hgrow
  subst hv'
  go_wp2
  go_ret
  refine ⟨ret_int (by simp), _, badd H.out ((Mod.refl _ w).alloc _) plain_wf HO.out HG.out (by simpa using hblk)⟩

theorem link_no (w : World) (bb : Nat) (v : Value) (ns : List Node) (a b : Int) (h : BAt w bb v ns) (hn : ns.length ≤ 100000) (ha : a < 0 ∨ (ns.length : Int) ≤ a) :
    Calls Try.prog 101 #[bptr bb, .int .i64 a, .int .i64 b] w fun e w' => e = .returned (.tuple #[]) ∧ ∃ v', BNext w w' bb v v' (linkN ns a b) := by
  have e1 : linkN ns a b = ns := by unfold linkN; rw [if_pos ha]
  rw [e1]
  obtain ⟨ao, cap, hv⟩ := own_form h.own
  have hc := cellOf h.blk 0
  have H : Hid _ := h
  clear h e1
  subst hv
  simp at hc
  rcases ha with ha | ha
  · go_enter Try.func101, Try.ntmps101
    go_wp2
    refine bodyPost_ret (results_none rfl _ _ _) rfl ?_
    exact ⟨rfl, _, BNext.refl H.out⟩
  · go_enter Try.func101, Try.ntmps101
    go_wp2
    refine bodyPost_ret (results_none rfl _ _ _) rfl ?_
    exact ⟨rfl, _, BNext.refl H.out⟩

theorem blink {w : World} {bb g n cap : Nat} {ns : List Node} (h : BAt w bb (.slice (some ⟨g, 0, none⟩) n cap) ns) (a j : Nat) (u : Value) (f : Node → Node) (ha : a < ns.length) (hj : j < 7)
    (hf : ∀ n, n.wf → (f n).cells = n.cells.set j u) (hw : ∀ n, n.wf → (f n).wf) :
    BNext w (w.setCell ⟨g, a * 7 + j, none⟩ u) bb (.slice (some ⟨g, 0, none⟩) n cap) (.slice (some ⟨g, 0, none⟩) n cap) (ns.modify a f) := by
  have hl := h.own_lt g rfl
  refine ⟨⟨?_, ?_, Nwf_modify h.wf _ _ hw⟩, ?_, fun k hk => .inl hk⟩
  · exact heap_setCell_prev h.blk (by simp; omega)
  · rw [List.length_modify, ← ncells_set h.wf a j ha hj u f hf]
    exact ownsRow_set h.own rfl _ _ (by rw [ncells_len h.wf]; omega)
  · exact (Mod.refl _ _).setCell (fun _ => .inr rfl) _
theorem modify_congr {ns : List Node} {a : Nat} (ha : a < ns.length) {f g : Node → Node} (h : f ns[a] = g ns[a]) : ns.modify a f = ns.modify a g := by
  induction ns generalizing a with
  | nil => simp at ha
  | cons n ns ih =>
    cases a with
    | zero => simp at h ⊢; exact h
    | succ a => simp at h ⊢; exact ih (by simpa using ha) h

set_option maxHeartbeats 1000000 in
theorem link_in (w : World) (bb : Nat) (v : Value) (ns : List Node) (a : Nat) (b : Int) (h : BAt w bb v ns) (hn : ns.length ≤ 100000) (ha : a < ns.length) :
    Calls Try.prog 101 #[bptr bb, .int .i64 a, .int .i64 b] w fun e w' => e = .returned (.tuple #[]) ∧ ∃ v', BNext w w' bb v v' (linkN ns a b) := by
  obtain ⟨g, cap, hv⟩ := Joins.ownsRow_form h.own (by omega)
  have hc := cellOf h.blk 0
  subst hv
  have hc5 : w.cell? ⟨g, a * 7 + 5, none⟩ = some (.int .i64 (ns[a]).next) := by
    have := h.own.cells (g := g) rfl (a * 7 + 5) (.int .i64 (ns[a]).next) (by rw [ncells_at h.wf a 5 ha (by omega), Node.cells_at (h.wf _ (by simp))]; rfl)
    rwa [Addr.add_mid, Nat.zero_add] at this
  have hc6 : w.cell? ⟨g, a * 7 + 6, none⟩ = some (.int .i64 (ns[a]).other) := by
    have := h.own.cells (g := g) rfl (a * 7 + 6) (.int .i64 (ns[a]).other) (by rw [ncells_at h.wf a 6 ha (by omega), Node.cells_at (h.wf _ (by simp))]; rfl)
    rwa [Addr.add_mid, Nat.zero_add] at this
  have hz : ∀ o, w.frozen? ⟨g, o, none⟩ = false := by
    rcases h.own.2 with ⟨h1, _⟩ | ⟨g', cap', cur, h1, _, hgg, _⟩
    · cases h1
    · simp at h1; obtain ⟨rfl, _⟩ := h1
      exact frozenOf hgg
  have H : Hid _ := h
  clear h
  simp at hc
  go_enter Try.func101, Try.ntmps101
  go_wp2
  · have h5 : (ns[a]).next = -1 := by simpa using ‹((ns[a]).next == -1) = true›
    refine bodyPost_ret (results_none rfl _ _ _) rfl ⟨rfl, .slice (some ⟨g, 0, none⟩) ns.length cap, ?_⟩
    have e1 : linkN ns a b = ns.modify a (fun n => { n with next := b }) := by
      unfold linkN; rw [if_neg (by omega), Int.toNat_natCast]; exact modify_congr ha (by simp [h5])
    rw [e1]
    exact blink H.out a 5 _ _ ha (by omega) (fun n hn => by obtain ⟨a, b, c, d, e⟩ := four hn; simp [Node.cells, e]) (fun n hn => hn)
  · have h5 : (ns[a]).next ≠ -1 := by simpa using ‹((ns[a]).next == -1) = false›
    refine bodyPost_end (results_none rfl _ _ _) rfl ⟨rfl, .slice (some ⟨g, 0, none⟩) ns.length cap, ?_⟩
    have e1 : linkN ns a b = ns.modify a (fun n => { n with other := b }) := by
      unfold linkN; rw [if_neg (by omega), Int.toNat_natCast]; exact modify_congr ha (by simp [h5])
    rw [e1]
    exact blink H.out a 6 _ _ ha (by omega) (fun n hn => by obtain ⟨a, b, c, d, e⟩ := four hn; simp [Node.cells, e]) (fun n hn => hn)

theorem link_any (w : World) (bb : Nat) (v : Value) (ns : List Node) (a b : Int) (h : BAt w bb v ns) (hn : ns.length ≤ 100000) :
    Calls Try.prog 101 #[bptr bb, .int .i64 a, .int .i64 b] w fun e w' => e = .returned (.tuple #[]) ∧ ∃ v', BNext w w' bb v v' (linkN ns a b) := by
  by_cases ha : a < 0 ∨ (ns.length : Int) ≤ a
  · exact link_no w bb v ns a b h hn ha
  · obtain ⟨k, rfl⟩ : ∃ k : Nat, a = k := ⟨a.toNat, by omega⟩
    exact link_in w bb v ns k b h hn (by omega)
end Go.Proofs.Ytnhhboikbbnklaa
