import Derived.Test.YtcpgklcimacngaaGreatHeap2
import Derived.ArgAppend
import Derived.Deep.RegionLawGrows
namespace Go.Proofs.YtcpgklcimacngaaGreat
open Go.RowKit
set_option linter.unusedVariables false
set_option linter.unusedSimpArgs false

section
variable {P : Program} (w : World)

theorem grownBy_mono {w w' : World} (h : w.grownBy w' none) (row : Option Nat) : w.grownBy w' row :=
  ⟨h.os, h.tape, h.output, h.size, fun k hk _ => h.block k hk (by simp)⟩
theorem ownsRow_base {w : World} {b b' : Nat} {e : TypeId} {size : Nat} {v : Value} {n : Nat} {xs : List Value} (h : w.ownsRow b e size v n xs) (hb : b' ≤ b) : w.ownsRow b' e size v n xs := by
  refine ⟨h.1, ?_⟩
  rcases h.2 with h2 | ⟨g, cap, cur, h1, h2, r⟩
  · exact .inl h2
  · exact .inr ⟨g, cap, cur, h1, by omega, r⟩

/-- An append onto a row of one's own: where the row lies behind it is told besides. -/
theorem run_append_mine (base : Nat) (t ty e : TypeId) (i : TypeInfo) (z : Value) (size bytes : Nat) (ht : P.underlying t = some (.slice e)) (hi : P.info? e = some i) (hz : i.zero = some z)
    (hsize : i.size = size) (hby : i.bytes = bytes) (hzs : z.cells.size = size) (hsz : 0 < size)
    (v : Value) (n : Nat) (xs : List Value) (hown : w.ownsRow base e size v n xs)
    (a : Addr) (m c : Nat) (news : List Value) (hl : news.length = m * size) (hnews : ∀ j u, news[j]? = some u → w.cell? (a.add j) = some u) (h1 : ∀ u ∈ news, u.oneCell' = true)
    (h63 : n + m ≤ maxLen) (hbytes : (n + m) * bytes ≤ 140737488355328) (hbase : base ≤ w.heap.size) :
    ∃ v' w', (Builtin.append_ #[t, t] ty #[v, .slice (some a) m c]).run P w = .ok v' w' ∧ w'.ownsRow base e size v' (n + m) (xs ++ news) ∧ w.grownBy w' v.ownBlock ∧
      (∀ k, v'.ownBlock = some k → v.ownBlock = some k ∨ w.heap.size ≤ k) := by
  rcases hown.2 with ⟨rfl, rfl⟩ | ⟨g, cap, cur, rfl, hbg, hg, hnc, hcm, hcs, htake⟩
  · have hx : xs = [] := List.eq_nil_of_length_eq_zero (by simpa using hown.1)
    subst hx
    obtain ⟨v', w', hr, h2, h3, _⟩ := run_append_own (P := P) w w.heap.size t ty e i z size bytes ht hi hz hsize hby hzs hsz _ 0 [] (World.ownsRow_nil w _ e size) a m c news hl hnews h1 h63 hbytes (Nat.le_refl _)
    exact ⟨v', w', hr, ownsRow_base h2 hbase, h3, fun k hk => .inr (h2.lt k hk).1⟩
  · by_cases hroom : n + m ≤ cap
    · obtain ⟨v', w', hr, h2, h3, _⟩ := run_append_own (P := P) w base t ty e i z size bytes ht hi hz hsize hby hzs hsz _ n xs hown a m c news hl hnews h1 h63 hbytes hbase
      subst hsize
      have hfit : n * i.size + news.length ≤ cur.size := by rw [hl, hcs, ← Nat.add_mul]; exact Nat.mul_le_mul_right _ hroom
      have hr' := run_append_room (P := P) w t ty e i ht hi g n cap cur hg a m c news hl hnews h1 hroom hfit
      rw [hr] at hr'
      injection hr' with e1 e2
      exact ⟨v', w', hr, h2, h3, fun k hk => by rw [e1] at hk; exact .inl hk⟩
    · have holds : ∀ j u, xs[j]? = some u → w.cell? ((⟨g, 0, none⟩ : Addr).add j) = some u := hown.cells (g := g) rfl
      obtain ⟨v', w', hr, h2, h3⟩ := run_append_arg_grows (P := P) w t ty e i z size bytes ht hi hz hsize hby hzs hsz ⟨g, 0, none⟩ n cap xs hown.1 holds a m c news hl hnews (by omega) h63 hbytes
      exact ⟨v', w', hr, ownsRow_base h2 hbase, grownBy_mono h3 _, fun k hk => .inr (h2.lt k hk).1⟩

theorem wp_append_mine {o : Oper} {a : Act} {K : Act → World → Prop} {Q : Exit → Act → World → Prop} (s x : Operand) (t : TypeId)
    (ho : o.op = .call { callee := .builtin .append, args := #[s, x], argTypes := #[t, t] })
    (base : Nat) (e : TypeId) (i : TypeInfo) (z : Value) (size bytes : Nat) (ht : P.underlying t = some (.slice e)) (hi : P.info? e = some i) (hz : i.zero = some z)
    (hsize : i.size = size) (hby : i.bytes = bytes) (hzs : z.cells.size = size) (hsz : 0 < size)
    (v : Value) (n : Nat) (xs : List Value) (hs : a.eval s = v) (hown : w.ownsRow base e size v n xs)
    (ad : Addr) (m c : Nat) (news : List Value) (hx : a.eval x = .slice (some ad) m c) (hl : news.length = m * size) (hnews : ∀ j u, news[j]? = some u → w.cell? (ad.add j) = some u) (h1 : ∀ u ∈ news, u.oneCell' = true)
    (h63 : n + m ≤ maxLen) (hbytes : (n + m) * bytes ≤ 140737488355328) (hbase : base ≤ w.heap.size)
    (h : ∀ v' w', w'.ownsRow base e size v' (n + m) (xs ++ news) → w.grownBy w' v.ownBlock → (∀ k, v'.ownBlock = some k → v.ownBlock = some k ∨ w.heap.size ≤ k) → K (a.put o.dst v') w') : o.wp P a w K Q := by
  obtain ⟨v', w', hr, h2, h3, h4⟩ := run_append_mine (P := P) w base t o.type e i z size bytes ht hi hz hsize hby hzs hsz v n xs hown ad m c news hl hnews h1 h63 hbytes hbase
  unfold Oper.wp execOp
  simp only [ho, resolve, invoke, builtin, Sem.run_bind, Sem.run_pure, Result.andThen_ok, List.map_toArray, List.map_cons, List.map_nil, hs, hx, hr]
  exact h v' w' h2 h3 h4

theorem wpList_append_mine {ops : Array Oper} {rest : List Oper} {o : Oper} {a : Act} {Q : Exit → Act → World → Prop} (hgd : o.guard = none) (s x : Operand) (t : TypeId)
    (ho : o.op = .call { callee := .builtin .append, args := #[s, x], argTypes := #[t, t] })
    (base : Nat) (e : TypeId) (i : TypeInfo) (z : Value) (size bytes : Nat) (ht : P.underlying t = some (.slice e)) (hi : P.info? e = some i) (hz : i.zero = some z)
    (hsize : i.size = size) (hby : i.bytes = bytes) (hzs : z.cells.size = size) (hsz : 0 < size)
    (v : Value) (n : Nat) (xs : List Value) (hs : a.eval s = v) (hown : w.ownsRow base e size v n xs)
    (ad : Addr) (m c : Nat) (news : List Value) (hx : a.eval x = .slice (some ad) m c) (hl : news.length = m * size) (hnews : ∀ j u, news[j]? = some u → w.cell? (ad.add j) = some u) (h1 : ∀ u ∈ news, u.oneCell' = true)
    (h63 : n + m ≤ maxLen) (hbytes : (n + m) * bytes ≤ 140737488355328) (hbase : base ≤ w.heap.size)
    (h : ∀ v' w', w'.ownsRow base e size v' (n + m) (xs ++ news) → w.grownBy w' v.ownBlock → (∀ k, v'.ownBlock = some k → v.ownBlock = some k ∨ w.heap.size ≤ k) → wpList P ops Q rest (a.put o.dst v') w') : wpList P ops Q (o :: rest) a w :=
  wpList_plain hgd fun _ hK => wp_append_mine w s x t ho base e i z size bytes ht hi hz hsize hby hzs hsz v n xs hs hown ad m c news hx hl hnews h1 h63 hbytes hbase fun v' w' h2 h3 h4 => hK _ _ (h v' w' h2 h3 h4)

/-- The same as one step of a region that draws its order. -/
theorem step_append_mine {ops : Array Oper} {o : Oper} {a : Act} {K : Act → World → Prop} {Q : Exit → Act → World → Prop} {E : Prop} (hgd : o.guard = none) (s x : Operand) (t : TypeId)
    (ho : o.op = .call { callee := .builtin .append, args := #[s, x], argTypes := #[t, t] })
    (base : Nat) (e : TypeId) (i : TypeInfo) (z : Value) (size bytes : Nat) (ht : P.underlying t = some (.slice e)) (hi : P.info? e = some i) (hz : i.zero = some z)
    (hsize : i.size = size) (hby : i.bytes = bytes) (hzs : z.cells.size = size) (hsz : 0 < size)
    (v : Value) (n : Nat) (xs : List Value) (hs : a.eval s = v) (hown : w.ownsRow base e size v n xs)
    (ad : Addr) (m c : Nat) (news : List Value) (hx : a.eval x = .slice (some ad) m c) (hl : news.length = m * size) (hnews : ∀ j u, news[j]? = some u → w.cell? (ad.add j) = some u) (h1 : ∀ u ∈ news, u.oneCell' = true)
    (h63 : n + m ≤ maxLen) (hbytes : (n + m) * bytes ≤ 140737488355328) (hbase : base ≤ w.heap.size)
    (h : ∀ v' w', w'.ownsRow base e size v' (n + m) (xs ++ news) → w.grownBy w' v.ownBlock → (∀ k, v'.ownBlock = some k → v.ownBlock = some k ∨ w.heap.size ≤ k) → K (a.put o.dst v') w') :
    if Region.wanted o (yielded ops a.tmps) = true then Oper.wp P o a w K Q else E := by
  have hw : Region.wanted o (yielded ops a.tmps) = true := by simp [Region.wanted, hgd]
  rw [if_pos hw]
  exact wp_append_mine w s x t ho base e i z size bytes ht hi hz hsize hby hzs hsz v n xs hs hown ad m c news hx hl hnews h1 h63 hbytes hbase h
end
end Go.Proofs.YtcpgklcimacngaaGreat
namespace Go.Proofs.YtcpgklcimacngaaGreat
open Go.RowKit
set_option linter.unusedVariables false
set_option linter.unusedSimpArgs false

abbrev bptr (bb : Nat) : Value := .pointer (some ⟨bb, 0, none⟩)

theorem own_form {w : World} {base size n : Nat} {e : TypeId} {v : Value} {xs : List Value} (h : w.ownsRow base e size v n xs) : ∃ a cap, v = .slice a n cap := by
  rcases h.2 with ⟨rfl, rfl⟩ | ⟨g, cap, cur, rfl, _⟩
  · exact ⟨none, 0, rfl⟩
  · exact ⟨some ⟨g, 0, none⟩, cap, rfl⟩
theorem new_cells {w : World} {cs : Array Value} {l : List Value} {e : TypeId} (h : cs.toList = l) : ∀ (j : Nat) (u : Value), l[j]? = some u → (w.alloc (.cells cs e)).cell? ((⟨w.heap.size, 0, none⟩ : Addr).add j) = some u := by
  intro j u hj
  rw [Addr.add_mid, Nat.zero_add, cellOf (heap_alloc_at _ _)]
  subst h; simpa using hj
theorem u64_one {ws : List Int} {u : Value} (h : u ∈ ws.map (Value.int .u64)) : u.oneCell' = true := by
  simp at h; obtain ⟨a, _, rfl⟩ := h; rfl
theorem Node.one (n : Node) : ∀ u ∈ n.cells, u.oneCell' = true := by
  intro u hu
  simp only [Node.cells, List.mem_cons, List.mem_append, List.not_mem_nil, or_false] at hu
  rcases hu with rfl | hu | rfl | rfl
  · rfl
  · exact u64_one hu
  · rfl
  · rfl
/-- The builder behind an append: the new slice is laid back into it. -/
theorem badd {w W w1 : World} {bb : Nat} {v v' : Value} {ns : List Node} {n : Node} (h : BAt w bb v ns) (hW : Fresh w W) (hn : n.wf)
    (hown : w1.ownsRow (bb + 1) 151 7 v' (ns.length + 1) (ncells ns ++ n.cells)) (hg : W.grownBy w1 v.ownBlock)
    (hb : ∀ k, v'.ownBlock = some k → v.ownBlock = some k ∨ W.heap.size ≤ k) :
    BNext w (w1.setCell ⟨bb, 0, none⟩ v') bb v v' (ns ++ [n]) := by
  have hbb : W.heap[bb]? = some (.cells #[v] 154 (0, 0)) := hW.at h.blk (fun x => x)
  have h1 : w1.heap[bb]? = some (.cells #[v] 154 (0, 0)) := by
    rw [hg.block bb (heap_lt hbb) (fun e => by have := h.own_lt bb e.symm; omega)]; exact hbb
  have hlt := hown.lt
  refine ⟨⟨?_, ?_, Nwf_append h.wf (fun m hm => by simp at hm; subst hm; exact hn)⟩, ?_, ?_⟩
  · have := Proofs.YtcpgklcimacngaaGreat.heap_setCell_same h1 0 v'; simpa using this
  · have : ncells (ns ++ [n]) = ncells ns ++ n.cells := by simp [ncells]
    rw [this]
    have e2 : (ns ++ [n]).length = ns.length + 1 := by simp
    rw [e2]
    exact ownsRow_other hown (fun g hg' => by rw [Proofs.YtcpgklcimacngaaGreat.heap_setCell_other _ (by have := hlt g hg'; simp; omega)])
  · have m1 : Mod (foot bb v) w W := hW.mono (fun _ _ x => x.elim)
    exact (m1.grown hg (fun k hk _ => .inr hk)).setCell (fun _ => .inl rfl) _
  · intro k hk
    rcases hb k hk with h2 | h2
    · exact .inl h2
    · right; have := hW.size; omega

set_option maxHeartbeats 1000000 in
theorem addNode_any (w : World) (bb : Nat) (v : Value) (ns : List Node) (h : BAt w bb v ns) (hn : ns.length ≤ 100000) :
    Calls Tryz.prog 105 #[bptr bb] w fun e w' => e = .returned (.int .i64 ns.length) ∧ ∃ v', BNext w w' bb v v' (ns ++ [plainNode]) := by
  obtain ⟨i0, hi, hz0, hz1, hz2⟩ := infoNode'
  obtain ⟨ao, cap, hv⟩ := own_form h.own
  have hc := cellOf h.blk 0
  have hlt := h.lt
  have H : Hid _ := h
  clear h
  subst hv
  simp at hc
  go_enter Tryz.func105, Tryz.ntmps105
  go_wp2_with (at_builtin; refine wpList_append_mine _ rfl _ _ 81 rfl (bb + 1) 151 i0 _ 7 56 Tryz.underlying81 hi hz0 hz1 hz2 rfl (by decide) _ _ _ rfl (H.out.own.alloc _) ⟨w.heap.size, 0, none⟩ 1 1 plainNode.cells rfl rfl ?c1 ?c2 ?c3 ?c4 ?c5 ?_)
  case c1 => exact new_cells rfl
  case c2 => exact Node.one _
  case c3 => unfold maxLen; omega
  case c4 => omega
  case c5 => simp; omega
  intro v' w1 hown hgrow hblk
  obtain ⟨a', cap', hv'⟩ := own_form hown
  have hc1 : w1.cell? ⟨bb, 0, none⟩ = some (.slice ao ns.length cap) := by
    rw [cellOf (b := bb) (c := #[.slice ao ns.length cap]) (e := 154) (f := (0, 0))]
    · rfl
    · rw [hgrow.block bb (by simp; omega) (fun e => by have := H.out.own_lt bb e.symm; omega), heap_alloc_old' hlt]; exact H.out.blk
  have hz1 : w1.frozen? ⟨bb, 0, none⟩ = false := by
    rw [frozenOf (b := bb) (c := #[.slice ao ns.length cap]) (e := 154)]
    · rw [hgrow.block bb (by simp; omega) (fun e => by have := H.out.own_lt bb e.symm; omega), heap_alloc_old' hlt]; exact H.out.blk
  have HO : Hid _ := hown
  have HG : Hid _ := hgrow
  clear hown hgrow
  subst hv'
  go_wp2
  go_ret
  refine ⟨ret_int (by simp), _, badd H.out ((Mod.refl _ w).alloc _) plain_wf HO.out HG.out (by simpa using hblk)⟩

theorem link_no (w : World) (bb : Nat) (v : Value) (ns : List Node) (a b : Int) (h : BAt w bb v ns) (hn : ns.length ≤ 100000) (ha : a < 0 ∨ (ns.length : Int) ≤ a) :
    Calls Tryz.prog 106 #[bptr bb, .int .i64 a, .int .i64 b] w fun e w' => e = .returned (.tuple #[]) ∧ ∃ v', BNext w w' bb v v' (linkN ns a b) := by
  have e1 : linkN ns a b = ns := by unfold linkN; rw [if_pos ha]
  rw [e1]
  obtain ⟨ao, cap, hv⟩ := own_form h.own
  have hc := cellOf h.blk 0
  have H : Hid _ := h
  clear h e1
  subst hv
  simp at hc
  rcases ha with ha | ha
  · go_enter Tryz.func106, Tryz.ntmps106
    go_wp2
    refine bodyPost_ret (results_none rfl _ _ _) rfl ?_
    exact ⟨rfl, _, BNext.refl H.out⟩
  · go_enter Tryz.func106, Tryz.ntmps106
    go_wp2
    refine bodyPost_ret (results_none rfl _ _ _) rfl ?_
    exact ⟨rfl, _, BNext.refl H.out⟩

theorem blink {w : World} {bb g n cap : Nat} {ns : List Node} (h : BAt w bb (.slice (some ⟨g, 0, none⟩) n cap) ns) (a j : Nat) (u : Value) (f : Node → Node) (ha : a < ns.length) (hj : j < 7)
    (hf : ∀ n, n.wf → (f n).cells = n.cells.set j u) (hw : ∀ n, n.wf → (f n).wf) :
    BNext w (w.setCell ⟨g, a * 7 + j, none⟩ u) bb (.slice (some ⟨g, 0, none⟩) n cap) (.slice (some ⟨g, 0, none⟩) n cap) (ns.modify a f) := by
  have hl := h.own_lt g rfl
  refine ⟨⟨?_, ?_, Nwf_modify h.wf _ _ hw⟩, ?_, fun k hk => .inl hk⟩
  · exact heap_setCell_prev h.blk (by simp; omega)
  · rw [List.length_modify, ← ncells_set h.wf a j ha hj u f hf]
    exact ownsRow_set h.own rfl _ _ (by rw [ncells_len h.wf]; omega)
  · exact (Mod.refl _ _).setCell (fun _ => .inr rfl) _
theorem modify_congr {ns : List Node} {a : Nat} (ha : a < ns.length) {f g : Node → Node} (h : f ns[a] = g ns[a]) : ns.modify a f = ns.modify a g := by
  induction ns generalizing a with
  | nil => simp at ha
  | cons n ns ih =>
    cases a with
    | zero => simp at h ⊢; exact h
    | succ a => simp at h ⊢; exact ih (by simpa using ha) h

set_option maxHeartbeats 1000000 in
theorem link_in (w : World) (bb : Nat) (v : Value) (ns : List Node) (a : Nat) (b : Int) (h : BAt w bb v ns) (hn : ns.length ≤ 100000) (ha : a < ns.length) :
    Calls Tryz.prog 106 #[bptr bb, .int .i64 a, .int .i64 b] w fun e w' => e = .returned (.tuple #[]) ∧ ∃ v', BNext w w' bb v v' (linkN ns a b) := by
  obtain ⟨g, cap, hv⟩ := Joins.ownsRow_form h.own (by omega)
  have hc := cellOf h.blk 0
  subst hv
  have hc5 : w.cell? ⟨g, a * 7 + 5, none⟩ = some (.int .i64 (ns[a]).next) := by
    have := h.own.cells (g := g) rfl (a * 7 + 5) (.int .i64 (ns[a]).next) (by rw [ncells_at h.wf a 5 ha (by omega), Node.cells_at (h.wf _ (by simp))]; rfl)
    rwa [Addr.add_mid, Nat.zero_add] at this
  have hc6 : w.cell? ⟨g, a * 7 + 6, none⟩ = some (.int .i64 (ns[a]).other) := by
    have := h.own.cells (g := g) rfl (a * 7 + 6) (.int .i64 (ns[a]).other) (by rw [ncells_at h.wf a 6 ha (by omega), Node.cells_at (h.wf _ (by simp))]; rfl)
    rwa [Addr.add_mid, Nat.zero_add] at this
  have hz : ∀ o, w.frozen? ⟨g, o, none⟩ = false := by
    rcases h.own.2 with ⟨h1, _⟩ | ⟨g', cap', cur, h1, _, hgg, _⟩
    · cases h1
    · simp at h1; obtain ⟨rfl, _⟩ := h1
      exact frozenOf hgg
  have H : Hid _ := h
  clear h
  simp at hc
  go_enter Tryz.func106, Tryz.ntmps106
  go_wp2
  · have h5 : (ns[a]).next = -1 := by simpa using ‹((ns[a]).next == -1) = true›
    refine bodyPost_ret (results_none rfl _ _ _) rfl ⟨rfl, .slice (some ⟨g, 0, none⟩) ns.length cap, ?_⟩
    have e1 : linkN ns a b = ns.modify a (fun n => { n with next := b }) := by
      unfold linkN; rw [if_neg (by omega), Int.toNat_natCast]; exact modify_congr ha (by simp [h5])
    rw [e1]
    exact blink H.out a 5 _ _ ha (by omega) (fun n hn => by obtain ⟨a, b, c, d, e⟩ := four hn; simp [Node.cells, e]) (fun n hn => hn)
  · have h5 : (ns[a]).next ≠ -1 := by simpa using ‹((ns[a]).next == -1) = false›
    refine bodyPost_end (results_none rfl _ _ _) rfl ⟨rfl, .slice (some ⟨g, 0, none⟩) ns.length cap, ?_⟩
    have e1 : linkN ns a b = ns.modify a (fun n => { n with other := b }) := by
      unfold linkN; rw [if_neg (by omega), Int.toNat_natCast]; exact modify_congr ha (by simp [h5])
    rw [e1]
    exact blink H.out a 6 _ _ ha (by omega) (fun n hn => by obtain ⟨a, b, c, d, e⟩ := four hn; simp [Node.cells, e]) (fun n hn => hn)

theorem link_any (w : World) (bb : Nat) (v : Value) (ns : List Node) (a b : Int) (h : BAt w bb v ns) (hn : ns.length ≤ 100000) :
    Calls Tryz.prog 106 #[bptr bb, .int .i64 a, .int .i64 b] w fun e w' => e = .returned (.tuple #[]) ∧ ∃ v', BNext w w' bb v v' (linkN ns a b) := by
  by_cases ha : a < 0 ∨ (ns.length : Int) ≤ a
  · exact link_no w bb v ns a b h hn ha
  · obtain ⟨k, rfl⟩ : ∃ k : Nat, a = k := ⟨a.toNat, by omega⟩
    exact link_in w bb v ns k b h hn (by omega)
end Go.Proofs.YtcpgklcimacngaaGreat
