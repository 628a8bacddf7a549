import Derived.Test.YteneagnhihcljaaGreatDoorPrs4
import Derived.Deep.QuietTactic
import Derived.BigQuiet
import Derived.Deep.OwnRows
namespace Go.Proofs.YteneagnhihcljaaGreatDoor
open Go.RowKit
set_option linter.unusedVariables false
set_option linter.unusedSimpArgs false

/-- v is a slice of these nodes. -/
structure NodesAt (w : World) (v : Value) (ns : List Node) : Prop where
  own : w.ownsRow 0 154 7 v ns.length (ncells ns)
  wf : Nwf ns
theorem NodesAt.kept {S : Nat → Prop} {w w' : World} {v : Value} {ns : List Node} (h : NodesAt w v ns) (hm : Mod S w w') (hs : ∀ k, v.ownBlock = some k → ¬ S k) : NodesAt w' v ns :=
  ⟨ownsRow_other h.own (fun g hg => hm.block g (h.own.lt g hg).2 (hs g hg)), h.wf⟩
theorem szPat : (Tryz.prog.info? 67).map (·.size) = some 3 := by kernel_rfl
abbrev patV (v : Value) (a b : Int) : Value := .agg #[v, .int .i64 a, .int .i64 b]
def rRead (s : ByteArray) (i : Int) : PR := chK s 6 i []

theorem BAt_new (W : World) : BAt (W.alloc (.cells #[.slice none 0 0] 164 (0, 0))) W.heap.size (.slice none 0 0) [] :=
  ⟨heap_alloc_at _ _, World.ownsRow_nil _ _ _ _, fun _ h => by cases h⟩

theorem foot_nil {bb k : Nat} (h : foot bb (.slice none 0 0) k) : k = bb := by
  rcases h with h | h
  · exact h
  · simp [Value.ownBlock] at h
theorem fresh_read {w w1 : World} {A B : Obj} {v1 : Value} {ns : List Node} (h1 : BNext ((w.alloc A).alloc B) w1 (w.heap.size + 1) (.slice none 0 0) v1 ns) : Fresh w w1 :=
  Mod.trans' (T := foot (w.heap.size + 1) (.slice none 0 0)) (((Mod.refl _ w).alloc _).alloc _) h1.mod (fun i hi hf => by have := foot_nil hf; omega)

set_option maxHeartbeats 2000000 in
theorem read_bad (s : ByteArray) (i : Int) (w : World) (hs : s.size ≤ 1000) (h0 : 0 ≤ i) (h1 : i ≤ s.size) (hok : (rRead s i).ok = false) :
    Calls Tryz.prog 74 #[.string s, .int .i64 i] w fun e w' => e = .returned (.tuple #[patV (.slice none 0 0) 0 0, .int .i64 (rRead s i).next, .bool false]) ∧ Fresh w w' := by
  have HC := readChoice_any s hs i [] ((w.alloc (.cells #[.slice none 0 0, .int .i64 0, .int .i64 0] 67 (0, 0))).alloc (.cells #[.slice none 0 0] 164 (0, 0))) (w.heap.size + 1) (.slice none 0 0) h0 h1 (by simp; omega) (by simpa using BAt_new (w.alloc (.cells #[.slice none 0 0, .int .i64 0, .int .i64 0] 67 (0, 0))))
  have hG := good_chK s 6 i [] h0 h1
  unfold rRead at hok ⊢
  generalize hpp : chK s 6 i [] = pp at HC hG hok ⊢
  simp only [prRet] at HC
  obtain ⟨g1, g2, g3, g4⟩ := hG
  rw [hok] at HC
  have HC' := hid HC
  clear HC hpp g3 hok
  go_enter Tryz.func74, Tryz.ntmps74
  go_wp2_with (first
    | (go_at_call 86; refine HC'.out.mono ?_; rintro e w1 ⟨rfl, v1, h1⟩; have hz : w.heap.size < w1.heap.size := (by have := h1.mod.size; simp at this; omega); have hb := h1.mod.at (heap_alloc2_old _ _ _) (by rintro (h | h) <;> simp [Value.ownBlock] at h); have k3 := cellOf hb; have k4 := frozenOf hb))
  refine bodyPost_ret (results_row2 rfl _ _ w.heap.size 67 #[.slice none 0 0, .int .i64 0, .int .i64 0] (0, 0) _ rfl ?_ Tryz.underlying67 rfl szPat) rfl ⟨rfl, ?_⟩
  · refine heap_alloc_prev ?_
    rw [Proofs.YteneagnhihcljaaGreatDoor.heap_setCell_same (Proofs.YteneagnhihcljaaGreatDoor.heap_setCell_same (Proofs.YteneagnhihcljaaGreatDoor.heap_setCell_same hb 0 _) 1 _) 2 _]; rfl
  · exact ((((fresh_read h1).setCell (by simp) _).setCell (by simp) _).setCell (by simp) _).alloc _

set_option maxHeartbeats 2000000 in
theorem read_good (s : ByteArray) (i : Int) (w : World) (hs : s.size ≤ 1000) (h0 : 0 ≤ i) (h1 : i ≤ s.size) (hok : (rRead s i).ok = true) :
    Calls Tryz.prog 74 #[.string s, .int .i64 i] w fun e w' => ∃ v, e = .returned (.tuple #[patV v (rRead s i).st (rRead s i).en, .int .i64 (rRead s i).next, .bool true]) ∧ Fresh w w' ∧ NodesAt w' v (rRead s i).ns ∧ ∀ k, v.ownBlock = some k → w.heap.size ≤ k := by
  have HC := readChoice_any s hs i [] ((w.alloc (.cells #[.slice none 0 0, .int .i64 0, .int .i64 0] 67 (0, 0))).alloc (.cells #[.slice none 0 0] 164 (0, 0))) (w.heap.size + 1) (.slice none 0 0) h0 h1 (by simp; omega) (by simpa using BAt_new (w.alloc (.cells #[.slice none 0 0, .int .i64 0, .int .i64 0] 67 (0, 0))))
  have hG := good_chK s 6 i [] h0 h1
  unfold rRead at hok ⊢
  generalize hpp : chK s 6 i [] = pp at HC hG hok ⊢
  simp only [prRet] at HC
  obtain ⟨g1, g2, g3, g4⟩ := hG
  rw [hok] at HC
  have HC' := hid HC
  clear HC hpp g3 hok
  go_enter Tryz.func74, Tryz.ntmps74
  go_wp2_with (first
    | (go_at_call 86; refine HC'.out.mono ?_; rintro e w1 ⟨rfl, v1, h1⟩; have hz : w.heap.size < w1.heap.size := (by have := h1.mod.size; simp at this; omega); have hb := h1.mod.at (heap_alloc2_old _ _ _) (by rintro (h | h) <;> simp [Value.ownBlock] at h)))
  obtain ⟨ao, cap, hv⟩ := own_form h1.at'.own
  have HB := hid hb
  have H1 := hid h1
  have k1 := cellOf h1.at'.blk
  have hz1 : w.heap.size + 1 < w1.heap.size := by have := h1.mod.size; simp at this; omega
  have k3 := cellOf hb
  have k4 := frozenOf hb
  subst hv
  clear hb h1
  go_region
  all_goals
    go_wp2
    refine bodyPost_ret (results_row2 rfl _ _ w.heap.size 67 #[.slice ao pp.ns.length cap, .int .i64 pp.st, .int .i64 pp.en] (0, 0) _ rfl ?_ Tryz.underlying67 rfl szPat) rfl ⟨.slice ao pp.ns.length cap, rfl, ?_, ?_, ?_⟩
    · have q := Proofs.YteneagnhihcljaaGreatDoor.heap_setCell_same (Proofs.YteneagnhihcljaaGreatDoor.heap_setCell_same (Proofs.YteneagnhihcljaaGreatDoor.heap_setCell_same HB.out 0 (.slice ao pp.ns.length cap)) 1 (.int .i64 pp.st)) 2 (.int .i64 pp.en)
      exact heap_alloc_prev q
    · exact (((((fresh_read H1.out).setCell (by simp) _).setCell (by simp) _).setCell (by simp) _).alloc _).drew
    · have n1 : NodesAt w1 (.slice ao pp.ns.length cap) pp.ns := ⟨ownsRow_base H1.out.at'.own (Nat.zero_le _), H1.out.at'.wf⟩
      refine n1.kept (S := fun k => k = w.heap.size) ?_ (fun k hk e => by have := H1.out.at'.own_lt k hk; omega)
      exact ((((Mod.setCell (S := fun k => k = w.heap.size) (Mod.setCell (S := fun k => k = w.heap.size) (Mod.setCell (S := fun k => k = w.heap.size) (Mod.refl _ w1) (p := ⟨w.heap.size, 0, none⟩) (fun _ => rfl) _) (p := ⟨w.heap.size, 1, none⟩) (fun _ => rfl) _) (p := ⟨w.heap.size, 2, none⟩) (fun _ => rfl) _)).alloc _)).drew
    · intro k hk; have := H1.out.at'.own_lt k hk; omega
end Go.Proofs.YteneagnhihcljaaGreatDoor
namespace Go.Proofs.YteneagnhihcljaaGreatDoor
open Go.RowKit
set_option linter.unusedVariables false
set_option linter.unusedSimpArgs false

def i64s (ls : List Int) : Array Value := (ls.map (Value.int .i64)).toArray
def boolsOf (n : Nat) (l : List Nat) : Array Value := ((List.range n).map fun j => Value.bool (decide (j ∈ l))).toArray
theorem i64s_at (ls : List Int) (i : Nat) (h : i < ls.length) : (i64s ls)[i]? = some (.int .i64 (ls.getD i 0)) := by simp [i64s, h]
theorem boolsOf_at (n : Nat) (l : List Nat) (i : Nat) (h : i < n) : (boolsOf n l)[i]? = some (.bool (decide (i ∈ l))) := by simp [boolsOf, h]

/-- A crowd of nodes numbered below n: l are those in it, in the order in which they came. -/
structure CrAt (w : World) (cb lb ib n : Nat) (l : List Nat) : Prop where
  nodup : l.Nodup
  lt : ∀ x ∈ l, x < n
  blk : w.heap[cb]? = some (.cells #[.slice (some ⟨lb, 0, none⟩) n n, .int .i64 l.length, .slice (some ⟨ib, 0, none⟩) n n] 134 (0, 0))
  lst : ∃ ls : List Int, ls.length = n ∧ ls.take l.length = l.map Int.ofNat ∧ w.heap[lb]? = some (.cells (i64s ls) 3 (0, 0))
  ins : w.heap[ib]? = some (.cells (boolsOf n l) 4 (0, 0))
  d1 : cb ≠ lb
  d2 : cb ≠ ib
  d3 : lb ≠ ib
def cfoot (cb lb ib k : Nat) : Prop := k = cb ∨ k = lb ∨ k = ib
theorem CrAt.kept {S : Nat → Prop} {w w' : World} {cb lb ib n : Nat} {l : List Nat} (h : CrAt w cb lb ib n l) (hm : Mod S w w') (hs : ∀ k, cfoot cb lb ib k → ¬ S k) : CrAt w' cb lb ib n l := by
  obtain ⟨ls, h1, h2, h3⟩ := h.lst
  exact ⟨h.nodup, h.lt, hm.at h.blk (hs cb (.inl rfl)), ⟨ls, h1, h2, hm.at h3 (hs lb (.inr (.inl rfl)))⟩, hm.at h.ins (hs ib (.inr (.inr rfl))), h.d1, h.d2, h.d3⟩
theorem CrAt.foot_lt {w : World} {cb lb ib n : Nat} {l : List Nat} (h : CrAt w cb lb ib n l) {k : Nat} (hk : cfoot cb lb ib k) : k < w.heap.size := by
  obtain ⟨ls, h1, h2, h3⟩ := h.lst
  rcases hk with rfl | rfl | rfl
  · exact heap_lt h.blk
  · exact heap_lt h3
  · exact heap_lt h.ins
theorem nodup_len {n : Nat} : ∀ {l : List Nat}, l.Nodup → (∀ x ∈ l, x < n) → l.length ≤ n := by
  induction n with
  | zero =>
    intro l hd hl
    cases l with
    | nil => simp
    | cons a l => have := hl a (by simp); omega
  | succ n ih =>
    intro l hd hl
    by_cases hm : n ∈ l
    · have h1 := ih (hd.erase n) (fun x hx => by
        have := (hd.mem_erase_iff).1 hx
        have := hl x this.2
        omega)
      rw [List.length_erase_of_mem hm] at h1
      omega
    · have := ih hd (fun x hx => by
        have h2 := hl x hx
        have : x ≠ n := fun e => hm (e ▸ hx)
        omega)
      omega
theorem nodup_len_lt {n m : Nat} {l : List Nat} (hd : l.Nodup) (hl : ∀ x ∈ l, x < n) (hm : m < n) (hn : m ∉ l) : l.length < n := by
  have := nodup_len (n := n) (l := m :: l) (List.nodup_cons.2 ⟨hn, hd⟩) (by
    intro x hx
    rcases List.mem_cons.1 hx with rfl | hx
    · exact hm
    · exact hl x hx)
  simp at this
  omega

def enterF (n : Nat) (l : List Nat) (m : Int) : List Nat := if 0 ≤ m ∧ m < n ∧ m.toNat ∉ l then l ++ [m.toNat] else l
theorem enterF_nodup {n : Nat} {l : List Nat} (m : Int) (h : l.Nodup) : (enterF n l m).Nodup := by
  unfold enterF; split
  · rename_i h1; rw [List.nodup_append]; exact ⟨h, by simp, by intro a ha b hb; simp at hb; subst hb; intro e; subst e; exact h1.2.2 ha⟩
  · exact h
theorem enterF_lt {n : Nat} {l : List Nat} (m : Int) (h : ∀ x ∈ l, x < n) : ∀ x ∈ enterF n l m, x < n := by
  unfold enterF; split
  · rename_i h1; intro x hx; rcases List.mem_append.1 hx with hx | hx
    · exact h x hx
    · simp at hx; omega
  · exact h
theorem boolsOf_set (n : Nat) (l : List Nat) (m : Nat) : (boolsOf n l).setIfInBounds m (.bool true) = boolsOf n (l ++ [m]) := by
  unfold boolsOf
  apply Array.ext_getElem?
  intro i
  rw [Array.getElem?_setIfInBounds]
  by_cases h : m = i
  · subst h; by_cases h2 : m < n <;> simp [h2]
  · rw [if_neg h]
    by_cases h2 : i < n
    · have : ¬ i = m := fun e => h e.symm
      simp [h2, this]
    · simp [h2]
theorem take_set_next {ls : List Int} {l : List Nat} {m : Nat} (h : ls.take l.length = l.map Int.ofNat) (hlt : l.length < ls.length) : (ls.set l.length (m : Int)).take (l ++ [m]).length = (l ++ [m]).map Int.ofNat := by
  simp only [List.length_append, List.length_singleton, List.map_append, List.map_singleton]
  rw [List.take_add_one, List.take_set_of_le (Nat.le_refl _), h]
  simp [hlt]
theorem i64s_set (ls : List Int) (i : Nat) (v : Int) : (i64s ls).setIfInBounds i (.int .i64 v) = i64s (ls.set i v) := by simp [i64s, List.map_set]

/-- What entering leaves. -/
theorem CrAt.entered {w : World} {cb lb ib n : Nat} {l : List Nat} {m : Nat} (h : CrAt w cb lb ib n l) (hm : m < n) (hn : m ∉ l) :
    CrAt (((w.setCell ⟨ib, m, none⟩ (.bool true)).setCell ⟨lb, l.length, none⟩ (.int .i64 m)).setCell ⟨cb, 1, none⟩ (.int .i64 (l.length + 1))) cb lb ib n (l ++ [m]) := by
  obtain ⟨ls, h1, h2, h3⟩ := h.lst
  have hl := nodup_len_lt h.nodup h.lt hm hn
  refine ⟨?_, ?_, ?_, ⟨ls.set l.length m, by simpa using h1, take_set_next h2 (by omega), ?_⟩, ?_, h.d1, h.d2, h.d3⟩
  · have := enterF_nodup (n := n) m h.nodup; unfold enterF at this; rw [if_pos ⟨by omega, by omega, by simpa using hn⟩] at this; simpa using this
  · have := enterF_lt (n := n) m h.lt; unfold enterF at this; rw [if_pos ⟨by omega, by omega, by simpa using hn⟩] at this; simpa using this
  · rw [Proofs.YteneagnhihcljaaGreatDoor.heap_setCell_same (heap_setCell_prev (heap_setCell_prev h.blk (by simpa using h.d2)) (by simpa using h.d1)) 1 _]
    simp
  · refine heap_setCell_prev ?_ (by simpa using h.d1.symm)
    rw [Proofs.YteneagnhihcljaaGreatDoor.heap_setCell_same (heap_setCell_prev h3 (by simpa using h.d3)) _ _, i64s_set]
  · refine heap_setCell_prev (heap_setCell_prev ?_ (by simpa using h.d3.symm)) (by simpa using h.d2.symm)
    rw [Proofs.YteneagnhihcljaaGreatDoor.heap_setCell_same h.ins _ _, boolsOf_set]
theorem enterF_no {n : Nat} {l : List Nat} {m : Int} (h : ¬ (0 ≤ m ∧ m < n ∧ m.toNat ∉ l)) : enterF n l m = l := by unfold enterF; rw [if_neg h]
theorem enterF_yes {n : Nat} {l : List Nat} {m : Nat} (h1 : m < n) (h2 : m ∉ l) : enterF n l m = l ++ [m] := by
  unfold enterF; rw [if_pos ⟨by omega, by omega, by simpa using h2⟩]; simp
end Go.Proofs.YteneagnhihcljaaGreatDoor
namespace Go.Proofs.YteneagnhihcljaaGreatDoor
open Go.RowKit
set_option linter.unusedVariables false
set_option linter.unusedSimpArgs false

abbrev cptr (cb : Nat) : Value := .pointer (some ⟨cb, 0, none⟩)

/-- The cells that the crowd's methods read. -/
theorem CrAt.facts {w : World} {cb lb ib n : Nat} {l : List Nat} (h : CrAt w cb lb ib n l) :
    (w.cell? ⟨cb, 0, none⟩ = some (.slice (some ⟨lb, 0, none⟩) n n) ∧ w.cell? ⟨cb, 1, none⟩ = some (.int .i64 l.length) ∧ w.cell? ⟨cb, 2, none⟩ = some (.slice (some ⟨ib, 0, none⟩) n n)) ∧
    (∀ j, j < n → w.cell? ⟨ib, j, none⟩ = some (.bool (decide (j ∈ l)))) ∧
    (∀ j (hj : j < l.length), w.cell? ⟨lb, j, none⟩ = some (.int .i64 l[j])) ∧
    (∀ j, j < n → ∃ x : Int, w.cell? ⟨lb, j, none⟩ = some (.int .i64 x)) ∧
    (∀ o, w.frozen? ⟨cb, o, none⟩ = false) ∧ (∀ o, w.frozen? ⟨lb, o, none⟩ = false) ∧ (∀ o, w.frozen? ⟨ib, o, none⟩ = false) := by
  obtain ⟨ls, h1, h2, h3⟩ := h.lst
  refine ⟨⟨by rw [cellOf h.blk]; rfl, by rw [cellOf h.blk]; rfl, by rw [cellOf h.blk]; rfl⟩, ?_, ?_, ?_, frozenOf h.blk, frozenOf h3, frozenOf h.ins⟩
  · intro j hj; rw [cellOf h.ins, boolsOf_at _ _ _ hj]
  · intro j hj
    have hl := nodup_len h.nodup h.lt
    rw [cellOf h3, i64s_at _ _ (by omega)]
    have : (ls.take l.length)[j]? = (l.map Int.ofNat)[j]? := by rw [h2]
    rw [List.getElem?_take_of_lt hj] at this
    simp [hj] at this
    simp [this]
  · intro j hj; exact ⟨_, by rw [cellOf h3, i64s_at _ _ (by omega)]⟩

theorem CrAt.of_heap {w w' : World} {cb lb ib n : Nat} {l : List Nat} (h : CrAt w cb lb ib n l) (e : w'.heap = w.heap) : CrAt w' cb lb ib n l := by
  obtain ⟨ls, h1, h2, h3⟩ := h.lst
  exact ⟨h.nodup, h.lt, by rw [e]; exact h.blk, ⟨ls, h1, h2, by rw [e]; exact h3⟩, by rw [e]; exact h.ins, h.d1, h.d2, h.d3⟩
theorem Mod.of_heap {S : Nat → Prop} {a w w' : World} (h : Mod S a w) (e : w'.heap = w.heap) (e1 : w'.os = w.os) (e2 : w'.tape = w.tape) (e3 : w'.output = w.output) : Mod S a w' :=
  ⟨e1.trans h.os, e2.trans h.tape, e3.trans h.output, by rw [e]; exact h.size, fun k hk hs => by rw [e]; exact h.block k hk hs⟩

set_option maxHeartbeats 2000000 in
theorem member_in (w : World) (cb lb ib n : Nat) (l : List Nat) (i : Nat) (h : CrAt w cb lb ib n l) (hn : n ≤ 100000) (hi : i < l.length) :
    Calls Tryz.prog 75 #[cptr cb, .int .i64 i] w fun e w' => e = .returned (.int .i64 l[i]) ∧ w' = w := by
  obtain ⟨⟨f1, f2, f3⟩, _, f5, _⟩ := h.facts
  have f6 := f5 i hi
  have hl := nodup_len h.nodup h.lt
  clear f5 h
  have hi' : (i : Int) < n := by omega
  go_enter Tryz.func75, Tryz.ntmps75
  go_wp2
  go_ret
  exact ⟨rfl, rfl⟩

set_option maxHeartbeats 2000000 in
theorem holds_any (w : World) (cb lb ib n : Nat) (l : List Nat) (m : Int) (h : CrAt w cb lb ib n l) (hn : n ≤ 100000) :
    Calls Tryz.prog 60 #[cptr cb, .int .i64 m] w fun e w' => e = .returned (.bool (decide (0 ≤ m ∧ m < n ∧ m.toNat ∈ l))) ∧ w' = w := by
  obtain ⟨⟨f1, f2, f3⟩, f4, _⟩ := h.facts
  by_cases h0 : 0 ≤ m
  · by_cases h1 : m < n
    · obtain ⟨k, rfl⟩ : ∃ k : Nat, m = k := ⟨m.toNat, by omega⟩
      have f6 := f4 k (by omega)
      clear f4 h
      go_enter Tryz.func60, Tryz.ntmps60
      go_wp2
      go_ret
      exact ⟨ret_bool (by simp; omega), rfl⟩
    · clear f4 h
      have h2 : (n : Int) ≤ m := by omega
      go_enter Tryz.func60, Tryz.ntmps60
      go_wp2
      go_ret
      exact ⟨ret_bool (by simp; omega), rfl⟩
  · clear f4 h
    have h2 : m < 0 := by omega
    go_enter Tryz.func60, Tryz.ntmps60
    go_wp2
    go_ret
    exact ⟨ret_bool (by simp; omega), rfl⟩

set_option maxHeartbeats 2000000 in
theorem enter_in (w : World) (cb lb ib n : Nat) (l : List Nat) (m : Nat) (h : CrAt w cb lb ib n l) (hn : n ≤ 100000) (hm : m < n) (hm2 : m ∉ l) :
    Calls Tryz.prog 58 #[cptr cb, .int .i64 m] w fun e w' => e = .returned (.tuple #[]) ∧ CrAt w' cb lb ib n (enterF n l m) ∧ Mod (cfoot cb lb ib) w w' := by
  obtain ⟨⟨f1, f2, f3⟩, f4, _, f5, z1, z2, z3⟩ := h.facts
  have hl := nodup_len_lt h.nodup h.lt hm hm2
  have f6 := f4 m hm
  obtain ⟨x, f7⟩ := f5 l.length hl
  have hd : decide (m ∈ l) = false := by simpa using hm2
  rw [hd] at f6
  have H := hid h
  have d1 := h.d1
  have d2 := h.d2
  have d3 := h.d3
  have b1 : (m : Int) < (n : Int) := by omega
  have b2 : ((l.length : Nat) : Int) < (n : Int) := by omega
  have b3 : decide ((m : Int) < 0) = false := by simp
  have b4 : decide ((n : Int) ≤ (m : Int)) = false := by simp; omega
  have b5 : decide (n ≤ m) = false := by simp; omega
  have HM := hid hm2
  clear f4 f5 h hd hm2
  go_enter Tryz.func58, Tryz.ntmps58
  go_wp2_with fail
  go_quiet (fail)
  go_wp2
  go_region
  all_goals
    go_wp2
    refine bodyPost_end (results_none rfl _ _ _) rfl ⟨rfl, ?_, ?_⟩
    · rw [enterF_yes hm HM.out]; exact CrAt.of_heap (H.out.entered hm HM.out) rfl
    · exact Mod.of_heap ((((Mod.refl _ w).setCell (p := ⟨ib, m, none⟩) (fun _ => .inr (.inr rfl)) (.bool true)).setCell (p := ⟨lb, l.length, none⟩) (fun _ => .inr (.inl rfl)) (.int .i64 m)).setCell (p := ⟨cb, 1, none⟩) (fun _ => .inl rfl) (.int .i64 (l.length + 1))) rfl rfl rfl rfl

set_option maxHeartbeats 2000000 in
theorem enter_neg (w : World) (cb lb ib n : Nat) (l : List Nat) (m : Int) (h : CrAt w cb lb ib n l) (hm : m < 0) :
    Calls Tryz.prog 58 #[cptr cb, .int .i64 m] w fun e w' => e = .returned (.tuple #[]) ∧ CrAt w' cb lb ib n (enterF n l m) ∧ Mod (cfoot cb lb ib) w w' := by
  have e1 : enterF n l m = l := enterF_no (by omega)
  rw [e1]
  have H := hid h
  have b3 : decide (m < 0) = true := by simpa using hm
  clear h e1
  go_enter Tryz.func58, Tryz.ntmps58
  go_wp2_with fail
  go_quiet (fail)
  go_wp2
  refine bodyPost_ret (results_none rfl _ _ _) rfl ⟨rfl, CrAt.of_heap H.out rfl, Mod.of_heap (Mod.refl _ w) rfl rfl rfl rfl⟩

set_option maxHeartbeats 2000000 in
theorem enter_great (w : World) (cb lb ib n : Nat) (l : List Nat) (m : Int) (h : CrAt w cb lb ib n l) (hn : n ≤ 100000) (h0 : 0 ≤ m) (hm : (n : Int) ≤ m) :
    Calls Tryz.prog 58 #[cptr cb, .int .i64 m] w fun e w' => e = .returned (.tuple #[]) ∧ CrAt w' cb lb ib n (enterF n l m) ∧ Mod (cfoot cb lb ib) w w' := by
  have e1 : enterF n l m = l := enterF_no (by omega)
  rw [e1]
  have H := hid h
  obtain ⟨⟨f1, f2, f3⟩, _⟩ := h.facts
  have b3 : decide (m < 0) = false := by simpa using h0
  have b4 : decide ((n : Int) ≤ m) = true := by simpa using hm
  clear h e1
  go_enter Tryz.func58, Tryz.ntmps58
  go_wp2_with fail
  go_quiet (fail)
  go_wp2
  refine bodyPost_ret (results_none rfl _ _ _) rfl ⟨rfl, CrAt.of_heap H.out rfl, Mod.of_heap (Mod.refl _ w) rfl rfl rfl rfl⟩

set_option maxHeartbeats 2000000 in
theorem enter_has (w : World) (cb lb ib n : Nat) (l : List Nat) (m : Nat) (h : CrAt w cb lb ib n l) (hn : n ≤ 100000) (hm : m < n) (hm2 : m ∈ l) :
    Calls Tryz.prog 58 #[cptr cb, .int .i64 m] w fun e w' => e = .returned (.tuple #[]) ∧ CrAt w' cb lb ib n (enterF n l m) ∧ Mod (cfoot cb lb ib) w w' := by
  have e1 : enterF n l m = l := enterF_no (by simp [hm2])
  rw [e1]
  have H := hid h
  obtain ⟨⟨f1, f2, f3⟩, f4, _⟩ := h.facts
  have f6 := f4 m hm
  have hd : decide (m ∈ l) = true := by simpa using hm2
  rw [hd] at f6
  have b1 : (m : Int) < (n : Int) := by omega
  have b3 : decide ((m : Int) < 0) = false := by simp
  have b4 : decide ((n : Int) ≤ (m : Int)) = false := by simp; omega
  have b5 : decide (n ≤ m) = false := by simp; omega
  clear h e1 f4 hm2 hd
  go_enter Tryz.func58, Tryz.ntmps58
  go_wp2_with fail
  go_quiet (fail)
  go_wp2
  refine bodyPost_ret (results_none rfl _ _ _) rfl ⟨rfl, CrAt.of_heap H.out rfl, Mod.of_heap (Mod.refl _ w) rfl rfl rfl rfl⟩

theorem enter_any (w : World) (cb lb ib n : Nat) (l : List Nat) (m : Int) (h : CrAt w cb lb ib n l) (hn : n ≤ 100000) :
    Calls Tryz.prog 58 #[cptr cb, .int .i64 m] w fun e w' => e = .returned (.tuple #[]) ∧ CrAt w' cb lb ib n (enterF n l m) ∧ Mod (cfoot cb lb ib) w w' := by
  by_cases h0 : m < 0
  · exact enter_neg w cb lb ib n l m h h0
  · by_cases h1 : (n : Int) ≤ m
    · exact enter_great w cb lb ib n l m h hn (by omega) h1
    · obtain ⟨k, rfl⟩ : ∃ k : Nat, m = k := ⟨m.toNat, by omega⟩
      by_cases h2 : k ∈ l
      · exact enter_has w cb lb ib n l k h hn (by omega) h2
      · exact enter_in w cb lb ib n l k h hn (by omega) h2
end Go.Proofs.YteneagnhihcljaaGreatDoor
namespace Go.Proofs.YteneagnhihcljaaGreatDoor
open Go.RowKit
set_option linter.unusedVariables false
set_option linter.unusedSimpArgs false

theorem made_int (n : Nat) : madeCells #[.int .i64 0] n = i64s (List.replicate n 0) := by
  unfold madeCells i64s
  apply Array.ext_getElem?
  intro i
  by_cases h : i < n <;> simp [h, Nat.mod_one]
theorem made_bool (n : Nat) : madeCells #[.bool false] n = boolsOf n [] := by
  unfold madeCells boolsOf
  apply Array.ext_getElem?
  intro i
  by_cases h : i < n <;> simp [h, Nat.mod_one]

set_option maxHeartbeats 2000000 in
theorem newCrowd_any (w : World) (n : Nat) (hn : n ≤ 100000) :
    Calls Tryz.prog 57 #[.int .i64 n] w fun e w' => ∃ cb lb ib, e = .returned (cptr cb) ∧ CrAt w' cb lb ib n [] ∧ Fresh w w' ∧ (∀ k, cfoot cb lb ib k → w.heap.size ≤ k) := by
  have h1 := fun w => run_make_row' (P := Tryz.prog) 22 3 (.int .i64 0) 8 Tryz.underlying22 (by kernel_rfl) rfl .i64 .i64 n (by omega) (by omega) w
  have h2 := fun w => run_make_row' (P := Tryz.prog) 132 4 (.bool false) 1 Tryz.underlying132 (by kernel_rfl) rfl .i64 .i64 n (by omega) (by omega) w
  go_enter Tryz.func57, Tryz.ntmps57
  go_wp2_with fail
  go_region
  all_goals
    go_wp2
    go_ret
  · refine ⟨w.heap.size + 2, w.heap.size, w.heap.size + 1, rfl, ⟨by simp, by simp, ?_, ⟨List.replicate n 0, by simp, by simp, ?_⟩, ?_, by omega, by omega, by omega⟩, Mod.of_heap ((((Mod.refl _ w).alloc _).alloc _).alloc _) rfl rfl rfl rfl, ?_⟩
    · exact heap_alloc3_3 _ _ _ _
    · rw [← made_int]; exact heap_alloc3_1 _ _ _ _
    · rw [← made_bool]; exact heap_alloc3_2 _ _ _ _
    · intro k hk; rcases hk with rfl | rfl | rfl <;> omega
  · refine ⟨w.heap.size + 2, w.heap.size + 1, w.heap.size, rfl, ⟨by simp, by simp, ?_, ⟨List.replicate n 0, by simp, by simp, ?_⟩, ?_, by omega, by omega, by omega⟩, Mod.of_heap ((((Mod.refl _ w).alloc _).alloc _).alloc _) rfl rfl rfl rfl, ?_⟩
    · exact heap_alloc3_3 _ _ _ _
    · rw [← made_int]; exact heap_alloc3_2 _ _ _ _
    · rw [← made_bool]; exact heap_alloc3_1 _ _ _ _
    · intro k hk; rcases hk with rfl | rfl | rfl <;> omega

set_option maxHeartbeats 2000000 in
theorem empty_any (w : World) (cb lb ib n : Nat) (l : List Nat) (h : CrAt w cb lb ib n l) (hn : n ≤ 100000) :
    Calls Tryz.prog 61 #[cptr cb] w fun e w' => e = .returned (.tuple #[]) ∧ CrAt w' cb lb ib n [] ∧ Mod (cfoot cb lb ib) w w' := by
  obtain ⟨⟨f1, f2, f3⟩, f4, _, f5, z1, z2, z3⟩ := h.facts
  have H := hid h
  clear f4 f5 h
  go_enter Tryz.func61, Tryz.ntmps61
  go_wp2
  go_loopw [8] (fun i wr => ∃ k : Nat, i = .int .i64 k ∧ k ≤ n ∧ wr.heap[cb]? = w.heap[cb]? ∧ wr.heap[lb]? = w.heap[lb]? ∧
      (∃ bs : Array Value, bs.size = n ∧ wr.heap[ib]? = some (.cells bs 4 (0, 0)) ∧ ∀ j, j < k → bs[j]? = some (.bool false)) ∧ Mod (cfoot cb lb ib) w wr)
      (fun i _ => n - (intOf i).toNat)
  case atStart => exact ⟨0, rfl, by omega, rfl, rfl, ⟨boolsOf n l, by simp [boolsOf], H.out.ins, by omega⟩, Mod.refl _ _⟩
  case round =>
    obtain ⟨k, rfl, hk, hb, hb2, ⟨bs, hbs, hb3, hall⟩, hmod⟩ := hrel
    have c1 := cellOf (hb.trans H.out.blk)
    have c4 := frozenOf (hb.trans H.out.blk)
    by_cases hx : k < n
    · have c2 : wr.cell? ⟨ib, k, none⟩ = some bs[k] := by rw [cellOf hb3]; simp
      have c3 := frozenOf hb3
      have HB := hid hb
      have HB2 := hid hb2
      have HB3 := hid hb3
      have HA := hid hall
      clear hb hb2 hb3 hall
      go_wp2
      go_roundw
      case rel =>
        refine ⟨k + 1, by go_num, by omega, ?_, ?_, ⟨bs.setIfInBounds k (.bool false), by simpa using hbs, Proofs.YteneagnhihcljaaGreatDoor.heap_setCell_same HB3.out _ _, ?_⟩, ?_⟩
        · rw [Proofs.YteneagnhihcljaaGreatDoor.heap_setCell_other _ (by simpa using H.out.d2)]; exact HB.out
        · rw [Proofs.YteneagnhihcljaaGreatDoor.heap_setCell_other _ (by simpa using H.out.d3)]; exact HB2.out
        · intro j hj
          rw [Array.getElem?_setIfInBounds]
          by_cases e : k = j
          · rw [if_pos e, if_pos (by omega)]
          · rw [if_neg e]; exact HA.out j (by omega)
        · exact hmod.setCell (fun _ => .inr (.inr rfl)) _
      case measure => simp [intOf]; omega
    · have hkn : k = n := by omega
      subst hkn
      have HB := hid hb
      have HB2 := hid hb2
      have HB3 := hid hb3
      have HA := hid hall
      clear hb hb2 hb3 hall
      go_wp2
      refine bodyPost_end (results_none rfl _ _ _) rfl ⟨rfl, ?_, hmod.setCell (fun _ => .inl rfl) _⟩
      obtain ⟨ls, h1, h2, h3⟩ := H.out.lst
      refine ⟨by simp, by simp, ?_, ⟨ls, h1, by simp, ?_⟩, ?_, H.out.d1, H.out.d2, H.out.d3⟩
      · rw [Proofs.YteneagnhihcljaaGreatDoor.heap_setCell_same (HB.out.trans H.out.blk) 1 _]; simp
      · exact heap_setCell_prev (HB2.out.trans h3) (by simpa using H.out.d1.symm)
      · refine heap_setCell_prev ?_ (by simpa using H.out.d2.symm)
        rw [HB3.out]
        have : bs = boolsOf k [] := by
          apply Array.ext_getElem?
          intro i
          by_cases hi : i < k
          · rw [HA.out i hi, boolsOf_at _ _ _ hi]; simp
          · rw [Array.getElem?_eq_none (by omega), Array.getElem?_eq_none (by simp [boolsOf]; omega)]
        rw [this]
end Go.Proofs.YteneagnhihcljaaGreatDoor
