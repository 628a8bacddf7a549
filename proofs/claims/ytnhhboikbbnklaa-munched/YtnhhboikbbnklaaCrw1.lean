import Derived.Test.YtnhhboikbbnklaaPrs6
namespace Go.Proofs.Ytnhhboikbbnklaa
open Go.RowKit
set_option linter.unusedVariables false
set_option linter.unusedSimpArgs false

def i64s (ls : List Int) : Array Value := (ls.map (Value.int .i64)).toArray
def boolsOf (n : Nat) (l : List Nat) : Array Value := ((List.range n).map fun j => Value.bool (decide (j ∈ l))).toArray
theorem i64s_at (ls : List Int) (i : Nat) (h : i < ls.length) : (i64s ls)[i]? = some (.int .i64 (ls.getD i 0)) := by simp [i64s, h]
theorem boolsOf_at (n : Nat) (l : List Nat) (i : Nat) (h : i < n) : (boolsOf n l)[i]? = some (.bool (decide (i ∈ l))) := by simp [boolsOf, h]

/-- A crowd of nodes numbered below n: l are those in it, in the order in which they came. -/
structure CrAt (w : World) (cb lb ib n : Nat) (l : List Nat) : Prop where
  nodup : l.Nodup
  lt : ∀ x ∈ l, x < n
  blk : w.heap[cb]? = some (.cells #[.slice (some ⟨lb, 0, none⟩) n n, .int .i64 l.length, .slice (some ⟨ib, 0, none⟩) n n] 108 (0, 0))
  lst : ∃ ls : List Int, ls.length = n ∧ ls.take l.length = l.map Int.ofNat ∧ w.heap[lb]? = some (.cells (i64s ls) 3 (0, 0))
  ins : w.heap[ib]? = some (.cells (boolsOf n l) 4 (0, 0))
  d1 : cb ≠ lb
  d2 : cb ≠ ib
  d3 : lb ≠ ib
def cfoot (cb lb ib k : Nat) : Prop := k = cb ∨ k = lb ∨ k = ib
theorem CrAt.kept {S : Nat → Prop} {w w' : World} {cb lb ib n : Nat} {l : List Nat} (h : CrAt w cb lb ib n l) (hm : Mod S w w') (hs : ∀ k, cfoot cb lb ib k → ¬ S k) : CrAt w' cb lb ib n l := by
  obtain ⟨ls, h1, h2, h3⟩ := h.lst
  exact ⟨h.nodup, h.lt, hm.at h.blk (hs cb (.inl rfl)), ⟨ls, h1, h2, hm.at h3 (hs lb (.inr (.inl rfl)))⟩, hm.at h.ins (hs ib (.inr (.inr rfl))), h.d1, h.d2, h.d3⟩
theorem CrAt.foot_lt {w : World} {cb lb ib n : Nat} {l : List Nat} (h : CrAt w cb lb ib n l) {k : Nat} (hk : cfoot cb lb ib k) : k < w.heap.size := by
  obtain ⟨ls, h1, h2, h3⟩ := h.lst
  rcases hk with rfl | rfl | rfl
  · exact heap_lt h.blk
  · exact heap_lt h3
  · exact heap_lt h.ins
theorem nodup_len {n : Nat} : ∀ {l : List Nat}, l.Nodup → (∀ x ∈ l, x < n) → l.length ≤ n := by
  induction n with
  | zero =>
    intro l hd hl
    cases l with
    | nil => simp
    | cons a l => have := hl a (by simp); omega
  | succ n ih =>
    intro l hd hl
    by_cases hm : n ∈ l
    · have h1 := ih (hd.erase n) (fun x hx => by
        have := (hd.mem_erase_iff).1 hx
        have := hl x this.2
        omega)
      rw [List.length_erase_of_mem hm] at h1
      omega
    · have := ih hd (fun x hx => by
        have h2 := hl x hx
        have : x ≠ n := fun e => hm (e ▸ hx)
        omega)
      omega
theorem nodup_len_lt {n m : Nat} {l : List Nat} (hd : l.Nodup) (hl : ∀ x ∈ l, x < n) (hm : m < n) (hn : m ∉ l) : l.length < n := by
  have := nodup_len (n := n) (l := m :: l) (List.nodup_cons.2 ⟨hn, hd⟩) (by
    intro x hx
    rcases List.mem_cons.1 hx with rfl | hx
    · exact hm
    · exact hl x hx)
  simp at this
  omega

def enterF (n : Nat) (l : List Nat) (m : Int) : List Nat := if 0 ≤ m ∧ m < n ∧ m.toNat ∉ l then l ++ [m.toNat] else l
theorem enterF_nodup {n : Nat} {l : List Nat} (m : Int) (h : l.Nodup) : (enterF n l m).Nodup := by
  unfold enterF; split
  · rename_i h1; rw [List.nodup_append]; exact ⟨h, by simp, by intro a ha b hb; simp at hb; subst hb; intro e; subst e; exact h1.2.2 ha⟩
  · exact h
theorem enterF_lt {n : Nat} {l : List Nat} (m : Int) (h : ∀ x ∈ l, x < n) : ∀ x ∈ enterF n l m, x < n := by
  unfold enterF; split
  · rename_i h1; intro x hx; rcases List.mem_append.1 hx with hx | hx
    · exact h x hx
    · simp at hx; omega
  · exact h
theorem boolsOf_set (n : Nat) (l : List Nat) (m : Nat) : (boolsOf n l).setIfInBounds m (.bool true) = boolsOf n (l ++ [m]) := by
  unfold boolsOf
  apply Array.ext_getElem?
  intro i
  rw [Array.getElem?_setIfInBounds]
  by_cases h : m = i
  · subst h; by_cases h2 : m < n <;> simp [h2]
  · rw [if_neg h]
    by_cases h2 : i < n
    · have : ¬ i = m := fun e => h e.symm
      simp [h2, this]
    · simp [h2]
theorem take_set_next {ls : List Int} {l : List Nat} {m : Nat} (h : ls.take l.length = l.map Int.ofNat) (hlt : l.length < ls.length) : (ls.set l.length (m : Int)).take (l ++ [m]).length = (l ++ [m]).map Int.ofNat := by
  simp only [List.length_append, List.length_singleton, List.map_append, List.map_singleton]
  rw [List.take_add_one, List.take_set_of_le (Nat.le_refl _), h]
  simp [hlt]
theorem i64s_set (ls : List Int) (i : Nat) (v : Int) : (i64s ls).setIfInBounds i (.int .i64 v) = i64s (ls.set i v) := by simp [i64s, List.map_set]

/-- What entering leaves. -/
theorem CrAt.entered {w : World} {cb lb ib n : Nat} {l : List Nat} {m : Nat} (h : CrAt w cb lb ib n l) (hm : m < n) (hn : m ∉ l) :
    CrAt (((w.setCell ⟨ib, m, none⟩ (.bool true)).setCell ⟨lb, l.length, none⟩ (.int .i64 m)).setCell ⟨cb, 1, none⟩ (.int .i64 (l.length + 1))) cb lb ib n (l ++ [m]) := by
  obtain ⟨ls, h1, h2, h3⟩ := h.lst
  have hl := nodup_len_lt h.nodup h.lt hm hn
  refine ⟨?_, ?_, ?_, ⟨ls.set l.length m, by simpa using h1, take_set_next h2 (by omega), ?_⟩, ?_, h.d1, h.d2, h.d3⟩
  · have := enterF_nodup (n := n) m h.nodup; unfold enterF at this; rw [if_pos ⟨by omega, by omega, by simpa using hn⟩] at this; simpa using this
  · have := enterF_lt (n := n) m h.lt; unfold enterF at this; rw [if_pos ⟨by omega, by omega, by simpa using hn⟩] at this; simpa using this
  · rw [Proofs.Ytnhhboikbbnklaa.heap_setCell_same (heap_setCell_prev (heap_setCell_prev h.blk (by simpa using h.d2)) (by simpa using h.d1)) 1 _]
    simp
  · refine heap_setCell_prev ?_ (by simpa using h.d1.symm)
    rw [Proofs.Ytnhhboikbbnklaa.heap_setCell_same (heap_setCell_prev h3 (by simpa using h.d3)) _ _, i64s_set]
  · refine heap_setCell_prev (heap_setCell_prev ?_ (by simpa using h.d3.symm)) (by simpa using h.d2.symm)
    rw [Proofs.Ytnhhboikbbnklaa.heap_setCell_same h.ins _ _, boolsOf_set]
theorem enterF_no {n : Nat} {l : List Nat} {m : Int} (h : ¬ (0 ≤ m ∧ m < n ∧ m.toNat ∉ l)) : enterF n l m = l := by unfold enterF; rw [if_neg h]
theorem enterF_yes {n : Nat} {l : List Nat} {m : Nat} (h1 : m < n) (h2 : m ∉ l) : enterF n l m = l ++ [m] := by
  unfold enterF; rw [if_pos ⟨by omega, by omega, by simpa using h2⟩]; simp
end Go.Proofs.Ytnhhboikbbnklaa
