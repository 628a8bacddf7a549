import Derived.Test.YtdbdkdekeicmhaaHeap2
import Derived.Lib.SmallJoins
namespace Go.Proofs.Ytdbdkdekeicmhaa
open Go.RowKit
set_option linter.unusedVariables false
set_option linter.unusedSimpArgs false

structure Node where
  reads : Bool
  set : List Int
  next : Int
  other : Int

def Node.wf (n : Node) : Prop := n.set.length = 4
def Node.cells (n : Node) : List Value := .bool n.reads :: (n.set.map (Value.int .u64) ++ [.int .i64 n.next, .int .i64 n.other])
def ncells (ns : List Node) : List Value := ns.flatMap Node.cells
def Nwf (ns : List Node) : Prop := ∀ n ∈ ns, n.wf
def plainNode : Node := ⟨false, zero4, -1, -1⟩

theorem Node.cells_len {n : Node} (h : n.wf) : n.cells.length = 7 := by
  unfold Node.wf at h; simp [Node.cells, h]
theorem ncells_len {ns : List Node} (h : Nwf ns) : (ncells ns).length = ns.length * 7 := by
  induction ns with
  | nil => rfl
  | cons n ns ih =>
    have h1 := Node.cells_len (h n (by simp))
    have h2 := ih (fun m hm => h m (by simp [hm]))
    simp only [ncells, List.flatMap_cons, List.length_append, List.length_cons] at h2 ⊢
    omega
theorem ncells_append (a b : List Node) : ncells (a ++ b) = ncells a ++ ncells b := by simp [ncells]
theorem Nwf_append {a b : List Node} (ha : Nwf a) (hb : Nwf b) : Nwf (a ++ b) := by
  intro n hn; rcases List.mem_append.1 hn with h | h
  · exact ha n h
  · exact hb n h
theorem plain_wf : plainNode.wf := rfl
theorem Node.cells_at {n : Node} (h : n.wf) (j : Nat) : n.cells[j]? = if j = 0 then some (.bool n.reads) else if j < 5 then some (.int .u64 (n.set.getD (j - 1) 0)) else if j = 5 then some (.int .i64 n.next) else if j = 6 then some (.int .i64 n.other) else none := by
  obtain ⟨a, b, c, d, e⟩ := four h
  unfold Node.cells
  rw [e]
  rcases j with _ | _ | _ | _ | _ | _ | _ | j <;> simp
theorem ncells_at {ns : List Node} (h : Nwf ns) (i j : Nat) (hi : i < ns.length) (hj : j < 7) : (ncells ns)[i * 7 + j]? = (ns[i]).cells[j]? := by
  induction ns generalizing i with
  | nil => simp at hi
  | cons n ns ih =>
    have h1 := Node.cells_len (h n (by simp))
    simp only [ncells, List.flatMap_cons]
    cases i with
    | zero => rw [List.getElem?_append_left (by omega)]; simp
    | succ i =>
      rw [List.getElem?_append_right (by omega), h1]
      have e : (i + 1) * 7 + j - 7 = i * 7 + j := by omega
      rw [e]
      exact ih (fun m hm => h m (by simp [hm])) i (by simpa using hi)
theorem ncells_set {ns : List Node} (h : Nwf ns) (i j : Nat) (hi : i < ns.length) (hj : j < 7) (u : Value) (f : Node → Node) (hf : ∀ n, n.wf → (f n).cells = n.cells.set j u) :
    (ncells ns).set (i * 7 + j) u = ncells (ns.modify i f) := by
  induction ns generalizing i with
  | nil => simp at hi
  | cons n ns ih =>
    have h1 := Node.cells_len (h n (by simp))
    cases i with
    | zero =>
      simp only [ncells, List.flatMap_cons, Nat.zero_mul, Nat.zero_add, List.modify_zero_cons]
      rw [List.set_append_left _ _ (by omega), hf n (h n (by simp))]
    | succ i =>
      simp only [List.modify_succ_cons]
      have e : (i + 1) * 7 + j = 7 + (i * 7 + j) := by omega
      have := ih (fun m hm => h m (by simp [hm])) i (by simpa using hi)
      simp only [ncells, List.flatMap_cons] at this ⊢
      rw [List.set_append_right _ _ (by omega), h1, e, Nat.add_sub_cancel_left, this]
theorem Nwf_modify {ns : List Node} (h : Nwf ns) (i : Nat) (f : Node → Node) (hf : ∀ n, n.wf → (f n).wf) : Nwf (ns.modify i f) := by
  induction ns generalizing i with
  | nil => simpa using h
  | cons n ns ih =>
    have h2 : Nwf ns := fun m hm => h m (by simp [hm])
    cases i with
    | zero =>
      intro m hm; simp at hm
      rcases hm with rfl | hm
      · exact hf n (h n (by simp))
      · exact h2 m hm
    | succ i =>
      intro m hm; simp at hm
      rcases hm with rfl | hm
      · exact h m (by simp)
      · exact ih h2 i m hm

def linkN (ns : List Node) (a b : Int) : List Node :=
  if a < 0 ∨ (ns.length : Int) ≤ a then ns
  else ns.modify a.toNat fun n => if n.next = -1 then { n with next := b } else { n with other := b }
theorem linkN_len (ns : List Node) (a b : Int) : (linkN ns a b).length = ns.length := by unfold linkN; split <;> simp
theorem linkN_wf {ns : List Node} (h : Nwf ns) (a b : Int) : Nwf (linkN ns a b) := by
  unfold linkN; split
  · exact h
  · exact Nwf_modify h _ _ (fun n hn => by split <;> exact hn)

/-- ownsRow over a store into the row. -/
theorem ownsRow_set {w : World} {base : Nat} {e : TypeId} {size : Nat} {v : Value} {n : Nat} {xs : List Value} (h : w.ownsRow base e size v n xs) {g : Nat} (hg : v.ownBlock = some g) (j : Nat) (u : Value) (hj : j < xs.length) :
    (w.setCell ⟨g, j, none⟩ u).ownsRow base e size v n (xs.set j u) := by
  obtain ⟨h1, h2⟩ := h
  refine ⟨by simpa using h1, ?_⟩
  rcases h2 with ⟨rfl, _⟩ | ⟨g', cap, cur, rfl, hb, hgg, hn, hc, hs, ht⟩
  · simp [Value.ownBlock] at hg
  · simp only [Value.ownBlock, Option.some.injEq] at hg
    subst hg
    refine .inr ⟨g', cap, cur.setIfInBounds j u, rfl, hb, Proofs.Ytdbdkdekeicmhaa.heap_setCell_same hgg j u, hn, hc, by simpa using hs, ?_⟩
    rw [Array.toList_setIfInBounds, ← ht, List.take_set]
theorem ownsRow_other {w w' : World} {base : Nat} {e : TypeId} {size : Nat} {v : Value} {n : Nat} {xs : List Value} (h : w.ownsRow base e size v n xs) (hk : ∀ g, v.ownBlock = some g → w'.heap[g]? = w.heap[g]?) :
    w'.ownsRow base e size v n xs := by
  obtain ⟨h1, h2⟩ := h
  refine ⟨h1, ?_⟩
  rcases h2 with h2 | ⟨g', cap, cur, rfl, hb, hgg, r⟩
  · exact .inl h2
  · exact .inr ⟨g', cap, cur, rfl, hb, (hk g' rfl).trans hgg, r⟩

/-- A builder lies at block bb; v is its slice of nodes. -/
structure BAt (w : World) (bb : Nat) (v : Value) (ns : List Node) : Prop where
  blk : w.heap[bb]? = some (.cells #[v] 90 (0, 0))
  own : w.ownsRow (bb + 1) 83 7 v ns.length (ncells ns)
  wf : Nwf ns

/-- The blocks that a builder takes. -/
def foot (bb : Nat) (v : Value) (k : Nat) : Prop := k = bb ∨ v.ownBlock = some k

/-- What a builder's method leaves. -/
structure BNext (w w' : World) (bb : Nat) (v v' : Value) (ns' : List Node) : Prop where
  at' : BAt w' bb v' ns'
  mod : Mod (foot bb v) w w'
  foot' : ∀ k, v'.ownBlock = some k → v.ownBlock = some k ∨ w.heap.size ≤ k

theorem BAt.lt {w : World} {bb : Nat} {v : Value} {ns : List Node} (h : BAt w bb v ns) : bb < w.heap.size := heap_lt h.blk
theorem BAt.own_lt {w : World} {bb : Nat} {v : Value} {ns : List Node} (h : BAt w bb v ns) : ∀ k, v.ownBlock = some k → bb < k ∧ k < w.heap.size := fun k hk => by
  have := h.own.lt k hk; omega
/-- A builder in a world that has turned elsewhere. -/
theorem BAt.kept {S : Nat → Prop} {w w' : World} {bb : Nat} {v : Value} {ns : List Node} (h : BAt w bb v ns) (hm : Mod S w w') (hs : ∀ k, foot bb v k → ¬ S k) : BAt w' bb v ns :=
  ⟨hm.at h.blk (hs bb (.inl rfl)), ownsRow_other h.own (fun g hg => hm.block g (h.own_lt g hg).2 (hs g (.inr hg))), h.wf⟩
theorem BNext.trans {a b c : World} {bb : Nat} {v v' v'' : Value} {ns' ns'' : List Node} (h : BNext a b bb v v' ns') (k : BNext b c bb v' v'' ns'') : BNext a c bb v v'' ns'' :=
  ⟨k.at', h.mod.trans' k.mod (fun i hi hf => by
      rcases hf with rfl | hf
      · exact .inl rfl
      · rcases h.foot' i hf with h1 | h1
        · exact .inr h1
        · omega),
   fun i hi => by
      rcases k.foot' i hi with h1 | h1
      · exact h.foot' i h1
      · right; have := h.mod.size; omega⟩
/-- Nothing but new blocks ahead. -/
theorem BNext.ahead {a b c : World} {bb : Nat} {v v' : Value} {ns' : List Node} (h : Fresh a b) (k : BNext b c bb v v' ns') : BNext a c bb v v' ns' :=
  ⟨k.at', ⟨k.mod.os.trans h.os, k.mod.tape.trans h.tape, k.mod.output.trans h.output, Nat.le_trans h.size k.mod.size, fun i hi hs => (k.mod.block i (Nat.lt_of_lt_of_le hi h.size) hs).trans (h.block i hi (fun x => x))⟩,
   fun i hi => by
      rcases k.foot' i hi with h1 | h1
      · exact .inl h1
      · right; have := h.size; omega⟩
theorem BNext.behind {a b c : World} {bb : Nat} {v v' : Value} {ns' : List Node} (h : BNext a b bb v v' ns') {S : Nat → Prop} (k : Mod S b c) (hS : ∀ i, S i → a.heap.size ≤ i) (hv : ∀ i, foot bb v' i → ¬ S i) : BNext a c bb v v' ns' :=
  ⟨h.at'.kept k hv, h.mod.trans' k (fun i hi hs => by have := hS i hs; omega), h.foot'⟩
theorem BNext.refl {w : World} {bb : Nat} {v : Value} {ns : List Node} (h : BAt w bb v ns) : BNext w w bb v v ns := ⟨h, Mod.refl _ _, fun _ h => .inl h⟩

theorem infoNode : (Try.prog.info? 83).map (fun i => (i.zero, i.size, i.bytes)) = some (some (.agg #[.bool false, .int .u64 0, .int .u64 0, .int .u64 0, .int .u64 0, .int .i64 0, .int .i64 0]), 7, 56) := by kernel_rfl
theorem infoNode' : ∃ i, Try.prog.info? 83 = some i ∧ i.zero = some (.agg #[.bool false, .int .u64 0, .int .u64 0, .int .u64 0, .int .u64 0, .int .i64 0, .int .i64 0]) ∧ i.size = 7 ∧ i.bytes = 56 := by
  have h := infoNode
  cases hq : Try.prog.info? 83 with
  | none => simp [hq] at h
  | some i => simp [hq] at h; exact ⟨i, rfl, h.1, h.2.1, h.2.2⟩
end Go.Proofs.Ytdbdkdekeicmhaa
