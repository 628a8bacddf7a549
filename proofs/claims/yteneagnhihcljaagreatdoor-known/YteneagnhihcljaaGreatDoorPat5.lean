import Derived.Test.YteneagnhihcljaaGreatDoorPat3
import Derived.Lib.SmallJoins
import Derived.ArgAppend
import Derived.Deep.RegionLawGrows
namespace Go.Proofs.YteneagnhihcljaaGreatDoor
open Go.RowKit
set_option linter.unusedVariables false
set_option linter.unusedSimpArgs false

theorem rSet_dot {s : ByteArray} {i : Int} (h : atB s i = 46) : rSet s i = (oppN (withF zero4 10 10) 4, i + 1, true) := by unfold rSet; rw [if_pos h]
theorem rSet_br {s : ByteArray} {i : Int} (h : atB s i = 91) : rSet s i = rBr s (i + 1) := by unfold rSet; rw [if_neg (by omega), if_pos h]
theorem rSet_mark {s : ByteArray} {i : Int} (h : atB s i = 92) : rSet s i = (withF zero4 (rMark s (i + 1)).1 (rMark s (i + 1)).1, (rMark s (i + 1)).2.1, (rMark s (i + 1)).2.2) := by
  unfold rSet; rw [if_neg (by omega), if_neg (by omega), if_pos h]
theorem plain_ne {c : Int} (h : isPlainB c = true) : c ≠ 46 ∧ c ≠ 91 ∧ c ≠ 92 ∧ c ≠ 40 ∧ 32 ≤ c := by
  unfold isPlainB isPrB at h; simp at h; omega
theorem rSet_plain {s : ByteArray} {i : Int} (h : isPlainB (atB s i) = true) : rSet s i = (withF zero4 (atB s i) (atB s i), i + 1, true) := by
  obtain ⟨h1, h2, h3, _⟩ := plain_ne h
  unfold rSet; rw [if_neg h1, if_neg h2, if_neg h3, if_neg (by simp [h])]
theorem rSet_no {s : ByteArray} {i : Int} (h1 : atB s i ≠ 46) (h2 : atB s i ≠ 91) (h3 : atB s i ≠ 92) (h : isPlainB (atB s i) = false) : rSet s i = (zero4, i, false) := by
  unfold rSet; rw [if_neg h1, if_neg h2, if_neg h3, if_pos h]

abbrev setRet (r : List Int × Int × Bool) : Value := .tuple #[.agg (u64s r.1), .int .i64 r.2.1, .bool r.2.2]

set_option maxHeartbeats 1000000 in
theorem readSet_dot (s : ByteArray) (i : Int) (w : World) (hs : s.size ≤ 1000) (h0 : 0 ≤ i) (h1 : i ≤ 2000) (hc : atB s i = 46) :
    Calls Tryz.prog 102 #[.string s, .int .i64 i] w fun e w' => e = .returned (setRet (rSet s i)) ∧ Fresh w w' := by
  rw [rSet_dot hc]
  have c1 : (atB s i == 46) = true := by simpa using hc
  have HL0 : Hid ((withF zero4 10 10).length = 4) := withF_len _ _ _
  have HL : Hid ((oppN (withF zero4 10 10) 4).length = 4) := oppN_len' _ (withF_len _ _ _)
  clear hc
  go_enter Tryz.func102, Tryz.ntmps102
  go_wp2_with (first
    | (go_at_call 62; refine (at_any _ _ _ (by unfold maxLen; omega)).mono ?_; rintro e w' ⟨rfl, rfl⟩)
    | (go_at_call 105; refine (single_any _ _ (by omega) (by omega)).mono ?_; rintro e w1 ⟨rfl, hf1⟩; have hz : w.heap.size < w1.heap.size := (by have := hf1.size; simp at this; omega))
    | (go_at_call 106; refine (opp_any _ _ HL0.out).mono ?_; rintro e w2 ⟨rfl, hf2⟩)
    | (refine wpList_store_new rfl _ _ _ rfl w1 _ _ _ rfl rfl rfl (szOf _ HL0.out) (eq4 rfl (u4 HL0.out)) (u64s_one _) ?_)
    | (refine wpList_load_row rfl _ _ rfl w1.heap.size rfl _ _ _ _ (heap_alloc_at _ _) Tryz.underlying152 rfl (szOf _ HL0.out) ?_)
    | (refine wpList_store_row rfl _ _ _ rfl w.heap.size _ rfl rfl _ _ (hf2.at (heap_alloc_prev (hf1.at (heap_alloc_at _ _) (fun x => x))) (fun x => x)) (szOf _ HL.out) (eq4 rfl (u4 HL.out)) (u64s_one _) ?_))
  refine bodyPost_ret (results_row2 rfl _ _ w.heap.size 152 _ (0, 0) _ rfl (setRow_heap _ _ _ _ _ _ (hf2.at (heap_alloc_prev (hf1.at (heap_alloc_at _ _) (fun x => x))) (fun x => x))) Tryz.underlying152 rfl (szOf _ HL.out)) rfl ⟨rfl, ?_⟩
  exact ((((((Mod.refl _ w).alloc _).trans hf1).alloc _).trans hf2).setRow (by simp) _)

set_option maxHeartbeats 1000000 in
theorem readSet_br (s : ByteArray) (i : Int) (w : World) (hs : s.size ≤ 1000) (h0 : 0 ≤ i) (h1 : i ≤ 2000) (hc : atB s i = 91) :
    Calls Tryz.prog 102 #[.string s, .int .i64 i] w fun e w' => e = .returned (setRet (rSet s i)) ∧ Fresh w w' := by
  rw [rSet_br hc]
  have hlt := atB_lt (s := s) (i := i) (by omega)
  have c0 : (atB s i == 46) = false := by simp [hc]
  have c1 : (atB s i == 91) = true := by simpa using hc
  have HL : Hid ((rBr s (i + 1)).1.length = 4) := rBr_len _ _
  clear hc
  go_enter Tryz.func102, Tryz.ntmps102
  go_wp2_with (first
    | (go_at_call 62; refine (at_any _ _ _ (by unfold maxLen; omega)).mono ?_; rintro e w' ⟨rfl, rfl⟩)
    | (go_at_call 107; refine (readBr_any _ _ _ (by omega) (by omega) (by omega)).mono ?_; rintro e w1 ⟨rfl, hf1⟩)
    | (refine wpList_store_row rfl _ _ _ rfl w.heap.size _ rfl rfl _ _ (hf1.at (heap_alloc_at _ _) (fun x => x)) (szOf _ HL.out) (eq4 rfl (u4 HL.out)) (u64s_one _) ?_))
  refine bodyPost_ret (results_row2 rfl _ _ w.heap.size 152 _ (0, 0) _ rfl (setRow_heap _ _ _ _ _ _ (hf1.at (heap_alloc_at _ _) (fun x => x))) Tryz.underlying152 rfl (szOf _ HL.out)) rfl ⟨rfl, ?_⟩
  exact ((((Mod.refl _ w).alloc _).trans hf1).setRow (by simp) _)

set_option maxHeartbeats 1000000 in
theorem readSet_mark (s : ByteArray) (i : Int) (w : World) (hs : s.size ≤ 1000) (h0 : 0 ≤ i) (h1 : i ≤ 2000) (hc : atB s i = 92) :
    Calls Tryz.prog 102 #[.string s, .int .i64 i] w fun e w' => e = .returned (setRet (rSet s i)) ∧ Fresh w w' := by
  rw [rSet_mark hc]
  obtain ⟨m1, m2, m3, m4, m5⟩ := rMark_bd s (i + 1) (by omega)
  have c0 : (atB s i == 46) = false := by simp [hc]
  have c2 : (atB s i == 91) = false := by simp [hc]
  have c1 : (atB s i == 92) = true := by simpa using hc
  have HL : Hid ((withF zero4 (rMark s (i + 1)).1 (rMark s (i + 1)).1).length = 4) := withF_len _ _ _
  clear hc m5
  go_enter Tryz.func102, Tryz.ntmps102
  go_wp2_with (first
    | (go_at_call 62; refine (at_any _ _ _ (by unfold maxLen; omega)).mono ?_; rintro e w' ⟨rfl, rfl⟩)
    | (go_at_call 108; refine (readMark_any _ _ _ (by omega) (by omega) (by omega)).mono ?_; rintro e w' ⟨rfl, rfl⟩)
    | (go_at_call 105; refine (single_any _ _ (by omega) (by omega)).mono ?_; rintro e w1 ⟨rfl, hf1⟩)
    | (refine wpList_store_row rfl _ _ _ rfl w.heap.size _ rfl rfl _ _ (hf1.at (heap_alloc_at _ _) (fun x => x)) (szOf _ HL.out) (eq4 rfl (u4 HL.out)) (u64s_one _) ?_))
  refine bodyPost_ret (results_row2 rfl _ _ w.heap.size 152 _ (0, 0) _ rfl (setRow_heap _ _ _ _ _ _ (hf1.at (heap_alloc_at _ _) (fun x => x))) Tryz.underlying152 rfl (szOf _ HL.out)) rfl ⟨rfl, ?_⟩
  exact ((((Mod.refl _ w).alloc _).trans hf1).setRow (by simp) _)

set_option maxHeartbeats 1000000 in
theorem readSet_plain (s : ByteArray) (i : Int) (w : World) (hs : s.size ≤ 1000) (h0 : 0 ≤ i) (h1 : i ≤ 2000) (hc : isPlainB (atB s i) = true) :
    Calls Tryz.prog 102 #[.string s, .int .i64 i] w fun e w' => e = .returned (setRet (rSet s i)) ∧ Fresh w w' := by
  rw [rSet_plain hc]
  obtain ⟨p1, p2, p3, p4, p5⟩ := plain_ne hc
  obtain ⟨b1, b2⟩ := atB_bd s i
  have c0 : (atB s i == 46) = false := by simpa using p1
  have c2 : (atB s i == 91) = false := by simpa using p2
  have c1 : (atB s i == 92) = false := by simpa using p3
  have HL : Hid ((withF zero4 (atB s i) (atB s i)).length = 4) := withF_len _ _ _
  clear p1 p2 p3 p4
  go_enter Tryz.func102, Tryz.ntmps102
  go_wp2_with (first
    | (go_at_call 62; refine (at_any _ _ _ (by unfold maxLen; omega)).mono ?_; rintro e w' ⟨rfl, rfl⟩)
    | (go_at_call 100; refine (isPlain_any _ _).mono ?_; rintro e w' ⟨rfl, rfl⟩)
    | (go_at_call 105; refine (single_any _ _ (by omega) (by omega)).mono ?_; rintro e w1 ⟨rfl, hf1⟩)
    | (refine wpList_store_row rfl _ _ _ rfl w.heap.size _ rfl rfl _ _ (hf1.at (heap_alloc_at _ _) (fun x => x)) (szOf _ HL.out) (eq4 rfl (u4 HL.out)) (u64s_one _) ?_))
  refine bodyPost_ret (results_row2 rfl _ _ w.heap.size 152 _ (0, 0) _ rfl (setRow_heap _ _ _ _ _ _ (hf1.at (heap_alloc_at _ _) (fun x => x))) Tryz.underlying152 rfl (szOf _ HL.out)) rfl ⟨rfl, ?_⟩
  exact ((((Mod.refl _ w).alloc _).trans hf1).setRow (by simp) _)

set_option maxHeartbeats 1000000 in
theorem readSet_no (s : ByteArray) (i : Int) (w : World) (hs : s.size ≤ 1000) (h0 : 0 ≤ i) (h1 : i ≤ 2000) (p1 : atB s i ≠ 46) (p2 : atB s i ≠ 91) (p3 : atB s i ≠ 92) (hc : isPlainB (atB s i) = false) :
    Calls Tryz.prog 102 #[.string s, .int .i64 i] w fun e w' => e = .returned (setRet (rSet s i)) ∧ Fresh w w' := by
  rw [rSet_no p1 p2 p3 hc]
  have c0 : (atB s i == 46) = false := by simpa using p1
  have c2 : (atB s i == 91) = false := by simpa using p2
  have c1 : (atB s i == 92) = false := by simpa using p3
  clear p1 p2 p3
  go_enter Tryz.func102, Tryz.ntmps102
  go_wp2_with (first
    | (go_at_call 62; refine (at_any _ _ _ (by unfold maxLen; omega)).mono ?_; rintro e w' ⟨rfl, rfl⟩)
    | (go_at_call 100; refine (isPlain_any _ _).mono ?_; rintro e w' ⟨rfl, rfl⟩)
    | (refine wpList_store_row rfl _ _ _ rfl _ (u64s zero4) rfl rfl _ _ (heap_alloc_at _ _) szSet rfl (u64s_one _) ?_))
  refine bodyPost_ret (results_row2 rfl _ _ _ 152 (u64s zero4) (0, 0) _ rfl (setRow_heap _ _ _ _ _ _ (heap_alloc_at _ _)) Tryz.underlying152 rfl szSet) rfl ⟨rfl, ?_⟩
  exact ((Mod.refl _ _).alloc _).setRow (by simp) _

theorem readSet_any (s : ByteArray) (i : Int) (w : World) (hs : s.size ≤ 1000) (h0 : 0 ≤ i) (h1 : i ≤ 2000) :
    Calls Tryz.prog 102 #[.string s, .int .i64 i] w fun e w' => e = .returned (setRet (rSet s i)) ∧ Fresh w w' := by
  by_cases a1 : atB s i = 46
  · exact readSet_dot s i w hs h0 h1 a1
  · by_cases a2 : atB s i = 91
    · exact readSet_br s i w hs h0 h1 a2
    · by_cases a3 : atB s i = 92
      · exact readSet_mark s i w hs h0 h1 a3
      · cases a4 : isPlainB (atB s i)
        · exact readSet_no s i w hs h0 h1 a1 a2 a3 a4
        · exact readSet_plain s i w hs h0 h1 a4

def hasB (ws : List Int) (c : Nat) : Bool := bits BinOp.and IntKind.u64 (ws[c / 64]?.getD 0 / 2 ^ (c % 64)) 1 == 1

set_option maxHeartbeats 1000000 in
theorem has_any (ws : List Int) (c : Nat) (w : World) (hl : ws.length = 4) (h1 : c ≤ 255) :
    Calls Tryz.prog 76 #[.agg (u64s ws), .int .u8 c] w fun e w' => e = .returned (.bool (hasB ws c)) ∧ Fresh w w' := by
  obtain ⟨a, b, c1, d, hws⟩ := four hl
  have HW : Hid (ws = [a, b, c1, d]) := hws
  have e1 : u64s ws = #[.int .u64 a, .int .u64 b, .int .u64 c1, .int .u64 d] := by rw [hws]; rfl
  have hcell : [Value.int .u64 a, .int .u64 b, .int .u64 c1, .int .u64 d][c / 64]? = some (.int .u64 (ws.getD (c / 64) 0)) := by
    have := u64s_at ws (c / 64) (by omega)
    rw [e1] at this; simpa using this
  rw [e1]
  clear hws e1 hl
  go_enter Tryz.func76, Tryz.ntmps76
  go_wp2
  go_ret
  exact ⟨rfl, (Mod.refl _ _).alloc _⟩
end Go.Proofs.YteneagnhihcljaaGreatDoor
namespace Go.Proofs.YteneagnhihcljaaGreatDoor
open Go.RowKit
set_option linter.unusedVariables false
set_option linter.unusedSimpArgs false

structure Node where
  reads : Bool
  set : List Int
  next : Int
  other : Int

def Node.wf (n : Node) : Prop := n.set.length = 4
def Node.cells (n : Node) : List Value := .bool n.reads :: (n.set.map (Value.int .u64) ++ [.int .i64 n.next, .int .i64 n.other])
def ncells (ns : List Node) : List Value := ns.flatMap Node.cells
def Nwf (ns : List Node) : Prop := ∀ n ∈ ns, n.wf
def plainNode : Node := ⟨false, zero4, -1, -1⟩

theorem Node.cells_len {n : Node} (h : n.wf) : n.cells.length = 7 := by
  unfold Node.wf at h; simp [Node.cells, h]
theorem ncells_len {ns : List Node} (h : Nwf ns) : (ncells ns).length = ns.length * 7 := by
  induction ns with
  | nil => rfl
  | cons n ns ih =>
    have h1 := Node.cells_len (h n (by simp))
    have h2 := ih (fun m hm => h m (by simp [hm]))
    simp only [ncells, List.flatMap_cons, List.length_append, List.length_cons] at h2 ⊢
    omega
theorem Nwf_append {a b : List Node} (ha : Nwf a) (hb : Nwf b) : Nwf (a ++ b) := by
  intro n hn; rcases List.mem_append.1 hn with h | h
  · exact ha n h
  · exact hb n h
theorem plain_wf : plainNode.wf := rfl
theorem Node.cells_at {n : Node} (h : n.wf) (j : Nat) : n.cells[j]? = if j = 0 then some (.bool n.reads) else if j < 5 then some (.int .u64 (n.set.getD (j - 1) 0)) else if j = 5 then some (.int .i64 n.next) else if j = 6 then some (.int .i64 n.other) else none := by
  obtain ⟨a, b, c, d, e⟩ := four h
  unfold Node.cells
  rw [e]
  rcases j with _ | _ | _ | _ | _ | _ | _ | j <;> simp
theorem ncells_at {ns : List Node} (h : Nwf ns) (i j : Nat) (hi : i < ns.length) (hj : j < 7) : (ncells ns)[i * 7 + j]? = (ns[i]).cells[j]? := by
  induction ns generalizing i with
  | nil => simp at hi
  | cons n ns ih =>
    have h1 := Node.cells_len (h n (by simp))
    simp only [ncells, List.flatMap_cons]
    cases i with
    | zero => rw [List.getElem?_append_left (by omega)]; simp
    | succ i =>
      rw [List.getElem?_append_right (by omega), h1]
      have e : (i + 1) * 7 + j - 7 = i * 7 + j := by omega
      rw [e]
      exact ih (fun m hm => h m (by simp [hm])) i (by simpa using hi)
theorem ncells_set {ns : List Node} (h : Nwf ns) (i j : Nat) (hi : i < ns.length) (hj : j < 7) (u : Value) (f : Node → Node) (hf : ∀ n, n.wf → (f n).cells = n.cells.set j u) :
    (ncells ns).set (i * 7 + j) u = ncells (ns.modify i f) := by
  induction ns generalizing i with
  | nil => simp at hi
  | cons n ns ih =>
    have h1 := Node.cells_len (h n (by simp))
    cases i with
    | zero =>
      simp only [ncells, List.flatMap_cons, Nat.zero_mul, Nat.zero_add, List.modify_zero_cons]
      rw [List.set_append_left _ _ (by omega), hf n (h n (by simp))]
    | succ i =>
      simp only [List.modify_succ_cons]
      have e : (i + 1) * 7 + j = 7 + (i * 7 + j) := by omega
      have := ih (fun m hm => h m (by simp [hm])) i (by simpa using hi)
      simp only [ncells, List.flatMap_cons] at this ⊢
      rw [List.set_append_right _ _ (by omega), h1, e, Nat.add_sub_cancel_left, this]
theorem Nwf_modify {ns : List Node} (h : Nwf ns) (i : Nat) (f : Node → Node) (hf : ∀ n, n.wf → (f n).wf) : Nwf (ns.modify i f) := by
  induction ns generalizing i with
  | nil => simpa using h
  | cons n ns ih =>
    have h2 : Nwf ns := fun m hm => h m (by simp [hm])
    cases i with
    | zero =>
      intro m hm; simp at hm
      rcases hm with rfl | hm
      · exact hf n (h n (by simp))
      · exact h2 m hm
    | succ i =>
      intro m hm; simp at hm
      rcases hm with rfl | hm
      · exact h m (by simp)
      · exact ih h2 i m hm

def linkN (ns : List Node) (a b : Int) : List Node :=
  if a < 0 ∨ (ns.length : Int) ≤ a then ns
  else ns.modify a.toNat fun n => if n.next = -1 then { n with next := b } else { n with other := b }
theorem linkN_len (ns : List Node) (a b : Int) : (linkN ns a b).length = ns.length := by unfold linkN; split <;> simp
/-- ownsRow over a store into the row. -/
theorem ownsRow_set {w : World} {base : Nat} {e : TypeId} {size : Nat} {v : Value} {n : Nat} {xs : List Value} (h : w.ownsRow base e size v n xs) {g : Nat} (hg : v.ownBlock = some g) (j : Nat) (u : Value) (hj : j < xs.length) :
    (w.setCell ⟨g, j, none⟩ u).ownsRow base e size v n (xs.set j u) := by
  obtain ⟨h1, h2⟩ := h
  refine ⟨by simpa using h1, ?_⟩
  rcases h2 with ⟨rfl, _⟩ | ⟨g', cap, cur, rfl, hb, hgg, hn, hc, hs, ht⟩
  · simp [Value.ownBlock] at hg
  · simp only [Value.ownBlock, Option.some.injEq] at hg
    subst hg
    refine .inr ⟨g', cap, cur.setIfInBounds j u, rfl, hb, Proofs.YteneagnhihcljaaGreatDoor.heap_setCell_same hgg j u, hn, hc, by simpa using hs, ?_⟩
    rw [Array.toList_setIfInBounds, ← ht, List.take_set]
theorem ownsRow_other {w w' : World} {base : Nat} {e : TypeId} {size : Nat} {v : Value} {n : Nat} {xs : List Value} (h : w.ownsRow base e size v n xs) (hk : ∀ g, v.ownBlock = some g → w'.heap[g]? = w.heap[g]?) :
    w'.ownsRow base e size v n xs := by
  obtain ⟨h1, h2⟩ := h
  refine ⟨h1, ?_⟩
  rcases h2 with h2 | ⟨g', cap, cur, rfl, hb, hgg, r⟩
  · exact .inl h2
  · exact .inr ⟨g', cap, cur, rfl, hb, (hk g' rfl).trans hgg, r⟩

/-- A builder lies at block bb; v is its slice of nodes. -/
structure BAt (w : World) (bb : Nat) (v : Value) (ns : List Node) : Prop where
  blk : w.heap[bb]? = some (.cells #[v] 164 (0, 0))
  own : w.ownsRow (bb + 1) 154 7 v ns.length (ncells ns)
  wf : Nwf ns

/-- The blocks that a builder takes. -/
def foot (bb : Nat) (v : Value) (k : Nat) : Prop := k = bb ∨ v.ownBlock = some k

/-- What a builder's method leaves. -/
structure BNext (w w' : World) (bb : Nat) (v v' : Value) (ns' : List Node) : Prop where
  at' : BAt w' bb v' ns'
  mod : Mod (foot bb v) w w'
  foot' : ∀ k, v'.ownBlock = some k → v.ownBlock = some k ∨ w.heap.size ≤ k

theorem BAt.lt {w : World} {bb : Nat} {v : Value} {ns : List Node} (h : BAt w bb v ns) : bb < w.heap.size := heap_lt h.blk
theorem BAt.own_lt {w : World} {bb : Nat} {v : Value} {ns : List Node} (h : BAt w bb v ns) : ∀ k, v.ownBlock = some k → bb < k ∧ k < w.heap.size := fun k hk => by
  have := h.own.lt k hk; omega
/-- A builder in a world that has turned elsewhere. -/
theorem BAt.kept {S : Nat → Prop} {w w' : World} {bb : Nat} {v : Value} {ns : List Node} (h : BAt w bb v ns) (hm : Mod S w w') (hs : ∀ k, foot bb v k → ¬ S k) : BAt w' bb v ns :=
  ⟨hm.at h.blk (hs bb (.inl rfl)), ownsRow_other h.own (fun g hg => hm.block g (h.own_lt g hg).2 (hs g (.inr hg))), h.wf⟩
theorem BNext.trans {a b c : World} {bb : Nat} {v v' v'' : Value} {ns' ns'' : List Node} (h : BNext a b bb v v' ns') (k : BNext b c bb v' v'' ns'') : BNext a c bb v v'' ns'' :=
  ⟨k.at', h.mod.trans' k.mod (fun i hi hf => by
      rcases hf with rfl | hf
      · exact .inl rfl
      · rcases h.foot' i hf with h1 | h1
        · exact .inr h1
        · omega),
   fun i hi => by
      rcases k.foot' i hi with h1 | h1
      · exact h.foot' i h1
      · right; have := h.mod.size; omega⟩
/-- Nothing but new blocks ahead. -/
theorem BNext.ahead {a b c : World} {bb : Nat} {v v' : Value} {ns' : List Node} (h : Fresh a b) (k : BNext b c bb v v' ns') : BNext a c bb v v' ns' :=
  ⟨k.at', ⟨k.mod.os.trans h.os, k.mod.tape.trans h.tape, k.mod.output.trans h.output, Nat.le_trans h.size k.mod.size, fun i hi hs => (k.mod.block i (Nat.lt_of_lt_of_le hi h.size) hs).trans (h.block i hi (fun x => x))⟩,
   fun i hi => by
      rcases k.foot' i hi with h1 | h1
      · exact .inl h1
      · right; have := h.size; omega⟩
theorem BNext.behind {a b c : World} {bb : Nat} {v v' : Value} {ns' : List Node} (h : BNext a b bb v v' ns') {S : Nat → Prop} (k : Mod S b c) (hS : ∀ i, S i → a.heap.size ≤ i) (hv : ∀ i, foot bb v' i → ¬ S i) : BNext a c bb v v' ns' :=
  ⟨h.at'.kept k hv, h.mod.trans' k (fun i hi hs => by have := hS i hs; omega), h.foot'⟩
theorem BNext.refl {w : World} {bb : Nat} {v : Value} {ns : List Node} (h : BAt w bb v ns) : BNext w w bb v v ns := ⟨h, Mod.refl _ _, fun _ h => .inl h⟩

theorem infoNode : (Tryz.prog.info? 154).map (fun i => (i.zero, i.size, i.bytes)) = some (some (.agg #[.bool false, .int .u64 0, .int .u64 0, .int .u64 0, .int .u64 0, .int .i64 0, .int .i64 0]), 7, 56) := by kernel_rfl
theorem infoNode' : ∃ i, Tryz.prog.info? 154 = some i ∧ i.zero = some (.agg #[.bool false, .int .u64 0, .int .u64 0, .int .u64 0, .int .u64 0, .int .i64 0, .int .i64 0]) ∧ i.size = 7 ∧ i.bytes = 56 := by
  have h := infoNode
  cases hq : Tryz.prog.info? 154 with
  | none => simp [hq] at h
  | some i => simp [hq] at h; exact ⟨i, rfl, h.1, h.2.1, h.2.2⟩
end Go.Proofs.YteneagnhihcljaaGreatDoor
namespace Go.Proofs.YteneagnhihcljaaGreatDoor
open Go.RowKit
set_option linter.unusedVariables false
set_option linter.unusedSimpArgs false

section
variable {P : Program} (w : World)

theorem grownBy_mono {w w' : World} (h : w.grownBy w' none) (row : Option Nat) : w.grownBy w' row :=
  ⟨h.os, h.tape, h.output, h.size, fun k hk _ => h.block k hk (by simp)⟩
theorem ownsRow_base {w : World} {b b' : Nat} {e : TypeId} {size : Nat} {v : Value} {n : Nat} {xs : List Value} (h : w.ownsRow b e size v n xs) (hb : b' ≤ b) : w.ownsRow b' e size v n xs := by
  refine ⟨h.1, ?_⟩
  rcases h.2 with h2 | ⟨g, cap, cur, h1, h2, r⟩
  · exact .inl h2
  · exact .inr ⟨g, cap, cur, h1, by omega, r⟩

/-- An append onto a row of one's own: where the row lies behind it is told besides. -/
theorem run_append_mine (base : Nat) (t ty e : TypeId) (i : TypeInfo) (z : Value) (size bytes : Nat) (ht : P.underlying t = some (.slice e)) (hi : P.info? e = some i) (hz : i.zero = some z)
    (hsize : i.size = size) (hby : i.bytes = bytes) (hzs : z.cells.size = size) (hsz : 0 < size)
    (v : Value) (n : Nat) (xs : List Value) (hown : w.ownsRow base e size v n xs)
    (a : Addr) (m c : Nat) (news : List Value) (hl : news.length = m * size) (hnews : ∀ j u, news[j]? = some u → w.cell? (a.add j) = some u) (h1 : ∀ u ∈ news, u.oneCell' = true)
    (h63 : n + m ≤ maxLen) (hbytes : (n + m) * bytes ≤ 140737488355328) (hbase : base ≤ w.heap.size) :
    ∃ v' w', (Builtin.append_ #[t, t] ty #[v, .slice (some a) m c]).run P w = .ok v' w' ∧ w'.ownsRow base e size v' (n + m) (xs ++ news) ∧ w.grownBy w' v.ownBlock ∧
      (∀ k, v'.ownBlock = some k → v.ownBlock = some k ∨ w.heap.size ≤ k) := by
  rcases hown.2 with ⟨rfl, rfl⟩ | ⟨g, cap, cur, rfl, hbg, hg, hnc, hcm, hcs, htake⟩
  · have hx : xs = [] := List.eq_nil_of_length_eq_zero (by simpa using hown.1)
    subst hx
    obtain ⟨v', w', hr, h2, h3, _⟩ := run_append_own (P := P) w w.heap.size t ty e i z size bytes ht hi hz hsize hby hzs hsz _ 0 [] (World.ownsRow_nil w _ e size) a m c news hl hnews h1 h63 hbytes (Nat.le_refl _)
    exact ⟨v', w', hr, ownsRow_base h2 hbase, h3, fun k hk => .inr (h2.lt k hk).1⟩
  · by_cases hroom : n + m ≤ cap
    · obtain ⟨v', w', hr, h2, h3, _⟩ := run_append_own (P := P) w base t ty e i z size bytes ht hi hz hsize hby hzs hsz _ n xs hown a m c news hl hnews h1 h63 hbytes hbase
      subst hsize
      have hfit : n * i.size + news.length ≤ cur.size := by rw [hl, hcs, ← Nat.add_mul]; exact Nat.mul_le_mul_right _ hroom
      have hr' := run_append_room (P := P) w t ty e i ht hi g n cap cur hg a m c news hl hnews h1 hroom hfit
      rw [hr] at hr'
      injection hr' with e1 e2
      exact ⟨v', w', hr, h2, h3, fun k hk => by rw [e1] at hk; exact .inl hk⟩
    · have holds : ∀ j u, xs[j]? = some u → w.cell? ((⟨g, 0, none⟩ : Addr).add j) = some u := hown.cells (g := g) rfl
      obtain ⟨v', w', hr, h2, h3⟩ := run_append_arg_grows (P := P) w t ty e i z size bytes ht hi hz hsize hby hzs hsz ⟨g, 0, none⟩ n cap xs hown.1 holds a m c news hl hnews (by omega) h63 hbytes
      exact ⟨v', w', hr, ownsRow_base h2 hbase, grownBy_mono h3 _, fun k hk => .inr (h2.lt k hk).1⟩

theorem wp_append_mine {o : Oper} {a : Act} {K : Act → World → Prop} {Q : Exit → Act → World → Prop} (s x : Operand) (t : TypeId)
    (ho : o.op = .call { callee := .builtin .append, args := #[s, x], argTypes := #[t, t] })
    (base : Nat) (e : TypeId) (i : TypeInfo) (z : Value) (size bytes : Nat) (ht : P.underlying t = some (.slice e)) (hi : P.info? e = some i) (hz : i.zero = some z)
    (hsize : i.size = size) (hby : i.bytes = bytes) (hzs : z.cells.size = size) (hsz : 0 < size)
    (v : Value) (n : Nat) (xs : List Value) (hs : a.eval s = v) (hown : w.ownsRow base e size v n xs)
    (ad : Addr) (m c : Nat) (news : List Value) (hx : a.eval x = .slice (some ad) m c) (hl : news.length = m * size) (hnews : ∀ j u, news[j]? = some u → w.cell? (ad.add j) = some u) (h1 : ∀ u ∈ news, u.oneCell' = true)
    (h63 : n + m ≤ maxLen) (hbytes : (n + m) * bytes ≤ 140737488355328) (hbase : base ≤ w.heap.size)
    (h : ∀ v' w', w'.ownsRow base e size v' (n + m) (xs ++ news) → w.grownBy w' v.ownBlock → (∀ k, v'.ownBlock = some k → v.ownBlock = some k ∨ w.heap.size ≤ k) → K (a.put o.dst v') w') : o.wp P a w K Q := by
  obtain ⟨v', w', hr, h2, h3, h4⟩ := run_append_mine (P := P) w base t o.type e i z size bytes ht hi hz hsize hby hzs hsz v n xs hown ad m c news hl hnews h1 h63 hbytes hbase
  unfold Oper.wp execOp
  simp only [ho, resolve, invoke, builtin, Sem.run_bind, Sem.run_pure, Result.andThen_ok, List.map_toArray, List.map_cons, List.map_nil, hs, hx, hr]
  exact h v' w' h2 h3 h4

theorem wpList_append_mine {ops : Array Oper} {rest : List Oper} {o : Oper} {a : Act} {Q : Exit → Act → World → Prop} (hgd : o.guard = none) (s x : Operand) (t : TypeId)
    (ho : o.op = .call { callee := .builtin .append, args := #[s, x], argTypes := #[t, t] })
    (base : Nat) (e : TypeId) (i : TypeInfo) (z : Value) (size bytes : Nat) (ht : P.underlying t = some (.slice e)) (hi : P.info? e = some i) (hz : i.zero = some z)
    (hsize : i.size = size) (hby : i.bytes = bytes) (hzs : z.cells.size = size) (hsz : 0 < size)
    (v : Value) (n : Nat) (xs : List Value) (hs : a.eval s = v) (hown : w.ownsRow base e size v n xs)
    (ad : Addr) (m c : Nat) (news : List Value) (hx : a.eval x = .slice (some ad) m c) (hl : news.length = m * size) (hnews : ∀ j u, news[j]? = some u → w.cell? (ad.add j) = some u) (h1 : ∀ u ∈ news, u.oneCell' = true)
    (h63 : n + m ≤ maxLen) (hbytes : (n + m) * bytes ≤ 140737488355328) (hbase : base ≤ w.heap.size)
    (h : ∀ v' w', w'.ownsRow base e size v' (n + m) (xs ++ news) → w.grownBy w' v.ownBlock → (∀ k, v'.ownBlock = some k → v.ownBlock = some k ∨ w.heap.size ≤ k) → wpList P ops Q rest (a.put o.dst v') w') : wpList P ops Q (o :: rest) a w :=
  wpList_plain hgd fun _ hK => wp_append_mine w s x t ho base e i z size bytes ht hi hz hsize hby hzs hsz v n xs hs hown ad m c news hx hl hnews h1 h63 hbytes hbase fun v' w' h2 h3 h4 => hK _ _ (h v' w' h2 h3 h4)

/-- The same as one step of a region that draws its order. -/
theorem step_append_mine {ops : Array Oper} {o : Oper} {a : Act} {K : Act → World → Prop} {Q : Exit → Act → World → Prop} {E : Prop} (hgd : o.guard = none) (s x : Operand) (t : TypeId)
    (ho : o.op = .call { callee := .builtin .append, args := #[s, x], argTypes := #[t, t] })
    (base : Nat) (e : TypeId) (i : TypeInfo) (z : Value) (size bytes : Nat) (ht : P.underlying t = some (.slice e)) (hi : P.info? e = some i) (hz : i.zero = some z)
    (hsize : i.size = size) (hby : i.bytes = bytes) (hzs : z.cells.size = size) (hsz : 0 < size)
    (v : Value) (n : Nat) (xs : List Value) (hs : a.eval s = v) (hown : w.ownsRow base e size v n xs)
    (ad : Addr) (m c : Nat) (news : List Value) (hx : a.eval x = .slice (some ad) m c) (hl : news.length = m * size) (hnews : ∀ j u, news[j]? = some u → w.cell? (ad.add j) = some u) (h1 : ∀ u ∈ news, u.oneCell' = true)
    (h63 : n + m ≤ maxLen) (hbytes : (n + m) * bytes ≤ 140737488355328) (hbase : base ≤ w.heap.size)
    (h : ∀ v' w', w'.ownsRow base e size v' (n + m) (xs ++ news) → w.grownBy w' v.ownBlock → (∀ k, v'.ownBlock = some k → v.ownBlock = some k ∨ w.heap.size ≤ k) → K (a.put o.dst v') w') :
    if Region.wanted o (yielded ops a.tmps) = true then Oper.wp P o a w K Q else E := by
  have hw : Region.wanted o (yielded ops a.tmps) = true := by simp [Region.wanted, hgd]
  rw [if_pos hw]
  exact wp_append_mine w s x t ho base e i z size bytes ht hi hz hsize hby hzs hsz v n xs hs hown ad m c news hx hl hnews h1 h63 hbytes hbase h
end
end Go.Proofs.YteneagnhihcljaaGreatDoor
