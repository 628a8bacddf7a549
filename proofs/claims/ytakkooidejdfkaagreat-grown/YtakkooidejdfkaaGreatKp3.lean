import Derived.Test.YtakkooidejdfkaaGreatKp1
import Derived.Test.YtakkooidejdfkaaGreatApp
namespace Go.Proofs.YtakkooidejdfkaaGreat
open Go.RowKit
set_option linter.unusedVariables false
set_option linter.unusedSimpArgs false

/-- One row of an object: its slice, its elements' type, what lies in it. -/
abbrev Rw := Value × TypeId × List Value
/-- The blocks that the object at b takes. -/
def footL (b : Nat) (rs : List Rw) (k : Nat) : Prop := k = b ∨ ∃ (i : Nat) (r : Rw), rs[i]? = some r ∧ Value.ownBlock r.1 = some k
/-- An object at block b whose fields are rows of its own. -/
structure LAt (w : World) (b : Nat) (ty : TypeId) (rs : List Rw) : Prop where
  blk : w.heap[b]? = some (.cells (rs.map (·.1)).toArray ty (0, 0))
  own : ∀ (i : Nat) (r : Rw), rs[i]? = some r → w.ownsRow (b + 1) r.2.1 1 r.1 r.2.2.length r.2.2
  apart : ∀ (i j : Nat) (r r' : Rw) (k : Nat), rs[i]? = some r → rs[j]? = some r' → Value.ownBlock r.1 = some k → Value.ownBlock r'.1 = some k → i = j

theorem LAt.lt {w : World} {b : Nat} {ty : TypeId} {rs : List Rw} (h : LAt w b ty rs) : b < w.heap.size := heap_lt h.blk
theorem LAt.own_lt {w : World} {b : Nat} {ty : TypeId} {rs : List Rw} (h : LAt w b ty rs) {i : Nat} {r : Rw} (hr : rs[i]? = some r) : ∀ k, Value.ownBlock r.1 = some k → b < k ∧ k < w.heap.size := fun k hk => by
  have := (h.own i r hr).lt k hk; omega
theorem LAt.foot_lt {w : World} {b : Nat} {ty : TypeId} {rs : List Rw} (h : LAt w b ty rs) {k : Nat} (hk : footL b rs k) : b ≤ k ∧ k < w.heap.size := by
  rcases hk with rfl | ⟨i, r, hr, hk⟩
  · exact ⟨Nat.le_refl _, h.lt⟩
  · have := h.own_lt hr k hk; omega
theorem LAt.kept {S : Nat → Prop} {w w' : World} {b : Nat} {ty : TypeId} {rs : List Rw} (h : LAt w b ty rs) (m : Mod S w w') (hs : ∀ k, footL b rs k → ¬ S k) : LAt w' b ty rs :=
  ⟨m.at h.blk (hs b (.inl rfl)), fun i r hr => ownsRow_other (h.own i r hr) (fun g hg => m.block g (h.own_lt hr g hg).2 (hs g (.inr ⟨i, r, hr, hg⟩))), h.apart⟩
theorem LAt.fresh {w w' : World} {b : Nat} {ty : TypeId} {rs : List Rw} (h : LAt w b ty rs) (m : Fresh w w') : LAt w' b ty rs := h.kept m (fun _ _ x => x)

/-- v is a slice of these cells, in a block that F does not name. -/
def CellsAt (w : World) (F : Nat → Prop) (v : Value) (cs : List Value) : Prop :=
  ∃ a c, v = .slice a cs.length c ∧ cs.length ≤ c ∧ ∀ (j : Nat) (u : Value), cs[j]? = some u → ∃ g o, a = some ⟨g, o, none⟩ ∧ ¬ F g ∧ g < w.heap.size ∧ w.cell? ⟨g, o + j, none⟩ = some u
def ListsAt (w : World) (F : Nat → Prop) (vs : List Value) (cs : List (List Value)) : Prop :=
  vs.length = cs.length ∧ ∀ (i : Nat) (v : Value) (c : List Value), vs[i]? = some v → cs[i]? = some c → CellsAt w F v c
theorem CellsAt.kept {F F' : Nat → Prop} {w w' : World} {v : Value} {cs : List Value} (h : CellsAt w F v cs) (m : Mod F w w') (hF : ∀ k, F' k → F k ∨ w.heap.size ≤ k) : CellsAt w' F' v cs := by
  obtain ⟨a, c, rfl, hc0, h⟩ := h
  refine ⟨a, c, rfl, hc0, fun j u hj => ?_⟩
  obtain ⟨g, o, rfl, hg, hl, hc⟩ := h j u hj
  refine ⟨g, o, rfl, fun x => ?_, Nat.lt_of_lt_of_le hl m.size, ?_⟩
  · rcases hF g x with h1 | h1
    · exact hg h1
    · omega
  · have := m.block g hl hg
    unfold World.cell? at hc ⊢
    rw [this]; exact hc
theorem ListsAt.kept {F F' : Nat → Prop} {w w' : World} {vs : List Value} {cs : List (List Value)} (h : ListsAt w F vs cs) (m : Mod F w w') (hF : ∀ k, F' k → F k ∨ w.heap.size ≤ k) : ListsAt w' F' vs cs :=
  ⟨h.1, fun i v c h1 h2 => (h.2 i v c h1 h2).kept m hF⟩
theorem ListsAt.snoc {F : Nat → Prop} {w : World} {vs : List Value} {cs : List (List Value)} {v : Value} {c : List Value} (h : ListsAt w F vs cs) (hv : CellsAt w F v c) : ListsAt w F (vs ++ [v]) (cs ++ [c]) := by
  refine ⟨by simp [h.1], fun i v' c' h1 h2 => ?_⟩
  by_cases hi : i < vs.length
  · rw [List.getElem?_append_left hi] at h1
    rw [List.getElem?_append_left (by have := h.1; omega)] at h2
    exact h.2 i v' c' h1 h2
  · have hi2 := (List.getElem?_eq_some_iff.1 h1).1
    simp at hi2
    have e : i = vs.length := by omega
    subst e
    rw [List.getElem?_append_right (Nat.le_refl _)] at h1
    rw [List.getElem?_append_right (by have := h.1; omega), h.1] at h2
    simp at h1 h2; subst h1; subst h2; exact hv
theorem ListsAt.nil (w : World) (F : Nat → Prop) : ListsAt w F [] [] := ⟨rfl, fun i v c h => by simp at h⟩

/-- The object behind an append onto one of its rows, laid back. -/
theorem ladd {w W w1 : World} {b : Nat} {ty : TypeId} {rs : List Rw} {i : Nat} {v v' : Value} {e : TypeId} {xs : List Value} {x : Value} (h : LAt w b ty rs) (hW : Fresh w W) (hi : rs[i]? = some (v, e, xs))
    (hown : w1.ownsRow (b + 1) e 1 v' (xs.length + 1) (xs ++ [x])) (hg : W.grownBy w1 v.ownBlock)
    (hb : ∀ k, v'.ownBlock = some k → v.ownBlock = some k ∨ W.heap.size ≤ k) :
    LAt (w1.setCell ⟨b, i, none⟩ v') b ty (rs.set i (v', e, xs ++ [x])) ∧ Mod (footL b rs) w (w1.setCell ⟨b, i, none⟩ v') ∧
      (∀ k, footL b (rs.set i (v', e, xs ++ [x])) k → footL b rs k ∨ w.heap.size ≤ k) := by
  have hil := (List.getElem?_eq_some_iff.1 hi).1
  have hbb : W.heap[b]? = some (.cells (rs.map (·.1)).toArray ty (0, 0)) := hW.at h.blk (fun x => x)
  have h1 : w1.heap[b]? = some (.cells (rs.map (·.1)).toArray ty (0, 0)) := by
    rw [hg.block b (heap_lt hbb) (fun e => by have := h.own_lt hi b e.symm; omega)]; exact hbb
  have hlt := hown.lt
  have hget : ∀ (j : Nat) (r : Rw), (rs.set i (v', e, xs ++ [x]))[j]? = some r → (j = i ∧ r = (v', e, xs ++ [x])) ∨ (j ≠ i ∧ rs[j]? = some r) := by
    intro j r hj
    by_cases e : i = j
    · subst e
      rw [List.getElem?_set_self hil] at hj
      left; exact ⟨rfl, by simpa using hj.symm⟩
    · rw [List.getElem?_set_ne e] at hj
      right; exact ⟨fun h => e h.symm, hj⟩
  -- a row of another field is apart from the new one
  have hap : ∀ (j : Nat) (r : Rw) (k : Nat), j ≠ i → rs[j]? = some r → Value.ownBlock r.1 = some k → v'.ownBlock = some k → False := by
    intro j r k hne hj hk hk'
    rcases hb k hk' with h2 | h2
    · exact hne (h.apart j i r _ k hj hi hk h2)
    · have := h.own_lt hj k hk; have := hW.size; omega
  refine ⟨⟨?_, ?_, ?_⟩, ?_, ?_⟩
  · have := Proofs.YtakkooidejdfkaaGreat.heap_setCell_same h1 i v'
    rw [this, List.map_set]; simp
  · intro j r hj
    rcases hget j r hj with ⟨rfl, rfl⟩ | ⟨hne, hj⟩
    · have e2 : (xs ++ [x]).length = xs.length + 1 := by simp
      show World.ownsRow _ _ _ _ _ (xs ++ [x]).length _
      rw [e2]
      exact ownsRow_other hown (fun g hg' => by rw [Proofs.YtakkooidejdfkaaGreat.heap_setCell_other _ (by have := hlt g hg'; simp; omega)])
    · refine ownsRow_other ((h.own j r hj)) (fun g hg' => ?_)
      have hl := h.own_lt hj g hg'
      rw [Proofs.YtakkooidejdfkaaGreat.heap_setCell_other _ (by simp; omega), hg.block g (by have := hW.size; omega) (fun e => hne (h.apart j i r _ g hj hi hg' e.symm)), hW.block g hl.2 (fun x => x)]
  · intro j j' r r' k hj hj' hk hk'
    rcases hget j r hj with ⟨e1, e2⟩ | ⟨hne, hj2⟩
    · rcases hget j' r' hj' with ⟨e3, e4⟩ | ⟨hne', hj2'⟩
      · rw [e1, e3]
      · subst e2; exact (hap j' r' k hne' hj2' hk' hk).elim
    · rcases hget j' r' hj' with ⟨e3, e4⟩ | ⟨hne', hj2'⟩
      · subst e4; exact (hap j r k hne hj2 hk hk').elim
      · exact h.apart j j' r r' k hj2 hj2' hk hk'
  · have m1 : Mod (footL b rs) w W := hW.mono (fun _ _ x => x.elim)
    exact (m1.grown hg (fun k hk _ => .inr ⟨i, _, hi, hk⟩)).setCell (fun _ => .inl rfl) _
  · rintro k (rfl | ⟨j, r, hj, hk⟩)
    · exact .inl (.inl rfl)
    · rcases hget j r hj with ⟨rfl, rfl⟩ | ⟨hne, hj⟩
      · rcases hb k hk with h2 | h2
        · exact .inl (.inr ⟨j, _, hi, h2⟩)
        · right; have := hW.size; omega
      · exact .inl (.inr ⟨j, r, hj, hk⟩)

/-- What the lines of a specification say. -/
structure LO where
  rules : List ByteArray
  skip : List Bool
  heads : List ByteArray
  head : List Int
  names : List (List ByteArray)
  syms : List (List Int)
abbrev strs (l : List ByteArray) : List Value := l.map Value.string
abbrev ints (l : List Int) : List Value := l.map (Value.int .i64)
abbrev bools (l : List Bool) : List Value := l.map Value.bool
abbrev rowsL (x : LO) (v0 v1 v2 v3 v4 v5 : Value) (nv sv : List Value) : List Rw :=
  [(v0, 9, strs x.rules), (v1, 4, bools x.skip), (v2, 9, strs x.heads), (v3, 3, ints x.head), (v4, 38, nv), (v5, 22, sv)]
structure LOAt (w : World) (b : Nat) (x : LO) (v0 v1 v2 v3 v4 v5 : Value) (nv sv : List Value) : Prop where
  at' : LAt w b 43 (rowsL x v0 v1 v2 v3 v4 v5 nv sv)
  names : ListsAt w (footL b (rowsL x v0 v1 v2 v3 v4 v5 nv sv)) nv (x.names.map strs)
  syms : ListsAt w (footL b (rowsL x v0 v1 v2 v3 v4 v5 nv sv)) sv (x.syms.map ints)
def LOX (w : World) (b : Nat) (x : LO) : Prop := ∃ v0 v1 v2 v3 v4 v5 nv sv, LOAt w b x v0 v1 v2 v3 v4 v5 nv sv

theorem LOAt.fresh {w w' : World} {b : Nat} {x : LO} {v0 v1 v2 v3 v4 v5 : Value} {nv sv : List Value} (h : LOAt w b x v0 v1 v2 v3 v4 v5 nv sv) (m : Fresh w w') : LOAt w' b x v0 v1 v2 v3 v4 v5 nv sv :=
  ⟨h.at'.fresh m, h.names.kept (m.mono (fun _ _ x => x.elim)) (fun k hk => .inl hk), h.syms.kept (m.mono (fun _ _ x => x.elim)) (fun k hk => .inl hk)⟩
end Go.Proofs.YtakkooidejdfkaaGreat
namespace Go.Proofs.YtakkooidejdfkaaGreat
open Go.RowKit
set_option linter.unusedVariables false
set_option linter.unusedSimpArgs false

theorem btl_loop (s : ByteArray) : ∀ (f i : Nat) (acc : List UInt8), s.size - i ≤ f → ByteArray.toList.loop s i acc = acc.reverse ++ (s.data.toList.drop i) := by
  intro f
  induction f with
  | zero =>
    intro i acc h
    unfold ByteArray.toList.loop
    have : ¬ i < s.size := by omega
    rw [if_neg this, List.drop_eq_nil_of_le (by have : s.size = s.data.size := rfl; simp; omega)]; simp
  | succ f ih =>
    intro i acc h
    unfold ByteArray.toList.loop
    by_cases hi : i < s.size
    · rw [if_pos hi, ih (i + 1) _ (by omega)]
      have hi' : i < s.data.toList.length := by have : s.size = s.data.size := rfl; simp; omega
      rw [List.drop_eq_getElem_cons hi']
      have : s.get! i = s.data.toList[i] := by
        have hsz : i < s.data.size := hi
        simp only [ByteArray.get!, Array.getElem_toList]
        exact getElem!_pos s.data i hsz
      rw [this]; simp
    · rw [if_neg hi, List.drop_eq_nil_of_le (by have : s.size = s.data.size := rfl; simp; omega)]; simp
theorem btl (s : ByteArray) : s.toList = s.data.toList := by
  unfold ByteArray.toList; rw [btl_loop s s.size 0 [] (by omega)]; simp
theorem btl_empty {s : ByteArray} (h : s.size ≠ 0) : s.toList.isEmpty = false := by
  rw [btl]; have : s.size = s.data.size := rfl
  cases hq : s.data.toList with
  | nil => have := congrArg List.length hq; simp at this; simp [this] at h
  | cons => rfl
section
variable {w W w1 : World} {b : Nat} {x : LO} {v0 v1 v2 v3 v4 v5 v' : Value} {nv sv : List Value}
abbrev UpB (b : Nat) : World → World → Prop := Mod (fun k => b ≤ k)
theorem LOAt.up {S : Nat → Prop} (h : LOAt w b x v0 v1 v2 v3 v4 v5 nv sv) (m : Mod (footL b (rowsL x v0 v1 v2 v3 v4 v5 nv sv)) w W) : UpB b w W :=
  m.mono (fun k _ hk => (h.at'.foot_lt hk).1)
theorem LOAt.add0 {s : ByteArray} (h : LOAt w b x v0 v1 v2 v3 v4 v5 nv sv) (hW : Fresh w W) (hown : w1.ownsRow (b + 1) 9 1 v' (x.rules.length + 1) (strs x.rules ++ [.string s])) (hg : W.grownBy w1 v0.ownBlock)
    (hb : ∀ k, v'.ownBlock = some k → v0.ownBlock = some k ∨ W.heap.size ≤ k) :
    LOAt (w1.setCell ⟨b, 0, none⟩ v') b { x with rules := x.rules ++ [s] } v' v1 v2 v3 v4 v5 nv sv ∧ UpB b w (w1.setCell ⟨b, 0, none⟩ v') := by
  obtain ⟨a1, m, hF⟩ := ladd (i := 0) h.at' hW rfl (by simpa using hown) hg hb
  have e : (rowsL x v0 v1 v2 v3 v4 v5 nv sv).set 0 (v', 9, strs x.rules ++ [.string s]) = rowsL { x with rules := x.rules ++ [s] } v' v1 v2 v3 v4 v5 nv sv := by simp [rowsL]
  rw [e] at a1 hF
  exact ⟨⟨a1, h.names.kept m hF, h.syms.kept m hF⟩, h.up (S := fun _ => False) m⟩
theorem LOAt.add1 {s : Bool} (h : LOAt w b x v0 v1 v2 v3 v4 v5 nv sv) (hW : Fresh w W) (hown : w1.ownsRow (b + 1) 4 1 v' (x.skip.length + 1) (bools x.skip ++ [.bool s])) (hg : W.grownBy w1 v1.ownBlock)
    (hb : ∀ k, v'.ownBlock = some k → v1.ownBlock = some k ∨ W.heap.size ≤ k) :
    LOAt (w1.setCell ⟨b, 1, none⟩ v') b { x with skip := x.skip ++ [s] } v0 v' v2 v3 v4 v5 nv sv ∧ UpB b w (w1.setCell ⟨b, 1, none⟩ v') := by
  obtain ⟨a1, m, hF⟩ := ladd (i := 1) h.at' hW rfl (by simpa using hown) hg hb
  have e : (rowsL x v0 v1 v2 v3 v4 v5 nv sv).set 1 (v', 4, bools x.skip ++ [.bool s]) = rowsL { x with skip := x.skip ++ [s] } v0 v' v2 v3 v4 v5 nv sv := by simp [rowsL]
  rw [e] at a1 hF
  exact ⟨⟨a1, h.names.kept m hF, h.syms.kept m hF⟩, h.up (S := fun _ => False) m⟩
theorem LOAt.add2 {s : ByteArray} (h : LOAt w b x v0 v1 v2 v3 v4 v5 nv sv) (hW : Fresh w W) (hown : w1.ownsRow (b + 1) 9 1 v' (x.heads.length + 1) (strs x.heads ++ [.string s])) (hg : W.grownBy w1 v2.ownBlock)
    (hb : ∀ k, v'.ownBlock = some k → v2.ownBlock = some k ∨ W.heap.size ≤ k) :
    LOAt (w1.setCell ⟨b, 2, none⟩ v') b { x with heads := x.heads ++ [s] } v0 v1 v' v3 v4 v5 nv sv ∧ UpB b w (w1.setCell ⟨b, 2, none⟩ v') := by
  obtain ⟨a1, m, hF⟩ := ladd (i := 2) h.at' hW rfl (by simpa using hown) hg hb
  have e : (rowsL x v0 v1 v2 v3 v4 v5 nv sv).set 2 (v', 9, strs x.heads ++ [.string s]) = rowsL { x with heads := x.heads ++ [s] } v0 v1 v' v3 v4 v5 nv sv := by simp [rowsL]
  rw [e] at a1 hF
  exact ⟨⟨a1, h.names.kept m hF, h.syms.kept m hF⟩, h.up (S := fun _ => False) m⟩
theorem LOAt.add3 {s : Int} (h : LOAt w b x v0 v1 v2 v3 v4 v5 nv sv) (hW : Fresh w W) (hown : w1.ownsRow (b + 1) 3 1 v' (x.head.length + 1) (ints x.head ++ [.int .i64 s])) (hg : W.grownBy w1 v3.ownBlock)
    (hb : ∀ k, v'.ownBlock = some k → v3.ownBlock = some k ∨ W.heap.size ≤ k) :
    LOAt (w1.setCell ⟨b, 3, none⟩ v') b { x with head := x.head ++ [s] } v0 v1 v2 v' v4 v5 nv sv ∧ UpB b w (w1.setCell ⟨b, 3, none⟩ v') := by
  obtain ⟨a1, m, hF⟩ := ladd (i := 3) h.at' hW rfl (by simpa using hown) hg hb
  have e : (rowsL x v0 v1 v2 v3 v4 v5 nv sv).set 3 (v', 3, ints x.head ++ [.int .i64 s]) = rowsL { x with head := x.head ++ [s] } v0 v1 v2 v' v4 v5 nv sv := by simp [rowsL]
  rw [e] at a1 hF
  exact ⟨⟨a1, h.names.kept m hF, h.syms.kept m hF⟩, h.up (S := fun _ => False) m⟩
theorem LOAt.add4 {u : Value} {l : List ByteArray} (h : LOAt w b x v0 v1 v2 v3 v4 v5 nv sv) (hu : CellsAt w (footL b (rowsL x v0 v1 v2 v3 v4 v5 nv sv)) u (strs l)) (hW : Fresh w W) (hown : w1.ownsRow (b + 1) 38 1 v' (nv.length + 1) (nv ++ [u])) (hg : W.grownBy w1 v4.ownBlock)
    (hb : ∀ k, v'.ownBlock = some k → v4.ownBlock = some k ∨ W.heap.size ≤ k) :
    LOAt (w1.setCell ⟨b, 4, none⟩ v') b { x with names := x.names ++ [l] } v0 v1 v2 v3 v' v5 (nv ++ [u]) sv ∧ UpB b w (w1.setCell ⟨b, 4, none⟩ v') := by
  obtain ⟨a1, m, hF⟩ := ladd (i := 4) h.at' hW rfl hown hg hb
  have e : (rowsL x v0 v1 v2 v3 v4 v5 nv sv).set 4 (v', 38, nv ++ [u]) = rowsL { x with names := x.names ++ [l] } v0 v1 v2 v3 v' v5 (nv ++ [u]) sv := by simp [rowsL]
  rw [e] at a1 hF
  refine ⟨⟨a1, ?_, h.syms.kept m hF⟩, h.up (S := fun _ => False) m⟩
  show ListsAt _ _ _ (List.map strs (x.names ++ [l]))
  rw [List.map_append, List.map_singleton]
  exact (h.names.kept m hF).snoc (hu.kept m hF)
theorem LOAt.add5 {u : Value} {l : List Int} (h : LOAt w b x v0 v1 v2 v3 v4 v5 nv sv) (hu : CellsAt w (footL b (rowsL x v0 v1 v2 v3 v4 v5 nv sv)) u (ints l)) (hW : Fresh w W) (hown : w1.ownsRow (b + 1) 22 1 v' (sv.length + 1) (sv ++ [u])) (hg : W.grownBy w1 v5.ownBlock)
    (hb : ∀ k, v'.ownBlock = some k → v5.ownBlock = some k ∨ W.heap.size ≤ k) :
    LOAt (w1.setCell ⟨b, 5, none⟩ v') b { x with syms := x.syms ++ [l] } v0 v1 v2 v3 v4 v' nv (sv ++ [u]) ∧ UpB b w (w1.setCell ⟨b, 5, none⟩ v') := by
  obtain ⟨a1, m, hF⟩ := ladd (i := 5) h.at' hW rfl hown hg hb
  have e : (rowsL x v0 v1 v2 v3 v4 v5 nv sv).set 5 (v', 22, sv ++ [u]) = rowsL { x with syms := x.syms ++ [l] } v0 v1 v2 v3 v4 v' nv (sv ++ [u]) := by simp [rowsL]
  rw [e] at a1 hF
  refine ⟨⟨a1, h.names.kept m hF, ?_⟩, h.up (S := fun _ => False) m⟩
  show ListsAt _ _ _ (List.map ints (x.syms ++ [l]))
  rw [List.map_append, List.map_singleton]
  exact (h.syms.kept m hF).snoc (hu.kept m hF)
theorem LOAt.cell (h : LOAt w b x v0 v1 v2 v3 v4 v5 nv sv) (o : Nat) : w.cell? ⟨b, o, none⟩ = #[v0, v1, v2, v3, v4, v5][o]? := by
  have := cellOf h.at'.blk o; simpa using this
theorem LOAt.frozen (h : LOAt w b x v0 v1 v2 v3 v4 v5 nv sv) (o : Nat) : w.frozen? ⟨b, o, none⟩ = false := frozenOf h.at'.blk o
/-- The object's block behind an append onto one of its rows. -/
theorem LOAt.blk_grown (h : LOAt w b x v0 v1 v2 v3 v4 v5 nv sv) (hW : Fresh w W) {v : Value} (hv : v = v0 ∨ v = v1 ∨ v = v2 ∨ v = v3 ∨ v = v4 ∨ v = v5) (hg : W.grownBy w1 v.ownBlock) :
    w1.heap[b]? = some (.cells #[v0, v1, v2, v3, v4, v5] 43 (0, 0)) := by
  have hbb := hW.at h.at'.blk (fun x => x)
  have hne : ∀ k, v.ownBlock = some k → b < k := by
    intro k hk
    rcases hv with rfl | rfl | rfl | rfl | rfl | rfl
    · exact (h.at'.own_lt (i := 0) rfl k hk).1
    · exact (h.at'.own_lt (i := 1) rfl k hk).1
    · exact (h.at'.own_lt (i := 2) rfl k hk).1
    · exact (h.at'.own_lt (i := 3) rfl k hk).1
    · exact (h.at'.own_lt (i := 4) rfl k hk).1
    · exact (h.at'.own_lt (i := 5) rfl k hk).1
  rw [hg.block b (heap_lt hbb) (fun e => by have := hne b e.symm; omega)]; exact hbb
end

def takeF (s : ByteArray) (x : LO) : LO :=
  if s.size = 0 then x
  else if 97 ≤ atB s 0 ∧ atB s 0 ≤ 122 then
    { x with rules := x.rules ++ [s.extract 0 (upToF s 61 126)], skip := x.skip ++ [decide (upToF s 61 126 < s.size) && (atB s (upToF s 61 126) == 126)] }
  else
    { x with
      heads := if findF x.heads (s.extract 0 (upToF s 58 58)) < 0 then x.heads ++ [s.extract 0 (upToF s 58 58)] else x.heads
      head := x.head ++ [if findF x.heads (s.extract 0 (upToF s 58 58)) < 0 then (x.heads.length : Int) else findF x.heads (s.extract 0 (upToF s 58 58))]
      names := x.names ++ [(wordsF (s.extract (upToF s 58 58) s.size)).drop 1] }

theorem infoB1 : (Tryz.prog.info? 4).map (fun i => (i.zero, i.size, i.bytes)) = some (some (.bool false), 1, 1) := by kernel_rfl
theorem infoB1' : ∃ i, Tryz.prog.info? 4 = some i ∧ i.zero = some (.bool false) ∧ i.size = 1 ∧ i.bytes = 1 := by
  have h := infoB1
  cases hq : Tryz.prog.info? 4 with
  | none => simp [hq] at h
  | some i => simp [hq] at h; exact ⟨i, rfl, h.1, h.2.1, h.2.2⟩

attribute [local go_sem ↓] apS_rule
set_option maxRecDepth 20000 in
set_option maxHeartbeats 2000000 in
theorem take_rule (w : World) (b : Nat) (x : LO) (s : ByteArray) (h : LOX w b x) (hs : s.size ≤ 900) (hn : x.rules.length ≤ 1000) (hn1 : x.skip.length ≤ 1000) (h0 : s.size ≠ 0) (h1 : 97 ≤ atB s 0 ∧ atB s 0 ≤ 122) :
    Calls Tryz.prog 34 #[bptr b, .string s] w fun e w' => e = .returned (.tuple #[]) ∧ LOX w' b (takeF s x) ∧ UpB b w w' := by
  obtain ⟨i0, hi0, hz0, hz1, hz2⟩ := infoStr'
  obtain ⟨i1, hi1, hy0, hy1, hy2⟩ := infoB1'
  have e1 : takeF s x = { x with rules := x.rules ++ [s.extract 0 (upToF s 61 126)], skip := x.skip ++ [decide (upToF s 61 126 < s.size) && (atB s (upToF s 61 126) == 126)] } := by
    unfold takeF; rw [if_neg h0, if_pos h1]
  rw [e1]
  clear e1
  have hpos : 0 < s.size := by omega
  have UP := hid (fun w => upTo_any s 61 126 w (by omega))
  have hle := upToF_le s 61 126
  generalize upToF s 61 126 = n at hle UP
  generalize hq : (decide (n < s.size) && (atB s n == 126)) = B
  have HQ := hid hq
  clear hq
  rw [show atB s 0 = ((s[0].toNat : Nat) : Int) from atB_at s 0 hpos] at h1
  obtain ⟨h1a, h1b⟩ := h1
  obtain ⟨v0, v1, v2, v3, v4, v5, nv, sv, h⟩ := h
  obtain ⟨a0, c0, hv⟩ := own_form (h.at'.own 0 _ rfl)
  have hv' : v0 = .slice a0 x.rules.length c0 := by simpa using hv
  subst hv'
  have k1 := h.cell 0
  have k2 := h.frozen 0
  simp at k1
  have hb := h.at'.lt
  have H := hid h
  have HO : Hid (∀ o : Obj, (w.alloc o).drew.ownsRow (b + 1) 9 1 (.slice a0 x.rules.length c0) x.rules.length (strs x.rules)) := fun o => by
    have this : (w.alloc o).ownsRow (b + 1) 9 1 (.slice a0 x.rules.length c0) (strs x.rules).length (strs x.rules) := (H.out.at'.own 0 _ rfl).alloc o
    rw [List.length_map] at this
    exact this
  have HB : Hid (∀ (o : Obj) (w2 : World), (w.alloc o).drew.grownBy w2 (Value.ownBlock (.slice a0 x.rules.length c0)) → w2.heap[b]? = some (.cells #[.slice a0 x.rules.length c0, v1, v2, v3, v4, v5] 43 (0, 0))) :=
    fun o w2 hg => H.out.blk_grown (((Mod.refl _ w).alloc o).drew) (.inl rfl) hg
  clear h hv
  have hne := btl_empty h0
  go_enter Tryz.func34, Tryz.ntmps34
  go_wp2_with (go_at_call 33; refine (UP.out _).mono ?_; rintro e w' ⟨rfl, hw⟩; rw [hw]; clear hw)
  obtain ⟨v', w2, hrun, hown, hgrow, hblk⟩ := apS_mine (P := Tryz.prog) (w.alloc (.cells #[.string (s.extract 0 n)] 9)).drew (b + 1) 38 38 9 i0 _ 1 16 Tryz.underlying38 hi0 hz0 hz1 hz2 rfl (by decide) (.slice a0 x.rules.length c0) x.rules.length (strs x.rules) (HO.out _) ⟨w.heap.size, 0, none⟩ 1 1 [.string (s.extract 0 n)] rfl (new_cells rfl) (by intro u hu; simp at hu; subst hu; rfl) (by unfold maxLen; omega) (by omega) (by simp [World.drew]; omega)
  obtain ⟨a', cap', hv'⟩ := own_form hown
  have hc2 : w2.cell? ⟨b, 0, none⟩ = some (.slice a0 x.rules.length c0) := (cellOf (HB.out _ w2 hgrow) 0)
  have hf2 := frozenOf (HB.out _ w2 hgrow) 0
  have HO2 := hid hown
  have HG2 := hid hgrow
  clear hown hgrow
  subst hv'
  go_region
  all_goals
    have L1 := H.out.add0 (s := s.extract 0 n) (((Mod.refl _ w).alloc _).drew) HO2.out HG2.out hblk
    generalize hWW : w2.setCell _ _ = W1 at L1 ⊢
    clear hWW
    obtain ⟨h, U1⟩ := L1
    have HU1 := hid U1
    clear H HO HB HO2 HG2 hblk hc2 hf2 k1 k2 U1
    obtain ⟨a1, c1, hv⟩ := own_form (h.at'.own 1 _ rfl)
    have hv' : v1 = .slice a1 x.skip.length c1 := by simpa using hv
    subst hv'
    have k1 := h.cell 1
    have k2 := h.frozen 1
    simp at k1
    have hb1 := h.at'.lt
    have H := hid h
    have HO : Hid (∀ o : Obj, (W1.alloc o).drew.ownsRow (b + 1) 4 1 (.slice a1 x.skip.length c1) x.skip.length (bools x.skip)) := fun o => by
      have this : (W1.alloc o).ownsRow (b + 1) 4 1 (.slice a1 x.skip.length c1) (bools x.skip).length (bools x.skip) := (H.out.at'.own 1 _ rfl).alloc o
      rw [List.length_map] at this
      exact this
    have HB : Hid (∀ (o : Obj) (w2 : World), (W1.alloc o).drew.grownBy w2 (Value.ownBlock (.slice a1 x.skip.length c1)) → w2.heap[b]? = some (.cells #[.slice a' (x.rules.length + 1) cap', .slice a1 x.skip.length c1, v2, v3, v4, v5] 43 (0, 0))) :=
      fun o w2 hg => H.out.blk_grown (((Mod.refl _ W1).alloc o).drew) (.inr (.inl rfl)) hg
    clear h hv
    by_cases hlt : n < s.size
    · have hat : atB s n = ((s[n].toNat : Nat) : Int) := atB_at s n hlt
      have HE : Hid (B = ((s[n].toNat : Int) == 126)) := hid (by rw [← HQ.out, hat]; simp [hlt])
      clear hat
      go_wp2
      obtain ⟨v', w2, hrun, hown, hgrow, hblk⟩ := apS_mine (P := Tryz.prog) (W1.alloc (.cells #[.bool ((s[n].toNat : Int) == 126)] 4)).drew (b + 1) 39 39 4 i1 _ 1 1 Tryz.underlying39 hi1 hy0 hy1 hy2 rfl (by decide) (.slice a1 x.skip.length c1) x.skip.length (bools x.skip) (HO.out _) ⟨W1.heap.size, 0, none⟩ 1 1 [.bool ((s[n].toNat : Int) == 126)] rfl (new_cells rfl) (by intro u hu; simp at hu; subst hu; rfl) (by unfold maxLen; omega) (by omega) (by simp [World.drew]; omega)
      obtain ⟨a2, cap2, hv'⟩ := own_form hown
      have hc2 : w2.cell? ⟨b, 1, none⟩ = some (.slice a1 x.skip.length c1) := (cellOf (HB.out _ w2 hgrow) 1)
      have hf2 := frozenOf (HB.out _ w2 hgrow) 1
      have HO2 := hid hown
      have HG2 := hid hgrow
      clear hown hgrow
      subst hv'
      go_region
      all_goals
        obtain ⟨L2, U2⟩ := H.out.add1 (s := ((s[n].toNat : Int) == 126)) (((Mod.refl _ W1).alloc _).drew) HO2.out HG2.out hblk
        have HL2 := hid L2
        have HU2 := hid U2
        clear L2 U2 HO2 HG2 hblk H HO HB k1 k2
        go_wp2
        refine bodyPost_ret (results_none rfl _ _ _) rfl ⟨rfl, ?_, Mod.trans HU1.out HU2.out⟩
        rw [HE.out]; exact ⟨_, _, _, _, _, _, _, _, HL2.out⟩
    · have HE : Hid (B = false) := hid (by rw [← HQ.out]; simp [hlt])
      go_wp2
      obtain ⟨v', w2, hrun, hown, hgrow, hblk⟩ := apS_mine (P := Tryz.prog) (W1.alloc (.cells #[.bool false] 4)).drew (b + 1) 39 39 4 i1 _ 1 1 Tryz.underlying39 hi1 hy0 hy1 hy2 rfl (by decide) (.slice a1 x.skip.length c1) x.skip.length (bools x.skip) (HO.out _) ⟨W1.heap.size, 0, none⟩ 1 1 [.bool false] rfl (new_cells rfl) (by intro u hu; simp at hu; subst hu; rfl) (by unfold maxLen; omega) (by omega) (by simp [World.drew]; omega)
      obtain ⟨a2, cap2, hv'⟩ := own_form hown
      have hc2 : w2.cell? ⟨b, 1, none⟩ = some (.slice a1 x.skip.length c1) := (cellOf (HB.out _ w2 hgrow) 1)
      have hf2 := frozenOf (HB.out _ w2 hgrow) 1
      have HO2 := hid hown
      have HG2 := hid hgrow
      clear hown hgrow
      subst hv'
      go_region
      all_goals
        obtain ⟨L2, U2⟩ := H.out.add1 (s := false) (((Mod.refl _ W1).alloc _).drew) HO2.out HG2.out hblk
        have HL2 := hid L2
        have HU2 := hid U2
        clear L2 U2 HO2 HG2 hblk H HO HB k1 k2
        go_wp2
        refine bodyPost_ret (results_none rfl _ _ _) rfl ⟨rfl, ?_, Mod.trans HU1.out HU2.out⟩
        rw [HE.out]; exact ⟨_, _, _, _, _, _, _, _, HL2.out⟩
end Go.Proofs.YtakkooidejdfkaaGreat
