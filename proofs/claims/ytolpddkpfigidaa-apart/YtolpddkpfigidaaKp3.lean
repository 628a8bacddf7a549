import Derived.Test.YtolpddkpfigidaaKp1
namespace Go.Proofs.Ytolpddkpfigidaa
open Go.RowKit
set_option linter.unusedVariables false
set_option linter.unusedSimpArgs false

/-- One row of an object: its slice, its elements' type, what lies in it. -/
abbrev Rw := Value × TypeId × List Value
/-- The blocks that the object at b takes. -/
def footL (b : Nat) (rs : List Rw) (k : Nat) : Prop := k = b ∨ ∃ (i : Nat) (r : Rw), rs[i]? = some r ∧ Value.ownBlock r.1 = some k
/-- An object at block b whose fields are rows of its own. -/
structure LAt (w : World) (b : Nat) (ty : TypeId) (rs : List Rw) : Prop where
  blk : w.heap[b]? = some (.cells (rs.map (·.1)).toArray ty (0, 0))
  own : ∀ (i : Nat) (r : Rw), rs[i]? = some r → w.ownsRow (b + 1) r.2.1 1 r.1 r.2.2.length r.2.2
  apart : ∀ (i j : Nat) (r r' : Rw) (k : Nat), rs[i]? = some r → rs[j]? = some r' → Value.ownBlock r.1 = some k → Value.ownBlock r'.1 = some k → i = j

theorem LAt.lt {w : World} {b : Nat} {ty : TypeId} {rs : List Rw} (h : LAt w b ty rs) : b < w.heap.size := heap_lt h.blk
theorem LAt.own_lt {w : World} {b : Nat} {ty : TypeId} {rs : List Rw} (h : LAt w b ty rs) {i : Nat} {r : Rw} (hr : rs[i]? = some r) : ∀ k, Value.ownBlock r.1 = some k → b < k ∧ k < w.heap.size := fun k hk => by
  have := (h.own i r hr).lt k hk; omega
theorem LAt.foot_lt {w : World} {b : Nat} {ty : TypeId} {rs : List Rw} (h : LAt w b ty rs) {k : Nat} (hk : footL b rs k) : b ≤ k ∧ k < w.heap.size := by
  rcases hk with rfl | ⟨i, r, hr, hk⟩
  · exact ⟨Nat.le_refl _, h.lt⟩
  · have := h.own_lt hr k hk; omega
theorem LAt.kept {S : Nat → Prop} {w w' : World} {b : Nat} {ty : TypeId} {rs : List Rw} (h : LAt w b ty rs) (m : Mod S w w') (hs : ∀ k, footL b rs k → ¬ S k) : LAt w' b ty rs :=
  ⟨m.at h.blk (hs b (.inl rfl)), fun i r hr => ownsRow_other (h.own i r hr) (fun g hg => m.block g (h.own_lt hr g hg).2 (hs g (.inr ⟨i, r, hr, hg⟩))), h.apart⟩
theorem LAt.fresh {w w' : World} {b : Nat} {ty : TypeId} {rs : List Rw} (h : LAt w b ty rs) (m : Fresh w w') : LAt w' b ty rs := h.kept m (fun _ _ x => x)

/-- v is a slice of these cells, in a block that F does not name. -/
def CellsAt (w : World) (F : Nat → Prop) (v : Value) (cs : List Value) : Prop :=
  ∃ a c, v = .slice a cs.length c ∧ cs.length ≤ c ∧ ∀ (j : Nat) (u : Value), cs[j]? = some u → ∃ g o, a = some ⟨g, o, none⟩ ∧ ¬ F g ∧ g < w.heap.size ∧ w.cell? ⟨g, o + j, none⟩ = some u
def ListsAt (w : World) (F : Nat → Prop) (vs : List Value) (cs : List (List Value)) : Prop :=
  vs.length = cs.length ∧ ∀ (i : Nat) (v : Value) (c : List Value), vs[i]? = some v → cs[i]? = some c → CellsAt w F v c
theorem CellsAt.kept {F F' : Nat → Prop} {w w' : World} {v : Value} {cs : List Value} (h : CellsAt w F v cs) (m : Mod F w w') (hF : ∀ k, F' k → F k ∨ w.heap.size ≤ k) : CellsAt w' F' v cs := by
  obtain ⟨a, c, rfl, hc0, h⟩ := h
  refine ⟨a, c, rfl, hc0, fun j u hj => ?_⟩
  obtain ⟨g, o, rfl, hg, hl, hc⟩ := h j u hj
  refine ⟨g, o, rfl, fun x => ?_, Nat.lt_of_lt_of_le hl m.size, ?_⟩
  · rcases hF g x with h1 | h1
    · exact hg h1
    · omega
  · have := m.block g hl hg
    unfold World.cell? at hc ⊢
    rw [this]; exact hc
theorem ListsAt.kept {F F' : Nat → Prop} {w w' : World} {vs : List Value} {cs : List (List Value)} (h : ListsAt w F vs cs) (m : Mod F w w') (hF : ∀ k, F' k → F k ∨ w.heap.size ≤ k) : ListsAt w' F' vs cs :=
  ⟨h.1, fun i v c h1 h2 => (h.2 i v c h1 h2).kept m hF⟩
theorem ListsAt.snoc {F : Nat → Prop} {w : World} {vs : List Value} {cs : List (List Value)} {v : Value} {c : List Value} (h : ListsAt w F vs cs) (hv : CellsAt w F v c) : ListsAt w F (vs ++ [v]) (cs ++ [c]) := by
  refine ⟨by simp [h.1], fun i v' c' h1 h2 => ?_⟩
  by_cases hi : i < vs.length
  · rw [List.getElem?_append_left hi] at h1
    rw [List.getElem?_append_left (by have := h.1; omega)] at h2
    exact h.2 i v' c' h1 h2
  · have hi2 := (List.getElem?_eq_some_iff.1 h1).1
    simp at hi2
    have e : i = vs.length := by omega
    subst e
    rw [List.getElem?_append_right (Nat.le_refl _)] at h1
    rw [List.getElem?_append_right (by have := h.1; omega), h.1] at h2
    simp at h1 h2; subst h1; subst h2; exact hv
theorem ListsAt.nil (w : World) (F : Nat → Prop) : ListsAt w F [] [] := ⟨rfl, fun i v c h => by simp at h⟩

/-- The object behind an append onto one of its rows, laid back. -/
theorem ladd {w W w1 : World} {b : Nat} {ty : TypeId} {rs : List Rw} {i : Nat} {v v' : Value} {e : TypeId} {xs : List Value} {x : Value} (h : LAt w b ty rs) (hW : Fresh w W) (hi : rs[i]? = some (v, e, xs))
    (hown : w1.ownsRow (b + 1) e 1 v' (xs.length + 1) (xs ++ [x])) (hg : W.grownBy w1 v.ownBlock)
    (hb : ∀ k, v'.ownBlock = some k → v.ownBlock = some k ∨ W.heap.size ≤ k) :
    LAt (w1.setCell ⟨b, i, none⟩ v') b ty (rs.set i (v', e, xs ++ [x])) ∧ Mod (footL b rs) w (w1.setCell ⟨b, i, none⟩ v') ∧
      (∀ k, footL b (rs.set i (v', e, xs ++ [x])) k → footL b rs k ∨ w.heap.size ≤ k) := by
  have hil := (List.getElem?_eq_some_iff.1 hi).1
  have hbb : W.heap[b]? = some (.cells (rs.map (·.1)).toArray ty (0, 0)) := hW.at h.blk (fun x => x)
  have h1 : w1.heap[b]? = some (.cells (rs.map (·.1)).toArray ty (0, 0)) := by
    rw [hg.block b (heap_lt hbb) (fun e => by have := h.own_lt hi b e.symm; omega)]; exact hbb
  have hlt := hown.lt
  have hget : ∀ (j : Nat) (r : Rw), (rs.set i (v', e, xs ++ [x]))[j]? = some r → (j = i ∧ r = (v', e, xs ++ [x])) ∨ (j ≠ i ∧ rs[j]? = some r) := by
    intro j r hj
    by_cases e : i = j
    · subst e
      rw [List.getElem?_set_self hil] at hj
      left; exact ⟨rfl, by simpa using hj.symm⟩
    · rw [List.getElem?_set_ne e] at hj
      right; exact ⟨fun h => e h.symm, hj⟩
  -- a row of another field is apart from the new one
  have hap : ∀ (j : Nat) (r : Rw) (k : Nat), j ≠ i → rs[j]? = some r → Value.ownBlock r.1 = some k → v'.ownBlock = some k → False := by
    intro j r k hne hj hk hk'
    rcases hb k hk' with h2 | h2
    · exact hne (h.apart j i r _ k hj hi hk h2)
    · have := h.own_lt hj k hk; have := hW.size; omega
  refine ⟨⟨?_, ?_, ?_⟩, ?_, ?_⟩
  · have := Proofs.Ytolpddkpfigidaa.heap_setCell_same h1 i v'
    rw [this, List.map_set]; simp
  · intro j r hj
    rcases hget j r hj with ⟨rfl, rfl⟩ | ⟨hne, hj⟩
    · have e2 : (xs ++ [x]).length = xs.length + 1 := by simp
      show World.ownsRow _ _ _ _ _ (xs ++ [x]).length _
      rw [e2]
      exact ownsRow_other hown (fun g hg' => by rw [Proofs.Ytolpddkpfigidaa.heap_setCell_other _ (by have := hlt g hg'; simp; omega)])
    · refine ownsRow_other ((h.own j r hj)) (fun g hg' => ?_)
      have hl := h.own_lt hj g hg'
      rw [Proofs.Ytolpddkpfigidaa.heap_setCell_other _ (by simp; omega), hg.block g (by have := hW.size; omega) (fun e => hne (h.apart j i r _ g hj hi hg' e.symm)), hW.block g hl.2 (fun x => x)]
  · intro j j' r r' k hj hj' hk hk'
    rcases hget j r hj with ⟨e1, e2⟩ | ⟨hne, hj2⟩
    · rcases hget j' r' hj' with ⟨e3, e4⟩ | ⟨hne', hj2'⟩
      · rw [e1, e3]
      · subst e2; exact (hap j' r' k hne' hj2' hk' hk).elim
    · rcases hget j' r' hj' with ⟨e3, e4⟩ | ⟨hne', hj2'⟩
      · subst e4; exact (hap j r k hne hj2 hk hk').elim
      · exact h.apart j j' r r' k hj2 hj2' hk hk'
  · have m1 : Mod (footL b rs) w W := hW.mono (fun _ _ x => x.elim)
    exact (m1.grown hg (fun k hk _ => .inr ⟨i, _, hi, hk⟩)).setCell (fun _ => .inl rfl) _
  · rintro k (rfl | ⟨j, r, hj, hk⟩)
    · exact .inl (.inl rfl)
    · rcases hget j r hj with ⟨rfl, rfl⟩ | ⟨hne, hj⟩
      · rcases hb k hk with h2 | h2
        · exact .inl (.inr ⟨j, _, hi, h2⟩)
        · right; have := hW.size; omega
      · exact .inl (.inr ⟨j, r, hj, hk⟩)

/-- What the lines of a specification say. -/
structure LO where
  rules : List ByteArray
  skip : List Bool
  heads : List ByteArray
  head : List Int
  names : List (List ByteArray)
  syms : List (List Int)
abbrev strs (l : List ByteArray) : List Value := l.map Value.string
abbrev ints (l : List Int) : List Value := l.map (Value.int .i64)
abbrev bools (l : List Bool) : List Value := l.map Value.bool
abbrev rowsL (x : LO) (v0 v1 v2 v3 v4 v5 : Value) (nv sv : List Value) : List Rw :=
  [(v0, 9, strs x.rules), (v1, 4, bools x.skip), (v2, 9, strs x.heads), (v3, 3, ints x.head), (v4, 46, nv), (v5, 48, sv)]
structure LOAt (w : World) (b : Nat) (x : LO) (v0 v1 v2 v3 v4 v5 : Value) (nv sv : List Value) : Prop where
  at' : LAt w b 52 (rowsL x v0 v1 v2 v3 v4 v5 nv sv)
  names : ListsAt w (footL b (rowsL x v0 v1 v2 v3 v4 v5 nv sv)) nv (x.names.map strs)
  syms : ListsAt w (footL b (rowsL x v0 v1 v2 v3 v4 v5 nv sv)) sv (x.syms.map ints)
def LOX (w : World) (b : Nat) (x : LO) : Prop := ∃ v0 v1 v2 v3 v4 v5 nv sv, LOAt w b x v0 v1 v2 v3 v4 v5 nv sv

theorem LOAt.fresh {w w' : World} {b : Nat} {x : LO} {v0 v1 v2 v3 v4 v5 : Value} {nv sv : List Value} (h : LOAt w b x v0 v1 v2 v3 v4 v5 nv sv) (m : Fresh w w') : LOAt w' b x v0 v1 v2 v3 v4 v5 nv sv :=
  ⟨h.at'.fresh m, h.names.kept (m.mono (fun _ _ x => x.elim)) (fun k hk => .inl hk), h.syms.kept (m.mono (fun _ _ x => x.elim)) (fun k hk => .inl hk)⟩
end Go.Proofs.Ytolpddkpfigidaa
