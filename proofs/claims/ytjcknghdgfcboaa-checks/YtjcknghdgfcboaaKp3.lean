import Derived.Test.YtjcknghdgfcboaaLx3
import Derived.Test.YtjcknghdgfcboaaPat5
namespace Go.Proofs.Ytjcknghdgfcboaa
open Go.RowKit
set_option linter.unusedVariables false
set_option linter.unusedSimpArgs false

/-- One row of an object: its slice, its elements' type, what lies in it. -/
abbrev Rw := Value × TypeId × List Value
/-- The blocks that the object at b takes. -/
def footL (b : Nat) (rs : List Rw) (k : Nat) : Prop := k = b ∨ ∃ (i : Nat) (r : Rw), rs[i]? = some r ∧ Value.ownBlock r.1 = some k
/-- An object at block b whose fields are rows of its own. -/
structure LAt (w : World) (b : Nat) (ty : TypeId) (rs : List Rw) : Prop where
  blk : w.heap[b]? = some (.cells (rs.map (·.1)).toArray ty (0, 0))
  own : ∀ (i : Nat) (r : Rw), rs[i]? = some r → w.ownsRow (b + 1) r.2.1 1 r.1 r.2.2.length r.2.2
  apart : ∀ (i j : Nat) (r r' : Rw) (k : Nat), rs[i]? = some r → rs[j]? = some r' → Value.ownBlock r.1 = some k → Value.ownBlock r'.1 = some k → i = j

theorem LAt.lt {w : World} {b : Nat} {ty : TypeId} {rs : List Rw} (h : LAt w b ty rs) : b < w.heap.size := heap_lt h.blk
theorem LAt.own_lt {w : World} {b : Nat} {ty : TypeId} {rs : List Rw} (h : LAt w b ty rs) {i : Nat} {r : Rw} (hr : rs[i]? = some r) : ∀ k, Value.ownBlock r.1 = some k → b < k ∧ k < w.heap.size := fun k hk => by
  have := (h.own i r hr).lt k hk; omega
theorem LAt.foot_lt {w : World} {b : Nat} {ty : TypeId} {rs : List Rw} (h : LAt w b ty rs) {k : Nat} (hk : footL b rs k) : b ≤ k ∧ k < w.heap.size := by
  rcases hk with rfl | ⟨i, r, hr, hk⟩
  · exact ⟨Nat.le_refl _, h.lt⟩
  · have := h.own_lt hr k hk; omega
theorem LAt.kept {S : Nat → Prop} {w w' : World} {b : Nat} {ty : TypeId} {rs : List Rw} (h : LAt w b ty rs) (m : Mod S w w') (hs : ∀ k, footL b rs k → ¬ S k) : LAt w' b ty rs :=
  ⟨m.at h.blk (hs b (.inl rfl)), fun i r hr => ownsRow_other (h.own i r hr) (fun g hg => m.block g (h.own_lt hr g hg).2 (hs g (.inr ⟨i, r, hr, hg⟩))), h.apart⟩
theorem LAt.fresh {w w' : World} {b : Nat} {ty : TypeId} {rs : List Rw} (h : LAt w b ty rs) (m : Fresh w w') : LAt w' b ty rs := h.kept m (fun _ _ x => x)

/-- v is a slice of these cells, in a block that F does not name. -/
def CellsAt (w : World) (F : Nat → Prop) (v : Value) (cs : List Value) : Prop :=
  ∃ a c, v = .slice a cs.length c ∧ cs.length ≤ c ∧ ∀ (j : Nat) (u : Value), cs[j]? = some u → ∃ g o, a = some ⟨g, o, none⟩ ∧ ¬ F g ∧ g < w.heap.size ∧ w.cell? ⟨g, o + j, none⟩ = some u
def ListsAt (w : World) (F : Nat → Prop) (vs : List Value) (cs : List (List Value)) : Prop :=
  vs.length = cs.length ∧ ∀ (i : Nat) (v : Value) (c : List Value), vs[i]? = some v → cs[i]? = some c → CellsAt w F v c
theorem CellsAt.kept {F F' : Nat → Prop} {w w' : World} {v : Value} {cs : List Value} (h : CellsAt w F v cs) (m : Mod F w w') (hF : ∀ k, F' k → F k ∨ w.heap.size ≤ k) : CellsAt w' F' v cs := by
  obtain ⟨a, c, rfl, hc0, h⟩ := h
  refine ⟨a, c, rfl, hc0, fun j u hj => ?_⟩
  obtain ⟨g, o, rfl, hg, hl, hc⟩ := h j u hj
  refine ⟨g, o, rfl, fun x => ?_, Nat.lt_of_lt_of_le hl m.size, ?_⟩
  · rcases hF g x with h1 | h1
    · exact hg h1
    · omega
  · have := m.block g hl hg
    unfold World.cell? at hc ⊢
    rw [this]; exact hc
theorem ListsAt.kept {F F' : Nat → Prop} {w w' : World} {vs : List Value} {cs : List (List Value)} (h : ListsAt w F vs cs) (m : Mod F w w') (hF : ∀ k, F' k → F k ∨ w.heap.size ≤ k) : ListsAt w' F' vs cs :=
  ⟨h.1, fun i v c h1 h2 => (h.2 i v c h1 h2).kept m hF⟩
theorem ListsAt.snoc {F : Nat → Prop} {w : World} {vs : List Value} {cs : List (List Value)} {v : Value} {c : List Value} (h : ListsAt w F vs cs) (hv : CellsAt w F v c) : ListsAt w F (vs ++ [v]) (cs ++ [c]) := by
  refine ⟨by simp [h.1], fun i v' c' h1 h2 => ?_⟩
  by_cases hi : i < vs.length
  · rw [List.getElem?_append_left hi] at h1
    rw [List.getElem?_append_left (by have := h.1; omega)] at h2
    exact h.2 i v' c' h1 h2
  · have hi2 := (List.getElem?_eq_some_iff.1 h1).1
    simp at hi2
    have e : i = vs.length := by omega
    subst e
    rw [List.getElem?_append_right (Nat.le_refl _)] at h1
    rw [List.getElem?_append_right (by have := h.1; omega), h.1] at h2
    simp at h1 h2; subst h1; subst h2; exact hv
theorem ListsAt.nil (w : World) (F : Nat → Prop) : ListsAt w F [] [] := ⟨rfl, fun i v c h => by simp at h⟩

/-- The object behind an append onto one of its rows, laid back. -/
theorem ladd {w W w1 : World} {b : Nat} {ty : TypeId} {rs : List Rw} {i : Nat} {v v' : Value} {e : TypeId} {xs : List Value} {x : Value} (h : LAt w b ty rs) (hW : Fresh w W) (hi : rs[i]? = some (v, e, xs))
    (hown : w1.ownsRow (b + 1) e 1 v' (xs.length + 1) (xs ++ [x])) (hg : W.grownBy w1 v.ownBlock)
    (hb : ∀ k, v'.ownBlock = some k → v.ownBlock = some k ∨ W.heap.size ≤ k) :
    LAt (w1.setCell ⟨b, i, none⟩ v') b ty (rs.set i (v', e, xs ++ [x])) ∧ Mod (footL b rs) w (w1.setCell ⟨b, i, none⟩ v') ∧
      (∀ k, footL b (rs.set i (v', e, xs ++ [x])) k → footL b rs k ∨ w.heap.size ≤ k) := by
  have hil := (List.getElem?_eq_some_iff.1 hi).1
  have hbb : W.heap[b]? = some (.cells (rs.map (·.1)).toArray ty (0, 0)) := hW.at h.blk (fun x => x)
  have h1 : w1.heap[b]? = some (.cells (rs.map (·.1)).toArray ty (0, 0)) := by
    rw [hg.block b (heap_lt hbb) (fun e => by have := h.own_lt hi b e.symm; omega)]; exact hbb
  have hlt := hown.lt
  have hget : ∀ (j : Nat) (r : Rw), (rs.set i (v', e, xs ++ [x]))[j]? = some r → (j = i ∧ r = (v', e, xs ++ [x])) ∨ (j ≠ i ∧ rs[j]? = some r) := by
    intro j r hj
    by_cases e : i = j
    · subst e
      rw [List.getElem?_set_self hil] at hj
      left; exact ⟨rfl, by simpa using hj.symm⟩
    · rw [List.getElem?_set_ne e] at hj
      right; exact ⟨fun h => e h.symm, hj⟩
  -- a row of another field is apart from the new one
  have hap : ∀ (j : Nat) (r : Rw) (k : Nat), j ≠ i → rs[j]? = some r → Value.ownBlock r.1 = some k → v'.ownBlock = some k → False := by
    intro j r k hne hj hk hk'
    rcases hb k hk' with h2 | h2
    · exact hne (h.apart j i r _ k hj hi hk h2)
    · have := h.own_lt hj k hk; have := hW.size; omega
  refine ⟨⟨?_, ?_, ?_⟩, ?_, ?_⟩
  · have := Proofs.Ytjcknghdgfcboaa.heap_setCell_same h1 i v'
    rw [this, List.map_set]; simp
  · intro j r hj
    rcases hget j r hj with ⟨rfl, rfl⟩ | ⟨hne, hj⟩
    · have e2 : (xs ++ [x]).length = xs.length + 1 := by simp
      show World.ownsRow _ _ _ _ _ (xs ++ [x]).length _
      rw [e2]
      exact ownsRow_other hown (fun g hg' => by rw [Proofs.Ytjcknghdgfcboaa.heap_setCell_other _ (by have := hlt g hg'; simp; omega)])
    · refine ownsRow_other ((h.own j r hj)) (fun g hg' => ?_)
      have hl := h.own_lt hj g hg'
      rw [Proofs.Ytjcknghdgfcboaa.heap_setCell_other _ (by simp; omega), hg.block g (by have := hW.size; omega) (fun e => hne (h.apart j i r _ g hj hi hg' e.symm)), hW.block g hl.2 (fun x => x)]
  · intro j j' r r' k hj hj' hk hk'
    rcases hget j r hj with ⟨e1, e2⟩ | ⟨hne, hj2⟩
    · rcases hget j' r' hj' with ⟨e3, e4⟩ | ⟨hne', hj2'⟩
      · rw [e1, e3]
      · subst e2; exact (hap j' r' k hne' hj2' hk' hk).elim
    · rcases hget j' r' hj' with ⟨e3, e4⟩ | ⟨hne', hj2'⟩
      · subst e4; exact (hap j r k hne hj2 hk hk').elim
      · exact h.apart j j' r r' k hj2 hj2' hk hk'
  · have m1 : Mod (footL b rs) w W := hW.mono (fun _ _ x => x.elim)
    exact (m1.grown hg (fun k hk _ => .inr ⟨i, _, hi, hk⟩)).setCell (fun _ => .inl rfl) _
  · rintro k (rfl | ⟨j, r, hj, hk⟩)
    · exact .inl (.inl rfl)
    · rcases hget j r hj with ⟨rfl, rfl⟩ | ⟨hne, hj⟩
      · rcases hb k hk with h2 | h2
        · exact .inl (.inr ⟨j, _, hi, h2⟩)
        · right; have := hW.size; omega
      · exact .inl (.inr ⟨j, r, hj, hk⟩)

/-- What the lines of a specification say. -/
structure LO where
  rules : List ByteArray
  skip : List Bool
  heads : List ByteArray
  head : List Int
  names : List (List ByteArray)
  syms : List (List Int)
abbrev strs (l : List ByteArray) : List Value := l.map Value.string
abbrev ints (l : List Int) : List Value := l.map (Value.int .i64)
abbrev bools (l : List Bool) : List Value := l.map Value.bool
abbrev rowsL (x : LO) (v0 v1 v2 v3 v4 v5 : Value) (nv sv : List Value) : List Rw :=
  [(v0, 9, strs x.rules), (v1, 4, bools x.skip), (v2, 9, strs x.heads), (v3, 3, ints x.head), (v4, 45, nv), (v5, 46, sv)]
end Go.Proofs.Ytjcknghdgfcboaa
namespace Go.Proofs.Ytjcknghdgfcboaa
open Go.RowKit
set_option linter.unusedVariables false
set_option linter.unusedSimpArgs false

/-- An append, under a name that the walk does not open. -/
def apS (ts : Array TypeId) (ty : TypeId) (args : Array Value) : Sem Value := Builtin.append_ ts ty args
theorem apS_rule (ts : Array TypeId) (ty : TypeId) (args : Array Value) : Builtin.append_ ts ty args = apS ts ty args := rfl
/-- An append's run ahead of the walk of a region that draws its order: the rule for its step, and what is behind it. -/
theorem apS_mine {P : Program} (w : World) (base : Nat) (t ty e : TypeId) (i : TypeInfo) (z : Value) (size bytes : Nat) (ht : P.underlying t = some (.slice e)) (hi : P.info? e = some i) (hz : i.zero = some z)
    (hsize : i.size = size) (hby : i.bytes = bytes) (hzs : z.cells.size = size) (hsz : 0 < size)
    (v : Value) (n : Nat) (xs : List Value) (hown : w.ownsRow base e size v n xs)
    (a : Addr) (m c : Nat) (news : List Value) (hl : news.length = m * size) (hnews : ∀ j u, news[j]? = some u → w.cell? (a.add j) = some u) (h1 : ∀ u ∈ news, u.oneCell' = true)
    (h63 : n + m ≤ maxLen) (hbytes : (n + m) * bytes ≤ 140737488355328) (hbase : base ≤ w.heap.size) :
    ∃ v' w', (apS #[t, t] ty #[v, .slice (some a) m c]).run P w = .ok v' w' ∧ w'.ownsRow base e size v' (n + m) (xs ++ news) ∧ w.grownBy w' v.ownBlock ∧
      (∀ k, v'.ownBlock = some k → v.ownBlock = some k ∨ w.heap.size ≤ k) :=
  run_append_mine (P := P) w base t ty e i z size bytes ht hi hz hsize hby hzs hsz v n xs hown a m c news hl hnews h1 h63 hbytes hbase
end Go.Proofs.Ytjcknghdgfcboaa
namespace Go.Proofs.Ytjcknghdgfcboaa
open Go.RowKit
set_option linter.unusedVariables false
set_option linter.unusedSimpArgs false

theorem btl_loop (s : ByteArray) : ∀ (f i : Nat) (acc : List UInt8), s.size - i ≤ f → ByteArray.toList.loop s i acc = acc.reverse ++ (s.data.toList.drop i) := by
  intro f
  induction f with
  | zero =>
    intro i acc h
    unfold ByteArray.toList.loop
    have : ¬ i < s.size := by omega
    rw [if_neg this, List.drop_eq_nil_of_le (by have : s.size = s.data.size := rfl; simp; omega)]; simp
  | succ f ih =>
    intro i acc h
    unfold ByteArray.toList.loop
    by_cases hi : i < s.size
    · rw [if_pos hi, ih (i + 1) _ (by omega)]
      have hi' : i < s.data.toList.length := by have : s.size = s.data.size := rfl; simp; omega
      rw [List.drop_eq_getElem_cons hi']
      have : s.get! i = s.data.toList[i] := by
        have hsz : i < s.data.size := hi
        simp only [ByteArray.get!, Array.getElem_toList]
        exact getElem!_pos s.data i hsz
      rw [this]; simp
    · rw [if_neg hi, List.drop_eq_nil_of_le (by have : s.size = s.data.size := rfl; simp; omega)]; simp
theorem btl (s : ByteArray) : s.toList = s.data.toList := by
  unfold ByteArray.toList; rw [btl_loop s s.size 0 [] (by omega)]; simp
theorem btl_empty {s : ByteArray} (h : s.size ≠ 0) : s.toList.isEmpty = false := by
  rw [btl]; have : s.size = s.data.size := rfl
  cases hq : s.data.toList with
  | nil => have := congrArg List.length hq; simp at this; simp [this] at h
  | cons => rfl
section
variable {w W w1 : World} {b : Nat} {x : LO} {v0 v1 v2 v3 v4 v5 v' : Value} {nv sv : List Value}
abbrev UpB (b : Nat) : World → World → Prop := Mod (fun k => b ≤ k)
end

def takeF (s : ByteArray) (x : LO) : LO :=
  if s.size = 0 then x
  else if 97 ≤ atB s 0 ∧ atB s 0 ≤ 122 then
    { x with rules := x.rules ++ [s.extract 0 (upToF s 61 126)], skip := x.skip ++ [decide (upToF s 61 126 < s.size) && (atB s (upToF s 61 126) == 126)] }
  else
    { x with
      heads := if findF x.heads (s.extract 0 (upToF s 58 58)) < 0 then x.heads ++ [s.extract 0 (upToF s 58 58)] else x.heads
      head := x.head ++ [if findF x.heads (s.extract 0 (upToF s 58 58)) < 0 then (x.heads.length : Int) else findF x.heads (s.extract 0 (upToF s 58 58))]
      names := x.names ++ [(wordsF (s.extract (upToF s 58 58) s.size)).drop 1] }

theorem infoB1 : (Try.prog.info? 4).map (fun i => (i.zero, i.size, i.bytes)) = some (some (.bool false), 1, 1) := by kernel_rfl
theorem infoB1' : ∃ i, Try.prog.info? 4 = some i ∧ i.zero = some (.bool false) ∧ i.size = 1 ∧ i.bytes = 1 := by
  have h := infoB1
  cases hq : Try.prog.info? 4 with
  | none => simp [hq] at h
  | some i => simp [hq] at h; exact ⟨i, rfl, h.1, h.2.1, h.2.2⟩

attribute [local go_sem ↓] apS_rule
end Go.Proofs.Ytjcknghdgfcboaa
