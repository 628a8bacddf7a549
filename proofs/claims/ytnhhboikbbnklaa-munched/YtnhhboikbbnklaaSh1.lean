import Derived.Test.YtnhhboikbbnklaaLng1
namespace Go.Proofs.Ytnhhboikbbnklaa
open Go.RowKit
set_option linter.unusedVariables false
set_option linter.unusedSimpArgs false

section
variable {α : Type} (cells : α → List Value) (k : Nat)
def flatC (xs : List α) : List Value := xs.flatMap cells
theorem flat_len {xs : List α} (h : ∀ x ∈ xs, (cells x).length = k) : (flatC cells xs).length = xs.length * k := by
  induction xs with
  | nil => simp [flatC]
  | cons n ns ih =>
    have h1 := h n (by simp)
    have h2 := ih (fun m hm => h m (by simp [hm]))
    simp only [flatC, List.flatMap_cons, List.length_append, List.length_cons] at h2 ⊢
    rw [h2, h1, Nat.add_mul]; omega
theorem flat_at {xs : List α} (h : ∀ x ∈ xs, (cells x).length = k) (i j : Nat) (hi : i < xs.length) (hj : j < k) : (flatC cells xs)[i * k + j]? = (cells xs[i])[j]? := by
  induction xs generalizing i with
  | nil => simp at hi
  | cons n ns ih =>
    have h1 := h n (by simp)
    simp only [flatC, List.flatMap_cons]
    cases i with
    | zero => rw [List.getElem?_append_left (by simp; omega)]; simp
    | succ i =>
      have e0 : (i + 1) * k = i * k + k := Nat.succ_mul i k
      rw [List.getElem?_append_right (by omega), h1]
      have e : (i + 1) * k + j - k = i * k + j := by omega
      rw [e]
      exact ih (fun m hm => h m (by simp [hm])) i (by simpa using hi)
end

/-- v is a slice of these. -/
structure RowAt {α : Type} (cells : α → List Value) (k : Nat) (T : TypeId) (w : World) (v : Value) (xs : List α) : Prop where
  own : w.ownsRow 0 T k v xs.length (flatC cells xs)
  wf : ∀ x ∈ xs, (cells x).length = k
theorem RowAt.kept {α : Type} {cells : α → List Value} {k : Nat} {T : TypeId} {S : Nat → Prop} {w w' : World} {v : Value} {xs : List α} (h : RowAt cells k T w v xs) (hm : Mod S w w') (hs : ∀ b, v.ownBlock = some b → ¬ S b) : RowAt cells k T w' v xs :=
  ⟨ownsRow_other h.own (fun g hg => hm.block g (h.own.lt g hg).2 (hs g hg)), h.wf⟩
theorem RowAt.fresh {α : Type} {cells : α → List Value} {k : Nat} {T : TypeId} {w w' : World} {v : Value} {xs : List α} (h : RowAt cells k T w v xs) (hm : Fresh w w') : RowAt cells k T w' v xs := h.kept hm (fun _ _ x => x)
theorem NodesAt.fresh {w w' : World} {v : Value} {ns : List Node} (h : NodesAt w v ns) (hm : Fresh w w') : NodesAt w' v ns := h.kept hm (fun _ _ x => x)
theorem RowAt.range {α : Type} {cells : α → List Value} {k : Nat} {T : TypeId} {w : World} {g n cap : Nat} {xs : List α} (h : RowAt cells k T w (.slice (some ⟨g, 0, none⟩) n cap) xs) (i : Nat) (hi : i < xs.length) : w.rangeAt g (i * k) (cells xs[i]) := by
  intro j v hj
  have hlt : j < k := by have := (List.getElem?_eq_some_iff.1 hj).1; rw [h.wf _ (by simp)] at this; exact this
  have := h.own.cells (g := g) rfl (i * k + j) v (by rw [flat_at cells k h.wf i j hi hlt]; exact hj)
  rwa [Addr.add_mid, Nat.zero_add] at this
theorem RowAt.cell {α : Type} {cells : α → List Value} {k : Nat} {T : TypeId} {w : World} {g n cap : Nat} {xs : List α} (h : RowAt cells k T w (.slice (some ⟨g, 0, none⟩) n cap) xs) (i j : Nat) (hi : i < xs.length) (hj : j < k) : w.cell? ⟨g, i * k + j, none⟩ = (cells xs[i])[j]? := by
  have hlt : j < (cells xs[i]).length := by rw [h.wf _ (by simp)]; exact hj
  rw [h.range i hi j _ (List.getElem?_eq_getElem hlt)]; simp
theorem RowAt.nil {α : Type} (cells : α → List Value) (k : Nat) (T : TypeId) (w : World) : RowAt cells k T w (.slice none 0 0) [] := ⟨World.ownsRow_nil _ _ _ _, fun _ h => by cases h⟩

structure Wd where
  place : Int
  ls : List Int
def Wd.cells (d : Wd) : List Value := .int .i64 d.place :: d.ls.map (Value.int .u8)
def zero8 : List Int := [0, 0, 0, 0, 0, 0, 0, 0]
def rWordL (s : ByteArray) (i : Int) : Nat → Nat → List Int → List Int × Int
  | 0, n, ls => (ls, i + n)
  | f + 1, n, ls =>
    if n < 8 then
      if isSmallB (atB s (i + n)) then rWordL s i f (n + 1) (ls.set n (atB s (i + n))) else (ls, i + n)
    else (ls, i + 8)
/-- the word, behind it, whether there is one -/
def rWord (s : ByteArray) (i : Int) : Wd × Int × Bool :=
  if (!isSmallB (atB s i) && !isCapB (atB s i)) = true then (⟨0, zero8⟩, i, false)
  else (⟨i, (rWordL s i 9 1 (zero8.set 0 (atB s i))).1⟩, (rWordL s i 9 1 (zero8.set 0 (atB s i))).2, true)
theorem rWordL_len (s : ByteArray) (i : Int) : ∀ (f n : Nat) (ls : List Int), ls.length = 8 → (rWordL s i f n ls).1.length = 8
  | 0, _, _, h => h
  | f + 1, n, ls, h => by
    unfold rWordL; split
    · split
      · exact rWordL_len s i f _ _ (by simpa using h)
      · exact h
    · exact h
theorem rWordL_bd (s : ByteArray) (i : Int) (h0 : 0 ≤ i) : ∀ (f n : Nat) (ls : List Int), n ≤ 8 → i + n ≤ s.size → i + n ≤ (rWordL s i f n ls).2 ∧ (rWordL s i f n ls).2 ≤ i + 8 ∧ (rWordL s i f n ls).2 ≤ s.size
  | 0, n, _, hn, hs => by unfold rWordL; simp; omega
  | f + 1, n, ls, hn, hs => by
    unfold rWordL; split
    · split
      · rename_i h1 h2
        have := atB_lt (s := s) (i := i + n) (by intro e; rw [e] at h2; simp [isSmallB] at h2)
        have := rWordL_bd s i h0 f (n + 1) (ls.set n (atB s (i + n))) (by omega) (by omega)
        omega
      · simp; omega
    · simp; omega
theorem rWord_len (s : ByteArray) (i : Int) : (rWord s i).1.ls.length = 8 := by
  unfold rWord; split
  · rfl
  · exact rWordL_len _ _ _ _ _ rfl
theorem rWord_bd (s : ByteArray) (i : Int) (h0 : 0 ≤ i) : i ≤ (rWord s i).2.1 ∧ (rWord s i).2.1 ≤ i + 8 ∧ ((rWord s i).2.2 = true → i < (rWord s i).2.1 ∧ (rWord s i).2.1 ≤ s.size) := by
  unfold rWord; split
  · simp; omega
  · rename_i h1
    have h2 : atB s i ≠ -1 := by intro e; rw [e] at h1; simp [isSmallB, isCapB] at h1
    have := atB_lt h2
    have := rWordL_bd s i h0 9 1 (zero8.set 0 (atB s i)) (by omega) (by omega)
    exact ⟨by dsimp only; omega, by dsimp only; omega, fun _ => by dsimp only; omega⟩
theorem Wd.cells_len {d : Wd} (h : d.ls.length = 8) : d.cells.length = 9 := by simp [Wd.cells, h]
theorem szWord : (Try.prog.info? 69).map (·.size) = some 9 := by kernel_rfl
theorem szWordOf {d : Wd} (h : d.ls.length = 8) : (Try.prog.info? 69).map (·.size) = some d.cells.toArray.size := by rw [List.size_toArray, Wd.cells_len h]; exact szWord
theorem Wd.one (d : Wd) : d.cells.toArray.all (·.oneCell') = true := by
  apply all_oneCell_toArray
  intro v hv; simp [Wd.cells] at hv
  rcases hv with rfl | ⟨a, _, rfl⟩ <;> rfl
theorem Wd.size {d : Wd} (h : d.ls.length = 8) : d.cells.toArray.size = 9 := by rw [List.size_toArray, Wd.cells_len h]
theorem sameSize {a b : Array Value} {n : Nat} (ha : a.size = n) (hb : b.size = n) : a.size = b.size := ha.trans hb.symm
end Go.Proofs.Ytnhhboikbbnklaa
