import Derived.Test.YtjcknghdgfcboaaKp7
import Derived.Deep.RegionWith
namespace Go.Proofs.Ytjcknghdgfcboaa
open Go.RowKit
set_option linter.unusedVariables false
set_option linter.unusedSimpArgs false

theorem longK_pos (s : ByteArray) (rules : Nat) (t : ByteArray) (n : Nat) (h : 0 < n) : longK s rules t n = match firstR s (t.extract 0 n) rules (rules + 1) 0 with
    | some r => ((n : Int), (r : Int))
    | none => longK s rules t (n - 1) := by
  obtain ⟨n, rfl⟩ : ∃ m, n = m + 1 := ⟨n - 1, by omega⟩
  conv => lhs; unfold longK
  rfl
end Go.Proofs.Ytjcknghdgfcboaa
namespace Go.Proofs.Ytjcknghdgfcboaa
open Go.RowKit
set_option linter.unusedVariables false
set_option linter.unusedSimpArgs false

theorem cutL_pre (lns : List Ln) (t : ByteArray) (f : Nat) : ∀ (i : Nat) (toks : List Tk), (cutL lns t f i toks).2.1 = 0 → ∃ l, (cutL lns t f i toks).1 = toks ++ l := by
  induction f with
  | zero => intro i toks h; simp [cutL] at h
  | succ f ih =>
    intro i toks h
    unfold cutL at h ⊢
    split
    · rename_i h1
      rw [if_pos h1] at h
      split
      · rename_i h2; rw [if_pos h2] at h; simp at h
      · rename_i h2
        rw [if_neg h2] at h
        obtain ⟨l, hl⟩ := ih _ _ h
        rw [hl]
        split
        · exact ⟨l, rfl⟩
        · exact ⟨⟨(bestF lns t i).1, i, (bestF lns t i).2⟩ :: l, by simp⟩
    · exact ⟨[], by simp⟩
end Go.Proofs.Ytjcknghdgfcboaa
namespace Go.Proofs.Ytjcknghdgfcboaa
open Go.RowKit
set_option linter.unusedVariables false
set_option linter.unusedSimpArgs false

/-- What the longest beginning by Match has to do with what Lex cuts off at i. -/
def BestAs (s t : ByteArray) (i : Nat) : Prop :=
  ∃ n r : Nat, longK s (rulesOf s).length (t.extract i t.size) (t.extract i t.size).size = ((n : Int), (r : Int)) ∧ i + n ≤ t.size ∧ (n = 0 → (bestF (rulesOf s) t i).2 ≤ i) ∧
    (0 < n → r < (rulesOf s).length ∧ bestF (rulesOf s) t i = ((r : Int), (i : Int) + n))
structure LinesAs (s : ByteArray) : Prop where
  sound : (linesF s).2 = true
  rules : (linesF s).1.rules.length = (rulesOf s).length
  skip : (linesF s).1.skip = (rulesOf s).map Ln.skip

end Go.Proofs.Ytjcknghdgfcboaa
namespace Go.Proofs.Ytjcknghdgfcboaa
open Go.RowKit
set_option linter.unusedVariables false
set_option linter.unusedSimpArgs false

/-- the crowd behind k bytes from i on -/
def crK (ns : List Node) (st : Int) (s : ByteArray) (i : Nat) : Nat → List Nat
  | 0 => enterF ns.length [] st
  | k + 1 => nextL ns s (i + k) (spreadF ns (crK ns st s i k))
def accK (ns : List Node) (st en : Int) (s : ByteArray) (i k : Nat) : Bool := holdsB ns.length (spreadF ns (crK ns st s i k)) en

theorem spreadF_nil (ns : List Node) : spreadF ns [] = [] := by unfold spreadF spreadL; simp
theorem holdsB_nil (n : Nat) (en : Int) : holdsB n [] en = false := by simp [holdsB]
theorem nextL_nil (ns : List Node) (s : ByteArray) (i : Nat) : nextL ns s i [] = [] := by unfold nextL; split <;> simp [stepF]
theorem crK_nil {ns : List Node} {st : Int} {s : ByteArray} {i k : Nat} (h : crK ns st s i k = []) : ∀ j, crK ns st s i (k + j) = [] := by
  intro j
  induction j with
  | zero => exact h
  | succ j ih =>
    show nextL ns s (i + (k + j)) (spreadF ns (crK ns st s i (k + j))) = []
    rw [ih, spreadF_nil, nextL_nil]
theorem accK_nil {ns : List Node} {st en : Int} {s : ByteArray} {i k : Nat} (h : crK ns st s i k = []) (j : Nat) (hj : k ≤ j) : accK ns st en s i j = false := by
  have := crK_nil h (j - k)
  rw [show k + (j - k) = j by omega] at this
  unfold accK; rw [this, spreadF_nil, holdsB_nil]

theorem runL_spec (ns : List Node) (st en : Int) (s : ByteArray) (i : Nat) : ∀ (f k : Nat) (best : Int), s.size + 2 ≤ f + (i + k) →
    (∃ j, k ≤ j ∧ i + j ≤ s.size ∧ accK ns st en s i j = true ∧ runL ns en s f (i + k) (crK ns st s i k) best = ((i + j : Nat) : Int) ∧ ∀ j', j < j' → i + j' ≤ s.size → accK ns st en s i j' = false) ∨
    (runL ns en s f (i + k) (crK ns st s i k) best = best ∧ ∀ j, k ≤ j → i + j ≤ s.size → accK ns st en s i j = false) := by
  intro f
  induction f with
  | zero =>
    intro k best hf
    right
    refine ⟨rfl, fun j hj h => ?_⟩
    omega
  | succ f ih =>
    intro k best hf
    unfold runL
    by_cases hc : i + k ≤ s.size ∧ 0 < (crK ns st s i k).length
    · rw [if_pos hc]
      have e : nextL ns s (i + k) (spreadF ns (crK ns st s i k)) = crK ns st s i (k + 1) := rfl
      rw [e]
      have e2 : holdsB ns.length (spreadF ns (crK ns st s i k)) en = accK ns st en s i k := rfl
      rw [e2]
      rcases ih (k + 1) (if accK ns st en s i k = true then ((i + k : Nat) : Int) else best) (by omega) with ⟨j, h1, h2, h3, h4, h5⟩ | ⟨h1, h2⟩
      · left
        exact ⟨j, by omega, h2, h3, h4, h5⟩
      · cases ha : accK ns st en s i k
        · right
          rw [ha] at h1
          refine ⟨by simpa [Nat.add_assoc] using h1, fun j hj hl => ?_⟩
          by_cases hjk : j = k
          · rw [hjk]; exact ha
          · exact h2 j (by omega) hl
        · left
          rw [ha] at h1
          exact ⟨k, Nat.le_refl _, hc.1, ha, by simpa [Nat.add_assoc] using h1, fun j' hj hl => h2 j' (by omega) hl⟩
    · rw [if_neg hc]
      right
      refine ⟨rfl, fun j hj hl => ?_⟩
      have : crK ns st s i k = [] := by
        cases hq : crK ns st s i k with
        | nil => rfl
        | cons a l => rw [hq] at hc; simp at hc; omega
      exact accK_nil this j hj

/-- longF is the place behind the longest beginning that is taken, or -1. -/
theorem longF_spec (ns : List Node) (st en : Int) (s : ByteArray) (i : Nat) :
    (∃ j, i + j ≤ s.size ∧ accK ns st en s i j = true ∧ longF ns st en s i = ((i + j : Nat) : Int) ∧ ∀ j', j < j' → i + j' ≤ s.size → accK ns st en s i j' = false) ∨
    (longF ns st en s i = -1 ∧ ∀ j, i + j ≤ s.size → accK ns st en s i j = false) := by
  rcases runL_spec ns st en s i (s.size + 2) 0 (-1) (by omega) with ⟨j, _, h2, h3, h4, h5⟩ | ⟨h1, h2⟩
  · exact .inl ⟨j, h2, h3, h4, h5⟩
  · exact .inr ⟨h1, fun j hj => h2 j (by omega) hj⟩

theorem crK_ext (ns : List Node) (st : Int) (t : ByteArray) (i n : Nat) (hn : i + n ≤ t.size) : ∀ k, k ≤ n → crK ns st (t.extract i (i + n)) 0 k = crK ns st t i k := by
  intro k
  induction k with
  | zero => intro _; rfl
  | succ k ih =>
    intro hk
    show nextL ns (t.extract i (i + n)) (0 + k) _ = nextL ns t (i + k) _
    rw [ih (by omega)]
    unfold nextL
    have h1 : 0 + k < (t.extract i (i + n)).size := by rw [ByteArray.size_extract]; omega
    have h2 : i + k < t.size := by omega
    rw [dif_pos h1, dif_pos h2]
    have e : (t.extract i (i + n))[0 + k] = t[i + k] := by
      rw [ByteArray.getElem_extract]; congr 1; omega
    rw [e]
theorem match_acc (x : Ln) (t : ByteArray) (i n : Nat) (hn : i + n ≤ t.size) : ruleMatch x (t.extract i (i + n)) = accK x.ns x.st x.en t i n := by
  have hsz : (t.extract i (i + n)).size = n := by rw [ByteArray.size_extract]; omega
  have ha : ∀ k, k ≤ n → accK x.ns x.st x.en (t.extract i (i + n)) 0 k = accK x.ns x.st x.en t i k := fun k hk => by
    unfold accK; rw [crK_ext x.ns x.st t i n hn k hk]
  unfold ruleMatch
  rw [hsz, ← ha n (Nat.le_refl _)]
  rcases longF_spec x.ns x.st x.en (t.extract i (i + n)) 0 with ⟨j, h1, h2, h3, h4⟩ | ⟨h1, h2⟩
  · rw [hsz] at h1 h4
    rw [h3]
    by_cases hj : j = n
    · subst hj; rw [h2]; simp
    · rw [h4 n (by omega) (by omega)]
      simp; omega
  · rw [h1, h2 n (by rw [hsz]; omega)]
    simp
end Go.Proofs.Ytjcknghdgfcboaa
