import Derived.Test.YtjcknghdgfcboaaKp3
import Derived.Deep.QuietTactic
import Derived.BigQuiet
namespace Go.Proofs.Ytjcknghdgfcboaa
open Go.RowKit
set_option linter.unusedVariables false
set_option linter.unusedSimpArgs false

theorem infoInt : (Try.prog.info? 3).map (fun i => (i.zero, i.size, i.bytes)) = some (some (.int .i64 0), 1, 8) := by kernel_rfl
theorem infoInt' : ∃ i, Try.prog.info? 3 = some i ∧ i.zero = some (.int .i64 0) ∧ i.size = 1 ∧ i.bytes = 8 := by
  have h := infoInt
  cases hq : Try.prog.info? 3 with
  | none => simp [hq] at h
  | some i => simp [hq] at h; exact ⟨i, rfl, h.1, h.2.1, h.2.2⟩
theorem infoSs : (Try.prog.info? 45).map (fun i => (i.zero, i.size, i.bytes)) = some (some (.slice none 0 0), 1, 24) := by kernel_rfl
theorem infoSs' : ∃ i, Try.prog.info? 45 = some i ∧ i.zero = some (.slice none 0 0) ∧ i.size = 1 ∧ i.bytes = 24 := by
  have h := infoSs
  cases hq : Try.prog.info? 45 with
  | none => simp [hq] at h
  | some i => simp [hq] at h; exact ⟨i, rfl, h.1, h.2.1, h.2.2⟩
theorem infoIs : (Try.prog.info? 46).map (fun i => (i.zero, i.size, i.bytes)) = some (some (.slice none 0 0), 1, 24) := by kernel_rfl
theorem infoIs' : ∃ i, Try.prog.info? 46 = some i ∧ i.zero = some (.slice none 0 0) ∧ i.size = 1 ∧ i.bytes = 24 := by
  have h := infoIs
  cases hq : Try.prog.info? 46 with
  | none => simp [hq] at h
  | some i => simp [hq] at h; exact ⟨i, rfl, h.1, h.2.1, h.2.2⟩

theorem strsAt_own {w : World} {base : Nat} {e : TypeId} {v : Value} {n : Nat} {l : List ByteArray} (h : w.ownsRow base e 1 v n (strs l)) : StrsAt w v l := by
  have hn : n = l.length := by have := h.1; simp at this; omega
  subst hn
  rcases Joins.ownsRow_forms h with ⟨rfl, h0⟩ | ⟨g, cap, rfl⟩
  · exact ⟨none, 0, by rw [h0], fun j hj => by omega⟩
  · refine ⟨_, _, rfl, fun j hj => ⟨g, 0, rfl, ?_⟩⟩
    have := h.cells (g := g) rfl j (.string l[j]) (by simp [hj])
    rwa [Addr.add_mid] at this
/-- The words behind the first, as the cells of a slice. -/
theorem cells_own {w : World} {base : Nat} {e : TypeId} {v : Value} {n : Nat} {cs : List Value} {F : Nat → Prop} (h : w.ownsRow base e 1 v n cs) (hF : ∀ k, F k → k < base) : CellsAt w F v cs := by
  have hn : n = cs.length := by have := h.1; omega
  subst hn
  rcases Joins.ownsRow_forms h with ⟨rfl, h0⟩ | ⟨g, cap, rfl⟩
  · refine ⟨none, 0, by rw [h0], by omega, fun j u hj => ?_⟩
    have := (List.getElem?_eq_some_iff.1 hj).1; omega
  · have hle : cs.length ≤ cap := by
      rcases h.2 with ⟨h1, _⟩ | ⟨g', cap', cur, h1, _, _, h4, _⟩
      · cases h1
      · rw [Value.slice.injEq] at h1; omega
    refine ⟨_, _, rfl, hle, fun j u hj => ⟨g, 0, rfl, fun x => ?_, (h.lt g rfl).2, ?_⟩⟩
    · have := hF g x; have := (h.lt g rfl).1; omega
    · have := h.cells (g := g) rfl j u hj
      rwa [Addr.add_mid] at this
theorem cells_tail {w : World} {base g n cap : Nat} {e : TypeId} {c : Value} {cs : List Value} {F : Nat → Prop} (h : w.ownsRow base e 1 (.slice (some ⟨g, 0, none⟩) n cap) n (c :: cs)) (hc : cs.length + 1 ≤ cap) (hF : ∀ k, F k → k < base) :
    CellsAt w F (.slice (if cap = 1 then some ⟨g, 0, none⟩ else some ⟨g, 1, none⟩) cs.length (cap - 1)) cs := by
  refine ⟨_, _, rfl, by omega, fun j u hj => ?_⟩
  have hj' := (List.getElem?_eq_some_iff.1 hj).1
  rw [if_neg (by omega)]
  refine ⟨g, 1, rfl, fun x => ?_, (h.lt g rfl).2, ?_⟩
  · have := hF g x; have := (h.lt g rfl).1; omega
  · have := h.cells (g := g) rfl (j + 1) u (by simpa using hj)
    rw [Addr.add_mid] at this
    rw [Nat.add_comm 1 j]; simpa using this
theorem own_cons {w : World} {base : Nat} {e : TypeId} {v : Value} {m : Nat} {xs : List Value} (h : w.ownsRow base e 1 v (m + 1) xs) : ∃ g cap, v = .slice (some ⟨g, 0, none⟩) (m + 1) cap ∧ m + 1 ≤ cap := by
  rcases h.2 with ⟨_, h0⟩ | ⟨g, cap, _, hv, _, _, hc, _⟩
  · omega
  · exact ⟨g, cap, hv, hc⟩
attribute [local go_sem ↓] apS_rule
end Go.Proofs.Ytjcknghdgfcboaa
namespace Go.Proofs.Ytjcknghdgfcboaa
open Go.RowKit
set_option linter.unusedVariables false
set_option linter.unusedSimpArgs false

theorem wordsL_len (s0 : ByteArray) (f : Nat) : ∀ (k : Nat) (acc : List ByteArray), acc.length ≤ k → k ≤ s0.size → (wordsL s0 f k acc).length ≤ s0.size := by
  induction f with
  | zero => intro k acc h hk; simp [wordsL]; omega
  | succ f ih =>
    intro k acc h hk
    unfold wordsL
    have hle := upToF_le (s0.extract k s0.size) 32 32
    rw [ext_size] at hle
    split
    · split <;> split <;> refine ih _ _ ?_ (by omega) <;> (try simp only [List.length_append, List.length_singleton]) <;> omega
    · omega
theorem wordsF_len (s : ByteArray) : (wordsF s).length ≤ s.size := wordsL_len s _ 0 [] (by simp) (by omega)

structure LO.bd (x : LO) (k : Nat) : Prop where
  rules : x.rules.length ≤ k
  skip : x.skip.length ≤ k
  heads : x.heads.length ≤ k
  head : x.head.length ≤ k
  names : x.names.length ≤ k
  words : ∀ l ∈ x.names, l.length ≤ 1000
theorem LO.bd.mono {x : LO} {k m : Nat} (h : x.bd k) (hk : k ≤ m) : x.bd m :=
  ⟨Nat.le_trans h.rules hk, Nat.le_trans h.skip hk, Nat.le_trans h.heads hk, Nat.le_trans h.head hk, Nat.le_trans h.names hk, h.words⟩
theorem takeF_bd {x : LO} {k : Nat} (h : x.bd k) (s : ByteArray) (hs : s.size ≤ 900) : (takeF s x).bd (k + 1) := by
  obtain ⟨h1, h2, h3, h4, h5, h6⟩ := h
  unfold takeF
  split
  · exact ⟨by omega, by omega, by omega, by omega, by omega, h6⟩
  · split
    · exact ⟨by simp; omega, by simp; omega, by simp; omega, by simp; omega, by simp; omega, h6⟩
    · refine ⟨by simp; omega, by simp; omega, ?_, by simp; omega, by simp; omega, ?_⟩
      · simp only []; split <;> (try simp only [List.length_append, List.length_singleton]) <;> omega
      · intro l hl
        simp only [List.mem_append, List.mem_singleton] at hl
        rcases hl with hl | rfl
        · exact h6 l hl
        · have := wordsF_len (s.extract (upToF s 58 58) s.size)
          rw [ext_size] at this
          simp; omega

def lineL (s0 : ByteArray) : Nat → Nat → LO → LO
  | 0, _, x => x
  | f + 1, k, x =>
    if k < s0.size then
      lineL s0 f (if k + upToF (s0.extract k s0.size) 10 10 < s0.size then k + upToF (s0.extract k s0.size) 10 10 + 1 else k + upToF (s0.extract k s0.size) 10 10)
        (takeF (s0.extract k (k + upToF (s0.extract k s0.size) 10 10)) x)
    else x
def zeroLO : LO := ⟨[], [], [], [], [], []⟩
def symOf (x : LO) (t : ByteArray) : Option Int :=
  if findF x.heads t < 0 ∧ findF x.rules t < 0 then none else some (if 0 ≤ findF x.heads t then -1 - findF x.heads t else findF x.rules t)
def ksyms (x : LO) : List ByteArray → List Int → Option (List Int)
  | [], acc => some acc
  | t :: l, acc => match symOf x t with
    | none => none
    | some t => ksyms x l (acc ++ [t])
def allS (x : LO) : List (List ByteArray) → List (List Int) → LO × Bool
  | [], acc => ({ x with syms := acc }, decide (0 < acc.length))
  | l :: ls, acc => match ksyms x l [] with
    | none => ({ x with syms := acc }, false)
    | some t => allS x ls (acc ++ [t])
def linesX (s : ByteArray) : LO := lineL s (s.size + 1) 0 zeroLO
def linesF (s : ByteArray) : LO × Bool := allS (linesX s) (linesX s).names []

theorem up_fresh {w w1 w2 : World} {b : Nat} (h : Fresh w w1) (hu : UpB b w1 w2) (hb : w.heap.size ≤ b) : Fresh w w2 :=
  h.trans' hu (fun i hi hs => by omega)
end Go.Proofs.Ytjcknghdgfcboaa
