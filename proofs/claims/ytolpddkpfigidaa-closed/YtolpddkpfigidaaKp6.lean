import Derived.Test.YtolpddkpfigidaaKp5
namespace Go.Proofs.Ytolpddkpfigidaa
open Go.RowKit
set_option linter.unusedVariables false
set_option linter.unusedSimpArgs false

theorem wordsL_len (s0 : ByteArray) (f : Nat) : ∀ (k : Nat) (acc : List ByteArray), acc.length ≤ k → k ≤ s0.size → (wordsL s0 f k acc).length ≤ s0.size := by
  induction f with
  | zero => intro k acc h hk; simp [wordsL]; omega
  | succ f ih =>
    intro k acc h hk
    unfold wordsL
    have hle := upToF_le (s0.extract k s0.size) 32 32
    rw [ext_size] at hle
    split
    · split <;> split <;> refine ih _ _ ?_ (by omega) <;> (try simp only [List.length_append, List.length_singleton]) <;> omega
    · omega
theorem wordsF_len (s : ByteArray) : (wordsF s).length ≤ s.size := wordsL_len s _ 0 [] (by simp) (by omega)

structure LO.bd (x : LO) (k : Nat) : Prop where
  rules : x.rules.length ≤ k
  skip : x.skip.length ≤ k
  heads : x.heads.length ≤ k
  head : x.head.length ≤ k
  names : x.names.length ≤ k
  words : ∀ l ∈ x.names, l.length ≤ 1000
theorem LO.bd.mono {x : LO} {k m : Nat} (h : x.bd k) (hk : k ≤ m) : x.bd m :=
  ⟨Nat.le_trans h.rules hk, Nat.le_trans h.skip hk, Nat.le_trans h.heads hk, Nat.le_trans h.head hk, Nat.le_trans h.names hk, h.words⟩
theorem takeF_bd {x : LO} {k : Nat} (h : x.bd k) (s : ByteArray) (hs : s.size ≤ 900) : (takeF s x).bd (k + 1) := by
  obtain ⟨h1, h2, h3, h4, h5, h6⟩ := h
  unfold takeF
  split
  · exact ⟨by omega, by omega, by omega, by omega, by omega, h6⟩
  · split
    · exact ⟨by simp; omega, by simp; omega, by simp; omega, by simp; omega, by simp; omega, h6⟩
    · refine ⟨by simp; omega, by simp; omega, ?_, by simp; omega, by simp; omega, ?_⟩
      · simp only []; split <;> (try simp only [List.length_append, List.length_singleton]) <;> omega
      · intro l hl
        simp only [List.mem_append, List.mem_singleton] at hl
        rcases hl with hl | rfl
        · exact h6 l hl
        · have := wordsF_len (s.extract (upToF s 58 58) s.size)
          rw [ext_size] at this
          simp; omega

set_option maxRecDepth 20000 in
theorem take_none (w : World) (b : Nat) (x : LO) (s : ByteArray) (h : LOX w b x) (h0 : s.size = 0) :
    Calls Try.prog 69 #[bptr b, .string s] w fun e w' => e = .returned (.tuple #[]) ∧ LOX w' b (takeF s x) ∧ UpB b w w' := by
  have e1 : takeF s x = x := by unfold takeF; rw [if_pos h0]
  rw [e1]
  have H := hid h
  have hie : s.toList.isEmpty = true := by
    rw [btl]; have : s.size = s.data.size := rfl
    cases hq : s.data.toList with
    | nil => rfl
    | cons => have := congrArg List.length hq; simp at this; omega
  clear h e1
  go_enter Try.func69, Try.ntmps69
  go_wp2
  exact bodyPost_ret (results_none rfl _ _ _) rfl ⟨rfl, H.out, Mod.refl _ _⟩

theorem take_any (w : World) (b : Nat) (x : LO) (s : ByteArray) (h : LOX w b x) (hs : s.size ≤ 900) (hb : x.bd 1000) :
    Calls Try.prog 69 #[bptr b, .string s] w fun e w' => e = .returned (.tuple #[]) ∧ LOX w' b (takeF s x) ∧ UpB b w w' := by
  by_cases h0 : s.size = 0
  · exact take_none w b x s h h0
  · by_cases h1 : 97 ≤ atB s 0 ∧ atB s 0 ≤ 122
    · exact take_rule w b x s h hs hb.rules hb.skip h0 h1
    · exact take_prod w b x s h hs hb.heads hb.head hb.names h0 h1

def lineL (s0 : ByteArray) : Nat → Nat → LO → LO
  | 0, _, x => x
  | f + 1, k, x =>
    if k < s0.size then
      lineL s0 f (if k + upToF (s0.extract k s0.size) 10 10 < s0.size then k + upToF (s0.extract k s0.size) 10 10 + 1 else k + upToF (s0.extract k s0.size) 10 10)
        (takeF (s0.extract k (k + upToF (s0.extract k s0.size) 10 10)) x)
    else x
def zeroLO : LO := ⟨[], [], [], [], [], []⟩
def symOf (x : LO) (t : ByteArray) : Option Int :=
  if findF x.heads t < 0 ∧ findF x.rules t < 0 then none else some (if 0 ≤ findF x.heads t then -1 - findF x.heads t else findF x.rules t)
def ksyms (x : LO) : List ByteArray → List Int → Option (List Int)
  | [], acc => some acc
  | t :: l, acc => match symOf x t with
    | none => none
    | some t => ksyms x l (acc ++ [t])
def allS (x : LO) : List (List ByteArray) → List (List Int) → LO × Bool
  | [], acc => ({ x with syms := acc }, decide (0 < acc.length))
  | l :: ls, acc => match ksyms x l [] with
    | none => ({ x with syms := acc }, false)
    | some t => allS x ls (acc ++ [t])
def linesX (s : ByteArray) : LO := lineL s (s.size + 1) 0 zeroLO
def linesF (s : ByteArray) : LO × Bool := allS (linesX s) (linesX s).names []

theorem zero_at (w : World) : LOX (w.alloc (.cells #[.slice none 0 0, .slice none 0 0, .slice none 0 0, .slice none 0 0, .slice none 0 0, .slice none 0 0] 52)) w.heap.size zeroLO := by
  refine ⟨.slice none 0 0, .slice none 0 0, .slice none 0 0, .slice none 0 0, .slice none 0 0, .slice none 0 0, [], [], ⟨⟨heap_alloc_at _ _, ?_, ?_⟩, ListsAt.nil _ _, ListsAt.nil _ _⟩⟩
  · intro i r hr
    rcases i with _ | _ | _ | _ | _ | _ | i <;> simp [rowsL, zeroLO] at hr <;> subst hr <;> exact World.ownsRow_nil _ _ _ _
  · intro i j r r' k hi hj hk hk'
    exfalso
    rcases i with _ | _ | _ | _ | _ | _ | i <;> simp [rowsL, zeroLO] at hi <;> subst hi <;> simp [Value.ownBlock] at hk
theorem up_fresh {w w1 w2 : World} {b : Nat} (h : Fresh w w1) (hu : UpB b w1 w2) (hb : w.heap.size ≤ b) : Fresh w w2 :=
  h.trans' hu (fun i hi hs => by omega)
end Go.Proofs.Ytolpddkpfigidaa
