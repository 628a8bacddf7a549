import Derived.Test.YtakkooidejdfkaaGreatCk6
namespace Go.Proofs.YtakkooidejdfkaaGreat
open Go.RowKit
set_option linter.unusedVariables false
set_option linter.unusedSimpArgs false

theorem runL_bd (ns : List Node) (en : Int) (s : ByteArray) : ∀ (f i : Nat) (l : List Nat) (best : Int), -1 ≤ best → best ≤ s.size → -1 ≤ runL ns en s f i l best ∧ runL ns en s f i l best ≤ s.size
  | 0, _, _, best, h1, h2 => ⟨h1, h2⟩
  | f + 1, i, l, best, h1, h2 => by
    unfold runL; split
    · refine runL_bd ns en s f _ _ _ ?_ ?_ <;> split <;> omega
    · exact ⟨h1, h2⟩
theorem longF_bd (ns : List Node) (st en : Int) (s : ByteArray) (i : Nat) : -1 ≤ longF ns st en s i ∧ longF ns st en s i ≤ s.size := runL_bd ns en s _ _ _ _ (by omega) (by omega)

def rulesOf (s : ByteArray) : List Ln := (rLines s).1.filter ruleB
def errF (s t : ByteArray) : Int := if 200 < t.size then 1 else (checkF s).1
def RulesRet (s t : ByteArray) (w : World) (e : Ending) (w' : World) : Prop :=
  ∃ v xs, e = .returned (.tuple #[v, .int .i64 (errF s t)]) ∧ Fresh w w' ∧ LinesAt w' v xs ∧ xs.length ≤ 1000 ∧ (errF s t = 0 → xs.map LV.ln = rulesOf s)
theorem filter_ln (xs : List LV) : (xs.filter fun x => ruleB x.ln).map LV.ln = (xs.map LV.ln).filter ruleB := by
  induction xs with
  | nil => rfl
  | cons x xs ih => cases h : ruleB x.ln <;> simp [h, ih]

theorem LinesAt.patRange {w : World} {g n cap : Nat} {xs : List LV} (h : LinesAt w (.slice (some ⟨g, 0, none⟩) n cap) xs) (i : Nat) (hi : i < xs.length) : w.rangeAt g (i * 14 + 10) [xs[i].vn, .int .i64 xs[i].ln.st, .int .i64 xs[i].ln.en] := by
  intro j v hj
  obtain ⟨k10, k11, k12⟩ := LV.at10 (h.each xs[i] (by simp)).front
  have hlt : j < 3 := by have := (List.getElem?_eq_some_iff.1 hj).1; simpa using this
  have e : i * 14 + 10 + j = i * 14 + (10 + j) := by omega
  rw [e, h.cells14 i (10 + j) hi (by omega)]
  simp only [List.getElem?_toArray] at k10 k11 k12
  rcases j with _ | _ | _ | j
  · rw [k10]; simpa using hj
  · rw [k11]; simpa using hj
  · rw [k12]; simpa using hj
  · omega

def ruleMatch (x : Ln) (t : ByteArray) : Bool := longF x.ns x.st x.en t 0 == (t.size : Int)
/-- whether it matches, and the error -/
def matchF (s : ByteArray) (r : Int) (t : ByteArray) : Bool × Int :=
  if errF s t ≠ 0 then (false, errF s t)
  else if r < 0 then (false, 7)
  else match (rulesOf s)[r.toNat]? with
    | some x => (ruleMatch x t, 0)
    | none => (false, 7)

end Go.Proofs.YtakkooidejdfkaaGreat
namespace Go.Proofs.YtakkooidejdfkaaGreat
open Go.RowKit
set_option linter.unusedVariables false
set_option linter.unusedSimpArgs false

def bestL (lns : List Ln) (t : ByteArray) (i : Nat) : Nat → Nat → Int × Int → Int × Int
  | 0, _, b => b
  | f + 1, k, b => match lns[k]? with
    | some x => bestL lns t i f (k + 1) (if b.2 < longF x.ns x.st x.en t i then ((k : Int), longF x.ns x.st x.en t i) else b)
    | none => b
def bestF (lns : List Ln) (t : ByteArray) (i : Nat) : Int × Int := bestL lns t i (lns.length + 1) 0 (0, i)
abbrev tokArr (r a b : Int) : Array Value := #[.int .i64 r, .int .i64 a, .int .i64 b]
def skipB (lns : List Ln) (r : Int) : Bool := if r < 0 then false else match lns[r.toNat]? with | some x => x.skip | none => false
end Go.Proofs.YtakkooidejdfkaaGreat
namespace Go.Proofs.YtakkooidejdfkaaGreat
open Go.RowKit
set_option linter.unusedVariables false
set_option linter.unusedSimpArgs false

theorem bestL_bd (lns : List Ln) (t : ByteArray) (i : Nat) : ∀ (f k : Nat) (b : Int × Int), 0 ≤ b.1 → (i : Int) ≤ b.2 → (b.2 ≤ i ∨ b.2 ≤ t.size) → 0 ≤ (bestL lns t i f k b).1 ∧ (i : Int) ≤ (bestL lns t i f k b).2 ∧ ((bestL lns t i f k b).2 ≤ i ∨ (bestL lns t i f k b).2 ≤ t.size)
  | 0, _, b, h1, h2, h3 => ⟨h1, h2, h3⟩
  | f + 1, k, b, h1, h2, h3 => by
    unfold bestL; split
    · rename_i x hx
      have := longF_bd x.ns x.st x.en t i
      refine bestL_bd lns t i f (k + 1) _ ?_ ?_ ?_ <;> split <;> (try dsimp only) <;> omega
    · exact ⟨h1, h2, h3⟩
theorem bestF_bd (lns : List Ln) (t : ByteArray) (i : Nat) : 0 ≤ (bestF lns t i).1 ∧ (i : Int) ≤ (bestF lns t i).2 ∧ ((bestF lns t i).2 ≤ i ∨ (bestF lns t i).2 ≤ t.size) := bestL_bd lns t i _ _ _ (by simp) (by simp) (by simp)

structure Tk where
  r : Int
  a : Int
  b : Int
def Tk.cells (x : Tk) : List Value := [.int .i64 x.r, .int .i64 x.a, .int .i64 x.b]
def cutL (lns : List Ln) (t : ByteArray) : Nat → Nat → List Tk → List Tk × Int × Int
  | 0, _, _ => ([], 9, 0)
  | f + 1, i, toks =>
    if i < t.size then
      if (bestF lns t i).2 ≤ i then ([], 9, i)
      else cutL lns t f (bestF lns t i).2.toNat (if skipB lns (bestF lns t i).1 then toks else toks ++ [⟨(bestF lns t i).1, i, (bestF lns t i).2⟩])
    else (toks, 0, 0)
def cutF (lns : List Ln) (t : ByteArray) : List Tk × Int × Int := cutL lns t (t.size + 1) 0 []
/-- the tokens, the error, the place -/
def lexF (s t : ByteArray) : List Tk × Int × Int := if errF s t ≠ 0 then ([], errF s t, 0) else cutF (rulesOf s) t
end Go.Proofs.YtakkooidejdfkaaGreat
