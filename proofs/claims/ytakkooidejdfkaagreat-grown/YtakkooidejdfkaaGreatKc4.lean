import Derived.Test.YtakkooidejdfkaaGreatKc3
namespace Go.Proofs.YtakkooidejdfkaaGreat
open Go.RowKit
set_option linter.unusedVariables false
set_option linter.unusedSimpArgs false

theorem orK_cons (k : Nat) (x y : Bool) (xs ys : List Bool) : orK (k + 1) (x :: xs) (y :: ys) = (x || y) :: orK k xs ys := rfl
theorem orK_set' : ∀ (k : Nat) (a b : List Bool), a.length = b.length → k < a.length → (orK k a b).set k (a.getD k false || b.getD k false) = orK (k + 1) a b
  | 0, x :: xs, y :: ys, _, _ => by simp [orK, orL]
  | k + 1, x :: xs, y :: ys, h, hk => by
    have ih := orK_set' k xs ys (by simpa using h) (by simpa using hk)
    rw [orK_cons, orK_cons, List.set_cons_succ, ← ih]; simp
theorem orK_len' : ∀ (k : Nat) (a b : List Bool), a.length = b.length → (orK k a b).length = a.length
  | 0, a, b, _ => by simp [orK]
  | k + 1, [], [], _ => by simp [orK, orL]
  | k + 1, x :: xs, y :: ys, h => by rw [orK_cons]; simp [orK_len' k xs ys (by simpa using h)]
theorem orK_atD' : ∀ (k : Nat) (a b : List Bool), a.length = b.length → k < a.length → (orK k a b).getD k false = a.getD k false
  | 0, a, b, _, _ => by simp [orK]
  | k + 1, x :: xs, y :: ys, h, hk => by
    have := orK_atD' k xs ys (by simpa using h) (by simpa using hk)
    rw [orK_cons]; simpa using this
theorem orK_end (a b : List Bool) (h : a.length = b.length) : orK a.length a b = orL a b := by
  unfold orK
  rw [List.take_of_length_le (by simp [orL, h]), List.drop_length]; simp

def alB (svs : List SV) (s : Int) : Bool := decide (0 ≤ s) || (hdAt svs s).fru
def unL (svs : List SV) (nR : Nat) (hd : Int) : List (Int × List Int) → List Bool → Bool → Bool → List Bool × Bool × Bool
  | [], out, em, fr => (out, em, fr)
  | p :: l, out, em, fr => if p.1 = hd then
      unL svs nR hd l (orL out (kaF svs p.2 (List.replicate (nR + 1) false)).1) (em || (kaF svs p.2 (List.replicate (nR + 1) false)).2) (fr || p.2.all (alB svs))
    else unL svs nR hd l out em fr

end Go.Proofs.YtakkooidejdfkaaGreat
