import Derived.Test.YteneagnhihcljaaGreatDoorSed
namespace Go.Proofs.YteneagnhihcljaaGreatDoor
open Go.RowKit
set_option linter.unusedVariables false
set_option linter.unusedSimpArgs false

def ldT (v : Value) : Sem Value := Instr.loadAt 110 v
theorem ldT_rule (v : Value) : Instr.loadAt 110 v = ldT v := rfl
theorem ldT_mid {w : World} {g o : Nat} {l : List Bool} (hl : l.length = 9) (hr : w.rangeAt g o (bls l)) : (ldT (.pointer (some ⟨g, o, none⟩))).run Tryz.prog w = .ok (.agg (tkA l)) w :=
  run_loadAt_mid w g o _ _ _ hr Tryz.underlying110 rfl (szTokL hl)
/-- the productions of a head, ahead of which a token stands -/
def ovL (n t : Int) : List (Pr × List Bool) → Nat → List Int
  | [], _ => []
  | p :: l, i => if p.1.head = n ∧ hasT p.2 t = true then (i : Int) :: ovL n t l (i + 1) else ovL n t l (i + 1)
theorem ovL_len (n t : Int) : ∀ (l : List (Pr × List Bool)) (i : Nat), (ovL n t l i).length ≤ l.length
  | [], _ => by simp [ovL]
  | p :: l, i => by
    unfold ovL
    have := ovL_len n t l (i + 1)
    split <;> simp <;> omega

attribute [local go_sem ↓] ldT_rule
end Go.Proofs.YteneagnhihcljaaGreatDoor
namespace Go.Proofs.YteneagnhihcljaaGreatDoor
open Go.RowKit
set_option linter.unusedVariables false
set_option linter.unusedSimpArgs false

structure Cl where
  h : Int
  t : Int
  a : Int
  b : Int
def Cl.cells (c : Cl) : List Value := [.int .i64 c.h, .int .i64 c.t, .int .i64 c.a, .int .i64 c.b]
def pairL (n t : Int) : List Int → List Cl
  | [] => []
  | f :: r => (r.map fun s => ⟨n, t, f, s⟩) ++ pairL n t r
def clT (z : List (Pr × List Bool)) (n R : Nat) : Nat → Nat → List Cl
  | 0, _ => []
  | f + 1, t => if t ≤ R then pairL n t (ovL n t z 0) ++ clT z n R f (t + 1) else []
def clN (z : List (Pr × List Bool)) (R H : Nat) : Nat → Nat → List Cl
  | 0, _ => []
  | f + 1, n => if n < H then clT z n R (R + 2) 0 ++ clN z R H f (n + 1) else []
def clashL (z : List (Pr × List Bool)) (R H : Nat) : List Cl := clN z R H (H + 1) 0
theorem pairL_len (n t : Int) : ∀ l : List Int, (pairL n t l).length ≤ l.length * l.length
  | [] => by simp [pairL]
  | f :: r => by
    have ih := pairL_len n t r
    simp only [pairL, List.length_append, List.length_map, List.length_cons]
    have : (r.length + 1) * (r.length + 1) = r.length * r.length + 2 * r.length + 1 := by
      rw [Nat.add_mul, Nat.mul_add]; omega
    omega
theorem pair_le (z : List (Pr × List Bool)) (hz : z.length ≤ 1000) (n t : Int) : (pairL n t (ovL n t z 0)).length ≤ 1000000 := by
  have h1 := pairL_len n t (ovL n t z 0)
  have h2 := ovL_len n t z 0
  have h3 : (ovL n t z 0).length * (ovL n t z 0).length ≤ 1000 * 1000 := Nat.mul_le_mul (by omega) (by omega)
  omega
theorem clT_len (z : List (Pr × List Bool)) (hz : z.length ≤ 1000) (n R : Nat) : ∀ (f t : Nat), (clT z n R f t).length ≤ f * 1000000
  | 0, _ => by simp [clT]
  | f + 1, t => by
    unfold clT
    have h1 := pair_le z hz n t
    have h2 := clT_len z hz n R f (t + 1)
    split
    · rw [List.length_append]; omega
    · simp
theorem clN_len (z : List (Pr × List Bool)) (hz : z.length ≤ 1000) (R H : Nat) (hR : R ≤ 1000) : ∀ (f n : Nat), (clN z R H f n).length ≤ f * 1002000000
  | 0, _ => by simp [clN]
  | f + 1, n => by
    unfold clN
    have h1 := clT_len z hz n R (R + 2) 0
    have h2 := clN_len z hz R H hR f (n + 1)
    split
    · rw [List.length_append]; omega
    · simp
abbrev ClOwn (w : World) (base : Nat) (v : Value) (l : List Cl) : Prop := w.ownsRow base 104 4 v l.length (flatC Cl.cells l)
theorem infoCl : (Tryz.prog.info? 104).map (fun i => (i.zero, i.size, i.bytes)) = some (some (.agg #[.int .i64 0, .int .i64 0, .int .i64 0, .int .i64 0]), 4, 32) := by kernel_rfl
theorem infoCl' : ∃ i, Tryz.prog.info? 104 = some i ∧ i.zero = some (.agg #[.int .i64 0, .int .i64 0, .int .i64 0, .int .i64 0]) ∧ i.size = 4 ∧ i.bytes = 32 := by
  have h := infoCl
  cases hq : Tryz.prog.info? 104 with
  | none => simp [hq] at h
  | some i => simp [hq] at h; exact ⟨i, rfl, h.1, h.2.1, h.2.2⟩
theorem intOwn_cell {w : World} {base : Nat} {g n cap : Nat} {l : List Int} (h : IntOwn w base (.slice (some ⟨g, 0, none⟩) n cap) l) (i : Nat) (hi : i < l.length) : w.cell? ⟨g, i, none⟩ = some (.int .i64 l[i]) := by
  have := h.cells (g := g) rfl i (.int .i64 l[i]) (by simp [hi])
  rwa [Addr.add_mid, Nat.zero_add] at this

end Go.Proofs.YteneagnhihcljaaGreatDoor
