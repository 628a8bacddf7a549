import Derived.Test.YtcpgklcimacngaaGreatPd7
import Derived.Test.YtcpgklcimacngaaGreatCk4
import Derived.Test.YtcpgklcimacngaaGreatLng1
import Derived.Deep.QuietTactic
import Derived.BigQuiet
import Derived.Deep.RegionWith
namespace Go.Proofs.YtcpgklcimacngaaGreat
open Go.RowKit
set_option linter.unusedVariables false
set_option linter.unusedSimpArgs false

theorem fcell' {a b : World} {p : Addr} {v : Value} (h : Fresh a b) (hc : a.cell? p = some v) : b.cell? p = some v := by
  have hp : p.block < a.heap.size := by
    unfold World.cell? at hc
    split at hc
    · rename_i hq; exact heap_lt hq
    · cases hc
  have hb := h.block p.block hp (fun x => x)
  unfold World.cell? at hc ⊢
  rw [hb]; exact hc
/-- v is a slice of these numbers. -/
def IntAt (w : World) (v : Value) (l : List Int) : Prop :=
  ∃ ao cap, v = .slice ao l.length cap ∧ l.length ≤ cap ∧ ∀ j (h : j < l.length), ∃ g o, ao = some ⟨g, o, none⟩ ∧ w.cell? ⟨g, o + j, none⟩ = some (.int .i64 l[j])
theorem IntAt.fresh {w w' : World} {v : Value} {l : List Int} (h : IntAt w v l) (hf : Fresh w w') : IntAt w' v l := by
  obtain ⟨ao, cap, h1, h2, h3⟩ := h
  refine ⟨ao, cap, h1, h2, fun j hj => ?_⟩
  obtain ⟨g, o, h4, h5⟩ := h3 j hj
  exact ⟨g, o, h4, fcell' hf h5⟩
theorem IntOwn.at' {w : World} {base : Nat} {v : Value} {l : List Int} (h : IntOwn w base v l) : IntAt w v l := by
  rcases h.2 with ⟨rfl, h0⟩ | ⟨g, cap, cur, rfl, _, _, hc, _⟩
  · exact ⟨none, 0, by rw [h0], by omega, fun j hj => by omega⟩
  · refine ⟨_, _, rfl, hc, fun j hj => ⟨g, 0, rfl, ?_⟩⟩
    have := h.cells (g := g) rfl j (.int .i64 l[j]) (by simp [hj])
    rwa [Addr.add_mid] at this
theorem IntAt.drop {w : World} {gs os cap : Nat} {l : List Int} (h : IntAt w (.slice (some ⟨gs, os, none⟩) l.length cap) l) (k : Nat) (hk : k ≤ l.length) :
    IntAt w (.slice (some ⟨gs, os + k, none⟩) (l.length - k) (cap - k)) (l.drop k) := by
  obtain ⟨ao, c, h1, h2, h4⟩ := h
  rw [Value.slice.injEq] at h1
  obtain ⟨rfl, _, rfl⟩ := h1
  refine ⟨some ⟨gs, os + k, none⟩, cap - k, by simp, by simp; omega, fun i hi => ?_⟩
  simp only [List.length_drop] at hi
  obtain ⟨g, o, e1, e3⟩ := h4 (k + i) (by omega)
  simp only [Option.some.injEq, Addr.mk.injEq] at e1
  obtain ⟨rfl, rfl, _⟩ := e1
  refine ⟨gs, os + k, rfl, ?_⟩
  rw [Nat.add_assoc]; simpa using e3
theorem IntAt.none {w : World} {ao : Option Addr} {l : List Int} (hl : l = []) {n c : Nat} (hn : n = 0) : IntAt w (.slice ao n c) l := by
  subst hl; subst hn
  exact ⟨ao, c, rfl, by simp, fun i hi => by simp at hi⟩

end Go.Proofs.YtcpgklcimacngaaGreat
namespace Go.Proofs.YtcpgklcimacngaaGreat
open Go.RowKit
set_option linter.unusedVariables false
set_option linter.unusedSimpArgs false

end Go.Proofs.YtcpgklcimacngaaGreat
namespace Go.Proofs.YtcpgklcimacngaaGreat
open Go.RowKit
set_option linter.unusedVariables false
set_option linter.unusedSimpArgs false

end Go.Proofs.YtcpgklcimacngaaGreat
namespace Go.Proofs.YtcpgklcimacngaaGreat
open Go.RowKit
set_option linter.unusedVariables false
set_option linter.unusedSimpArgs false

end Go.Proofs.YtcpgklcimacngaaGreat
namespace Go.Proofs.YtcpgklcimacngaaGreat
open Go.RowKit
set_option linter.unusedVariables false
set_option linter.unusedSimpArgs false

end Go.Proofs.YtcpgklcimacngaaGreat
namespace Go.Proofs.YtcpgklcimacngaaGreat
open Go.RowKit
set_option linter.unusedVariables false
set_option linter.unusedSimpArgs false

def rulesOf (s : ByteArray) : List Ln := (rLines s).1.filter ruleB
def errF (s t : ByteArray) : Int := if 200 < t.size then 1 else (checkF s).1
def ruleMatch (x : Ln) (t : ByteArray) : Bool := longF x.ns x.st x.en t 0 == (t.size : Int)
/-- whether it matches, and the error -/
def matchF (s : ByteArray) (r : Int) (t : ByteArray) : Bool × Int :=
  if errF s t ≠ 0 then (false, errF s t)
  else if r < 0 then (false, 7)
  else match (rulesOf s)[r.toNat]? with
    | some x => (ruleMatch x t, 0)
    | none => (false, 7)

end Go.Proofs.YtcpgklcimacngaaGreat
namespace Go.Proofs.YtcpgklcimacngaaGreat
open Go.RowKit
set_option linter.unusedVariables false
set_option linter.unusedSimpArgs false

end Go.Proofs.YtcpgklcimacngaaGreat
namespace Go.Proofs.YtcpgklcimacngaaGreat
open Go.RowKit
set_option linter.unusedVariables false
set_option linter.unusedSimpArgs false

end Go.Proofs.YtcpgklcimacngaaGreat
namespace Go.Proofs.YtcpgklcimacngaaGreat
open Go.RowKit
set_option linter.unusedVariables false
set_option linter.unusedSimpArgs false

theorem atB_at (s : ByteArray) (j : Nat) (h : j < s.size) : atB s j = ((s[j].toNat : Nat) : Int) := by simp [atB, h]
/-- how many bytes stand ahead of the first that is a or b -/
def upToF (s : ByteArray) (a b : Int) : Nat := (List.range s.size).findIdx (fun j : Nat => (atB s j == a) || (atB s j == b))
/-- v is a slice of these strings (it may begin in the middle of a row). -/
def StrsAt (w : World) (v : Value) (l : List ByteArray) : Prop :=
  ∃ a c, v = .slice a l.length c ∧ ∀ j (hj : j < l.length), ∃ g o, a = some ⟨g, o, none⟩ ∧ w.cell? ⟨g, o + j, none⟩ = some (.string l[j])
def findF (l : List ByteArray) (s : ByteArray) : Int := if l.findIdx (fun x => x.toList == s.toList) < l.length then (l.findIdx (fun x => x.toList == s.toList) : Int) else -1

end Go.Proofs.YtcpgklcimacngaaGreat
namespace Go.Proofs.YtcpgklcimacngaaGreat
open Go.RowKit
set_option linter.unusedVariables false
set_option linter.unusedSimpArgs false

def wordsL (s0 : ByteArray) : Nat → Nat → List ByteArray → List ByteArray
  | 0, _, acc => acc
  | f + 1, k, acc =>
    if k < s0.size then
      wordsL s0 f (if k + upToF (s0.extract k s0.size) 32 32 < s0.size then k + upToF (s0.extract k s0.size) 32 32 + 1 else k + upToF (s0.extract k s0.size) 32 32)
        (if 0 < upToF (s0.extract k s0.size) 32 32 then acc ++ [s0.extract k (k + upToF (s0.extract k s0.size) 32 32)] else acc)
    else acc
def wordsF (s0 : ByteArray) : List ByteArray := wordsL s0 (s0.size + 1) 0 []
theorem ext_all (s : ByteArray) : s.extract 0 s.size = s := by
  apply ByteArray.ext; simp [ByteArray.data_extract]

theorem infoStr : (Tryz.prog.info? 9).map (fun i => (i.zero, i.size, i.bytes)) = some (some (.string ⟨#[]⟩), 1, 16) := by kernel_rfl
theorem infoStr' : ∃ i, Tryz.prog.info? 9 = some i ∧ i.zero = some (.string ⟨#[]⟩) ∧ i.size = 1 ∧ i.bytes = 16 := by
  have h := infoStr
  cases hq : Tryz.prog.info? 9 with
  | none => simp [hq] at h
  | some i => simp [hq] at h; exact ⟨i, rfl, h.1, h.2.1, h.2.2⟩

end Go.Proofs.YtcpgklcimacngaaGreat
namespace Go.Proofs.YtcpgklcimacngaaGreat
open Go.RowKit
set_option linter.unusedVariables false
set_option linter.unusedSimpArgs false

/-- What the lines of a specification say. -/
structure LO where
  rules : List ByteArray
  skip : List Bool
  heads : List ByteArray
  head : List Int
  names : List (List ByteArray)
  syms : List (List Int)
abbrev strs (l : List ByteArray) : List Value := l.map Value.string
abbrev ints (l : List Int) : List Value := l.map (Value.int .i64)
abbrev bools (l : List Bool) : List Value := l.map Value.bool
end Go.Proofs.YtcpgklcimacngaaGreat
namespace Go.Proofs.YtcpgklcimacngaaGreat
open Go.RowKit
set_option linter.unusedVariables false
set_option linter.unusedSimpArgs false

theorem btl_loop (s : ByteArray) : ∀ (f i : Nat) (acc : List UInt8), s.size - i ≤ f → ByteArray.toList.loop s i acc = acc.reverse ++ (s.data.toList.drop i) := by
  intro f
  induction f with
  | zero =>
    intro i acc h
    unfold ByteArray.toList.loop
    have : ¬ i < s.size := by omega
    rw [if_neg this, List.drop_eq_nil_of_le (by have : s.size = s.data.size := rfl; simp; omega)]; simp
  | succ f ih =>
    intro i acc h
    unfold ByteArray.toList.loop
    by_cases hi : i < s.size
    · rw [if_pos hi, ih (i + 1) _ (by omega)]
      have hi' : i < s.data.toList.length := by have : s.size = s.data.size := rfl; simp; omega
      rw [List.drop_eq_getElem_cons hi']
      have : s.get! i = s.data.toList[i] := by
        have hsz : i < s.data.size := hi
        simp only [ByteArray.get!, Array.getElem_toList]
        exact getElem!_pos s.data i hsz
      rw [this]; simp
    · rw [if_neg hi, List.drop_eq_nil_of_le (by have : s.size = s.data.size := rfl; simp; omega)]; simp
theorem btl (s : ByteArray) : s.toList = s.data.toList := by
  unfold ByteArray.toList; rw [btl_loop s s.size 0 [] (by omega)]; simp
section
variable {w W w1 : World} {b : Nat} {x : LO} {v0 v1 v2 v3 v4 v5 v' : Value} {nv sv : List Value}
end

def takeF (s : ByteArray) (x : LO) : LO :=
  if s.size = 0 then x
  else if 97 ≤ atB s 0 ∧ atB s 0 ≤ 122 then
    { x with rules := x.rules ++ [s.extract 0 (upToF s 61 126)], skip := x.skip ++ [decide (upToF s 61 126 < s.size) && (atB s (upToF s 61 126) == 126)] }
  else
    { x with
      heads := if findF x.heads (s.extract 0 (upToF s 58 58)) < 0 then x.heads ++ [s.extract 0 (upToF s 58 58)] else x.heads
      head := x.head ++ [if findF x.heads (s.extract 0 (upToF s 58 58)) < 0 then (x.heads.length : Int) else findF x.heads (s.extract 0 (upToF s 58 58))]
      names := x.names ++ [(wordsF (s.extract (upToF s 58 58) s.size)).drop 1] }

attribute [local go_sem ↓] apS_rule
end Go.Proofs.YtcpgklcimacngaaGreat
namespace Go.Proofs.YtcpgklcimacngaaGreat
open Go.RowKit
set_option linter.unusedVariables false
set_option linter.unusedSimpArgs false

theorem infoInt : (Tryz.prog.info? 3).map (fun i => (i.zero, i.size, i.bytes)) = some (some (.int .i64 0), 1, 8) := by kernel_rfl
theorem infoInt' : ∃ i, Tryz.prog.info? 3 = some i ∧ i.zero = some (.int .i64 0) ∧ i.size = 1 ∧ i.bytes = 8 := by
  have h := infoInt
  cases hq : Tryz.prog.info? 3 with
  | none => simp [hq] at h
  | some i => simp [hq] at h; exact ⟨i, rfl, h.1, h.2.1, h.2.2⟩
theorem infoIs : (Tryz.prog.info? 50).map (fun i => (i.zero, i.size, i.bytes)) = some (some (.slice none 0 0), 1, 24) := by kernel_rfl
theorem infoIs' : ∃ i, Tryz.prog.info? 50 = some i ∧ i.zero = some (.slice none 0 0) ∧ i.size = 1 ∧ i.bytes = 24 := by
  have h := infoIs
  cases hq : Tryz.prog.info? 50 with
  | none => simp [hq] at h
  | some i => simp [hq] at h; exact ⟨i, rfl, h.1, h.2.1, h.2.2⟩

theorem strsAt_own {w : World} {base : Nat} {e : TypeId} {v : Value} {n : Nat} {l : List ByteArray} (h : w.ownsRow base e 1 v n (strs l)) : StrsAt w v l := by
  have hn : n = l.length := by have := h.1; simp at this; omega
  subst hn
  rcases Joins.ownsRow_forms h with ⟨rfl, h0⟩ | ⟨g, cap, rfl⟩
  · exact ⟨none, 0, by rw [h0], fun j hj => by omega⟩
  · refine ⟨_, _, rfl, fun j hj => ⟨g, 0, rfl, ?_⟩⟩
    have := h.cells (g := g) rfl j (.string l[j]) (by simp [hj])
    rwa [Addr.add_mid] at this
attribute [local go_sem ↓] apS_rule
end Go.Proofs.YtcpgklcimacngaaGreat
namespace Go.Proofs.YtcpgklcimacngaaGreat
open Go.RowKit
set_option linter.unusedVariables false
set_option linter.unusedSimpArgs false

def lineL (s0 : ByteArray) : Nat → Nat → LO → LO
  | 0, _, x => x
  | f + 1, k, x =>
    if k < s0.size then
      lineL s0 f (if k + upToF (s0.extract k s0.size) 10 10 < s0.size then k + upToF (s0.extract k s0.size) 10 10 + 1 else k + upToF (s0.extract k s0.size) 10 10)
        (takeF (s0.extract k (k + upToF (s0.extract k s0.size) 10 10)) x)
    else x
def zeroLO : LO := ⟨[], [], [], [], [], []⟩
def linesX (s : ByteArray) : LO := lineL s (s.size + 1) 0 zeroLO
end Go.Proofs.YtcpgklcimacngaaGreat
namespace Go.Proofs.YtcpgklcimacngaaGreat
open Go.RowKit
set_option linter.unusedVariables false
set_option linter.unusedSimpArgs false

section
variable {w : World} {b : Nat} {x : LO} {v0 v1 v2 v3 v4 v5 : Value} {nv sv : List Value}
end
end Go.Proofs.YtcpgklcimacngaaGreat
namespace Go.Proofs.YtcpgklcimacngaaGreat
open Go.RowKit
set_option linter.unusedVariables false
set_option linter.unusedSimpArgs false

end Go.Proofs.YtcpgklcimacngaaGreat
namespace Go.Proofs.YtcpgklcimacngaaGreat
open Go.RowKit
set_option linter.unusedVariables false
set_option linter.unusedSimpArgs false

end Go.Proofs.YtcpgklcimacngaaGreat
namespace Go.Proofs.YtcpgklcimacngaaGreat
open Go.RowKit
set_option linter.unusedVariables false
set_option linter.unusedSimpArgs false

end Go.Proofs.YtcpgklcimacngaaGreat
namespace Go.Proofs.YtcpgklcimacngaaGreat
open Go.RowKit
set_option linter.unusedVariables false
set_option linter.unusedSimpArgs false

end Go.Proofs.YtcpgklcimacngaaGreat
namespace Go.Proofs.YtcpgklcimacngaaGreat
open Go.RowKit
set_option linter.unusedVariables false
set_option linter.unusedSimpArgs false

/-- the crowd behind k bytes from i on -/
def crK (ns : List Node) (st : Int) (s : ByteArray) (i : Nat) : Nat → List Nat
  | 0 => enterF ns.length [] st
  | k + 1 => nextL ns s (i + k) (spreadF ns (crK ns st s i k))
def accK (ns : List Node) (st en : Int) (s : ByteArray) (i k : Nat) : Bool := holdsB ns.length (spreadF ns (crK ns st s i k)) en

theorem spreadF_nil (ns : List Node) : spreadF ns [] = [] := by unfold spreadF spreadL; simp
theorem holdsB_nil (n : Nat) (en : Int) : holdsB n [] en = false := by simp [holdsB]
theorem nextL_nil (ns : List Node) (s : ByteArray) (i : Nat) : nextL ns s i [] = [] := by unfold nextL; split <;> simp [stepF]
theorem crK_nil {ns : List Node} {st : Int} {s : ByteArray} {i k : Nat} (h : crK ns st s i k = []) : ∀ j, crK ns st s i (k + j) = [] := by
  intro j
  induction j with
  | zero => exact h
  | succ j ih =>
    show nextL ns s (i + (k + j)) (spreadF ns (crK ns st s i (k + j))) = []
    rw [ih, spreadF_nil, nextL_nil]
theorem accK_nil {ns : List Node} {st en : Int} {s : ByteArray} {i k : Nat} (h : crK ns st s i k = []) (j : Nat) (hj : k ≤ j) : accK ns st en s i j = false := by
  have := crK_nil h (j - k)
  rw [show k + (j - k) = j by omega] at this
  unfold accK; rw [this, spreadF_nil, holdsB_nil]

theorem runL_spec (ns : List Node) (st en : Int) (s : ByteArray) (i : Nat) : ∀ (f k : Nat) (best : Int), s.size + 2 ≤ f + (i + k) →
    (∃ j, k ≤ j ∧ i + j ≤ s.size ∧ accK ns st en s i j = true ∧ runL ns en s f (i + k) (crK ns st s i k) best = ((i + j : Nat) : Int) ∧ ∀ j', j < j' → i + j' ≤ s.size → accK ns st en s i j' = false) ∨
    (runL ns en s f (i + k) (crK ns st s i k) best = best ∧ ∀ j, k ≤ j → i + j ≤ s.size → accK ns st en s i j = false) := by
  intro f
  induction f with
  | zero =>
    intro k best hf
    right
    refine ⟨rfl, fun j hj h => ?_⟩
    omega
  | succ f ih =>
    intro k best hf
    unfold runL
    by_cases hc : i + k ≤ s.size ∧ 0 < (crK ns st s i k).length
    · rw [if_pos hc]
      have e : nextL ns s (i + k) (spreadF ns (crK ns st s i k)) = crK ns st s i (k + 1) := rfl
      rw [e]
      have e2 : holdsB ns.length (spreadF ns (crK ns st s i k)) en = accK ns st en s i k := rfl
      rw [e2]
      rcases ih (k + 1) (if accK ns st en s i k = true then ((i + k : Nat) : Int) else best) (by omega) with ⟨j, h1, h2, h3, h4, h5⟩ | ⟨h1, h2⟩
      · left
        exact ⟨j, by omega, h2, h3, h4, h5⟩
      · cases ha : accK ns st en s i k
        · right
          rw [ha] at h1
          refine ⟨by simpa [Nat.add_assoc] using h1, fun j hj hl => ?_⟩
          by_cases hjk : j = k
          · rw [hjk]; exact ha
          · exact h2 j (by omega) hl
        · left
          rw [ha] at h1
          exact ⟨k, Nat.le_refl _, hc.1, ha, by simpa [Nat.add_assoc] using h1, fun j' hj hl => h2 j' (by omega) hl⟩
    · rw [if_neg hc]
      right
      refine ⟨rfl, fun j hj hl => ?_⟩
      have : crK ns st s i k = [] := by
        cases hq : crK ns st s i k with
        | nil => rfl
        | cons a l => rw [hq] at hc; simp at hc; omega
      exact accK_nil this j hj

/-- longF is the place behind the longest beginning that is taken, or -1. -/
theorem longF_spec (ns : List Node) (st en : Int) (s : ByteArray) (i : Nat) :
    (∃ j, i + j ≤ s.size ∧ accK ns st en s i j = true ∧ longF ns st en s i = ((i + j : Nat) : Int) ∧ ∀ j', j < j' → i + j' ≤ s.size → accK ns st en s i j' = false) ∨
    (longF ns st en s i = -1 ∧ ∀ j, i + j ≤ s.size → accK ns st en s i j = false) := by
  rcases runL_spec ns st en s i (s.size + 2) 0 (-1) (by omega) with ⟨j, _, h2, h3, h4, h5⟩ | ⟨h1, h2⟩
  · exact .inl ⟨j, h2, h3, h4, h5⟩
  · exact .inr ⟨h1, fun j hj => h2 j (by omega) hj⟩

theorem crK_ext (ns : List Node) (st : Int) (t : ByteArray) (i n : Nat) (hn : i + n ≤ t.size) : ∀ k, k ≤ n → crK ns st (t.extract i (i + n)) 0 k = crK ns st t i k := by
  intro k
  induction k with
  | zero => intro _; rfl
  | succ k ih =>
    intro hk
    show nextL ns (t.extract i (i + n)) (0 + k) _ = nextL ns t (i + k) _
    rw [ih (by omega)]
    unfold nextL
    have h1 : 0 + k < (t.extract i (i + n)).size := by rw [ByteArray.size_extract]; omega
    have h2 : i + k < t.size := by omega
    rw [dif_pos h1, dif_pos h2]
    have e : (t.extract i (i + n))[0 + k] = t[i + k] := by
      rw [ByteArray.getElem_extract]; congr 1; omega
    rw [e]
theorem match_acc (x : Ln) (t : ByteArray) (i n : Nat) (hn : i + n ≤ t.size) : ruleMatch x (t.extract i (i + n)) = accK x.ns x.st x.en t i n := by
  have hsz : (t.extract i (i + n)).size = n := by rw [ByteArray.size_extract]; omega
  have ha : ∀ k, k ≤ n → accK x.ns x.st x.en (t.extract i (i + n)) 0 k = accK x.ns x.st x.en t i k := fun k hk => by
    unfold accK; rw [crK_ext x.ns x.st t i n hn k hk]
  unfold ruleMatch
  rw [hsz, ← ha n (Nat.le_refl _)]
  rcases longF_spec x.ns x.st x.en (t.extract i (i + n)) 0 with ⟨j, h1, h2, h3, h4⟩ | ⟨h1, h2⟩
  · rw [hsz] at h1 h4
    rw [h3]
    by_cases hj : j = n
    · subst hj; rw [h2]; simp
    · rw [h4 n (by omega) (by omega)]
      simp; omega
  · rw [h1, h2 n (by rw [hsz]; omega)]
    simp
end Go.Proofs.YtcpgklcimacngaaGreat
namespace Go.Proofs.YtcpgklcimacngaaGreat
open Go.RowKit
set_option linter.unusedVariables false
set_option linter.unusedSimpArgs false

end Go.Proofs.YtcpgklcimacngaaGreat
namespace Go.Proofs.YtcpgklcimacngaaGreat
open Go.RowKit
set_option linter.unusedVariables false
set_option linter.unusedSimpArgs false

/-- The bytes from i up to j are printed ones. -/
def Clean (s : ByteArray) (i j : Int) : Prop := ∀ k, i ≤ k → k < j → 32 ≤ atB s k
theorem Clean.one {s : ByteArray} {i : Int} (h : 32 ≤ atB s i) : Clean s i (i + 1) := fun k h1 h2 => by
  have : k = i := by omega
  subst this; exact h
theorem Clean.trans {s : ByteArray} {i j k : Int} (h : Clean s i j) (h2 : Clean s j k) : Clean s i k := fun m h3 h4 => by
  by_cases e : m < j
  · exact h m h3 e
  · exact h2 m (by omega) h4
theorem Clean.nil {s : ByteArray} {i : Int} : Clean s i i := fun k h1 h2 => by omega
theorem pr_ge {c : Int} (h : isPrB c = true) : 32 ≤ c := by simp [isPrB] at h; omega
theorem plain_ge {c : Int} (h : isPlainB c = true) : 32 ≤ c := by simp [isPlainB] at h; exact pr_ge h.2

theorem rMark_clean {s : ByteArray} {i : Int} (h : (rMark s i).2.2 = true) : Clean s i (rMark s i).2.1 := by
  unfold rMark at h ⊢
  split
  · rename_i e; exact Clean.one (by omega)
  · split
    · rename_i e; exact Clean.one (by omega)
    · split
      · rename_i h1 h2 h3; rw [if_neg h1, if_neg h2, if_pos h3] at h; cases h
      · rename_i h3
        apply Clean.one
        simp at h3
        exact pr_ge h3.1.1.1
theorem rEnd_clean {s : ByteArray} {i : Int} (h : (rEnd s i).2.2 = true) : Clean s i (rEnd s i).2.1 := by
  unfold rEnd at h ⊢
  split
  · rename_i e
    rw [if_pos e] at h
    exact (Clean.one (by omega)).trans (rMark_clean h)
  · rename_i e
    rw [if_neg e] at h
    split
    · rename_i e2; rw [if_pos e2] at h; cases h
    · rename_i e2
      rw [if_neg e2] at h
      split
      · rename_i e3; rw [if_pos e3] at h; cases h
      · rename_i e3
        exact Clean.one (pr_ge (by simpa using e3))
theorem rRange_clean {s : ByteArray} {i : Int} (h : (rRange s i).2.2.2 = true) : Clean s i (rRange s i).2.2.1 := by
  unfold rRange at h ⊢
  split
  · rename_i e; rw [if_pos e] at h; cases h
  · rename_i e
    rw [if_neg e] at h
    have c1 := rEnd_clean (s := s) (i := i) (by simpa using e)
    split
    · exact c1
    · rename_i e2
      rw [if_neg e2] at h
      split
      · rename_i e3; rw [if_pos e3] at h; cases h
      · rename_i e3
        rw [if_neg e3] at h
        have c2 := rEnd_clean (s := s) (i := (rEnd s i).2.1 + 1) (by simpa using e3)
        split
        · rename_i e4; rw [if_pos e4] at h; cases h
        · exact (c1.trans (Clean.one (by omega))).trans c2
theorem rEndsL_clean {s : ByteArray} {i j : Int} : ∀ (f : Nat) (next : Int) (ws : List Int), Clean s j next → (rEndsL s i f next ws).2.2 = true → Clean s j (rEndsL s i f next ws).2.1
  | 0, next, ws, hc, h => by simp [rEndsL] at h
  | f + 1, next, ws, hc, h => by
    unfold rEndsL at h ⊢
    split
    · rename_i e
      rw [if_pos e] at h
      split
      · rename_i e2; rw [if_pos e2] at h; cases h
      · rename_i e2
        rw [if_neg e2] at h
        exact rEndsL_clean f _ _ (hc.trans (rRange_clean (by simpa using e2))) h
    · rename_i e
      have : atB s next = 93 := by
        by_cases h1 : atB s next = 93
        · exact h1
        · exact absurd (.inr h1) e
      exact hc.trans (Clean.one (by omega))
theorem rBr_clean {s : ByteArray} {i : Int} (h : (rBr s i).2.2 = true) : Clean s i (rBr s i).2.1 := by
  unfold rBr at h ⊢
  split
  · rename_i e
    rw [if_pos e] at h
    exact rEndsL_clean _ _ _ (Clean.one (by omega)) h
  · rename_i e
    rw [if_neg e] at h
    exact rEndsL_clean _ _ _ Clean.nil h
theorem rSet_clean {s : ByteArray} {i : Int} (h : (rSet s i).2.2 = true) : Clean s i (rSet s i).2.1 := by
  unfold rSet at h ⊢
  split
  · exact Clean.one (by omega)
  · rename_i e1
    rw [if_neg e1] at h
    split
    · rename_i e
      rw [if_pos e] at h
      exact (Clean.one (by omega)).trans (rBr_clean h)
    · rename_i e2
      rw [if_neg e2] at h
      split
      · rename_i e
        rw [if_pos e] at h
        exact (Clean.one (by omega)).trans (rMark_clean h)
      · rename_i e3
        rw [if_neg e3] at h
        split
        · rename_i e; rw [if_pos e] at h; cases h
        · rename_i e; exact Clean.one (plain_ge (by simpa using e))

def CleanF (s : ByteArray) (f : Int → List Node → PR) : Prop := ∀ (i : Int) (ns : List Node), (f i ns).ok = true → Clean s i (f i ns).next
theorem mark_ge {c : Int} (h : isMark c = true) : 32 ≤ c := by simp [isMark] at h; omega
theorem clean_pieceL {s : ByteArray} {i : Int} : ∀ (f : Nat) (r : PR), (r.ok = true → Clean s i r.next) → (rPieceL s f r).ok = true → Clean s i (rPieceL s f r).next
  | 0, r, hr, h => hr h
  | f + 1, r, hr, h => by
    unfold rPieceL at h ⊢
    split
    · rename_i e
      rw [if_pos e] at h
      simp only [Bool.and_eq_true] at e
      exact clean_pieceL f _ (fun _ => (hr e.1).trans (Clean.one (mark_ge e.2))) h
    · rename_i e
      rw [if_neg e] at h
      exact hr h
theorem clean_piece {a : Int → List Node → PR} {s : ByteArray} (ha : CleanF s a) : CleanF s (rPiece a s) := fun i ns h => clean_pieceL _ _ (ha i ns) h
theorem clean_branchL {p : Int → List Node → PR} {s : ByteArray} (hp : CleanF s p) {i : Int} : ∀ (f : Nat) (r : PR), (r.ok = true → Clean s i r.next) → (rBranchL p s f r).ok = true → Clean s i (rBranchL p s f r).next
  | 0, r, hr, h => hr h
  | f + 1, r, hr, h => by
    unfold rBranchL at h ⊢
    split
    · rename_i e
      rw [if_pos e] at h
      simp only [Bool.and_eq_true] at e
      refine clean_branchL hp f _ (fun hj => ?_) h
      unfold joinR at hj ⊢
      split
      · rename_i e2; exact (hr e.1).trans (hp _ _ e2)
      · rename_i e2; rw [if_neg e2] at hj; cases hj
    · rename_i e
      rw [if_neg e] at h
      exact hr h
theorem clean_branch {p : Int → List Node → PR} {s : ByteArray} (hp : CleanF s p) : CleanF s (rBranch p s) := fun i ns h => clean_branchL hp _ _ (hp i ns) h
theorem clean_choiceL {p : Int → List Node → PR} {s : ByteArray} (hp : CleanF s p) {i : Int} : ∀ (f : Nat) (r : PR), (r.ok = true → Clean s i r.next) → (rChoiceL p s f r).ok = true → Clean s i (rChoiceL p s f r).next
  | 0, r, hr, h => hr h
  | f + 1, r, hr, h => by
    unfold rChoiceL at h ⊢
    split
    · rename_i e
      rw [if_pos e] at h
      simp only [Bool.and_eq_true, beq_iff_eq] at e
      refine clean_choiceL hp f _ (fun hj => ?_) h
      unfold eitherR at hj ⊢
      split
      · rename_i e2; exact ((hr e.1).trans (Clean.one (by omega))).trans (hp _ _ e2)
      · rename_i e2; rw [if_neg e2] at hj; cases hj
    · rename_i e
      rw [if_neg e] at h
      exact hr h
theorem clean_choice {p : Int → List Node → PR} {s : ByteArray} (hp : CleanF s p) : CleanF s (rChoice p s) := fun i ns h => clean_choiceL hp _ _ (hp i ns) h
theorem clean_group {c : Int → List Node → PR} {s : ByteArray} (hc : CleanF s c) (i : Int) (ns : List Node) (hi : atB s i = 40) (h : (rGroup c s i ns).ok = true) : Clean s i (rGroup c s i ns).next := by
  unfold rGroup at h ⊢
  split
  · rename_i e; rw [if_pos e] at h; cases h
  · rename_i e
    rw [if_neg e] at h
    split
    · rename_i e2; rw [if_pos e2] at h; cases h
    · rename_i e2
      exact ((Clean.one (by omega)).trans (hc _ _ (by simpa using e))).trans (Clean.one (by omega))
theorem clean_atom' {g : Int → List Node → PR} {s : ByteArray} (hg : ∀ i ns, atB s i = 40 → (g i ns).ok = true → Clean s i (g i ns).next) : CleanF s (rAtom g s) := by
  intro i ns h
  unfold rAtom at h ⊢
  split
  · rename_i e; rw [if_pos e] at h; exact hg i ns e h
  · rename_i e
    rw [if_neg e] at h
    split
    · rename_i e2; rw [if_pos e2] at h; cases h
    · rename_i e2; exact rSet_clean (by simpa using e2)
theorem clean_gK (s : ByteArray) : ∀ (k : Nat) (i : Int) (ns : List Node), atB s i = 40 → (gK s k i ns).ok = true → Clean s i (gK s k i ns).next
  | 0, i, ns, hi, h => by simp [gK] at h
  | k + 1, i, ns, hi, h => clean_group (clean_choice (clean_branch (clean_piece (clean_atom' (clean_gK s k))))) i ns hi h
theorem rRead_clean {s : ByteArray} {i : Int} (h : (rRead s i).ok = true) : Clean s i (rRead s i).next :=
  clean_choice (clean_branch (clean_piece (clean_atom' (clean_gK s 6)))) i [] h
end Go.Proofs.YtcpgklcimacngaaGreat
namespace Go.Proofs.YtcpgklcimacngaaGreat
open Go.RowKit
set_option linter.unusedVariables false
set_option linter.unusedSimpArgs false

theorem atB_ext (s : ByteArray) (a e k : Nat) (he : e ≤ s.size) (hk : a + k < e) : atB (s.extract a e) (k : Nat) = atB s ((a : Int) + k) := by
  have h1 : k < (s.extract a e).size := by rw [ByteArray.size_extract]; omega
  have h2 : a + k < s.size := by omega
  rw [atB_at _ k h1]
  have : ((a : Int) + (k : Int)) = ((a + k : Nat) : Int) := by omega
  rw [this, atB_at s (a + k) h2, ByteArray.getElem_extract]
theorem upTo_at (s : ByteArray) (a e c : Nat) (x y : Int) (he : e ≤ s.size) (hc : a + c ≤ e) (h1 : ∀ k : Nat, k < c → atB s ((a : Int) + k) ≠ x ∧ atB s ((a : Int) + k) ≠ y)
    (h2 : a + c = e ∨ atB s ((a : Int) + c) = x ∨ atB s ((a : Int) + c) = y) : upToF (s.extract a e) x y = c := by
  have hsz : (s.extract a e).size = e - a := by rw [ByteArray.size_extract]; omega
  unfold upToF
  rw [hsz]
  by_cases hce : a + c = e
  · have hl : (List.range (e - a)).length = c := by simp; omega
    rw [List.findIdx_eq_length_of_false]
    · exact hl
    · intro j hj
      have hj' : j < e - a := by simpa using hj
      rw [atB_ext s a e j he (by omega)]
      have := h1 j (by omega)
      simp [this.1, this.2]
  · rw [List.findIdx_eq (by simp; omega)]
    simp only [List.getElem_range]
    refine ⟨?_, ?_⟩
    · rw [atB_ext s a e c he (by omega)]
      rcases h2 with h2 | h2 | h2
      · omega
      · simp [h2]
      · simp [h2]
    · intro j hj
      rw [atB_ext s a e j he (by omega)]
      have := h1 j hj
      simp [this.1, this.2]

/-- A word of m letters stands at i; its eight bytes. -/
structure WordAt (s : ByteArray) (i : Int) (m : Nat) (d : Wd) : Prop where
  pos : 1 ≤ m
  le : m ≤ 8
  first : isSmallB (atB s i) = true ∨ isCapB (atB s i) = true
  rest : ∀ k : Nat, 1 ≤ k → k < m → isSmallB (atB s (i + k)) = true
  ls : d.ls = (List.range 8).map (fun k : Nat => if k < m then atB s (i + k) else 0)
  place : d.place = i
theorem small_ge {c : Int} (h : isSmallB c = true) : 65 ≤ c ∧ c ≤ 122 := by have := small_bd h; omega
theorem cap_ge {c : Int} (h : isCapB c = true) : 65 ≤ c ∧ c ≤ 122 := by have := cap_bd h; omega
theorem WordAt.byte {s : ByteArray} {i : Int} {m : Nat} {d : Wd} (h : WordAt s i m d) (k : Nat) (hk : k < m) : 65 ≤ atB s (i + k) ∧ atB s (i + k) ≤ 122 := by
  by_cases e : k = 0
  · subst e
    have := h.first
    simp only [Int.natCast_zero, Int.add_zero] at *
    rcases this with h | h
    · exact small_ge h
    · exact cap_ge h
  · exact small_ge (h.rest k (by omega) hk)
theorem pad_set (s : ByteArray) (i : Int) (n : Nat) (hn : n < 8) :
    ((List.range 8).map (fun k : Nat => if k < n then atB s (i + k) else 0)).set n (atB s (i + n)) = (List.range 8).map (fun k : Nat => if k < n + 1 then atB s (i + k) else 0) := by
  apply List.ext_getElem
  · simp
  · intro j h1 h2
    simp only [List.length_map, List.length_range] at h2
    rw [List.getElem_set]
    simp only [List.getElem_map, List.getElem_range]
    by_cases e : n = j
    · subst e; simp
    · rw [if_neg e]
      by_cases e2 : j < n
      · rw [if_pos e2, if_pos (by omega)]
      · rw [if_neg e2, if_neg (by omega)]
theorem rWordL_at (s : ByteArray) (i : Int) : ∀ (f n : Nat) (ls : List Int), 1 ≤ n → n ≤ 8 → 9 ≤ f + n → ls = (List.range 8).map (fun k : Nat => if k < n then atB s (i + k) else 0) →
    (∀ k : Nat, 1 ≤ k → k < n → isSmallB (atB s (i + k)) = true) →
    ∃ m : Nat, 1 ≤ m ∧ m ≤ 8 ∧ (rWordL s i f n ls).2 = i + m ∧ (rWordL s i f n ls).1 = (List.range 8).map (fun k : Nat => if k < m then atB s (i + k) else 0) ∧ ∀ k : Nat, 1 ≤ k → k < m → isSmallB (atB s (i + k)) = true
  | 0, n, ls, h1, h2, h3, h4, h5 => ⟨n, h1, h2, rfl, h4, h5⟩
  | f + 1, n, ls, h1, h2, h3, h4, h5 => by
    unfold rWordL
    split
    · rename_i hn
      split
      · rename_i hsm
        refine rWordL_at s i f (n + 1) _ (by omega) (by omega) (by omega) ?_ ?_
        · rw [h4]; exact pad_set s i n hn
        · intro k hk1 hk2
          by_cases e : k = n
          · subst e; exact hsm
          · exact h5 k hk1 (by omega)
      · exact ⟨n, h1, h2, rfl, h4, h5⟩
    · rename_i hn
      have : n = 8 := by omega
      subst this
      exact ⟨8, by omega, by omega, rfl, h4, h5⟩
theorem rWord_at (s : ByteArray) (i : Int) (h : (rWord s i).2.2 = true) : ∃ m : Nat, WordAt s i m (rWord s i).1 ∧ (rWord s i).2.1 = i + m := by
  unfold rWord at h ⊢
  split
  · rename_i e; rw [if_pos e] at h; cases h
  · rename_i e
    obtain ⟨m, h1, h2, h3, h4, h5⟩ := rWordL_at s i 9 1 (zero8.set 0 (atB s i)) (by omega) (by omega) (by omega) (by simp [zero8, List.range, List.range.loop]) (by intro k h1 h2; omega)
    refine ⟨m, ⟨h1, h2, ?_, h5, h4, rfl⟩, h3⟩
    simp at e
    cases hs : isSmallB (atB s i)
    · exact .inr (e hs)
    · exact .inl rfl
/-- Two words with the same eight bytes are the same. -/
theorem word_same {s : ByteArray} {a b m n : Nat} {d d' : Wd} (h : WordAt s a m d) (h' : WordAt s b n d') (ha : a + m ≤ s.size) (hb : b + n ≤ s.size) (hl : d.ls = d'.ls) : (s.extract a (a + m)).toList = (s.extract b (b + n)).toList := by
  have hk : ∀ k : Nat, k < 8 → (if k < m then atB s ((a : Int) + k) else 0) = (if k < n then atB s ((b : Int) + k) else 0) := by
    intro k hk
    have e1 : d.ls[k]? = some (if k < m then atB s ((a : Int) + k) else 0) := by rw [h.ls]; simp [hk]
    have e2 : d'.ls[k]? = some (if k < n then atB s ((b : Int) + k) else 0) := by rw [h'.ls]; simp [hk]
    rw [hl, e2] at e1
    simpa using e1.symm
  have hmn : m = n := by
    have := h.le; have := h'.le
    by_cases e1 : m < n
    · have h1 := hk m (by omega)
      rw [if_neg (by omega), if_pos e1] at h1
      have := h'.byte m e1; omega
    · by_cases e2 : n < m
      · have h1 := hk n (by omega)
        rw [if_pos e2, if_neg (by omega)] at h1
        have := h.byte n e2; omega
      · omega
  subst hmn
  rw [btl, btl]
  have hA : (s.extract a (a + m)).size = m := by rw [ByteArray.size_extract]; omega
  have hB : (s.extract b (b + m)).size = m := by rw [ByteArray.size_extract]; omega
  apply List.ext_getElem
  · simp only [Array.length_toList]; exact hA.trans hB.symm
  · intro j h1 h2
    have hj : j < m := by rw [Array.length_toList] at h1; exact hA ▸ h1
    have h3 := hk j (by have := h.le; omega)
    rw [if_pos hj, if_pos hj] at h3
    have e1 := atB_ext s a (a + m) j ha (by omega)
    have e2 := atB_ext s b (b + m) j hb (by omega)
    rw [← e1, ← e2, atB_at _ j (by omega), atB_at _ j (by omega)] at h3
    simp only [Array.getElem_toList]
    have h4 : (s.extract a (a + m))[j].toNat = (s.extract b (b + m))[j].toNat := by omega
    exact UInt8.toNat_inj.1 h4
end Go.Proofs.YtcpgklcimacngaaGreat
