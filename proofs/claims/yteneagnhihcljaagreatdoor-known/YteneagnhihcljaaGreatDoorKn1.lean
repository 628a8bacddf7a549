import Derived.Test.YteneagnhihcljaaGreatDoorGt4
import Derived.Test.YteneagnhihcljaaGreatDoorLx3
import Derived.Test.YteneagnhihcljaaGreatDoorKc9
namespace Go.Proofs.YteneagnhihcljaaGreatDoor
open Go.RowKit
set_option linter.unusedVariables false
set_option linter.unusedSimpArgs false

/-- a rule of one byte; a rule of a run of bytes -/
def chN (ws : List Int) : List Node := [⟨false, [0, 0, 0, 0], -1, -1⟩, ⟨true, ws, 0, -1⟩]
def rnN (ws : List Int) : List Node := [⟨false, [0, 0, 0, 0], 3, 1⟩, ⟨true, ws, 0, -1⟩, ⟨false, [0, 0, 0, 0], 1, -1⟩, ⟨false, [0, 0, 0, 0], -1, -1⟩]
/-- the byte at a place -/
def atN (t : ByteArray) (i : Nat) : Nat := if h : i < t.size then t[i].toNat else 0
theorem nextL_at (ns : List Node) (t : ByteArray) (i : Nat) (l : List Nat) (h : i < t.size) : nextL ns t i l = stepF ns (atN t i) l [] := by
  unfold nextL atN; rw [dif_pos h, dif_pos h]
theorem nextL_end (ns : List Node) (t : ByteArray) (i : Nat) (l : List Nat) (h : ¬ i < t.size) : nextL ns t i l = [] := by
  unfold nextL; rw [dif_neg h]
theorem runL_nil (ns : List Node) (en : Int) (t : ByteArray) (best : Int) : ∀ (f i : Nat), runL ns en t f i [] best = best
  | 0, _ => rfl
  | f + 1, i => by unfold runL; rw [if_neg (by simp)]
theorem ch_sp1 (ws : List Int) : spreadF (chN ws) [1] = [1] := rfl
theorem ch_sp0 (ws : List Int) : spreadF (chN ws) [0] = [0] := rfl
theorem ch_st1 (ws : List Int) (c : Nat) : stepF (chN ws) c [1] [] = if hasB ws c = true then [0] else [] := by
  show (if true && hasB ws c then enterF 2 [] 0 else []) = _
  rw [Bool.true_and]; rfl
theorem ch_st0 (ws : List Int) (c : Nat) : stepF (chN ws) c [0] [] = [] := rfl
theorem long_one (ws : List Int) (t : ByteArray) (i : Nat) (hi : i < t.size) : longF (chN ws) 1 0 t i = if hasB ws (atN t i) = true then ((i + 1 : Nat) : Int) else -1 := by
  unfold longF
  rw [show enterF (chN ws).length [] 1 = [1] from rfl]
  rw [runL, if_pos ⟨by omega, by simp⟩, ch_sp1, nextL_at _ _ _ _ hi, ch_st1, show holdsB (chN ws).length [1] 0 = false from rfl]
  by_cases h : hasB ws (atN t i) = true
  · rw [if_pos h, if_pos h]
    rw [runL, if_pos ⟨by omega, by simp⟩, ch_sp0, show holdsB (chN ws).length [0] 0 = true from rfl]
    have e : nextL (chN ws) t (i + 1) [0] = [] := by
      by_cases h2 : i + 1 < t.size
      · rw [nextL_at _ _ _ _ h2, ch_st0]
      · rw [nextL_end _ _ _ _ h2]
    rw [e, runL_nil]; rfl
  · rw [if_neg h, if_neg h, runL_nil]; rfl
theorem rn_sp2 (ws : List Int) : spreadF (rnN ws) [2] = [2, 1] := rfl
theorem rn_sp0 (ws : List Int) : spreadF (rnN ws) [0] = [0, 3, 1] := rfl
theorem rn_st2 (ws : List Int) (c : Nat) : stepF (rnN ws) c [2, 1] [] = if hasB ws c = true then [0] else [] := by
  show (if true && hasB ws c then enterF 4 [] 0 else []) = _
  rw [Bool.true_and]; rfl
theorem rn_st0 (ws : List Int) (c : Nat) : stepF (rnN ws) c [0, 3, 1] [] = if hasB ws c = true then [0] else [] := by
  show (if true && hasB ws c then enterF 4 [] 0 else []) = _
  rw [Bool.true_and]; rfl
/-- where a run ends -/
def endR (C : Nat → Bool) (t : ByteArray) : Nat → Nat → Nat
  | 0, i => i
  | f + 1, i => if C (atN t i) = true then endR C t f (i + 1) else i
theorem endR_le (C : Nat → Bool) (t : ByteArray) : ∀ (f i : Nat), i ≤ endR C t f i ∧ endR C t f i ≤ i + f
  | 0, i => ⟨Nat.le_refl _, by unfold endR; omega⟩
  | f + 1, i => by
    unfold endR
    have := endR_le C t f (i + 1)
    split <;> omega
theorem run_rn (ws : List Int) (t : ByteArray) : ∀ (m f i : Nat) (best : Int), t.size - i = m → i ≤ t.size → m < f → runL (rnN ws) 3 t f i [0] best = ((endR (hasB ws) t m i : Nat) : Int)
  | 0, f + 1, i, best, hm, hi, hf => by
    rw [runL, if_pos ⟨by omega, by simp⟩, rn_sp0, nextL_end _ _ _ _ (by omega), runL_nil]; rfl
  | m + 1, f + 1, i, best, hm, hi, hf => by
    rw [runL, if_pos ⟨by omega, by simp⟩, rn_sp0, nextL_at _ _ _ _ (by omega), rn_st0, show holdsB (rnN ws).length [0, 3, 1] 3 = true from rfl]
    unfold endR
    by_cases h : hasB ws (atN t i) = true
    · rw [if_pos h, if_pos h]
      exact run_rn ws t m f (i + 1) _ (by omega) (by omega) (by omega)
    · rw [if_neg h, if_neg h, runL_nil]; rfl
theorem long_run (ws : List Int) (t : ByteArray) (i : Nat) (hi : i < t.size) : longF (rnN ws) 2 3 t i = if hasB ws (atN t i) = true then ((endR (hasB ws) t (t.size - (i + 1)) (i + 1) : Nat) : Int) else -1 := by
  unfold longF
  rw [show enterF (rnN ws).length [] 2 = [2] from rfl]
  rw [runL, if_pos ⟨by omega, by simp⟩, rn_sp2, nextL_at _ _ _ _ hi, rn_st2, show holdsB (rnN ws).length [2, 1] 3 = false from rfl]
  by_cases h : hasB ws (atN t i) = true
  · rw [if_pos h, if_pos h]
    exact run_rn ws t _ _ (i + 1) _ rfl (by omega) (by omega)
  · rw [if_neg h, if_neg h, runL_nil]; rfl
/-- a rule's kind: its set, whether it is a run, whether it is skipped -/
structure RK where
  ws : List Int
  run : Bool
  sk : Bool
def RK.far (k : RK) (t : ByteArray) (i : Nat) : Int := if hasB k.ws (atN t i) = true then (if k.run = true then ((endR (hasB k.ws) t (t.size - (i + 1)) (i + 1) : Nat) : Int) else ((i + 1 : Nat) : Int)) else -1
def RK.is (k : RK) (x : Ln) : Prop := x.skip = k.sk ∧ (if k.run = true then x.ns = rnN k.ws ∧ x.st = 2 ∧ x.en = 3 else x.ns = chN k.ws ∧ x.st = 1 ∧ x.en = 0)
theorem RK.long {k : RK} {x : Ln} (h : k.is x) (t : ByteArray) (i : Nat) (hi : i < t.size) : longF x.ns x.st x.en t i = k.far t i := by
  obtain ⟨ws, run, sk⟩ := k
  unfold RK.is at h
  unfold RK.far
  dsimp only at h ⊢
  cases run
  · simp only [Bool.false_eq_true, if_false] at h ⊢
    obtain ⟨_, e1, e2, e3⟩ := h
    rw [e1, e2, e3]; exact long_one ws t i hi
  · simp only [if_true] at h ⊢
    obtain ⟨_, e1, e2, e3⟩ := h
    rw [e1, e2, e3]; exact long_run ws t i hi
theorem bestL_other (lns : List Ln) (t : ByteArray) (i : Nat) (b : Int × Int) : ∀ (f k : Nat), (∀ (j : Nat) (x : Ln), k ≤ j → lns[j]? = some x → longF x.ns x.st x.en t i ≤ b.2) → bestL lns t i f k b = b
  | 0, _, _ => rfl
  | f + 1, k, h => by
    unfold bestL
    cases hx : lns[k]? with
    | none => rfl
    | some x =>
      dsimp only
      rw [if_neg (by have := h k x (Nat.le_refl _) hx; omega)]
      exact bestL_other lns t i b f (k + 1) (fun j y hj hy => h j y (by omega) hy)
/-- the one rule that fits is the best -/
theorem bestL_one (lns : List Ln) (t : ByteArray) (i r : Nat) (e : Int) (hr : ∃ x, lns[r]? = some x ∧ longF x.ns x.st x.en t i = e) (he : (i : Int) < e) (ho : ∀ (j : Nat) (x : Ln), j ≠ r → lns[j]? = some x → longF x.ns x.st x.en t i = -1) : ∀ (f k : Nat), k ≤ r → r < f + k → bestL lns t i f k (0, (i : Int)) = ((r : Int), e)
  | 0, k, h1, h2 => by omega
  | f + 1, k, h1, h2 => by
    unfold bestL
    by_cases hk : k = r
    · subst hk
      obtain ⟨x, hx, hl⟩ := hr
      rw [hx]
      dsimp only
      rw [hl, if_pos he]
      exact bestL_other lns t i _ f (k + 1) (fun j y hj hy => by rw [ho j y (by omega) hy]; dsimp only; omega)
    · have hlr : r < lns.length := by
        obtain ⟨x, hx, _⟩ := hr
        exact (List.getElem?_eq_some_iff.1 hx).1
      rw [List.getElem?_eq_getElem (by omega)]
      dsimp only
      rw [ho k _ hk (List.getElem?_eq_getElem (by omega)), if_neg (by omega)]
      exact bestL_one lns t i r e hr he ho f (k + 1) (by omega) (by omega)
theorem best_one (lns : List Ln) (t : ByteArray) (i r : Nat) (e : Int) (hr : ∃ x, lns[r]? = some x ∧ longF x.ns x.st x.en t i = e) (he : (i : Int) < e) (ho : ∀ (j : Nat) (x : Ln), j ≠ r → lns[j]? = some x → longF x.ns x.st x.en t i = -1) : bestF lns t i = ((r : Int), e) := by
  have hlr : r < lns.length := by
    obtain ⟨x, hx, _⟩ := hr
    exact (List.getElem?_eq_some_iff.1 hx).1
  exact bestL_one lns t i r e hr he ho _ 0 (by omega) (by omega)
/-- rules of which just one takes each byte -/
structure Cls (ks : List RK) (lns : List Ln) (cl : Nat → Nat) (t : ByteArray) : Prop where
  len : lns.length = ks.length
  is : ∀ (j : Nat) (k : RK) (x : Ln), ks[j]? = some k → lns[j]? = some x → k.is x
  one : ∀ i, i < t.size → cl (atN t i) < ks.length
  only : ∀ (i j : Nat) (k : RK), i < t.size → ks[j]? = some k → (hasB k.ws (atN t i) = true ↔ cl (atN t i) = j)
theorem Cls.best {ks : List RK} {lns : List Ln} {cl : Nat → Nat} {t : ByteArray} (h : Cls ks lns cl t) {i : Nat} (hi : i < t.size) {k : RK} (hk : ks[cl (atN t i)]? = some k) :
    bestF lns t i = ((cl (atN t i) : Int), if k.run = true then ((endR (hasB k.ws) t (t.size - (i + 1)) (i + 1) : Nat) : Int) else ((i + 1 : Nat) : Int)) := by
  have hc := h.one i hi
  have hcl : cl (atN t i) < lns.length := by rw [h.len]; exact hc
  have hx : lns[cl (atN t i)]? = some lns[cl (atN t i)] := List.getElem?_eq_getElem hcl
  refine best_one lns t i _ _ ⟨_, hx, ?_⟩ ?_ (fun j x hj hy => ?_)
  · rw [RK.long (h.is _ _ _ hk hx) t i hi]
    unfold RK.far
    rw [if_pos ((h.only i _ k hi hk).2 rfl)]
  · have := (endR_le (hasB k.ws) t (t.size - (i + 1)) (i + 1)).1
    split <;> omega
  · have hjl : j < ks.length := by rw [← h.len]; exact (List.getElem?_eq_some_iff.1 hy).1
    rw [RK.long (h.is _ _ _ (List.getElem?_eq_getElem hjl) hy) t i hi]
    unfold RK.far
    rw [if_neg]
    intro e
    exact hj ((h.only i j _ hi (List.getElem?_eq_getElem hjl)).1 e).symm
end Go.Proofs.YteneagnhihcljaaGreatDoor
namespace Go.Proofs.YteneagnhihcljaaGreatDoor
open Go.RowKit
set_option linter.unusedVariables false
set_option linter.unusedSimpArgs false

def kOf (ks : List RK) (c : Nat) : RK := ks.getD c ⟨[], false, false⟩
def nxtK (ks : List RK) (cl : Nat → Nat) (t : ByteArray) (i : Nat) : Nat := if (kOf ks (cl (atN t i))).run = true then endR (hasB (kOf ks (cl (atN t i))).ws) t (t.size - (i + 1)) (i + 1) else i + 1
/-- the tokens of a text, by the bytes' classes -/
def tokK (ks : List RK) (cl : Nat → Nat) (t : ByteArray) : Nat → Nat → List Tk
  | 0, _ => []
  | f + 1, i => if i < t.size then (if (kOf ks (cl (atN t i))).sk = true then [] else [⟨cl (atN t i), i, nxtK ks cl t i⟩]) ++ tokK ks cl t f (nxtK ks cl t i) else []
theorem nxtK_bd (ks : List RK) (cl : Nat → Nat) (t : ByteArray) {i : Nat} (hi : i < t.size) : i < nxtK ks cl t i ∧ nxtK ks cl t i ≤ t.size := by
  unfold nxtK
  have := endR_le (hasB (kOf ks (cl (atN t i))).ws) t (t.size - (i + 1)) (i + 1)
  split <;> omega
theorem Cls.cut {ks : List RK} {lns : List Ln} {cl : Nat → Nat} {t : ByteArray} (h : Cls ks lns cl t) : ∀ (f i : Nat) (toks : List Tk), i ≤ t.size → t.size < f + i → cutL lns t f i toks = (toks ++ tokK ks cl t f i, 0, 0)
  | 0, i, toks, h1, h2 => by omega
  | f + 1, i, toks, h1, h2 => by
    unfold cutL tokK
    by_cases hi : i < t.size
    · rw [if_pos hi, if_pos hi]
      have hc := h.one i hi
      have hk : ks[cl (atN t i)]? = some (kOf ks (cl (atN t i))) := by
        unfold kOf; rw [List.getD_eq_getElem?_getD, List.getElem?_eq_getElem hc]; rfl
      have hb := h.best hi hk
      have hn : (if (kOf ks (cl (atN t i))).run = true then ((endR (hasB (kOf ks (cl (atN t i))).ws) t (t.size - (i + 1)) (i + 1) : Nat) : Int) else ((i + 1 : Nat) : Int)) = ((nxtK ks cl t i : Nat) : Int) := by
        unfold nxtK; split <;> rfl
      rw [hn] at hb
      have bd := nxtK_bd ks cl t hi
      rw [hb]
      dsimp only
      rw [if_neg (by omega), Int.toNat_natCast, h.cut f _ _ bd.2 (by omega)]
      have hx : lns[cl (atN t i)]? = some (lns[cl (atN t i)]'(by rw [h.len]; exact hc)) := List.getElem?_eq_getElem (by rw [h.len]; exact hc)
      have hsk : skipB lns (cl (atN t i)) = (kOf ks (cl (atN t i))).sk := by
        unfold skipB
        rw [if_neg (by omega), Int.toNat_natCast, hx]
        exact (h.is _ _ _ hk hx).1
      rw [hsk]
      split
      · rw [List.nil_append]
      · rw [List.append_assoc]
    · rw [if_neg hi, if_neg hi, List.append_nil]
theorem Cls.cutF {ks : List RK} {lns : List Ln} {cl : Nat → Nat} {t : ByteArray} (h : Cls ks lns cl t) : cutF lns t = (tokK ks cl t (t.size + 1) 0, 0, 0) := by
  have := h.cut (t.size + 1) 0 [] (by omega) (by omega)
  rw [List.nil_append] at this
  exact this
/-- of brackets -/
def pairsS : ByteArray := ⟨#[111, 61, 92, 40, 10, 99, 61, 92, 41, 10, 103, 97, 112, 126, 32, 43, 10, 83, 58, 32, 111, 32, 83, 32, 99, 32, 83, 10, 83, 58, 10]⟩
def ksP : List RK := [⟨[1099511627776, 0, 0, 0], false, false⟩, ⟨[2199023255552, 0, 0, 0], false, false⟩, ⟨[4294967296, 0, 0, 0], true, true⟩]
def psP : List Pr := [⟨0, [⟨false, 0⟩, ⟨true, 0⟩, ⟨false, 1⟩, ⟨true, 0⟩]⟩, ⟨0, []⟩]
def hsP : List Hd := [⟨true, true, true, [true, false, false, false, false, false, false, false, false], [false, true, false, true, false, false, false, false, false]⟩]
set_option maxRecDepth 100000 in
theorem pairs_ok : checkF pairsS = (0, 0) := by kernel_rfl
set_option maxRecDepth 100000 in
theorem pairs_tab : tableOf (rLines pairsS).1 = psP := by kernel_rfl
set_option maxRecDepth 100000 in
theorem pairs_R : (frontsOf (rLines pairsS).1).length = 3 := by kernel_rfl
set_option maxRecDepth 100000 in
theorem pairs_H : (headsOf (rLines pairsS).1).length = 1 := by kernel_rfl
set_option maxRecDepth 100000 in
theorem pairs_cl : clashF pairsS = [] := by kernel_rfl
set_option maxRecDepth 100000 in
theorem pairs_sets : setsF pairsS = hsP := by kernel_rfl
set_option maxRecDepth 100000 in
theorem pairs_rules : (rulesOf pairsS).map (fun x => (x.skip, x.ns, x.st, x.en)) = [(false, chN [1099511627776, 0, 0, 0], 1, 0), (false, chN [2199023255552, 0, 0, 0], 1, 0), (true, rnN [4294967296, 0, 0, 0], 2, 3)] := by kernel_rfl
/-- a text of brackets and blanks -/
def BrT (t : ByteArray) : Prop := ∀ i, i < t.size → atN t i = 40 ∨ atN t i = 41 ∨ atN t i = 32
def clP (c : Nat) : Nat := if c = 40 then 0 else if c = 41 then 1 else 2
theorem ks_is {ks : List RK} {lns : List Ln} (h : lns.map (fun x => (x.skip, x.ns, x.st, x.en)) = ks.map (fun k => (k.sk, if k.run = true then rnN k.ws else chN k.ws, if k.run = true then (2 : Int) else 1, if k.run = true then (3 : Int) else 0))) :
    lns.length = ks.length ∧ ∀ (j : Nat) (k : RK) (x : Ln), ks[j]? = some k → lns[j]? = some x → k.is x := by
  refine ⟨by simpa using congrArg List.length h, fun j k x hk hx => ?_⟩
  have e := congrArg (fun l => l[j]?) h
  simp only [List.getElem?_map, hk, hx, Option.map_some, Option.some.injEq, Prod.mk.injEq] at e
  obtain ⟨e1, e2, e3, e4⟩ := e
  unfold RK.is
  refine ⟨e1, ?_⟩
  split
  · rename_i hr
    rw [hr] at e2 e3 e4
    exact ⟨e2, e3, e4⟩
  · rename_i hr
    rw [if_neg hr] at e2 e3 e4
    exact ⟨e2, e3, e4⟩
theorem pairs_cls {t : ByteArray} (h : BrT t) : Cls ksP (rulesOf pairsS) clP t := by
  obtain ⟨h1, h2⟩ := ks_is (ks := ksP) (lns := rulesOf pairsS) (by rw [pairs_rules]; rfl)
  refine ⟨h1, h2, fun i hi => ?_, fun i j k hi hk => ?_⟩
  · rcases h i hi with e | e | e <;> rw [e] <;> decide
  · have hj : j < 3 := (List.getElem?_eq_some_iff.1 hk).1
    have hk' : ksP[j]? = some k := hk
    rcases h i hi with e | e | e <;> rw [e]
    all_goals
      have : j = 0 ∨ j = 1 ∨ j = 2 := by omega
      rcases this with rfl | rfl | rfl
      all_goals
        injection hk' with hk'
        subst hk'
        decide +kernel
end Go.Proofs.YteneagnhihcljaaGreatDoor
namespace Go.Proofs.YteneagnhihcljaaGreatDoor
open Go.RowKit
set_option linter.unusedVariables false
set_option linter.unusedSimpArgs false

/-- is each bracket that opens closed? -/
def balL (t : ByteArray) : Nat → Nat → Nat → Nat → Bool × Nat × Nat
  | 0, i, d, n => (decide (d = 0), t.size, n)
  | m + 1, i, d, n => if atN t i = 40 then balL t m (i + 1) (d + 1) n else if atN t i = 41 then (if d = 0 then (false, i, n) else balL t m (i + 1) (d - 1) (n + 1)) else balL t m (i + 1) d n
def stk : Nat → List Sy
  | 0 => [⟨true, 0⟩]
  | d + 1 => ⟨true, 0⟩ :: ⟨false, 1⟩ :: stk d
theorem stk_cons : ∀ d, ∃ k, stk d = ⟨true, 0⟩ :: k
  | 0 => ⟨[], rfl⟩
  | d + 1 => ⟨_, rfl⟩
theorem wanP_0 : wanB hsP 3 [⟨true, 0⟩] = [true, false, false, true, false, false, false, false, false] := by kernel_rfl
theorem wanP_s (k : List Sy) : wanB hsP 3 (⟨true, 0⟩ :: ⟨false, 1⟩ :: k) = [true, true, false, false, false, false, false, false, false] := rfl
theorem chP0 : chF hsP psP 0 0 = 0 := by kernel_rfl
theorem chP1 : chF hsP psP 0 1 = 1 := by kernel_rfl
theorem chP3 : chF hsP psP 0 3 = 1 := by kernel_rfl
theorem enoughP (n : Nat) : 3 ≤ enough 1 n := by
  unfold enough
  have : 3 ≤ szF (szN 1) 1 + 1 := by decide
  omega
theorem gToP {t : Nat} {k : List Sy} {st : List St} {r : List Sy × List St} (h : gTo psP (chF hsP psP) t 3 k st = some r) : gToF psP hsP 1 t k st = r := by
  unfold gToF
  rw [gTo_mono 3 _ _ _ h _ (enoughP _)]; rfl
theorem gP_o (k : List Sy) (st : List St) : gToF psP hsP 1 0 (⟨true, 0⟩ :: k) st = (⟨true, 0⟩ :: ⟨false, 1⟩ :: ⟨true, 0⟩ :: k, st ++ [⟨false, 0⟩] ++ [⟨true, 0⟩]) := by
  refine gToP ?_
  rw [gTo, if_neg (by simp), chP0, if_pos (by omega)]
  rfl
theorem gP_c (k : List Sy) (st : List St) : gToF psP hsP 1 1 (⟨true, 0⟩ :: ⟨false, 1⟩ :: k) st = (k, st ++ [⟨false, 1⟩] ++ [⟨true, 1⟩]) := by
  refine gToP ?_
  rw [gTo, if_neg (by simp), chP1, if_pos (by omega)]
  rfl
theorem gP_e (st : List St) : gToF psP hsP 1 3 [⟨true, 0⟩] st = ([], st ++ [⟨false, 1⟩]) := by
  refine gToP ?_
  rw [gTo, if_neg (by simp), chP3, if_pos (by omega)]
  rfl
theorem balL_skip (t : ByteArray) (C : Nat → Bool) (hC : ∀ c, C c = true → c ≠ 40 ∧ c ≠ 41) (d n : Nat) : ∀ (k m i : Nat), k ≤ m → balL t m i d n = balL t (m - (endR C t k i - i)) (endR C t k i) d n
  | 0, m, i, h => by unfold endR; rw [Nat.sub_self, Nat.sub_zero]
  | k + 1, m, i, h => by
    unfold endR
    split
    · rename_i hc
      obtain ⟨m', rfl⟩ : ∃ m', m = m' + 1 := ⟨m - 1, by omega⟩
      rw [balL, if_neg (hC _ hc).1, if_neg (hC _ hc).2, balL_skip t C hC d n k m' (i + 1) (by omega)]
      have := endR_le C t k (i + 1)
      rw [show m' + 1 - (endR C t k (i + 1) - i) = m' - (endR C t k (i + 1) - (i + 1)) by omega]
    · rw [Nat.sub_self, Nat.sub_zero]
theorem blank_not (c : Nat) (h : hasB [4294967296, 0, 0, 0] c = true) : c ≠ 40 ∧ c ≠ 41 := by
  refine ⟨fun e => ?_, fun e => ?_⟩
  · subst e; revert h; decide +kernel
  · subst e; revert h; decide +kernel
/-- what the growing says of brackets -/
structure PairOk (t : ByteArray) (G : GOut) (toks : List Tk) (r : Bool × Nat × Nat) : Prop where
  good : r.1 = true → G.err = 0 ∧ G.st.length = 4 * r.2.2 + 1 ∧ toks.length = 2 * r.2.2
  bad : r.1 = false → G.err = 10 ∧ placeF toks G.place t.size = (r.2.1 : Int)
theorem pairs_sim {t : ByteArray} (hB : BrT t) : ∀ (f m i d n a : Nat) (st : List St) (pre : List Tk), t.size - i = m → i ≤ t.size → m < f → a = 2 * n + d → st.length = 2 * a → pre.length = a →
    PairOk t (grwF psP hsP 3 1 ((tokK ksP clP t f i).map Tk.r) a (stk d) st) (pre ++ tokK ksP clP t f i) (balL t m i d n)
  | 0, m, i, d, n, a, st, pre, h1, h2, h3, _, _, _ => by omega
  | f + 1, m, i, d, n, a, st, pre, h1, h2, h3, h4, h5, h6 => by
    unfold tokK
    by_cases hi : i < t.size
    · rw [if_pos hi]
      obtain ⟨m', rfl⟩ : ∃ m', m = m' + 1 := ⟨m - 1, by omega⟩
      rcases hB i hi with e | e | e
      · -- one opens
        have hn : nxtK ksP clP t i = i + 1 := by unfold nxtK; rw [e]; rfl
        have hs : (kOf ksP (clP (atN t i))).sk = false := by rw [e]; rfl
        have hc : clP (atN t i) = 0 := by rw [e]; rfl
        rw [hs, hn, hc, if_neg (by simp), List.singleton_append, List.map_cons, grwF, balL, if_pos (show atN t i = 40 from e)]
        obtain ⟨k, hk⟩ := stk_cons d
        have hw : (wanB hsP 3 (stk d)).getD ((0 : Nat) : Int).toNat false = true := by
          cases d with
          | zero => rw [show stk 0 = [⟨true, 0⟩] from rfl, wanP_0]; rfl
          | succ d => rw [show stk (d + 1) = ⟨true, 0⟩ :: ⟨false, 1⟩ :: stk d from rfl, wanP_s]; rfl
        dsimp only
        rw [if_pos hw, show ((0 : Nat) : Int).toNat = 0 from rfl, hk, gP_o, ← hk]
        have ih := pairs_sim hB f m' (i + 1) (d + 1) n (a + 1) (st ++ [⟨false, 0⟩] ++ [⟨true, 0⟩]) (pre ++ [⟨((0 : Nat) : Int), i, ((i + 1 : Nat) : Int)⟩]) (by omega) (by omega) (by omega) (by omega) (by simp; omega) (by simp; omega)
        rw [List.append_assoc pre] at ih
        exact ih
      · -- one closes
        have hn : nxtK ksP clP t i = i + 1 := by unfold nxtK; rw [e]; rfl
        have hs : (kOf ksP (clP (atN t i))).sk = false := by rw [e]; rfl
        have hc : clP (atN t i) = 1 := by rw [e]; rfl
        rw [hs, hn, hc, if_neg (by simp), List.singleton_append, List.map_cons, grwF, balL, if_neg (show ¬ atN t i = 40 by omega), if_pos e]
        cases d with
        | zero =>
          rw [show stk 0 = [⟨true, 0⟩] from rfl, wanP_0, if_neg (by simp), if_pos rfl]
          refine ⟨fun q => by simp at q, fun _ => ⟨rfl, ?_⟩⟩
          unfold placeF
          dsimp only
          rw [if_neg (by omega), Int.toNat_natCast, List.getElem?_append_right (by omega), h6, Nat.sub_self]
          rfl
        | succ d =>
          rw [show stk (d + 1) = ⟨true, 0⟩ :: ⟨false, 1⟩ :: stk d from rfl, wanP_s, if_pos (by simp), show ((1 : Nat) : Int).toNat = 1 from rfl, gP_c, if_neg (by omega), Nat.add_sub_cancel]
          have ih := pairs_sim hB f m' (i + 1) d (n + 1) (a + 1) (st ++ [⟨false, 1⟩] ++ [⟨true, 1⟩]) (pre ++ [⟨((1 : Nat) : Int), i, ((i + 1 : Nat) : Int)⟩]) (by omega) (by omega) (by omega) (by omega) (by simp; omega) (by simp; omega)
          rw [List.append_assoc pre] at ih
          exact ih
      · -- a blank
        have hs : (kOf ksP (clP (atN t i))).sk = true := by rw [e]; rfl
        have hn : nxtK ksP clP t i = endR (hasB [4294967296, 0, 0, 0]) t (t.size - (i + 1)) (i + 1) := by unfold nxtK; rw [e]; rfl
        rw [hs, if_pos rfl, List.nil_append, hn, balL, if_neg (show ¬ atN t i = 40 by omega), if_neg (show ¬ atN t i = 41 by omega)]
        have le := endR_le (hasB [4294967296, 0, 0, 0]) t (t.size - (i + 1)) (i + 1)
        rw [balL_skip t _ blank_not d n (t.size - (i + 1)) m' (i + 1) (by omega)]
        generalize endR (hasB [4294967296, 0, 0, 0]) t (t.size - (i + 1)) (i + 1) = e' at le
        exact pairs_sim hB f (m' - (e' - (i + 1))) e' d n a st pre (by omega) (by omega) (by omega) h4 h5 h6
    · rw [if_neg hi, List.map_nil, List.append_nil, grwF]
      obtain rfl : m = 0 := by omega
      unfold balL
      cases d with
      | zero =>
        rw [show stk 0 = [⟨true, 0⟩] from rfl, wanP_0, if_pos (by simp), gP_e]
        refine ⟨fun _ => ⟨rfl, by simp; omega, by simp only; omega⟩, fun q => by simp at q⟩
      | succ d =>
        rw [show stk (d + 1) = ⟨true, 0⟩ :: ⟨false, 1⟩ :: stk d from rfl, wanP_s, if_neg (by simp)]
        refine ⟨fun q => by simp at q, fun _ => ⟨rfl, ?_⟩⟩
        unfold placeF
        dsimp only
        rw [if_neg (by omega), Int.toNat_natCast, List.getElem?_eq_none (by omega)]
end Go.Proofs.YteneagnhihcljaaGreatDoor
