import Derived.Test.YtdbdkdekeicmhaaCk6
namespace Go.Proofs.Ytdbdkdekeicmhaa
open Go.RowKit
set_option linter.unusedVariables false
set_option linter.unusedSimpArgs false

theorem runL_bd (ns : List Node) (en : Int) (s : ByteArray) : ∀ (f i : Nat) (l : List Nat) (best : Int), -1 ≤ best → best ≤ s.size → -1 ≤ runL ns en s f i l best ∧ runL ns en s f i l best ≤ s.size
  | 0, _, _, best, h1, h2 => ⟨h1, h2⟩
  | f + 1, i, l, best, h1, h2 => by
    unfold runL; split
    · refine runL_bd ns en s f _ _ _ ?_ ?_ <;> split <;> omega
    · exact ⟨h1, h2⟩
theorem longF_bd (ns : List Node) (st en : Int) (s : ByteArray) (i : Nat) : -1 ≤ longF ns st en s i ∧ longF ns st en s i ≤ s.size := runL_bd ns en s _ _ _ _ (by omega) (by omega)

def rulesOf (s : ByteArray) : List Ln := (rLines s).1.filter ruleB
def errF (s t : ByteArray) : Int := if 200 < t.size then 1 else (checkF s).1
def RulesRet (s t : ByteArray) (w : World) (e : Ending) (w' : World) : Prop :=
  ∃ v xs, e = .returned (.tuple #[v, .int .i64 (errF s t)]) ∧ Fresh w w' ∧ LinesAt w' v xs ∧ xs.length ≤ 1000 ∧ (errF s t = 0 → xs.map LV.ln = rulesOf s)
theorem filter_ln (xs : List LV) : (xs.filter fun x => ruleB x.ln).map LV.ln = (xs.map LV.ln).filter ruleB := by
  induction xs with
  | nil => rfl
  | cons x xs ih => cases h : ruleB x.ln <;> simp [h, ih]

set_option maxRecDepth 20000 in
set_option maxHeartbeats 4000000 in
theorem readRules_any (s t : ByteArray) (w : World) (hs : s.size ≤ maxLen) (ht : t.size ≤ maxLen) :
    Calls Try.prog 19 #[.string s, .string t] w fun e w' => RulesRet s t w e w' := by
  have SC := hid (fun w => sheetCheck_any s w hs)
  unfold maxLen at hs ht
  by_cases hl : 200 < t.size
  · have he : Hid (errF s t = 1) := by unfold Hid errF; rw [if_pos hl]
    go_enter Try.func19, Try.ntmps19
    go_wp2
    go_ret2
    exact ⟨_, [], by rw [he.out]; rfl, Mod.refl _ _, nilLines _, by simp, fun h => by rw [he.out] at h; cases h⟩
  · have he : Hid (errF s t = (checkF s).1) := by unfold Hid errF; rw [if_neg hl]
    by_cases h0 : (checkF s).1 = 0
    · have H0 := hid h0
      have hle := (rLines_ok s).1
      have hok := (rLines_ok s).2
      have hsz : s.size ≤ 800 := by
        by_cases h8 : 800 < s.size
        · have := checkF_eq s; rw [if_pos h8] at this; rw [this] at h0; cases h0
        · omega
      have KEY : Hid (∀ xs : List LV, xs.map LV.ln = (rLines s).1 → xs.length ≤ 1000 ∧ (∀ x ∈ xs, FB x)) := by
        intro xs hx
        have h1 : xs.length = (rLines s).1.length := by rw [← hx]; simp
        refine ⟨by omega, ?_⟩
        intro x hxx; exact (hok x.ln (by rw [← hx]; exact List.mem_map.2 ⟨x, hxx, rfl⟩)).fb
      clear hle hok h0
      go_enter Try.func19, Try.ntmps19
      go_wp2_with (first
        | (go_at_call 12; refine (SC.out _).mono ?_; rintro e w1 ⟨v, rfl, hf1, xs, hL, hxs⟩; rw [H0.out]; have HX := hid hxs; clear hxs; have HL := hid hL; clear hL)
        | (go_at_call 25; refine (rules_any _ v xs HL.out (KEY.out xs (HX.out.elim (fun h => absurd H0.out h.1) (fun h => h.2))).1 (KEY.out xs (HX.out.elim (fun h => absurd H0.out h.1) (fun h => h.2))).2).mono ?_; rintro e w2 ⟨v', rfl, hL2, hf2⟩))
      go_ret2
      have hx : xs.map LV.ln = (rLines s).1 := HX.out.elim (fun h => absurd H0.out h.1) (fun h => h.2)
      refine ⟨v', xs.filter fun x => ruleB x.ln, by rw [he.out, H0.out]; rfl, hf1.trans hf2, hL2, ?_, ?_⟩
      · have := (KEY.out xs hx).1; have := List.length_filter_le (fun x : LV => ruleB x.ln) xs; omega
      · intro _; rw [filter_ln, hx]; rfl
    · have c0 : ((checkF s).1 != 0) = true := by simpa using h0
      have H0 := hid h0
      clear h0
      go_enter Try.func19, Try.ntmps19
      go_wp2_with (first
        | (go_at_call 12; refine (SC.out _).mono ?_; rintro e w1 ⟨v, rfl, hf1, _⟩))
      go_ret2
      exact ⟨_, [], by rw [he.out]; rfl, hf1, nilLines _, by simp, fun h => by rw [he.out] at h; exact absurd h H0.out⟩

theorem LinesAt.patRange {w : World} {g n cap : Nat} {xs : List LV} (h : LinesAt w (.slice (some ⟨g, 0, none⟩) n cap) xs) (i : Nat) (hi : i < xs.length) : w.rangeAt g (i * 14 + 10) [xs[i].vn, .int .i64 xs[i].ln.st, .int .i64 xs[i].ln.en] := by
  intro j v hj
  obtain ⟨k10, k11, k12⟩ := LV.at10 (h.each xs[i] (by simp)).front
  have hlt : j < 3 := by have := (List.getElem?_eq_some_iff.1 hj).1; simpa using this
  have e : i * 14 + 10 + j = i * 14 + (10 + j) := by omega
  rw [e, h.cells14 i (10 + j) hi (by omega)]
  simp only [List.getElem?_toArray] at k10 k11 k12
  rcases j with _ | _ | _ | j
  · rw [k10]; simpa using hj
  · rw [k11]; simpa using hj
  · rw [k12]; simpa using hj
  · omega

def ruleMatch (x : Ln) (t : ByteArray) : Bool := longF x.ns x.st x.en t 0 == (t.size : Int)
/-- whether it matches, and the error -/
def matchF (s : ByteArray) (r : Int) (t : ByteArray) : Bool × Int :=
  if errF s t ≠ 0 then (false, errF s t)
  else if r < 0 then (false, 7)
  else match (rulesOf s)[r.toNat]? with
    | some x => (ruleMatch x t, 0)
    | none => (false, 7)

set_option maxRecDepth 20000 in
set_option maxHeartbeats 4000000 in
theorem match_any (s t : ByteArray) (r : Int) (w : World) (hs : s.size ≤ maxLen) (ht : t.size ≤ maxLen) :
    Calls Try.prog 13 #[.string s, .int .i64 r, .string t] w fun e w' => e = .returned (.tuple #[.bool (matchF s r t).1, .int .i64 (matchF s r t).2]) ∧ Fresh w w' := by
  have RR := hid (fun w => readRules_any s t w hs ht)
  unfold maxLen at hs ht
  have hm : matchF s r t = _ := rfl
  generalize hM : matchF s r t = M
  unfold matchF at hM
  clear hm
  by_cases h0 : errF s t = 0
  · rw [if_neg (by simp [h0])] at hM
    have H0 := hid h0
    have ht2 : t.size ≤ 200 := by
      by_cases h : 200 < t.size
      · unfold errF at h0; rw [if_pos h] at h0; cases h0
      · omega
    clear h0
    by_cases h1 : r < 0
    · rw [if_pos h1] at hM
      have HM := hid hM
      clear hM
      go_enter Try.func13, Try.ntmps13
      go_wp2_with (first
        | (go_at_call 19; refine (RR.out _).mono ?_; rintro e w1 ⟨v, xs, rfl, hf1, hL, hx1, hx2⟩; rw [H0.out]; obtain ⟨ao, cap, hv⟩ := own_form hL.own; subst hv; have HL := hid hL; have HX := hid hx2; clear hL hx2))
      go_ret2
      exact ⟨by rw [← HM.out]; rfl, hf1⟩
    · rw [if_neg h1] at hM
      obtain ⟨k, rfl⟩ : ∃ k : Nat, r = k := ⟨r.toNat, by omega⟩
      simp only [Int.toNat_natCast] at hM
      by_cases hk : k < (rulesOf s).length
      · rw [List.getElem?_eq_getElem hk] at hM
        simp only [] at hM
        have HM := hid hM
        have HK := hid hk
        clear hM
        go_enter Try.func13, Try.ntmps13
        go_wp2_with (first
          | (go_at_call 19; refine (RR.out _).mono ?_; rintro e w1 ⟨v, xs, rfl, hf1, hL, hx1, hx2⟩; rw [H0.out]; have hx3 := hx2 H0.out; have hkx : k < xs.length := (by have := HK.out; rw [← hx3] at this; simpa using this); obtain ⟨g, cap, hv⟩ := Joins.ownsRow_form hL.own (by omega); subst hv; have HL := hid hL; have HX := hid hx3; clear hL hx2 hx3)
          | (refine wpList_load_mid rfl 54 _ rfl g (k * 14 + 10) rfl [xs[k].vn, .int .i64 xs[k].ln.st, .int .i64 xs[k].ln.en] _ (HL.out.patRange k hkx) Try.underlying54 rfl szPat ?_)
          | (go_at_call 20; refine (longest_any _ xs[k].vn xs[k].ln.st xs[k].ln.en xs[k].ln.ns t 0 (HL.out.each xs[k] (by simp)).nodes (by have := (HL.out.each xs[k] (by simp)).small; omega) (by omega) (by omega)).mono ?_; rintro e w2 ⟨rfl, hf2⟩))
        go_ret2
        refine ⟨?_, hf1.trans hf2⟩
        rw [← HM.out]
        have : (rulesOf s)[k]'HK.out = xs[k].ln := by
          have h1 : (xs.map LV.ln)[k]? = (rulesOf s)[k]? := by rw [HX.out]
          rw [List.getElem?_eq_getElem HK.out] at h1
          simpa [hkx] using h1.symm
        rw [this]; rfl
      · rw [List.getElem?_eq_none (by omega)] at hM
        simp only [] at hM
        have HM := hid hM
        have HK := hid hk
        clear hM hk
        go_enter Try.func13, Try.ntmps13
        go_wp2_with (first
          | (go_at_call 19; refine (RR.out _).mono ?_; rintro e w1 ⟨v, xs, rfl, hf1, hL, hx1, hx2⟩; rw [H0.out]; have hx3 := hx2 H0.out; have hkx : xs.length ≤ k := (by have := HK.out; rw [← hx3] at this; simpa using this); obtain ⟨ao, cap, hv⟩ := own_form hL.own; subst hv; have HL := hid hL; clear hL hx2 hx3))
        go_ret2
        exact ⟨by rw [← HM.out]; rfl, hf1⟩
  · rw [if_pos h0] at hM
    have HM := hid hM
    have c0 : (errF s t != 0) = true := by simpa using h0
    clear hM h0
    go_enter Try.func13, Try.ntmps13
    go_wp2_with (first
      | (go_at_call 19; refine (RR.out _).mono ?_; rintro e w1 ⟨v, xs, rfl, hf1, hL, hx1, hx2⟩; have HX := hid hx2; clear hL hx2))
    go_ret2
    exact ⟨by rw [← HM.out]; rfl, hf1⟩
end Go.Proofs.Ytdbdkdekeicmhaa
namespace Go.Proofs.Ytdbdkdekeicmhaa
open Go.RowKit
set_option linter.unusedVariables false
set_option linter.unusedSimpArgs false

def bestL (lns : List Ln) (t : ByteArray) (i : Nat) : Nat → Nat → Int × Int → Int × Int
  | 0, _, b => b
  | f + 1, k, b => match lns[k]? with
    | some x => bestL lns t i f (k + 1) (if b.2 < longF x.ns x.st x.en t i then ((k : Int), longF x.ns x.st x.en t i) else b)
    | none => b
def bestF (lns : List Ln) (t : ByteArray) (i : Nat) : Int × Int := bestL lns t i (lns.length + 1) 0 (0, i)
abbrev tokArr (r a b : Int) : Array Value := #[.int .i64 r, .int .i64 a, .int .i64 b]
def skipB (lns : List Ln) (r : Int) : Bool := if r < 0 then false else match lns[r.toNat]? with | some x => x.skip | none => false
end Go.Proofs.Ytdbdkdekeicmhaa
namespace Go.Proofs.Ytdbdkdekeicmhaa
open Go.RowKit
set_option linter.unusedVariables false
set_option linter.unusedSimpArgs false

theorem bestL_bd (lns : List Ln) (t : ByteArray) (i : Nat) : ∀ (f k : Nat) (b : Int × Int), 0 ≤ b.1 → (i : Int) ≤ b.2 → (b.2 ≤ i ∨ b.2 ≤ t.size) → 0 ≤ (bestL lns t i f k b).1 ∧ (i : Int) ≤ (bestL lns t i f k b).2 ∧ ((bestL lns t i f k b).2 ≤ i ∨ (bestL lns t i f k b).2 ≤ t.size)
  | 0, _, b, h1, h2, h3 => ⟨h1, h2, h3⟩
  | f + 1, k, b, h1, h2, h3 => by
    unfold bestL; split
    · rename_i x hx
      have := longF_bd x.ns x.st x.en t i
      refine bestL_bd lns t i f (k + 1) _ ?_ ?_ ?_ <;> split <;> (try dsimp only) <;> omega
    · exact ⟨h1, h2, h3⟩
theorem bestF_bd (lns : List Ln) (t : ByteArray) (i : Nat) : 0 ≤ (bestF lns t i).1 ∧ (i : Int) ≤ (bestF lns t i).2 ∧ ((bestF lns t i).2 ≤ i ∨ (bestF lns t i).2 ≤ t.size) := bestL_bd lns t i _ _ _ (by simp) (by simp) (by simp)

structure Tk where
  r : Int
  a : Int
  b : Int
def Tk.cells (x : Tk) : List Value := [.int .i64 x.r, .int .i64 x.a, .int .i64 x.b]
def cutL (lns : List Ln) (t : ByteArray) : Nat → Nat → List Tk → List Tk × Int × Int
  | 0, _, _ => ([], 9, 0)
  | f + 1, i, toks =>
    if i < t.size then
      if (bestF lns t i).2 ≤ i then ([], 9, i)
      else cutL lns t f (bestF lns t i).2.toNat (if skipB lns (bestF lns t i).1 then toks else toks ++ [⟨(bestF lns t i).1, i, (bestF lns t i).2⟩])
    else (toks, 0, 0)
def cutF (lns : List Ln) (t : ByteArray) : List Tk × Int × Int := cutL lns t (t.size + 1) 0 []
/-- the tokens, the error, the place -/
def lexF (s t : ByteArray) : List Tk × Int × Int := if errF s t ≠ 0 then ([], errF s t, 0) else cutF (rulesOf s) t
end Go.Proofs.Ytdbdkdekeicmhaa
