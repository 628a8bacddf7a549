import Derived.Test.YtnohpkcofliccaaRi2
import Derived.Test.YtnohpkcofliccaaRows
import Derived.ProofKit
namespace Go.Proofs.Ytnohpkcofliccaa
open Go.RowKit
set_option linter.unusedVariables false
set_option linter.unusedSimpArgs false

theorem symZL_lo {X : SP} {x : ZLV} (h0 : 0 ≤ x.pl) (hp : ∀ p ∈ x.ln.places, 0 ≤ p) : ∀ (f j : Nat) (q : Int), symZL X x f j = some q → 0 ≤ q
  | 0, j, q, h => by simp [symZL] at h
  | f + 1, j, q, h => by
    rw [symZL_s] at h
    cases hs : x.ln.syms[j]? with
    | none => rw [hs] at h; cases h
    | some n =>
      rw [hs] at h
      dsimp only at h
      split at h
      · injection h with h
        have : 0 ≤ x.ln.places.getD j 0 := by
          rw [List.getD_eq_getElem?_getD]
          cases hq : x.ln.places[j]? with
          | none => simp
          | some v => simp; exact hp v (List.mem_of_getElem? hq)
        omega
      · exact symZL_lo h0 hp f (j + 1) q h
theorem namesL_lo {X : SP} : ∀ (xs : List ZLV) (ah : List ByteArray), (∀ x ∈ xs, 0 ≤ x.pl ∧ ∀ p ∈ x.ln.places, 0 ≤ p) → -1 ≤ namesL X xs ah
  | [], ah, h => by simp [namesL]
  | x :: xs, ah, h => by
    obtain ⟨h1, h2⟩ := h x (by simp)
    unfold namesL
    split
    · omega
    · cases hs : symZL X x (x.ln.syms.length + 1) 0 with
      | some p => have := symZL_lo h1 h2 _ _ _ hs; dsimp only; omega
      | none => exact namesL_lo xs _ (fun y hy => h y (by simp [hy]))
theorem bytes_none : bytesOf ⟨#[]⟩ = [] := rfl
structure ReadOk (s : ByteArray) (xs : List ZLV) : Prop where
  l2 : Lines2 s (rLines s).1 xs
  si : SI (rLines s).1 xs xs.length (sortL noSP xs).1
  bd : SPbd (sortL noSP xs).1
/-- the reference's error is the program's; its place too, but for the form's -/
theorem read_is {s : ByteArray} (hs : s.size ≤ 800) {xs : List ZLV} (hx : xs.map ZLV.both = (zForm s).1) {em : ByteArray → ByteArray → Bool} (hem : ∀ p t, em p t = true ↔ (lchK p 6 0).lang (bytesOf t)) :
    (readZ (fun p => em p ⟨#[]⟩) s xs (zForm s).2).1 = (checkF s).1 ∧ ((checkF s).1 ≠ 2 → (readZ (fun p => em p ⟨#[]⟩) s xs (zForm s).2).2 = (checkF s).2) ∧ ((checkF s).1 = 2 → (readZ (fun p => em p ⟨#[]⟩) s xs (zForm s).2).2 = (zForm s).2) ∧ ((checkF s).1 = 0 → ReadOk s xs) := by
  have hY := form_ok' hs hem
  have hc := checkF_eq s
  rw [if_neg (by omega)] at hc
  unfold readZ
  rw [if_neg (by omega)]
  cases hk : (rLines s).2.2
  · have h1 := (form_both s).2 hk
    rw [hk, if_pos rfl] at hc
    rw [hc, if_pos h1]
    exact ⟨rfl, fun q => absurd rfl q, fun _ => rfl, fun q => by cases q⟩
  · obtain ⟨h1, h2⟩ := (form_both s).1 hk
    rw [hk, if_neg (by simp)] at hc
    rw [← hx] at h2
    have l2 := lines2_of h2
    have hpl : ∀ x ∈ xs, 0 ≤ x.pl ∧ ∀ p ∈ x.ln.places, 0 ≤ p := fun x hxm => by
      have := hY x.both (by rw [← hx]; exact List.mem_map_of_mem hxm)
      exact ⟨this.pl.1, fun p hp => (this.pls p hp).1⟩
    obtain ⟨m1, m2⟩ := many_is l2
    have slo := sortL_lo xs noSP (fun x h => (hpl x h).1)
    rw [h1, if_neg (by omega)]
    by_cases c3 : tooMany (rLines s).1 = -1
    · rw [if_neg (by simp [c3])] at hc
      rw [m1, c3, if_neg (by omega)]
      have si := m2 (by rw [m1, c3])
      have bd := sortL_bd xs noSP noSP_bd (by rw [m1, c3]; omega) (fun x h => (hpl x h).1)
      have n1 := names_is l2 si
      have nlo := namesL_lo (X := (sortL noSP xs).1) xs [] hpl
      by_cases c4 : wrongName (rLines s).1 = -1
      · rw [if_neg (by simp [c4])] at hc
        rw [n1, c4, if_neg (by omega)]
        have hrl : (sortL noSP xs).1.rules = (xs.drop 0).filter (fun z => z.ln.rule) := by rw [si.rl, List.take_length]; rfl
        obtain ⟨e1, e2⟩ := empty_rel l2 (em := fun p => em p ⟨#[]⟩) (fun k x z g1 g2 g3 => by
          obtain ⟨i, i1, i2, i3⟩ := l2.at' k x z g1 g2
          obtain ⟨L, q1, q2, q3⟩ := i2.pat g3
          rw [hem, q1]
          exact (q3 ⟨#[]⟩).symm) ((rLines s).1.length + 1) 0 (by omega) (by rw [l2.len]; omega)
        rw [← hrl] at e1 e2
        have e1' : (match emptyZ (fun p => em p ⟨#[]⟩) (sortL noSP xs).1.rules with | some p => p | none => -1) = emptyF (rLines s).1 := e1
        cases he : emptyZ (fun p => em p ⟨#[]⟩) (sortL noSP xs).1.rules with
        | some p =>
          rw [he] at e1'
          dsimp only at e1'
          have := e2 p he
          rw [if_pos (by rw [← e1']; omega)] at hc
          rw [hc, ← e1']
          exact ⟨rfl, fun _ => rfl, fun q => by simp at q, fun q => by simp at q⟩
        | none =>
          rw [he] at e1'
          dsimp only at e1'
          rw [if_neg (by rw [← e1']; simp)] at hc
          have pz := prods_is l2 si
          unfold tailZ
          by_cases c6 : hasProd (rLines s).1 = false
          · rw [if_pos c6] at hc
            rw [if_pos (pz.2 c6), hc]
            exact ⟨rfl, fun _ => rfl, fun q => by simp at q, fun q => by simp at q⟩
          · rw [if_neg c6] at hc
            rw [if_neg (fun q => c6 (pz.1 q)), hc]
            exact ⟨rfl, fun _ => rfl, fun q => by simp at q, fun _ => ⟨l2, si, bd⟩⟩
      · rw [if_pos c4] at hc
        rw [n1] at nlo
        rw [n1, if_pos (by omega), hc]
        exact ⟨rfl, fun _ => rfl, fun q => by simp at q, fun q => by simp at q⟩
    · rw [if_pos c3] at hc
      rw [m1] at slo
      rw [m1, if_pos (by omega), hc]
      exact ⟨rfl, fun _ => rfl, fun q => by simp at q, fun q => by simp at q⟩
/-- what read answers -/
def ReadGood (s : ByteArray) (w : World) (e : Ending) (w' : World) : Prop :=
  ∃ (p : Value) (pl : Int), e = .returned (.tuple #[p, .int .i64 (checkF s).1, .int .i64 pl]) ∧ Fresh w w' ∧ ((checkF s).1 ≠ 2 → pl = (checkF s).2) ∧ ((checkF s).1 = 2 → pl = (zForm s).2) ∧
    ((checkF s).1 = 0 → ∃ (b : Nat) (xs : List ZLV), w.heap.size ≤ b ∧ p = .pointer (some ⟨b, 0, none⟩) ∧ SpecX w' b (sortL noSP xs).1 ∧ ReadOk s xs)
theorem zread_any (s : ByteArray) (w : World) (hs : s.size ≤ maxLen) : Calls Try.prog 9 #[.string s] w fun e w' => ReadGood s w e w' := by
  obtain ⟨em, hem⟩ := ex_mat
  by_cases hl : 800 < s.size
  · have hc : checkF s = (1, 0) := by unfold checkF; rw [if_pos hl]
    refine (zread_long (fun p => em p ⟨#[]⟩) s w hs hl).mono ?_
    rintro e w' ⟨p, xs, h1, h2, h3, h4, h5⟩
    have hz : readZ (fun p => em p ⟨#[]⟩) s xs (zForm s).2 = (1, 0) := by unfold readZ; rw [if_pos hl]
    rw [hz] at h3
    refine ⟨p, 0, by rw [hc]; exact h3, h4, fun _ => by rw [hc], fun q => by (rw [hc] at q; simp at q), fun q => by (rw [hc] at q; simp at q)⟩
  · have hl' : s.size ≤ 800 := by omega
    refine (zread_short (fun p => em p ⟨#[]⟩) s w hl' (form_ok' hl' hem)).mono ?_
    rintro e w' ⟨p, xs, h1, h2, h3, h4, h5⟩
    obtain ⟨r1, r2, r3, r4⟩ := read_is hl' (h1 hl') hem
    rw [r1] at h3 h5
    refine ⟨p, _, h3, h4, r2, r3, fun q => ?_⟩
    obtain ⟨b, b1, b2, b3⟩ := h5 q
    exact ⟨b, xs, b1, b2, b3, r4 q⟩
end Go.Proofs.Ytnohpkcofliccaa
namespace Go.Proofs.Ytnohpkcofliccaa
open Go.RowKit
set_option linter.unusedVariables false
set_option linter.unusedSimpArgs false

theorem filter_two {α β : Type} {p : α → Bool} {q : β → Bool} : ∀ {l : List α} {m : List β}, l.length = m.length → (∀ (k : Nat) (a : α) (b : β), l[k]? = some a → m[k]? = some b → p a = q b) →
    (l.filter p).length = (m.filter q).length ∧ ∀ (k : Nat) (a : α) (b : β), (l.filter p)[k]? = some a → (m.filter q)[k]? = some b → ∃ j : Nat, l[j]? = some a ∧ m[j]? = some b
  | [], [], _, _ => ⟨rfl, fun k a b h => by simp at h⟩
  | x :: l, y :: m, hl, h => by
    have hl' : l.length = m.length := by simpa using hl
    have hxy := h 0 x y rfl rfl
    obtain ⟨i1, i2⟩ := filter_two (l := l) (m := m) hl' (fun k a b ha hb => h (k + 1) a b (by simpa using ha) (by simpa using hb))
    cases hp : p x
    · rw [List.filter_cons, if_neg (by rw [hp]; simp), List.filter_cons, if_neg (by rw [← hxy, hp]; simp)]
      refine ⟨i1, fun k a b ha hb => ?_⟩
      obtain ⟨j, q1, q2⟩ := i2 k a b ha hb
      exact ⟨j + 1, by simpa using q1, by simpa using q2⟩
    · rw [List.filter_cons, if_pos hp, List.filter_cons, if_pos (by rw [← hxy]; exact hp)]
      refine ⟨by simp [i1], fun k a b ha hb => ?_⟩
      cases k with
      | zero => exact ⟨0, by simpa using ha, by simpa using hb⟩
      | succ k =>
        obtain ⟨j, q1, q2⟩ := i2 k a b (by simpa using ha) (by simpa using hb)
        exact ⟨j + 1, by simpa using q1, by simpa using q2⟩
  | [], y :: m, hl, _ => by simp at hl
  | x :: l, [], hl, _ => by simp at hl
/-- the rules, one by one -/
theorem rules_two {s : ByteArray} {xs : List ZLV} (h : ReadOk s xs) : (rulesOf s).length = (sortL noSP xs).1.rules.length ∧ ∀ (k : Nat) (x : Ln) (z : ZLV), (rulesOf s)[k]? = some x → (sortL noSP xs).1.rules[k]? = some z →
    z.ln.skip = x.skip ∧ ∃ L, PatIs z.ln.pat L ∧ z.ln.pat.size ≤ s.size ∧ ∀ t, ruleMatch x t = true ↔ L (bytesOf t) := by
  have hrl : (sortL noSP xs).1.rules = xs.filter (fun z => z.ln.rule) := by rw [h.si.rl, List.take_length]
  rw [hrl]
  unfold rulesOf
  obtain ⟨f1, f2⟩ := filter_two (p := ruleB) (q := fun z : ZLV => z.ln.rule) h.l2.len (fun k a b ha hb => by
    obtain ⟨i, i1, i2, i3⟩ := h.l2.at' k a b ha hb
    exact i2.rule.symm)
  refine ⟨f1, fun k x z hx hz => ?_⟩
  obtain ⟨j, q1, q2⟩ := f2 k x z hx hz
  obtain ⟨i, i1, i2, i3⟩ := h.l2.at' j x z q1 q2
  have hr : z.ln.rule = true := (List.mem_filter.1 (List.mem_of_getElem? hz)).2
  exact ⟨i2.skip, i2.pat hr⟩
theorem SpecX.at {w : World} {b : Nat} {X : SP} (h : SpecX w b X) : ∃ v0 v1 v2 v3 v4 sv, SPAt w b X v0 v1 v2 v3 v4 sv := by
  obtain ⟨v0, v1, v2, v3, v4, sv, h1, _⟩ := h
  exact ⟨v0, v1, v2, v3, v4, sv, h1.sp⟩

set_option maxRecDepth 20000 in
set_option maxHeartbeats 2000000 in
theorem zmatch_any (s t : ByteArray) (r : Int) (w : World) (hs : s.size ≤ maxLen) (ht : t.size ≤ maxLen) :
    Calls Try.prog 5 #[.string s, .int .i64 r, .string t] w fun e w' => e = .returned (.tuple #[.bool (matchF s r t).1, .int .i64 (matchF s r t).2]) ∧ Fresh w w' := by
  have RD := hid (zread_any s w hs)
  unfold maxLen at hs ht
  generalize hM : matchF s r t = M
  unfold matchF at hM
  by_cases h8 : 800 < s.size
  · have hc : checkF s = (1, 0) := by unfold checkF; rw [if_pos h8]
    have he : errF s t = 1 := by unfold errF; split <;> simp [hc]
    rw [he, if_pos (by omega)] at hM
    have HM := hid hM
    have k1 : (800 : Int) < (s.size : Int) := by omega
    clear hM RD
    go_enter Try.func5, Try.ntmps5
    go_wp2
    go_ret2
    exact ⟨by rw [← HM.out]; rfl, Mod.refl _ _⟩
  · have k1 : ¬ (800 : Int) < (s.size : Int) := by omega
    by_cases h2 : 200 < t.size
    · have he : errF s t = 1 := by unfold errF; rw [if_pos h2]
      rw [he, if_pos (by omega)] at hM
      have HM := hid hM
      have k2 : (200 : Int) < (t.size : Int) := by omega
      clear hM RD
      go_enter Try.func5, Try.ntmps5
      go_wp2
      go_ret2
      exact ⟨by rw [← HM.out]; rfl, Mod.refl _ _⟩
    · have k2 : ¬ (200 : Int) < (t.size : Int) := by omega
      have he : errF s t = (checkF s).1 := by unfold errF; rw [if_neg h2]
      rw [he] at hM
      by_cases h0 : (checkF s).1 = 0
      · rw [h0, if_neg (by omega)] at hM
        have H0 := hid h0
        clear he
        by_cases hr : r < 0
        · rw [if_pos hr] at hM
          have HM := hid hM
          clear hM
          go_enter Try.func5, Try.ntmps5
          go_wp2_with (first
            | (go_at_call 9; refine (RD.out).mono ?_; rintro e w1 ⟨p, pl, rfl, hf1, _, _, hg⟩; rw [H0.out]; obtain ⟨b, xs, hb, rfl, hS, hO⟩ := hg H0.out; have HF1 := hid hf1; clear hf1 hg hS hO))
          go_ret2
          exact ⟨by rw [← HM.out]; rfl, HF1.out⟩
        · rw [if_neg hr] at hM
          obtain ⟨k, rfl⟩ : ∃ k : Nat, r = k := ⟨r.toNat, by omega⟩
          rw [Int.toNat_natCast] at hM
          have HM := hid hM
          clear hM
          go_enter Try.func5, Try.ntmps5
          go_upto_region 6 with (first
            | (go_at_call 9; refine (RD.out).mono ?_; rintro e w1 ⟨p, pl, rfl, hf1, _, _, hg⟩; rw [H0.out]; obtain ⟨b, xs, hb, rfl, hS, hO⟩ := hg H0.out; have HF1 := hid hf1; have HS := hid hS; have HO := hid hO; clear hf1 hg hS hO))
          obtain ⟨v0, v1, v2, v3, v4, sv, hA⟩ := HS.out.at
          obtain ⟨e1, e2⟩ := rules_two HO.out
          have bd0 := HO.out.bd.rules
          have k0 := SPAt.cell hA 0
          simp at k0
          obtain ⟨a0, cp0, hv0⟩ := own_form (hA.own 0 _ rfl)
          dsimp only at hv0
          subst hv0
          have hRw := SPAt.rules hA
          generalize (sortL noSP xs).1.rules = rs at hRw e1 e2 bd0 k0
          have hbl := hA.lt
          clear hA
          by_cases hk : k < rs.length
          · have hk' : k < (rulesOf s).length := by omega
            have j1 : ¬ (rs.length : Int) ≤ (k : Int) := by omega
            have j2 : (k : Int) < (rs.length : Int) := by omega
            obtain ⟨y1, L, y2, y3, y4⟩ := e2 k _ _ (List.getElem?_eq_getElem hk') (List.getElem?_eq_getElem hk)
            obtain ⟨g, cap', hv⟩ := Joins.ownsRow_form hRw.own (by omega)
            rw [Value.slice.injEq] at hv
            obtain ⟨rfl, _, rfl⟩ := hv
            have c3 := hRw.cell k 3 hk (by omega)
            have hgl := (hRw.own.lt g rfl).2
            have MX := hid (zmatches_any rs[k].ln.pat t L w1 (by omega) (by omega) y2)
            have HM2 : Hid (M = (ruleMatch (rulesOf s)[k] t, 0)) := by
              have := HM.out
              rw [List.getElem?_eq_getElem hk'] at this; exact this.symm
            have HY4 := hid (y4 t)
            generalize rs[k] = x at c3 MX y1 y2 y3
            obtain ⟨⟨xr, xk, xn, xp, xsy, xpl⟩, vs, vp, pl2⟩ := x
            simp [ZLV.cells] at c3
            dsimp only at MX
            clear HM y1 y2 y3 y4 e1 e2 hRw
            go_wp2_with (first
              | (go_at_call 10; refine (MX.out).mono ?_; rintro e w2 ⟨bb, rfl, hb2, hf2⟩; have HB2 := hid hb2; have HF2 := hid hf2; clear hb2 hf2))
            go_ret2
            refine ⟨?_, HF1.out.trans HF2.out⟩
            have : bb = ruleMatch (rulesOf s)[k] t := by rw [Bool.eq_iff_iff, HB2.out, HY4.out]
            rw [HM2.out, ← this]; rfl
          · have j1 : (rs.length : Int) ≤ (k : Int) := by omega
            have HM2 : Hid (M = (false, 7)) := by
              have := HM.out
              rw [List.getElem?_eq_none (by omega)] at this; exact this.symm
            clear HM e1 e2 hRw
            go_wp2
            go_ret2
            exact ⟨by rw [HM2.out]; rfl, HF1.out⟩
      · rw [if_pos h0] at hM
        have HM := hid hM
        have k3 : ((checkF s).1 != 0) = true := by simpa using h0
        generalize hcc : (checkF s).1 = cc at k3 HM h0
        have HC := hid hcc
        clear hM he hcc
        go_enter Try.func5, Try.ntmps5
        go_wp2_with (first
          | (go_at_call 9; refine (RD.out).mono ?_; rintro e w1 ⟨p, pl, rfl, hf1, _, _, hg⟩; rw [HC.out]; have HF1 := hid hf1; clear hf1 hg))
        go_ret2
        exact ⟨by rw [← HM.out]; rfl, HF1.out⟩
theorem num_any (e : Int) (w : World) : Calls Try.prog 6 #[.int .i64 e] w fun r w' => r = .returned (.int .i64 e) ∧ w' = w := by
  go_enter Try.func6, Try.ntmps6
  go_wp2
  go_ret
  exact ⟨rfl, rfl⟩
set_option maxRecDepth 20000 in
set_option maxHeartbeats 1000000 in
theorem matches_any (s t : ByteArray) (r : Int) (w : World) (hs : s.size ≤ maxLen) (ht : t.size ≤ maxLen) :
    Calls Try.prog 3 #[.string s, .int .i64 r, .string t] w fun e w' => e = .returned (.bool true) ∧ Fresh w w' := by
  have A := hid (fun w => match_any s t r w hs ht)
  have B := hid (fun w => zmatch_any s t r w hs ht)
  have NU := hid (fun e w => num_any e w)
  generalize matchF s r t = M at A B
  obtain ⟨m, c⟩ := M
  dsimp only at A B
  go_enter Try.func3, Try.ntmps3
  cases m
  all_goals
    go_wp2_with (first
      | (go_at_call 4; refine (A.out _).mono ?_; rintro e w1 ⟨rfl, hf1⟩; have HF1 := hid hf1; clear hf1)
      | (go_at_call 5; refine (B.out _).mono ?_; rintro e w2 ⟨rfl, hf2⟩; have HF2 := hid hf2; clear hf2)
      | (go_at_call 6; refine (NU.out _ _).mono ?_; rintro e w' ⟨rfl, hw⟩; rw [hw]; clear hw))
    go_ret
    exact ⟨ret_bool (by simp), HF1.out.trans HF2.out⟩
end Go.Proofs.Ytnohpkcofliccaa
namespace Go.Proofs.Ytnohpkcofliccaa
open Go.ChangeShapes Go.WideShapes Go.ChangeAt Go.RowKit
open Go.ChangeMaps (open_string shut_string)
set_option linter.unusedVariables false
set_option linter.unusedSimpArgs false

theorem Try.own : ownKnob Try.prog.godebug = none := by kernel_rfl

set_option maxRecDepth 100000 in
theorem matches_lifted (os : Os) (started : os.Started) (H : Type) (enc : TypeId × Value → H) :
    ReturnsInHanded {} Try.checked os 3 .any (Rows.matchesSpec.pre6 enc Try.prog Try.f3 Rows.matchesRow.domain false) (Rows.matchesSpec.post enc Try.prog Try.f3 false true false false) := by
  refine returnsInHanded_of_change (C := Try.checked) Try.own started (by kernel_rfl) Try.func3
    (ChangeSpec.witness6 (enc := enc) (C := Try.checked) false ⟨#[], #[.string ⟨#[]⟩, .int .i64 0, .string ⟨#[]⟩], []⟩ 8 (by kernel_rfl) (by kernel_rfl) (by kernel_rfl) (by kernel_rfl)) ?_
  intro W base args ds gs before hval0 hW hcnd _
  have hval : ∀ (j : Nat) t v, Try.f3.params[j]? = some t → args[j]? = some v → Value.okWide Try.prog W .any base t v := hval0
  have hW' := hW
  obtain ⟨p, q, hA0, hV, rfl, hfz, hnd⟩ := hW
  have hA : DataW.TrodAll enc Try.prog W 0 (fun _ => true) true Try.f3.params.toList args.toList ds p := hA0
  rw [Try.params3] at hA hval
  obtain ⟨v0, v1, v2, d0, d1, d2, p0, p1, p2, rfl, rfl, rfl, h0, h1, h2⟩ := trodAll_three hA
  obtain ⟨rfl, rfl⟩ := trodVars_none hV
  obtain ⟨s, rfl, rfl, rfl, ws⟩ := open_string Try.underlying9 (hval 0 9 v0 rfl rfl) h0
  obtain ⟨x, rfl, rfl, rfl, wx⟩ := open_int Try.underlying3 (hval 1 3 v1 rfl rfl) h1
  obtain ⟨t, rfl, rfl, rfl, wt⟩ := open_string Try.underlying9 (hval 2 9 v2 rfl rfl) h2
  clear hA0 hval0
  simp only [List.append_nil] at hW'
  refine (matches_any s t x W ws wt).mono fun e W' ⟨he, hF⟩ => ?_
  subst he
  have hB := hF.below
  refine ⟨_, rfl, _, _, _, [], [], [], hW', ?_, ?_, ?_, hB.frame _, fun h => by cases h⟩
  · exact trodAll_mk1 (shut_bool Try.underlying4 true)
  · exact trodAll_mk3 (shut_string Try.underlying9 ws) (shut_int Try.underlying3 wx) (shut_string Try.underlying9 wt)
  · trivial

theorem matches_holds : Rows.MatchesSaid :=
  OpenClaim.holds_of_wide 3 Try.f3 rfl rfl rfl rfl rfl rfl rfl ⟨rfl, rfl, rfl, rfl, rfl⟩ rfl rfl rfl rfl rfl (by kernel_rfl) Try.func3 (by kernel_rfl)
    (of_decide_eq_true (by kernel_rfl)) (by unfold Func.isWrapper; first | (rw [if_pos (by decide +kernel)]; kernel_rfl) | (rw [if_neg (by decide +kernel)]; exact ⟨rfl, rfl⟩))
    (fun os started H enc _ => matches_lifted os started H enc)
#print axioms matches_holds
end Go.Proofs.Ytnohpkcofliccaa
