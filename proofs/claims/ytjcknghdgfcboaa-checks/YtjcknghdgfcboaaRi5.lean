import Derived.Test.YtjcknghdgfcboaaRi2
namespace Go.Proofs.Ytjcknghdgfcboaa
open Go.RowKit
set_option linter.unusedVariables false
set_option linter.unusedSimpArgs false

theorem symZL_lo {X : SP} {x : ZLV} (h0 : 0 ≤ x.pl) (hp : ∀ p ∈ x.ln.places, 0 ≤ p) : ∀ (f j : Nat) (q : Int), symZL X x f j = some q → 0 ≤ q
  | 0, j, q, h => by simp [symZL] at h
  | f + 1, j, q, h => by
    rw [symZL_s] at h
    cases hs : x.ln.syms[j]? with
    | none => rw [hs] at h; cases h
    | some n =>
      rw [hs] at h
      dsimp only at h
      split at h
      · injection h with h
        have : 0 ≤ x.ln.places.getD j 0 := by
          rw [List.getD_eq_getElem?_getD]
          cases hq : x.ln.places[j]? with
          | none => simp
          | some v => simp; exact hp v (List.mem_of_getElem? hq)
        omega
      · exact symZL_lo h0 hp f (j + 1) q h
theorem namesL_lo {X : SP} : ∀ (xs : List ZLV) (ah : List ByteArray), (∀ x ∈ xs, 0 ≤ x.pl ∧ ∀ p ∈ x.ln.places, 0 ≤ p) → -1 ≤ namesL X xs ah
  | [], ah, h => by simp [namesL]
  | x :: xs, ah, h => by
    obtain ⟨h1, h2⟩ := h x (by simp)
    unfold namesL
    split
    · omega
    · cases hs : symZL X x (x.ln.syms.length + 1) 0 with
      | some p => have := symZL_lo h1 h2 _ _ _ hs; dsimp only; omega
      | none => exact namesL_lo xs _ (fun y hy => h y (by simp [hy]))
theorem bytes_none : bytesOf ⟨#[]⟩ = [] := rfl
structure ReadOk (s : ByteArray) (xs : List ZLV) : Prop where
  l2 : Lines2 s (rLines s).1 xs
  si : SI (rLines s).1 xs xs.length (sortL noSP xs).1
  bd : SPbd (sortL noSP xs).1
/-- the reference's error is the program's; its place too, but for the form's -/
theorem read_is {s : ByteArray} (hs : s.size ≤ 800) {xs : List ZLV} (hx : xs.map ZLV.both = (zForm s).1) {em : ByteArray → ByteArray → Bool} (hem : ∀ p t, em p t = true ↔ (lchK p 6 0).lang (bytesOf t)) :
    (readZ (fun p => em p ⟨#[]⟩) s xs (zForm s).2).1 = (checkF s).1 ∧ ((checkF s).1 ≠ 2 → (readZ (fun p => em p ⟨#[]⟩) s xs (zForm s).2).2 = (checkF s).2) ∧ ((checkF s).1 = 2 → (readZ (fun p => em p ⟨#[]⟩) s xs (zForm s).2).2 = (zForm s).2) ∧ ((checkF s).1 = 0 → ReadOk s xs) := by
  have hY := form_ok' hs hem
  have hc := checkF_eq s
  rw [if_neg (by omega)] at hc
  unfold readZ
  rw [if_neg (by omega)]
  cases hk : (rLines s).2.2
  · have h1 := (form_both s).2 hk
    rw [hk, if_pos rfl] at hc
    rw [hc, if_pos h1]
    exact ⟨rfl, fun q => absurd rfl q, fun _ => rfl, fun q => by cases q⟩
  · obtain ⟨h1, h2⟩ := (form_both s).1 hk
    rw [hk, if_neg (by simp)] at hc
    rw [← hx] at h2
    have l2 := lines2_of h2
    have hpl : ∀ x ∈ xs, 0 ≤ x.pl ∧ ∀ p ∈ x.ln.places, 0 ≤ p := fun x hxm => by
      have := hY x.both (by rw [← hx]; exact List.mem_map_of_mem hxm)
      exact ⟨this.pl.1, fun p hp => (this.pls p hp).1⟩
    obtain ⟨m1, m2⟩ := many_is l2
    have slo := sortL_lo xs noSP (fun x h => (hpl x h).1)
    rw [h1, if_neg (by omega)]
    by_cases c3 : tooMany (rLines s).1 = -1
    · rw [if_neg (by simp [c3])] at hc
      rw [m1, c3, if_neg (by omega)]
      have si := m2 (by rw [m1, c3])
      have bd := sortL_bd xs noSP noSP_bd (by rw [m1, c3]; omega) (fun x h => (hpl x h).1)
      have n1 := names_is l2 si
      have nlo := namesL_lo (X := (sortL noSP xs).1) xs [] hpl
      by_cases c4 : wrongName (rLines s).1 = -1
      · rw [if_neg (by simp [c4])] at hc
        rw [n1, c4, if_neg (by omega)]
        have hrl : (sortL noSP xs).1.rules = (xs.drop 0).filter (fun z => z.ln.rule) := by rw [si.rl, List.take_length]; rfl
        obtain ⟨e1, e2⟩ := empty_rel l2 (em := fun p => em p ⟨#[]⟩) (fun k x z g1 g2 g3 => by
          obtain ⟨i, i1, i2, i3⟩ := l2.at' k x z g1 g2
          obtain ⟨L, q1, q2, q3⟩ := i2.pat g3
          rw [hem, q1]
          exact (q3 ⟨#[]⟩).symm) ((rLines s).1.length + 1) 0 (by omega) (by rw [l2.len]; omega)
        rw [← hrl] at e1 e2
        have e1' : (match emptyZ (fun p => em p ⟨#[]⟩) (sortL noSP xs).1.rules with | some p => p | none => -1) = emptyF (rLines s).1 := e1
        cases he : emptyZ (fun p => em p ⟨#[]⟩) (sortL noSP xs).1.rules with
        | some p =>
          rw [he] at e1'
          dsimp only at e1'
          have := e2 p he
          rw [if_pos (by rw [← e1']; omega)] at hc
          rw [hc, ← e1']
          exact ⟨rfl, fun _ => rfl, fun q => by simp at q, fun q => by simp at q⟩
        | none =>
          rw [he] at e1'
          dsimp only at e1'
          rw [if_neg (by rw [← e1']; simp)] at hc
          have pz := prods_is l2 si
          unfold tailZ
          by_cases c6 : hasProd (rLines s).1 = false
          · rw [if_pos c6] at hc
            rw [if_pos (pz.2 c6), hc]
            exact ⟨rfl, fun _ => rfl, fun q => by simp at q, fun q => by simp at q⟩
          · rw [if_neg c6] at hc
            rw [if_neg (fun q => c6 (pz.1 q)), hc]
            exact ⟨rfl, fun _ => rfl, fun q => by simp at q, fun _ => ⟨l2, si, bd⟩⟩
      · rw [if_pos c4] at hc
        rw [n1] at nlo
        rw [n1, if_pos (by omega), hc]
        exact ⟨rfl, fun _ => rfl, fun q => by simp at q, fun q => by simp at q⟩
    · rw [if_pos c3] at hc
      rw [m1] at slo
      rw [m1, if_pos (by omega), hc]
      exact ⟨rfl, fun _ => rfl, fun q => by simp at q, fun q => by simp at q⟩
/-- what read answers -/
def ReadGood (s : ByteArray) (w : World) (e : Ending) (w' : World) : Prop :=
  ∃ (p : Value) (pl : Int), e = .returned (.tuple #[p, .int .i64 (checkF s).1, .int .i64 pl]) ∧ Fresh w w' ∧ ((checkF s).1 ≠ 2 → pl = (checkF s).2) ∧ ((checkF s).1 = 2 → pl = (zForm s).2) ∧
    ((checkF s).1 = 0 → ∃ (b : Nat) (xs : List ZLV), w.heap.size ≤ b ∧ p = .pointer (some ⟨b, 0, none⟩) ∧ SpecX w' b (sortL noSP xs).1 ∧ ReadOk s xs)
theorem zread_any (s : ByteArray) (w : World) (hs : s.size ≤ maxLen) : Calls Try.prog 8 #[.string s] w fun e w' => ReadGood s w e w' := by
  obtain ⟨em, hem⟩ := ex_mat
  by_cases hl : 800 < s.size
  · have hc : checkF s = (1, 0) := by unfold checkF; rw [if_pos hl]
    refine (zread_long (fun p => em p ⟨#[]⟩) s w hs hl).mono ?_
    rintro e w' ⟨p, xs, h1, h2, h3, h4, h5⟩
    have hz : readZ (fun p => em p ⟨#[]⟩) s xs (zForm s).2 = (1, 0) := by unfold readZ; rw [if_pos hl]
    rw [hz] at h3
    refine ⟨p, 0, by rw [hc]; exact h3, h4, fun _ => by rw [hc], fun q => by (rw [hc] at q; simp at q), fun q => by (rw [hc] at q; simp at q)⟩
  · have hl' : s.size ≤ 800 := by omega
    refine (zread_short (fun p => em p ⟨#[]⟩) s w hl' (form_ok' hl' hem)).mono ?_
    rintro e w' ⟨p, xs, h1, h2, h3, h4, h5⟩
    obtain ⟨r1, r2, r3, r4⟩ := read_is hl' (h1 hl') hem
    rw [r1] at h3 h5
    refine ⟨p, _, h3, h4, r2, r3, fun q => ?_⟩
    obtain ⟨b, b1, b2, b3⟩ := h5 q
    exact ⟨b, xs, b1, b2, b3, r4 q⟩
end Go.Proofs.Ytjcknghdgfcboaa
namespace Go.Proofs.Ytjcknghdgfcboaa
open Go.RowKit
set_option linter.unusedVariables false
set_option linter.unusedSimpArgs false

theorem filter_two {α β : Type} {p : α → Bool} {q : β → Bool} : ∀ {l : List α} {m : List β}, l.length = m.length → (∀ (k : Nat) (a : α) (b : β), l[k]? = some a → m[k]? = some b → p a = q b) →
    (l.filter p).length = (m.filter q).length ∧ ∀ (k : Nat) (a : α) (b : β), (l.filter p)[k]? = some a → (m.filter q)[k]? = some b → ∃ j : Nat, l[j]? = some a ∧ m[j]? = some b
  | [], [], _, _ => ⟨rfl, fun k a b h => by simp at h⟩
  | x :: l, y :: m, hl, h => by
    have hl' : l.length = m.length := by simpa using hl
    have hxy := h 0 x y rfl rfl
    obtain ⟨i1, i2⟩ := filter_two (l := l) (m := m) hl' (fun k a b ha hb => h (k + 1) a b (by simpa using ha) (by simpa using hb))
    cases hp : p x
    · rw [List.filter_cons, if_neg (by rw [hp]; simp), List.filter_cons, if_neg (by rw [← hxy, hp]; simp)]
      refine ⟨i1, fun k a b ha hb => ?_⟩
      obtain ⟨j, q1, q2⟩ := i2 k a b ha hb
      exact ⟨j + 1, by simpa using q1, by simpa using q2⟩
    · rw [List.filter_cons, if_pos hp, List.filter_cons, if_pos (by rw [← hxy]; exact hp)]
      refine ⟨by simp [i1], fun k a b ha hb => ?_⟩
      cases k with
      | zero => exact ⟨0, by simpa using ha, by simpa using hb⟩
      | succ k =>
        obtain ⟨j, q1, q2⟩ := i2 k a b (by simpa using ha) (by simpa using hb)
        exact ⟨j + 1, by simpa using q1, by simpa using q2⟩
  | [], y :: m, hl, _ => by simp at hl
  | x :: l, [], hl, _ => by simp at hl
/-- the rules, one by one -/
theorem rules_two {s : ByteArray} {xs : List ZLV} (h : ReadOk s xs) : (rulesOf s).length = (sortL noSP xs).1.rules.length ∧ ∀ (k : Nat) (x : Ln) (z : ZLV), (rulesOf s)[k]? = some x → (sortL noSP xs).1.rules[k]? = some z →
    z.ln.skip = x.skip ∧ ∃ L, PatIs z.ln.pat L ∧ z.ln.pat.size ≤ s.size ∧ ∀ t, ruleMatch x t = true ↔ L (bytesOf t) := by
  have hrl : (sortL noSP xs).1.rules = xs.filter (fun z => z.ln.rule) := by rw [h.si.rl, List.take_length]
  rw [hrl]
  unfold rulesOf
  obtain ⟨f1, f2⟩ := filter_two (p := ruleB) (q := fun z : ZLV => z.ln.rule) h.l2.len (fun k a b ha hb => by
    obtain ⟨i, i1, i2, i3⟩ := h.l2.at' k a b ha hb
    exact i2.rule.symm)
  refine ⟨f1, fun k x z hx hz => ?_⟩
  obtain ⟨j, q1, q2⟩ := f2 k x z hx hz
  obtain ⟨i, i1, i2, i3⟩ := h.l2.at' j x z q1 q2
  have hr : z.ln.rule = true := (List.mem_filter.1 (List.mem_of_getElem? hz)).2
  exact ⟨i2.skip, i2.pat hr⟩
theorem SpecX.at {w : World} {b : Nat} {X : SP} (h : SpecX w b X) : ∃ v0 v1 v2 v3 v4 sv, SPAt w b X v0 v1 v2 v3 v4 sv := by
  obtain ⟨v0, v1, v2, v3, v4, sv, h1, _⟩ := h
  exact ⟨v0, v1, v2, v3, v4, sv, h1.sp⟩

theorem num_any (e : Int) (w : World) : Calls Try.prog 6 #[.int .i64 e] w fun r w' => r = .returned (.int .i64 e) ∧ w' = w := by
  go_enter Try.func6, Try.ntmps6
  go_wp2
  go_ret
  exact ⟨rfl, rfl⟩
end Go.Proofs.Ytjcknghdgfcboaa
namespace Go.Proofs.Ytjcknghdgfcboaa
open Go.RowKit
set_option linter.unusedVariables false
set_option linter.unusedSimpArgs false

/-- the token so far, behind the lengths below n -/
def updN (gs : List Bool) (a r : Nat) (b : Int × Int) : Nat → Int × Int
  | 0 => b
  | n + 1 => if 0 < n ∧ gs.getD n false = true ∧ (updN gs a r b n).2 < (a : Int) + n then ((r : Int), (a : Int) + n) else updN gs a r b n
theorem updN_spec (gs : List Bool) (a r : Nat) (b : Int × Int) : ∀ n, (updN gs a r b n = b ∧ ∀ m, 0 < m → m < n → On gs m → (a : Int) + m ≤ b.2) ∨ (∃ m, 0 < m ∧ m < n ∧ On gs m ∧ updN gs a r b n = ((r : Int), (a : Int) + m) ∧ b.2 < (a : Int) + m ∧ ∀ m', m < m' → m' < n → ¬ On gs m')
  | 0 => .inl ⟨rfl, fun m h1 h2 => by omega⟩
  | n + 1 => by
    unfold updN
    rcases updN_spec gs a r b n with ⟨h1, h2⟩ | ⟨m, m1, m2, m3, m4, m5, m6⟩
    · by_cases c : 0 < n ∧ gs.getD n false = true ∧ (updN gs a r b n).2 < (a : Int) + n
      · rw [if_pos c]
        obtain ⟨c1, c2, c3⟩ := c
        rw [h1] at c3
        exact .inr ⟨n, c1, by omega, on_getD.2 c2, rfl, c3, fun m' q1 q2 => by omega⟩
      · rw [if_neg c]
        refine .inl ⟨h1, fun m q1 q2 q3 => ?_⟩
        by_cases e : m = n
        · subst e
          by_cases z : (a : Int) + m ≤ b.2
          · exact z
          · exact absurd ⟨q1, on_getD.1 q3, by rw [h1]; omega⟩ c
        · exact h2 m q1 (by omega) q3
    · by_cases c : 0 < n ∧ gs.getD n false = true ∧ (updN gs a r b n).2 < (a : Int) + n
      · rw [if_pos c]
        obtain ⟨c1, c2, c3⟩ := c
        rw [m4] at c3
        dsimp only at c3
        exact .inr ⟨n, c1, by omega, on_getD.2 c2, rfl, by omega, fun m' q1 q2 => by omega⟩
      · rw [if_neg c]
        refine .inr ⟨m, m1, by omega, m3, m4, m5, fun m' q1 q2 q3 => ?_⟩
        by_cases e : m' = n
        · subst e
          exact c ⟨by omega, on_getD.1 q3, by rw [m4]; dsimp only; omega⟩
        · exact m6 m' q1 (by omega) q3
theorem bytes_part {t : ByteArray} {a n : Nat} (h : a + n ≤ t.size) : bytesK (t.extract a t.size) 0 n = bytesOf (t.extract a (a + n)) := by
  have s1 := part_size (s := t) (a := a) (e := t.size) (Nat.le_refl _)
  have s2 := part_size (s := t) (a := a) (e := a + n) h
  unfold bytesOf
  rw [s2, bytesK_eq _ 0 n (by omega), bytesK_eq _ 0 (a + n - a) (by omega), show a + n - a = n by omega]
  apply List.map_congr_left
  intro j hj
  have hj' : j < n := by simpa using hj
  rw [Nat.zero_add, atB_part (Nat.le_refl _) (by omega) (by omega), atB_part h (by omega) (by omega)]
/-- what a rule adds to the token -/
theorem upd_is {x : Ln} {t : ByteArray} {a r : Nat} {L : Lang} {gs : List Bool} {b : Int × Int} (ha : a ≤ t.size) (hL : ∀ u, ruleMatch x u = true ↔ L (bytesOf u)) (hl : gs.length = (t.extract a t.size).size + 1)
    (hg : ∀ j, j ≤ (t.extract a t.size).size → (On gs j ↔ L (bytesK (t.extract a t.size) 0 j))) (hb : (a : Int) ≤ b.2) :
    updN gs a r b gs.length = if b.2 < longF x.ns x.st x.en t a then ((r : Int), longF x.ns x.st x.en t a) else b := by
  have s1 := part_size (s := t) (a := a) (e := t.size) (Nat.le_refl _)
  have hacc : ∀ n, a + n ≤ t.size → (On gs n ↔ accK x.ns x.st x.en t a n = true) := fun n hn => by
    rw [hg n (by omega), bytes_part hn, ← match_acc x t a n hn, hL]
  rcases longF_spec x.ns x.st x.en t a with ⟨j, j1, j2, j3, j4⟩ | ⟨j1, j2⟩
  · rw [j3]
    rcases updN_spec gs a r b gs.length with ⟨h1, h2⟩ | ⟨m, m1, m2, m3, m4, m5, m6⟩
    · rw [h1, if_neg]
      intro q
      by_cases j0 : j = 0
      · subst j0; omega
      · have := h2 j (by omega) (by omega) ((hacc j j1).2 j2)
        omega
    · have hmj : m = j := by
        rcases Nat.lt_trichotomy m j with q | q | q
        · exact absurd ((hacc j j1).2 j2) (m6 j q (by omega))
        · exact q
        · have := (hacc m (by omega)).1 m3
          rw [j4 m q (by omega)] at this; cases this
      subst hmj
      rw [m4, if_pos (by omega)]
      congr 1
  · rw [j1, if_neg (by omega)]
    rcases updN_spec gs a r b gs.length with ⟨h1, h2⟩ | ⟨m, m1, m2, m3, m4, m5, m6⟩
    · exact h1
    · have := (hacc m (by omega)).1 m3
      rw [j2 m (by omega)] at this; cases this
theorem bestL_s (lns : List Ln) (t : ByteArray) (i f k : Nat) (b : Int × Int) : bestL lns t i (f + 1) k b = match lns[k]? with
    | some x => bestL lns t i f (k + 1) (if b.2 < longF x.ns x.st x.en t i then ((k : Int), longF x.ns x.st x.en t i) else b)
    | none => b := rfl
/-- all tokens, the skipped ones too -/
def zcutL (lns : List Ln) (t : ByteArray) : Nat → Nat → List Tk → List Tk × Int
  | 0, _, _ => ([], 0)
  | f + 1, i, toks =>
    if i < t.size then
      if (bestF lns t i).2 ≤ i then ([], (i : Int))
      else zcutL lns t f (bestF lns t i).2.toNat (toks ++ [⟨(bestF lns t i).1, i, (bestF lns t i).2⟩])
    else (toks, -1)
theorem zcutL_s (lns : List Ln) (t : ByteArray) (f i : Nat) (toks : List Tk) : zcutL lns t (f + 1) i toks = if i < t.size then
      if (bestF lns t i).2 ≤ i then ([], (i : Int))
      else zcutL lns t f (bestF lns t i).2.toNat (toks ++ [⟨(bestF lns t i).1, i, (bestF lns t i).2⟩])
    else (toks, -1) := rfl
theorem best_le {lns : List Ln} {t : ByteArray} {i : Nat} (hi : i ≤ t.size) : (i : Int) ≤ (bestF lns t i).2 ∧ (bestF lns t i).2 ≤ t.size ∧ 0 ≤ (bestF lns t i).1 ∧ ((i : Int) < (bestF lns t i).2 → (bestF lns t i).1 < lns.length) := by
  rcases bestF_to lns t i with ⟨h1, _⟩ | ⟨r, hr, h1, h2, h3, _⟩
  · rw [h1]; dsimp only; omega
  · rw [h2]
    dsimp only
    obtain ⟨n, n1, n2, n3, _⟩ := far_acc h3
    rw [n3]; omega
theorem cut_two (lns : List Ln) (t : ByteArray) : ∀ (f i : Nat) (toks : List Tk), i ≤ t.size → t.size + 1 ≤ f + i →
    cutL lns t f i (toks.filter fun k => !skipB lns k.r) = if 0 ≤ (zcutL lns t f i toks).2 then ([], 9, (zcutL lns t f i toks).2) else ((zcutL lns t f i toks).1.filter (fun k => !skipB lns k.r), 0, 0)
  | 0, i, toks, hi, hf => by omega
  | f + 1, i, toks, hi, hf => by
    obtain ⟨b1, b2, b3, b4⟩ := best_le (lns := lns) hi
    rw [zcutL_s]
    unfold cutL
    by_cases c : i < t.size
    · rw [if_pos c, if_pos c]
      by_cases c2 : (bestF lns t i).2 ≤ i
      · rw [if_pos c2, if_pos c2, if_pos (by dsimp only; omega)]
      · rw [if_neg c2, if_neg c2]
        have ih := cut_two lns t f (bestF lns t i).2.toNat (toks ++ [⟨(bestF lns t i).1, i, (bestF lns t i).2⟩]) (by omega) (by omega)
        rw [← ih]
        congr 1
        rw [List.filter_append, List.filter_cons]
        cases skipB lns (bestF lns t i).1 <;> simp
    · rw [if_neg c, if_neg c, if_neg (by dsimp only; omega)]
end Go.Proofs.Ytjcknghdgfcboaa
