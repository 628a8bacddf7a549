import Derived.Test.YtcpgklcimacngaaGreatRi1
import Derived.Test.YtcpgklcimacngaaGreatKc9
import Derived.Test.YtcpgklcimacngaaGreatRa2
namespace Go.Proofs.YtcpgklcimacngaaGreat
open Go.RowKit
set_option linter.unusedVariables false
set_option linter.unusedSimpArgs false

/-- which rule of this name: the first in the list -/
theorem rNumL_none {rs : List ZLV} {t : ByteArray} : ∀ (f i : Nat), rs.length + 1 ≤ f + i → (∀ j (z : ZLV), i ≤ j → rs[j]? = some z → z.ln.name.toList ≠ t.toList) → rNumL rs t f i = -1
  | 0, i, hf, h => rfl
  | f + 1, i, hf, h => by
    rw [rNumL_s]
    cases hq : rs[i]? with
    | none => rfl
    | some z =>
      dsimp only
      rw [if_neg (by have := h i z (Nat.le_refl _) hq; simpa using this)]
      exact rNumL_none f (i + 1) (by omega) (fun j z hj => h j z (by omega))
theorem rNumL_some {rs : List ZLV} {t : ByteArray} {k : Nat} {z : ZLV} (hk : rs[k]? = some z) (hz : z.ln.name.toList = t.toList) (hb : ∀ j (y : ZLV), j < k → rs[j]? = some y → y.ln.name.toList ≠ t.toList) :
    ∀ (f i : Nat), rs.length + 1 ≤ f + i → i ≤ k → rNumL rs t f i = if z.ln.skip = true then -1 else (k : Int)
  | 0, i, hf, hi => by
    have := (List.getElem?_eq_some_iff.1 hk).1; omega
  | f + 1, i, hf, hi => by
    rw [rNumL_s]
    by_cases e : i = k
    · subst e
      rw [hk]
      dsimp only
      rw [if_pos (by simpa using hz)]
    · have hlt : i < rs.length := by have := (List.getElem?_eq_some_iff.1 hk).1; omega
      rw [List.getElem?_eq_getElem hlt]
      dsimp only
      rw [if_neg (by have := hb i rs[i] (by omega) (List.getElem?_eq_getElem hlt); simpa using this)]
      exact rNumL_some hk hz hb f (i + 1) (by omega) (by omega)
section
variable {s : ByteArray} {lns : List Ln} {xs : List ZLV} {X : SP}
/-- the first line of a name is the first rule of that name among the rules -/
theorem first_rule (t : ByteArray) : ∀ (xs : List ZLV) (f : Nat) (hf : f < xs.length), (xs[f]'hf).ln.rule = true → (xs[f]'hf).ln.name.toList = t.toList → (∀ (j : Nat) (z : ZLV), j < f → xs[j]? = some z → z.ln.name.toList ≠ t.toList) →
    ∃ k : Nat, (xs.filter (fun z => z.ln.rule))[k]? = some (xs[f]'hf) ∧ ∀ (j : Nat) (y : ZLV), j < k → (xs.filter (fun z => z.ln.rule))[j]? = some y → y.ln.name.toList ≠ t.toList
  | [], f, hf, h1, h2, h3 => by simp at hf
  | x :: xs, 0, hf, h1, h2, h3 => by
    have h1' : x.ln.rule = true := h1
    exact ⟨0, by simp [List.filter_cons, h1'], fun j y hj => by omega⟩
  | x :: xs, f + 1, hf, h1, h2, h3 => by
    obtain ⟨k, q1, q2⟩ := first_rule t xs f (by simpa using hf) h1 h2 (fun j z hj hz => h3 (j + 1) z (by omega) (by simpa using hz))
    have hx := h3 0 x (by omega) rfl
    cases hr : x.ln.rule
    · exact ⟨k, by simpa [List.filter_cons, hr] using q1, fun j y hj hy => q2 j y hj (by simpa [List.filter_cons, hr] using hy)⟩
    · refine ⟨k + 1, by simpa [List.filter_cons, hr] using q1, fun j y hj hy => ?_⟩
      cases j with
      | zero =>
        simp [List.filter_cons, hr] at hy
        subst hy; exact hx
      | succ j => exact q2 j y (by omega) (by simpa [List.filter_cons, hr] using hy)
theorem sym_iff (h : Lines2 s lns xs) (hS : SI lns xs xs.length X) {d : Wd} {n : ByteArray} (hw : WordN s d.ls n) : numF X n < 0 ↔ symB lns d = false := by
  have hl := h.len
  have hcap := hw.cap
  unfold symB
  by_cases hf : frontF lns d.ls < lns.length
  · have hf' : frontF lns d.ls < xs.length := by omega
    obtain ⟨x, p, g1, g2, g3, g4, g5⟩ := h.get hf'
    have hfl : x.front.ls = d.ls := by
      have hg := List.findIdx_getElem (w := hf)
      have e : lns[frontF lns d.ls] = x := by rw [List.getElem?_eq_getElem hf] at g1; injection g1
      unfold frontF at e
      rw [e] at hg
      simpa using hg
    have hnm : xs[frontF lns d.ls].ln.name.toList = n.toList := (g3.word.eq_iff hw).1 hfl
    have hbf : ∀ (j : Nat) (z : ZLV), j < frontF lns d.ls → xs[j]? = some z → z.ln.name.toList ≠ n.toList := by
      intro j z hj hz e
      obtain ⟨hjl, hzz⟩ := List.getElem?_eq_some_iff.1 hz
      obtain ⟨y, q, k1, k2, k3, k4, k5⟩ := h.get hjl
      rw [hzz] at k3
      have := (k3.word.eq_iff hw).2 e
      have := (front_lt (lns := lns) (ls := d.ls) (i := j + 1) (by omega)).2 ⟨j, y, by omega, k1, this⟩
      omega
    have hrl := g3.rule
    rw [rule_ls, hfl, hcap] at hrl
    rw [g1]
    dsimp only
    rw [← g3.skip]
    unfold numF
    generalize frontF lns d.ls = fi at *
    cases hc : isCapB (atB n 0)
    · rw [hc] at hrl
      rw [if_neg (by simp)]
      obtain ⟨k, q1, q2⟩ := first_rule n xs _ hf' hrl hnm hbf
      have hrr : X.rules = xs.filter (fun z => z.ln.rule) := by rw [hS.rl, List.take_length]
      rw [← hrr] at q1 q2
      rw [rNumL_some q1 hnm q2 _ 0 (by omega) (by omega)]
      cases xs[fi].ln.skip <;> simp
    · rw [hc] at hrl
      rw [if_pos rfl]
      have hmem : ¬ findF X.heads n < 0 := by
        have := findF_nn ((hS.mem n).2 ⟨fi, xs[fi], hf', List.getElem?_eq_getElem hf', hrl, hnm⟩)
        omega
      rw [if_neg hmem, g3.noskip hrl]
      simp; omega
  · have hnf : ∀ (j : Nat) (z : ZLV), xs[j]? = some z → z.ln.name.toList ≠ n.toList := by
      intro j z hz e
      obtain ⟨hjl, hzz⟩ := List.getElem?_eq_some_iff.1 hz
      obtain ⟨y, q, k1, k2, k3, k4, k5⟩ := h.get hjl
      rw [hzz] at k3
      have := (k3.word.eq_iff hw).2 e
      have := (front_lt (lns := lns) (ls := d.ls) (i := j + 1) (by omega)).2 ⟨j, y, by omega, k1, this⟩
      omega
    rw [List.getElem?_eq_none (by omega)]
    refine ⟨fun _ => rfl, fun _ => ?_⟩
    unfold numF
    cases hc : isCapB (atB n 0)
    · rw [if_neg (by simp)]
      rw [rNumL_none _ 0 (by omega) (fun j z _ hz => ?_)]
      · omega
      · have hm : z ∈ X.rules := List.mem_of_getElem? hz
        rw [hS.rl, List.take_length] at hm
        obtain ⟨i, hi, e⟩ := List.getElem_of_mem (List.mem_filter.1 hm).1
        exact hnf i z (by rw [List.getElem?_eq_getElem hi, e])
    · rw [if_pos rfl]
      have : findF X.heads n < 0 := by
        by_cases q : findF X.heads n < 0
        · exact q
        · exfalso
          obtain ⟨j, z, _, q2, _, q4⟩ := (hS.mem n).1 (findF_mem q)
          exact hnf j z q2 q4
      rw [if_pos this]; omega
theorem syms_rel (h : Lines2 s lns xs) (hS : SI lns xs xs.length X) {x : Ln} {z : ZLV} {i : Nat} (hz : ZRel s i x z.ln) (hp : z.pl = i) : ∀ (f g j : Nat), x.syms.length + 1 ≤ f + j → x.syms.length + 1 ≤ g + j → symsL lns x.syms f j = symZL X z g j
  | 0, g, j, hf, hg => by
    cases g with
    | zero => rfl
    | succ g =>
      rw [symZL_s, List.getElem?_eq_none (by rw [← hz.syms.1]; omega)]; rfl
  | f + 1, 0, j, hf, hg => by
    unfold symsL
    rw [List.getElem?_eq_none (by omega)]; rfl
  | f + 1, g + 1, j, hf, hg => by
    rw [symZL_s]
    unfold symsL
    by_cases hj : j < x.syms.length
    · have hj' : j < z.ln.syms.length := by rw [← hz.syms.1]; exact hj
      rw [List.getElem?_eq_getElem hj, List.getElem?_eq_getElem hj']
      dsimp only
      have hsi := sym_iff h hS (hz.sword (List.getElem?_eq_getElem hj) (List.getElem?_eq_getElem hj'))
      cases hb : symB lns x.syms[j]
      · rw [if_neg (by simp), if_pos (hsi.2 hb), hz.places, hp]
        congr 1
        rw [List.getD_eq_getElem?_getD, List.getElem?_map, List.getElem?_eq_getElem hj]
        simp
        omega
      · rw [if_pos rfl, if_neg (fun q => by rw [hsi.1 q] at hb; cases hb)]
        exact syms_rel h hS hz hp f g (j + 1) (by omega) (by omega)
    · rw [List.getElem?_eq_none (by omega), List.getElem?_eq_none (by rw [← hz.syms.1]; omega)]
theorem names_rel (h : Lines2 s lns xs) (hS : SI lns xs xs.length X) : ∀ (f i : Nat) (ah : List ByteArray), i ≤ xs.length → xs.length + 1 ≤ f + i →
    (∀ t : ByteArray, (∃ y ∈ ah, y.toList = t.toList) ↔ ∃ (j : Nat) (z : ZLV), j < i ∧ xs[j]? = some z ∧ z.ln.rule = true ∧ z.ln.name.toList = t.toList) → namesL X (xs.drop i) ah = wrongL lns f i
  | 0, i, ah, hi, hf, hA => by omega
  | f + 1, i, ah, hi, hf, hA => by
    unfold wrongL
    by_cases hlt : i < xs.length
    · obtain ⟨x, p, g1, g2, g3, g4, g5⟩ := h.get hlt
      rw [g1, List.drop_eq_getElem_cons hlt, namesL]
      dsimp only
      have hsy := syms_rel h hS g3 g4 (x.syms.length + 1) (xs[i].ln.syms.length + 1) 0 (by omega) (by rw [g3.syms.1]; omega)
      unfold symsBad
      rw [hsy]
      have hnext : ∀ ah2 : List ByteArray, ah2 = (if xs[i].ln.rule = true then ah ++ [xs[i].ln.name] else ah) → ∀ t : ByteArray, (∃ y ∈ ah2, y.toList = t.toList) ↔ ∃ (j : Nat) (z : ZLV), j < i + 1 ∧ xs[j]? = some z ∧ z.ln.rule = true ∧ z.ln.name.toList = t.toList := by
        intro ah2 he t
        have hm : (∃ (j : Nat) (z : ZLV), j < i + 1 ∧ xs[j]? = some z ∧ z.ln.rule = true ∧ z.ln.name.toList = t.toList) ↔ ((∃ y ∈ ah, y.toList = t.toList) ∨ (xs[i].ln.rule = true ∧ xs[i].ln.name.toList = t.toList)) := by
          rw [hA t]
          constructor
          · rintro ⟨j, z, q1, q2, q3, q4⟩
            by_cases e : j = i
            · subst e
              rw [List.getElem?_eq_getElem hlt] at q2
              injection q2 with q2
              subst q2
              exact .inr ⟨q3, q4⟩
            · exact .inl ⟨j, z, by omega, q2, q3, q4⟩
          · rintro (⟨j, z, q1, q2⟩ | ⟨q1, q2⟩)
            · exact ⟨j, z, by omega, q2⟩
            · exact ⟨i, xs[i], by omega, List.getElem?_eq_getElem hlt, q1, q2⟩
        rw [hm, he]
        cases hr : xs[i].ln.rule
        · simp
        · simp only [if_true, List.mem_append, List.mem_singleton, true_and]
          constructor
          · rintro ⟨y, hy | rfl, e⟩
            · exact .inl ⟨y, hy, e⟩
            · exact .inr e
          · rintro (⟨y, hy, e⟩ | e)
            · exact ⟨y, .inl hy, e⟩
            · exact ⟨_, .inr rfl, e⟩
      have rc := fun ah2 he => names_rel h hS f (i + 1) ah2 (by omega) (by omega) (hnext ah2 he)
      have hcond : (ruleB x && aheadB lns i) = true ↔ (xs[i].ln.rule = true ∧ 0 ≤ findF ah xs[i].ln.name) := by
        rw [Bool.and_eq_true, ← g3.rule]
        constructor
        · rintro ⟨q1, q2⟩
          exact ⟨q1, by rw [findF_iff, hA]; exact (ahead_rule h hlt q1).1 q2⟩
        · rintro ⟨q1, q2⟩
          exact ⟨q1, (ahead_rule h hlt q1).2 ((hA _).1 (findF_iff.1 q2))⟩
      by_cases q : xs[i].ln.rule = true ∧ 0 ≤ findF ah xs[i].ln.name
      · rw [if_pos q, if_pos (hcond.2 q), g4, g5]
      · rw [if_neg q, if_neg (fun z => q (hcond.1 z))]
        cases symZL X xs[i] (xs[i].ln.syms.length + 1) 0 with
        | some p => rfl
        | none => exact rc _ rfl
    · rw [List.getElem?_eq_none (by rw [h.len]; omega), List.drop_eq_nil_of_le (by omega)]; rfl
theorem names_is (h : Lines2 s lns xs) (hS : SI lns xs xs.length X) : namesL X xs [] = wrongName lns := by
  have := names_rel h hS (lns.length + 1) 0 [] (by omega) (by rw [h.len]; omega) (fun t => by
    constructor
    · rintro ⟨y, hy, _⟩; cases hy
    · rintro ⟨j, z, q, _⟩; omega)
  exact this
theorem empty_rel (h : Lines2 s lns xs) {em : ByteArray → Bool} (hem : ∀ (k : Nat) (x : Ln) (z : ZLV), lns[k]? = some x → xs[k]? = some z → z.ln.rule = true → (em z.ln.pat = true ↔ (longF x.ns x.st x.en ByteArray.empty 0 == 0) = true)) : ∀ (f i : Nat), i ≤ xs.length → xs.length + 1 ≤ f + i →
    (match emptyZ em ((xs.drop i).filter (fun z => z.ln.rule)) with | some p => p | none => -1) = emptyL lns f i ∧ (∀ p, emptyZ em ((xs.drop i).filter (fun z => z.ln.rule)) = some p → 0 ≤ p)
  | 0, i, hi, hf => by omega
  | f + 1, i, hi, hf => by
    unfold emptyL
    by_cases hlt : i < xs.length
    · obtain ⟨x, p, g1, g2, g3, g4, g5⟩ := h.get hlt
      rw [g1, List.drop_eq_getElem_cons hlt, List.filter_cons]
      dsimp only
      have rc := empty_rel h hem f (i + 1) (by omega) (by omega)
      unfold emptyB
      rw [← g3.rule]
      cases hr : xs[i].ln.rule
      · rw [if_neg (by simp), if_neg (by simp)]
        exact rc
      · have he := hem i x xs[i] g1 (List.getElem?_eq_getElem hlt) hr
        rw [if_pos rfl, emptyZ, Bool.true_and]
        by_cases q : em xs[i].ln.pat = true
        · rw [if_pos q, if_pos (he.1 q)]
          exact ⟨by dsimp only; rw [g4, g5], fun p hp => by injection hp with hp; omega⟩
        · rw [if_neg q, if_neg (fun z => q (he.2 z))]
          exact rc
    · rw [List.getElem?_eq_none (by rw [h.len]; omega), List.drop_eq_nil_of_le (by omega)]
      exact ⟨rfl, fun p hp => by cases hp⟩
theorem prods_is (h : Lines2 s lns xs) (hS : SI lns xs xs.length X) : X.prods.length = 0 ↔ hasProd lns = false := by
  rw [hS.pr, List.take_length]
  unfold hasProd
  rw [List.length_eq_zero_iff, List.filter_eq_nil_iff, List.any_eq_false]
  constructor
  · intro q x hx
    obtain ⟨k, hk, rfl⟩ := List.getElem_of_mem hx
    have hk' : k < xs.length := by rw [← h.len]; exact hk
    obtain ⟨y, p, g1, g2, g3, g4, g5⟩ := h.get hk'
    have e : lns[k] = y := by rw [List.getElem?_eq_getElem hk] at g1; injection g1
    have := q xs[k] (by simp)
    rw [e, ← g3.rule]; simpa using this
  · intro q z hz
    obtain ⟨k, hk, rfl⟩ := List.getElem_of_mem hz
    obtain ⟨y, p, g1, g2, g3, g4, g5⟩ := h.get hk
    have := q y (List.mem_of_getElem? g1)
    rw [g3.rule]; simpa using this
end
end Go.Proofs.YtcpgklcimacngaaGreat
namespace Go.Proofs.YtcpgklcimacngaaGreat
open Go.RowKit
set_option linter.unusedVariables false
set_option linter.unusedSimpArgs false

theorem symZL_lo {X : SP} {x : ZLV} (h0 : 0 ≤ x.pl) (hp : ∀ p ∈ x.ln.places, 0 ≤ p) : ∀ (f j : Nat) (q : Int), symZL X x f j = some q → 0 ≤ q
  | 0, j, q, h => by simp [symZL] at h
  | f + 1, j, q, h => by
    rw [symZL_s] at h
    cases hs : x.ln.syms[j]? with
    | none => rw [hs] at h; cases h
    | some n =>
      rw [hs] at h
      dsimp only at h
      split at h
      · injection h with h
        have : 0 ≤ x.ln.places.getD j 0 := by
          rw [List.getD_eq_getElem?_getD]
          cases hq : x.ln.places[j]? with
          | none => simp
          | some v => simp; exact hp v (List.mem_of_getElem? hq)
        omega
      · exact symZL_lo h0 hp f (j + 1) q h
theorem namesL_lo {X : SP} : ∀ (xs : List ZLV) (ah : List ByteArray), (∀ x ∈ xs, 0 ≤ x.pl ∧ ∀ p ∈ x.ln.places, 0 ≤ p) → -1 ≤ namesL X xs ah
  | [], ah, h => by simp [namesL]
  | x :: xs, ah, h => by
    obtain ⟨h1, h2⟩ := h x (by simp)
    unfold namesL
    split
    · omega
    · cases hs : symZL X x (x.ln.syms.length + 1) 0 with
      | some p => have := symZL_lo h1 h2 _ _ _ hs; dsimp only; omega
      | none => exact namesL_lo xs _ (fun y hy => h y (by simp [hy]))
structure ReadOk (s : ByteArray) (xs : List ZLV) : Prop where
  l2 : Lines2 s (rLines s).1 xs
  si : SI (rLines s).1 xs xs.length (sortL noSP xs).1
  bd : SPbd (sortL noSP xs).1
/-- the reference's error is the program's; its place too, but for the form's -/
theorem read_is {s : ByteArray} (hs : s.size ≤ 800) {xs : List ZLV} (hx : xs.map ZLV.both = (zForm s).1) {em : ByteArray → ByteArray → Bool} (hem : ∀ p t, em p t = true ↔ (lchK p 6 0).lang (bytesOf t)) :
    (readZ (fun p => em p ⟨#[]⟩) s xs (zForm s).2).1 = (checkF s).1 ∧ ((checkF s).1 ≠ 2 → (readZ (fun p => em p ⟨#[]⟩) s xs (zForm s).2).2 = (checkF s).2) ∧ ((checkF s).1 = 2 → (readZ (fun p => em p ⟨#[]⟩) s xs (zForm s).2).2 = (zForm s).2) ∧ ((checkF s).1 = 0 → ReadOk s xs) := by
  have hY := form_ok' hs hem
  have hc := checkF_eq s
  rw [if_neg (by omega)] at hc
  unfold readZ
  rw [if_neg (by omega)]
  cases hk : (rLines s).2.2
  · have h1 := (form_both s).2 hk
    rw [hk, if_pos rfl] at hc
    rw [hc, if_pos h1]
    exact ⟨rfl, fun q => absurd rfl q, fun _ => rfl, fun q => by cases q⟩
  · obtain ⟨h1, h2⟩ := (form_both s).1 hk
    rw [hk, if_neg (by simp)] at hc
    rw [← hx] at h2
    have l2 := lines2_of h2
    have hpl : ∀ x ∈ xs, 0 ≤ x.pl ∧ ∀ p ∈ x.ln.places, 0 ≤ p := fun x hxm => by
      have := hY x.both (by rw [← hx]; exact List.mem_map_of_mem hxm)
      exact ⟨this.pl.1, fun p hp => (this.pls p hp).1⟩
    obtain ⟨m1, m2⟩ := many_is l2
    have slo := sortL_lo xs noSP (fun x h => (hpl x h).1)
    rw [h1, if_neg (by omega)]
    by_cases c3 : tooMany (rLines s).1 = -1
    · rw [if_neg (by simp [c3])] at hc
      rw [m1, c3, if_neg (by omega)]
      have si := m2 (by rw [m1, c3])
      have bd := sortL_bd xs noSP noSP_bd (by rw [m1, c3]; omega) (fun x h => (hpl x h).1)
      have n1 := names_is l2 si
      have nlo := namesL_lo (X := (sortL noSP xs).1) xs [] hpl
      by_cases c4 : wrongName (rLines s).1 = -1
      · rw [if_neg (by simp [c4])] at hc
        rw [n1, c4, if_neg (by omega)]
        have hrl : (sortL noSP xs).1.rules = (xs.drop 0).filter (fun z => z.ln.rule) := by rw [si.rl, List.take_length]; rfl
        obtain ⟨e1, e2⟩ := empty_rel l2 (em := fun p => em p ⟨#[]⟩) (fun k x z g1 g2 g3 => by
          obtain ⟨i, i1, i2, i3⟩ := l2.at' k x z g1 g2
          obtain ⟨L, q1, q2, q3⟩ := i2.pat g3
          rw [hem, q1]
          exact (q3 ⟨#[]⟩).symm) ((rLines s).1.length + 1) 0 (by omega) (by rw [l2.len]; omega)
        rw [← hrl] at e1 e2
        have e1' : (match emptyZ (fun p => em p ⟨#[]⟩) (sortL noSP xs).1.rules with | some p => p | none => -1) = emptyF (rLines s).1 := e1
        cases he : emptyZ (fun p => em p ⟨#[]⟩) (sortL noSP xs).1.rules with
        | some p =>
          rw [he] at e1'
          dsimp only at e1'
          have := e2 p he
          rw [if_pos (by rw [← e1']; omega)] at hc
          rw [hc, ← e1']
          exact ⟨rfl, fun _ => rfl, fun q => by simp at q, fun q => by simp at q⟩
        | none =>
          rw [he] at e1'
          dsimp only at e1'
          rw [if_neg (by rw [← e1']; simp)] at hc
          have pz := prods_is l2 si
          unfold tailZ
          by_cases c6 : hasProd (rLines s).1 = false
          · rw [if_pos c6] at hc
            rw [if_pos (pz.2 c6), hc]
            exact ⟨rfl, fun _ => rfl, fun q => by simp at q, fun q => by simp at q⟩
          · rw [if_neg c6] at hc
            rw [if_neg (fun q => c6 (pz.1 q)), hc]
            exact ⟨rfl, fun _ => rfl, fun q => by simp at q, fun _ => ⟨l2, si, bd⟩⟩
      · rw [if_pos c4] at hc
        rw [n1] at nlo
        rw [n1, if_pos (by omega), hc]
        exact ⟨rfl, fun _ => rfl, fun q => by simp at q, fun q => by simp at q⟩
    · rw [if_pos c3] at hc
      rw [m1] at slo
      rw [m1, if_pos (by omega), hc]
      exact ⟨rfl, fun _ => rfl, fun q => by simp at q, fun q => by simp at q⟩
/-- what read answers -/
def ReadGood (s : ByteArray) (w : World) (e : Ending) (w' : World) : Prop :=
  ∃ (p : Value) (pl : Int), e = .returned (.tuple #[p, .int .i64 (checkF s).1, .int .i64 pl]) ∧ Fresh w w' ∧ ((checkF s).1 ≠ 2 → pl = (checkF s).2) ∧ ((checkF s).1 = 2 → pl = (zForm s).2) ∧
    ((checkF s).1 = 0 → ∃ (b : Nat) (xs : List ZLV), w.heap.size ≤ b ∧ p = .pointer (some ⟨b, 0, none⟩) ∧ SpecX w' b (sortL noSP xs).1 ∧ ReadOk s xs)
theorem zread_any (s : ByteArray) (w : World) (hs : s.size ≤ maxLen) : Calls Tryz.prog 9 #[.string s] w fun e w' => ReadGood s w e w' := by
  obtain ⟨em, hem⟩ := ex_mat
  by_cases hl : 800 < s.size
  · have hc : checkF s = (1, 0) := by unfold checkF; rw [if_pos hl]
    refine (zread_long (fun p => em p ⟨#[]⟩) s w hs hl).mono ?_
    rintro e w' ⟨p, xs, h1, h2, h3, h4, h5⟩
    have hz : readZ (fun p => em p ⟨#[]⟩) s xs (zForm s).2 = (1, 0) := by unfold readZ; rw [if_pos hl]
    rw [hz] at h3
    refine ⟨p, 0, by rw [hc]; exact h3, h4, fun _ => by rw [hc], fun q => by (rw [hc] at q; simp at q), fun q => by (rw [hc] at q; simp at q)⟩
  · have hl' : s.size ≤ 800 := by omega
    refine (zread_short (fun p => em p ⟨#[]⟩) s w hl' (form_ok' hl' hem)).mono ?_
    rintro e w' ⟨p, xs, h1, h2, h3, h4, h5⟩
    obtain ⟨r1, r2, r3, r4⟩ := read_is hl' (h1 hl') hem
    rw [r1] at h3 h5
    refine ⟨p, _, h3, h4, r2, r3, fun q => ?_⟩
    obtain ⟨b, b1, b2, b3⟩ := h5 q
    exact ⟨b, xs, b1, b2, b3, r4 q⟩
end Go.Proofs.YtcpgklcimacngaaGreat
namespace Go.Proofs.YtcpgklcimacngaaGreat
open Go.RowKit
set_option linter.unusedVariables false
set_option linter.unusedSimpArgs false

theorem filter_two {α β : Type} {p : α → Bool} {q : β → Bool} : ∀ {l : List α} {m : List β}, l.length = m.length → (∀ (k : Nat) (a : α) (b : β), l[k]? = some a → m[k]? = some b → p a = q b) →
    (l.filter p).length = (m.filter q).length ∧ ∀ (k : Nat) (a : α) (b : β), (l.filter p)[k]? = some a → (m.filter q)[k]? = some b → ∃ j : Nat, l[j]? = some a ∧ m[j]? = some b
  | [], [], _, _ => ⟨rfl, fun k a b h => by simp at h⟩
  | x :: l, y :: m, hl, h => by
    have hl' : l.length = m.length := by simpa using hl
    have hxy := h 0 x y rfl rfl
    obtain ⟨i1, i2⟩ := filter_two (l := l) (m := m) hl' (fun k a b ha hb => h (k + 1) a b (by simpa using ha) (by simpa using hb))
    cases hp : p x
    · rw [List.filter_cons, if_neg (by rw [hp]; simp), List.filter_cons, if_neg (by rw [← hxy, hp]; simp)]
      refine ⟨i1, fun k a b ha hb => ?_⟩
      obtain ⟨j, q1, q2⟩ := i2 k a b ha hb
      exact ⟨j + 1, by simpa using q1, by simpa using q2⟩
    · rw [List.filter_cons, if_pos hp, List.filter_cons, if_pos (by rw [← hxy]; exact hp)]
      refine ⟨by simp [i1], fun k a b ha hb => ?_⟩
      cases k with
      | zero => exact ⟨0, by simpa using ha, by simpa using hb⟩
      | succ k =>
        obtain ⟨j, q1, q2⟩ := i2 k a b (by simpa using ha) (by simpa using hb)
        exact ⟨j + 1, by simpa using q1, by simpa using q2⟩
  | [], y :: m, hl, _ => by simp at hl
  | x :: l, [], hl, _ => by simp at hl
theorem num_any (e : Int) (w : World) : Calls Tryz.prog 6 #[.int .i64 e] w fun r w' => r = .returned (.int .i64 e) ∧ w' = w := by
  go_enter Tryz.func6, Tryz.ntmps6
  go_wp2
  go_ret
  exact ⟨rfl, rfl⟩
end Go.Proofs.YtcpgklcimacngaaGreat
namespace Go.Proofs.YtcpgklcimacngaaGreat
open Go.RowKit
set_option linter.unusedVariables false
set_option linter.unusedSimpArgs false

def Wn (s : ByteArray) (d : Wd) (y : ByteArray) : Prop := WordN s d.ls y
section
variable {s : ByteArray}
theorem wn_eq {d d' : Wd} {y y' : ByteArray} (h : Wn s d y) (h' : Wn s d' y') : (d.ls == d'.ls) = (y.toList == y'.toList) := by
  rw [Bool.eq_iff_iff, beq_iff_eq, beq_iff_eq]
  exact WordN.eq_iff h h'
theorem wn_idx {d : Wd} {y : ByteArray} (hd : Wn s d y) : ∀ {ds : List Wd} {ys : List ByteArray}, All2 (Wn s) ds ys → ds.findIdx (fun x => x.ls == d.ls) = ys.findIdx (fun x => x.toList == y.toList)
  | [], [], _ => rfl
  | a :: us, b :: zs, h => by
    rw [List.findIdx_cons, List.findIdx_cons, wn_eq h.1 hd, wn_idx hd h.2]
theorem wn_find {d : Wd} {y : ByteArray} (hd : Wn s d y) {ds : List Wd} {ys : List ByteArray} (h : All2 (Wn s) ds ys) : findF ys y = if wordF ds d.ls < ds.length then (wordF ds d.ls : Int) else -1 := by
  unfold findF wordF
  rw [← wn_idx hd h, ← h.len]
/-- heads, as both sides count them -/
structure HI (s : ByteArray) (lns : List Ln) (X : SP) : Prop where
  he : All2 (Wn s) (headsOf lns) X.heads
  hd : X.head = (prodsOf lns).map (fun y => (wordF (headsOf lns) y.front.ls : Int))
  mem : ∀ y ∈ prodsOf lns, wordF (headsOf lns) y.front.ls < (headsOf lns).length
theorem hi_step {lns : List Ln} {X : SP} {x : Ln} {z : ZLV} {i : Nat} (h : HI s lns X) (hz : ZRel s i x z.ln) : HI s (lns ++ [x]) (sortStep X z) := by
  have hsn := headsL_snoc lns [] x
  have hr := hz.rule
  have hw : Wn s x.front z.ln.name := hz.word
  unfold sortStep
  cases hb : ruleB x
  · rw [hb] at hr
    rw [if_neg (by rw [hr]; simp)]
    rw [hb, if_neg (by simp)] at hsn
    have ep : prodsOf (lns ++ [x]) = prodsOf lns ++ [x] := by unfold prodsOf; rw [List.filter_append]; simp [hb]
    have hf := wn_find hw h.he
    by_cases c : wordF (headsOf lns) x.front.ls < (headsOf lns).length
    · have eh : headsOf (lns ++ [x]) = headsOf lns := by
        show headsL (lns ++ [x]) [] = headsL lns []
        rw [hsn]; exact if_pos c
      rw [if_pos c] at hf
      have hnn : ¬ findF X.heads z.ln.name < 0 := by omega
      refine ⟨?_, ?_, ?_⟩
      · dsimp only; rw [eh, if_neg hnn]; exact h.he
      · dsimp only; rw [eh, ep, if_neg hnn, hf, List.map_append, ← h.hd]; rfl
      · rw [eh, ep]
        intro y hy
        rw [List.mem_append, List.mem_singleton] at hy
        rcases hy with hy | rfl
        · exact h.mem y hy
        · exact c
    · have eh : headsOf (lns ++ [x]) = headsOf lns ++ [x.front] := by
        show headsL (lns ++ [x]) [] = headsL lns [] ++ [x.front]
        rw [hsn]; exact if_neg c
      rw [if_neg c] at hf
      have hnn : findF X.heads z.ln.name < 0 := by omega
      have hle := wordF_le (headsOf lns) x.front.ls
      have hlast : wordF (headsOf lns ++ [x.front]) x.front.ls = (headsOf lns).length := by
        unfold wordF at c hle ⊢
        rw [List.findIdx_append, if_neg c]
        simp [List.findIdx_cons]
      refine ⟨?_, ?_, ?_⟩
      · dsimp only; rw [eh, if_pos hnn]; exact h.he.snoc hw
      · dsimp only
        rw [eh, ep, if_pos hnn, List.map_append, h.hd, ← h.he.len]
        congr 1
        · apply List.map_congr_left
          intro y hy
          rw [wordF_snoc (h.mem y hy)]
        · simp only [List.map_cons, List.map_nil]
          rw [hlast]
      · rw [eh, ep]
        intro y hy
        rw [List.mem_append, List.mem_singleton] at hy
        rcases hy with hy | rfl
        · rw [wordF_snoc (h.mem y hy), List.length_append]; have := h.mem y hy; omega
        · rw [hlast, List.length_append]; simp
  · rw [hb] at hr
    rw [if_pos hr]
    rw [hb, if_pos rfl] at hsn
    have eh : headsOf (lns ++ [x]) = headsOf lns := hsn
    have ep : prodsOf (lns ++ [x]) = prodsOf lns := by unfold prodsOf; rw [List.filter_append]; simp [hb]
    exact ⟨by rw [eh]; exact h.he, by rw [eh, ep]; exact h.hd, by rw [eh, ep]; exact h.mem⟩
theorem sortL_fold : ∀ (xs : List ZLV) (X : SP), (∀ x ∈ xs, 0 ≤ x.pl) → (sortL X xs).2 = -1 → (sortL X xs).1 = xs.foldl sortStep X
  | [], X, _, _ => rfl
  | x :: l, X, hp, h => by
    unfold sortL at h ⊢
    by_cases c : overZ (sortStep X x) x = true
    · rw [if_pos c] at h
      have := hp x (by simp)
      dsimp only at h; omega
    · rw [if_neg c] at h ⊢
      exact sortL_fold l _ (fun y hy => hp y (by simp [hy])) h
theorem hi_all {lns : List Ln} {xs : List ZLV} (h : Lines2 s lns xs) : ∀ i : Nat, i ≤ xs.length → HI s (lns.take i) ((xs.take i).foldl sortStep noSP)
  | 0, _ => ⟨by simp [headsOf, headsL, noSP, All2], by simp [noSP, prodsOf], fun y hy => by simp [prodsOf] at hy⟩
  | i + 1, hi => by
    have hl := h.len
    obtain ⟨x, p, g1, g2, g3, g4, g5⟩ := h.get (k := i) (by omega)
    have e : lns[i]'(by omega) = x := by rw [List.getElem?_eq_getElem (by omega)] at g1; injection g1
    rw [takeS (by omega : i < lns.length), takeS (by omega : i < xs.length), List.foldl_append, e]
    exact hi_step (hi_all h i (by omega)) g3
/-- what the two specifications say, number by number -/
structure SpecTab (X : SP) (ps : List Pr) (R H : Nat) : Prop where
  rules : X.rules.length = R
  heads : X.heads.length = H
  prods : X.prods.length = ps.length
  head : X.head = ps.map Pr.head
  syms : X.prods.map (symsOf X) = ps.map (fun p => p.syms.map (codeS R))
  tab : TabOk ps R H
theorem spec_tab {xs : List ZLV} (hc : checkF s = (0, 0)) (hO : ReadOk s xs) : SpecTab (sortL noSP xs).1 (tableOf (rLines s).1) (frontsOf (rLines s).1).length (headsOf (rLines s).1).length := by
  obtain ⟨c1, c2, c3, c4, c5⟩ := check_parts hc
  have hpl := (linesInv hc).places
  have l2 := hO.l2
  have hlen := l2.len
  have hm := many_is l2
  have hfold := sortL_fold xs noSP (fun x hx => by
    obtain ⟨k, hk, rfl⟩ := List.getElem_of_mem hx
    obtain ⟨y, p, g1, g2, g3, g4, g5⟩ := l2.get hk
    omega) (by rw [hm.1]; exact c5)
  have hI := hi_all l2 xs.length (Nat.le_refl _)
  rw [List.take_length, ← hfold, ← hlen, List.take_length] at hI
  have hmem := hI.mem
  have hrl : (sortL noSP xs).1.rules = xs.filter (fun z => z.ln.rule) := by rw [hO.si.rl, List.take_length]
  have hpr : (sortL noSP xs).1.prods = xs.filter (fun z => !z.ln.rule) := by rw [hO.si.pr, List.take_length]
  obtain ⟨r1, r2⟩ := filter_two (p := ruleB) (q := fun z : ZLV => z.ln.rule) l2.len (fun k a b ha hb => by
    obtain ⟨i, i1, i2, i3⟩ := l2.at' k a b ha hb
    exact i2.rule.symm)
  obtain ⟨p1, p2⟩ := filter_two (p := fun x => !ruleB x) (q := fun z : ZLV => !z.ln.rule) l2.len (fun k a b ha hb => by
    obtain ⟨i, i1, i2, i3⟩ := l2.at' k a b ha hb
    rw [i2.rule])
  rw [← hrl] at r1 r2
  rw [← hpr] at p1 p2
  have hR : (frontsOf (rLines s).1).length = (sortL noSP xs).1.rules.length := by unfold frontsOf; rw [List.length_map, r1]
  -- a symbol's number
  have num : ∀ y ∈ (rLines s).1, ∀ d ∈ y.syms, ∀ n, WordN s d.ls n → numF (sortL noSP xs).1 n = codeS (frontsOf (rLines s).1).length (symF (frontsOf (rLines s).1) (headsOf (rLines s).1) d) := by
    intro y hy d hd n hw
    obtain ⟨n1, n2⟩ := sym_num c3 hpl hmem hy hd
    have hcap : isCapB (atB n 0) = headB d := hw.cap.symm
    have hnn : ¬ numF (sortL noSP xs).1 n < 0 := by
      intro q
      have q2 := (sym_iff l2 hO.si hw).1 q
      obtain ⟨k, hk, rfl⟩ := List.getElem_of_mem hy
      have h1 := wrong_none hpl _ 0 c3 (by omega) k hk (by omega)
      obtain ⟨j, hj, rfl⟩ := List.getElem_of_mem hd
      have h2 := syms_none (hpl _ hy).2 _ 0 h1 (by omega) j hj (by omega)
      rw [q2] at h2; cases h2
    unfold numF at hnn ⊢
    rw [hcap] at hnn ⊢
    cases hb : headB d
    · rw [hb] at hnn
      rw [if_neg (by simp)] at hnn ⊢
      have hlt := n2 hb
      have hlt' : wordF (frontsOf (rLines s).1) d.ls < (sortL noSP xs).1.rules.length := by omega
      have hget := List.findIdx_getElem (xs := frontsOf (rLines s).1) (p := fun x : Wd => x.ls == d.ls) (w := hlt)
      have hfr : ∀ (j : Nat) (z : ZLV), (sortL noSP xs).1.rules[j]? = some z → ∃ hj : j < (frontsOf (rLines s).1).length, WordN s (frontsOf (rLines s).1)[j].ls z.ln.name := by
        intro j z hz
        have hj := (List.getElem?_eq_some_iff.1 hz).1
        have hj1 : j < (frontsOf (rLines s).1).length := by omega
        have hj2 : j < ((rLines s).1.filter ruleB).length := by omega
        obtain ⟨q, q1, q2⟩ := r2 j _ z (List.getElem?_eq_getElem hj2) hz
        obtain ⟨i, i1, i2, i3⟩ := l2.at' q _ z q1 q2
        refine ⟨hj1, ?_⟩
        have e : (frontsOf (rLines s).1)[j] = ((rLines s).1.filter ruleB)[j].front := by simp only [frontsOf, List.getElem_map]
        rw [e]; exact i2.word
      obtain ⟨_, hk⟩ := hfr _ _ (List.getElem?_eq_getElem hlt')
      have hs1 := rNumL_some (List.getElem?_eq_getElem hlt') (t := n) ((WordN.eq_iff hk hw).1 (by unfold wordF; exact beq_iff_eq.1 hget)) (fun j z hj hz e => by
        obtain ⟨hj1, hj2⟩ := hfr j z hz
        have e2 := (WordN.eq_iff hj2 hw).2 e
        have := List.not_of_lt_findIdx (xs := frontsOf (rLines s).1) (p := fun x : Wd => x.ls == d.ls) hj
        simp [e2] at this) ((sortL noSP xs).1.rules.length + 1) 0 (by omega) (by omega)
      rw [hs1] at hnn ⊢
      by_cases hsk : ((sortL noSP xs).1.rules[wordF (frontsOf (rLines s).1) d.ls]'hlt').ln.skip = true
      · rw [if_pos hsk] at hnn; omega
      · rw [if_neg hsk]
        simp [codeS, symF, hb]
    · rw [if_pos rfl]
      have hlt := n1 hb
      have hf := wn_find (d := d) (y := n) hw hI.he
      rw [if_pos hlt] at hf
      rw [hf, if_neg (by omega), ← hR]
      simp [codeS, symF, hb]
  have hplen : (tableOf (rLines s).1).length = (prodsOf (rLines s).1).length := by unfold tableOf; rw [List.length_map]
  refine ⟨hR.symm, hI.he.len.symm, by rw [hplen]; exact p1.symm, ?_, ?_, tabOk c3 hpl hmem⟩
  · rw [hI.hd]; unfold tableOf; rw [List.map_map]; rfl
  · apply List.ext_getElem
    · rw [List.length_map, List.length_map, hplen]; exact p1.symm
    · intro k h1 h2
      rw [List.length_map] at h1 h2
      have h3 : k < (prodsOf (rLines s).1).length := by omega
      rw [List.getElem_map, List.getElem_map]
      obtain ⟨q, q1, q2⟩ := p2 k _ _ (List.getElem?_eq_getElem h3) (List.getElem?_eq_getElem h1)
      obtain ⟨i, i1, i2, i3⟩ := l2.at' q _ _ q1 q2
      have hyl : (prodsOf (rLines s).1)[k] ∈ (rLines s).1 := List.mem_of_getElem? q1
      have e : (tableOf (rLines s).1)[k] = prOf (frontsOf (rLines s).1) (headsOf (rLines s).1) (prodsOf (rLines s).1)[k] := by simp only [tableOf, List.getElem_map]
      rw [e]
      have hsl : (prodsOf (rLines s).1)[k].syms.length = ((sortL noSP xs).1.prods[k]).ln.syms.length := i2.syms.1
      unfold symsOf prOf
      dsimp only
      rw [List.map_map]
      apply List.ext_getElem
      · simp only [List.length_map]; exact hsl.symm
      · intro j g1 g2
        simp only [List.length_map] at g1 g2
        simp only [List.getElem_map]
        exact num _ hyl _ (List.getElem_mem _) _ (i2.sword (List.getElem?_eq_getElem g2) (List.getElem?_eq_getElem g1))
end
end Go.Proofs.YtcpgklcimacngaaGreat
namespace Go.Proofs.YtcpgklcimacngaaGreat
open Go.RowKit
set_option linter.unusedVariables false
set_option linter.unusedSimpArgs false

theorem infoBS : (Tryz.prog.info? 69).map (fun i => (i.zero, i.size, i.bytes)) = some (some (.slice none 0 0), 1, 24) := by kernel_rfl
theorem infoBS' : ∃ i, Tryz.prog.info? 69 = some i ∧ i.zero = some (.slice none 0 0) ∧ i.size = 1 ∧ i.bytes = 24 := by
  have h := infoBS
  cases hq : Tryz.prog.info? 69 with
  | none => simp [hq] at h
  | some i => simp [hq] at h; exact ⟨i, rfl, h.1, h.2.1, h.2.2⟩
end Go.Proofs.YtcpgklcimacngaaGreat
