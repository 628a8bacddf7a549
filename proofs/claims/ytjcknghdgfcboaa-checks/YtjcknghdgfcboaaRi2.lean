import Derived.Test.YtjcknghdgfcboaaRh8
namespace Go.Proofs.Ytjcknghdgfcboaa
open Go.RowKit
set_option linter.unusedVariables false
set_option linter.unusedSimpArgs false

/-- names are the same just if the words are -/
theorem word_iff {s : ByteArray} {a b m n : Nat} {d d' : Wd} (h : WordAt s a m d) (h' : WordAt s b n d') (ha : a + m ≤ s.size) (hb : b + n ≤ s.size) : d.ls = d'.ls ↔ (s.extract a (a + m)).toList = (s.extract b (b + n)).toList := by
  constructor
  · exact word_same h h' ha hb
  · intro e
    have e2 : (s.extract a (a + m)).data.toList = (s.extract b (b + n)).data.toList := by rw [← btl, ← btl]; exact e
    have e3 : s.extract a (a + m) = s.extract b (b + n) := by
      apply ByteArray.ext
      exact Array.toList_inj.1 e2
    have s1 := part_size (s := s) (a := a) (e := a + m) ha
    have s2 := part_size (s := s) (a := b) (e := b + n) hb
    have hmn : m = n := by rw [e3, s2] at s1; omega
    subst hmn
    rw [h.ls, h'.ls]
    apply List.map_congr_left
    intro k _
    by_cases hk : k < m
    · rw [if_pos hk, if_pos hk]
      have q1 := atB_part (s := s) (a := a) (e := a + m) ha (k := (k : Int)) (by omega) (by omega)
      have q2 := atB_part (s := s) (a := b) (e := b + m) hb (k := (k : Int)) (by omega) (by omega)
      rw [← q1, ← q2, e3]
    · rw [if_neg hk, if_neg hk]
/-- the names of lines and of symbols -/
structure Lines2 (s : ByteArray) (lns : List Ln) (xs : List ZLV) : Prop where
  len : lns.length = xs.length
  at' : ∀ (k : Nat) (x : Ln) (z : ZLV), lns[k]? = some x → xs[k]? = some z → ∃ i : Nat, i < s.size ∧ ZRel s i x z.ln ∧ z.pl = i
theorem lines2_of {s : ByteArray} {lns : List Ln} {xs : List ZLV} (h : RelB s lns (xs.map ZLV.both)) : Lines2 s lns xs := by
  refine ⟨by have := h.len; rw [List.length_map] at this; exact this, fun k x z h1 h2 => ?_⟩
  obtain ⟨i, i1, i2, i3, _⟩ := h.at' k x z.both h1 (by rw [List.getElem?_map, h2]; rfl)
  exact ⟨i, i1, i2, i3⟩
section
variable {s : ByteArray} {lns : List Ln} {xs : List ZLV}
theorem Lines2.get (h : Lines2 s lns xs) {k : Nat} (hk : k < xs.length) : ∃ (x : Ln) (i : Nat), lns[k]? = some x ∧ i < s.size ∧ ZRel s i x xs[k].ln ∧ xs[k].pl = i ∧ x.front.place = i := by
  have hk' : k < lns.length := by rw [h.len]; exact hk
  obtain ⟨i, i1, i2, i3⟩ := h.at' k _ _ (List.getElem?_eq_getElem hk') (List.getElem?_eq_getElem hk)
  exact ⟨lns[k], i, List.getElem?_eq_getElem hk', i1, i2, i3, i2.place⟩
/-- a word of these bytes -/
def WordN (s : ByteArray) (ls : List Int) (n : ByteArray) : Prop := ∃ (j m : Nat) (d : Wd), WordAt s j m d ∧ d.ls = ls ∧ j + m ≤ s.size ∧ n = s.extract j (j + m)
theorem ZRel.word {i : Nat} {x : Ln} {z : ZLn} (h : ZRel s i x z) : WordN s x.front.ls z.name := by
  obtain ⟨m, h1, h2, h3⟩ := h.name
  exact ⟨i, m, x.front, h1, rfl, h2, h3⟩
theorem ZRel.sword {i : Nat} {x : Ln} {z : ZLn} (h : ZRel s i x z) {k : Nat} {d : Wd} {n : ByteArray} (h1 : x.syms[k]? = some d) (h2 : z.syms[k]? = some n) : WordN s d.ls n := by
  obtain ⟨j, m, q1, q2, q3⟩ := h.syms.2 k d n h1 h2
  exact ⟨j, m, d, q1, rfl, q2, q3⟩
theorem WordN.eq_iff {ls ls' : List Int} {n n' : ByteArray} (h : WordN s ls n) (h' : WordN s ls' n') : ls = ls' ↔ n.toList = n'.toList := by
  obtain ⟨j, m, d, q1, q2, q3, q4⟩ := h
  obtain ⟨j', m', d', q1', q2', q3', q4'⟩ := h'
  rw [← q2, ← q2', q4, q4']
  exact word_iff q1 q1' q3 q3'
/-- the kind of a word: does it begin with a great letter? -/
theorem WordN.cap {ls : List Int} {n : ByteArray} (h : WordN s ls n) : isCapB (ls.getD 0 0) = isCapB (atB n 0) := by
  obtain ⟨j, m, d, q1, q2, q3, q4⟩ := h
  have hp := q1.pos
  rw [q4, ← q2, q1.ls]
  have : ((List.range 8).map (fun k : Nat => if k < m then atB s ((j : Int) + k) else 0)).getD 0 0 = atB s j := by
    simp [List.range, List.range.loop, show 0 < m by omega]
  rw [this, atB_part q3 (by omega) (by omega), Int.add_zero]
theorem rule_ls (x : Ln) : ruleB x = !isCapB (x.front.ls.getD 0 0) := rfl
/-- an earlier line of this name -/
theorem front_lt {ls : List Int} {i : Nat} (hi : i ≤ lns.length) : frontF lns ls < i ↔ ∃ (j : Nat) (x : Ln), j < i ∧ lns[j]? = some x ∧ x.front.ls = ls := by
  unfold frontF
  constructor
  · intro h
    have hl : lns.findIdx (fun x => x.front.ls == ls) < lns.length := by omega
    have hg := List.findIdx_getElem (w := hl)
    exact ⟨_, _, h, List.getElem?_eq_getElem hl, by simpa using hg⟩
  · rintro ⟨j, x, h1, h2, h3⟩
    obtain ⟨hj, hx⟩ := List.getElem?_eq_some_iff.1 h2
    by_cases q : lns.findIdx (fun x => x.front.ls == ls) ≤ j
    · omega
    · exfalso
      have nf := List.not_of_lt_findIdx (xs := lns) (p := fun x => x.front.ls == ls) (i := j) (by omega)
      rw [hx] at nf
      simp [h3] at nf
theorem findF_iff {l : List ByteArray} {t : ByteArray} : 0 ≤ findF l t ↔ ∃ y ∈ l, y.toList = t.toList :=
  ⟨fun h => findF_mem (by omega), findF_nn⟩
end
end Go.Proofs.Ytjcknghdgfcboaa
namespace Go.Proofs.Ytjcknghdgfcboaa
open Go.RowKit
set_option linter.unusedVariables false
set_option linter.unusedSimpArgs false

structure SI (lns : List Ln) (xs : List ZLV) (i : Nat) (X : SP) : Prop where
  rules : X.rules.length = cntRules lns i
  prods : X.prods.length = cntProds lns i
  heads : X.heads.length = cntHeads lns i
  mem : ∀ t : ByteArray, (∃ y ∈ X.heads, y.toList = t.toList) ↔ ∃ (j : Nat) (z : ZLV), j < i ∧ xs[j]? = some z ∧ z.ln.rule = false ∧ z.ln.name.toList = t.toList
  rl : X.rules = (xs.take i).filter (fun z => z.ln.rule)
  pr : X.prods = (xs.take i).filter (fun z => !z.ln.rule)
section
variable {s : ByteArray} {lns : List Ln} {xs : List ZLV}
/-- an earlier production of this name -/
theorem ahead_prod (h : Lines2 s lns xs) {i : Nat} (hi : i < xs.length) (hr : xs[i].ln.rule = false) : aheadB lns i = true ↔ ∃ (j : Nat) (z : ZLV), j < i ∧ xs[j]? = some z ∧ z.ln.rule = false ∧ z.ln.name.toList = xs[i].ln.name.toList := by
  obtain ⟨x, p, g1, g2, g3, g4, g5⟩ := h.get hi
  have hl := h.len
  unfold aheadB
  rw [g1]
  dsimp only
  rw [decide_eq_true_eq, front_lt (by omega)]
  constructor
  · rintro ⟨j, y, h1, h2, h3⟩
    obtain ⟨y', q, k1, k2, k3, k4, k5⟩ := h.get (k := j) (by omega)
    rw [h2] at k1
    injection k1 with k1
    subst k1
    refine ⟨j, xs[j], h1, List.getElem?_eq_getElem (by omega), ?_, (k3.word.eq_iff g3.word).1 h3⟩
    have e1 := k3.rule
    have e2 := g3.rule
    rw [hr] at e2
    rw [e1, rule_ls, h3, ← rule_ls, ← e2]
  · rintro ⟨j, z, h1, h2, h3, h4⟩
    obtain ⟨hj, hz⟩ := List.getElem?_eq_some_iff.1 h2
    obtain ⟨y', q, k1, k2, k3, k4, k5⟩ := h.get hj
    rw [hz] at k3
    exact ⟨j, y', h1, k1, (k3.word.eq_iff g3.word).2 h4⟩
theorem ahead_rule (h : Lines2 s lns xs) {i : Nat} (hi : i < xs.length) (hr : xs[i].ln.rule = true) : aheadB lns i = true ↔ ∃ (j : Nat) (z : ZLV), j < i ∧ xs[j]? = some z ∧ z.ln.rule = true ∧ z.ln.name.toList = xs[i].ln.name.toList := by
  obtain ⟨x, p, g1, g2, g3, g4, g5⟩ := h.get hi
  have hl := h.len
  unfold aheadB
  rw [g1]
  dsimp only
  rw [decide_eq_true_eq, front_lt (by omega)]
  constructor
  · rintro ⟨j, y, h1, h2, h3⟩
    obtain ⟨y', q, k1, k2, k3, k4, k5⟩ := h.get (k := j) (by omega)
    rw [h2] at k1
    injection k1 with k1
    subst k1
    refine ⟨j, xs[j], h1, List.getElem?_eq_getElem (by omega), ?_, (k3.word.eq_iff g3.word).1 h3⟩
    have e1 := k3.rule
    have e2 := g3.rule
    rw [hr] at e2
    rw [e1, rule_ls, h3, ← rule_ls, ← e2]
  · rintro ⟨j, z, h1, h2, h3, h4⟩
    obtain ⟨hj, hz⟩ := List.getElem?_eq_some_iff.1 h2
    obtain ⟨y', q, k1, k2, k3, k4, k5⟩ := h.get hj
    rw [hz] at k3
    exact ⟨j, y', h1, k1, (k3.word.eq_iff g3.word).2 h4⟩
theorem si_step (h : Lines2 s lns xs) {i : Nat} {X : SP} (hi : i < xs.length) (hS : SI lns xs i X) : SI lns xs (i + 1) (sortStep X xs[i]) := by
  obtain ⟨x, p, g1, g2, g3, g4, g5⟩ := h.get hi
  have hil : i < lns.length := by rw [h.len]; exact hi
  have hx : lns[i] = x := by rw [List.getElem?_eq_getElem hil] at g1; injection g1
  have c1 := cntRules_succ lns i hil
  have c2 := cntProds_succ lns i hil
  have c3 := cntHeads_succ lns i hil
  rw [hx, ← g3.rule] at c1 c2 c3
  have htk : xs.take (i + 1) = xs.take i ++ [xs[i]] := by rw [List.take_add_one, List.getElem?_eq_getElem hi]; rfl
  have hmem : ∀ (t : ByteArray) (j : Nat) (z : ZLV), (j < i + 1 ∧ xs[j]? = some z ∧ z.ln.rule = false ∧ z.ln.name.toList = t.toList) ↔ ((j < i ∧ xs[j]? = some z ∧ z.ln.rule = false ∧ z.ln.name.toList = t.toList) ∨ (j = i ∧ z = xs[i] ∧ z.ln.rule = false ∧ z.ln.name.toList = t.toList)) := by
    intro t j z
    constructor
    · rintro ⟨q1, q2, q3⟩
      by_cases e : j = i
      · subst e
        rw [List.getElem?_eq_getElem hi] at q2
        injection q2 with q2
        exact .inr ⟨rfl, q2.symm, q3⟩
      · exact .inl ⟨by omega, q2, q3⟩
    · rintro (⟨q1, q2⟩ | ⟨rfl, rfl, q3⟩)
      · exact ⟨by omega, q2⟩
      · exact ⟨by omega, List.getElem?_eq_getElem hi, q3⟩
  cases hr : xs[i].ln.rule
  · have hst : sortStep X xs[i] = { X with prods := X.prods ++ [xs[i]], heads := if findF X.heads xs[i].ln.name < 0 then X.heads ++ [xs[i].ln.name] else X.heads, head := X.head ++ [if findF X.heads xs[i].ln.name < 0 then (X.heads.length : Int) else findF X.heads xs[i].ln.name] } := by
      unfold sortStep; rw [if_neg (by rw [hr]; simp)]
    rw [hst]
    rw [hr] at c1 c2 c3
    have hah : aheadB lns i = true ↔ 0 ≤ findF X.heads xs[i].ln.name := by
      rw [ahead_prod h hi hr, findF_iff, hS.mem]
    refine ⟨?_, ?_, ?_, ?_, ?_, ?_⟩
    · rw [c1]; simpa using hS.rules
    · rw [c2]
      show (X.prods ++ [xs[i]]).length = _
      rw [List.length_append, hS.prods]; rfl
    · dsimp only
      rw [c3, ← hS.heads]
      by_cases q : findF X.heads xs[i].ln.name < 0
      · have : aheadB lns i = false := by
          cases z : aheadB lns i
          · rfl
          · exact absurd (hah.1 z) (by omega)
        rw [if_pos q, this]; simp
      · rw [if_neg q, hah.2 (by omega)]; simp
    · intro t
      dsimp only
      have key : (∃ (j : Nat) (z : ZLV), j < i + 1 ∧ xs[j]? = some z ∧ z.ln.rule = false ∧ z.ln.name.toList = t.toList) ↔ ((∃ y ∈ X.heads, y.toList = t.toList) ∨ xs[i].ln.name.toList = t.toList) := by
        rw [hS.mem t]
        constructor
        · rintro ⟨j, z, q⟩
          rcases (hmem t j z).1 q with q | ⟨_, rfl, _, q⟩
          · exact .inl ⟨j, z, q⟩
          · exact .inr q
        · rintro (⟨j, z, q⟩ | q)
          · exact ⟨j, z, (hmem t j z).2 (.inl q)⟩
          · exact ⟨i, xs[i], (hmem t i _).2 (.inr ⟨rfl, rfl, hr, q⟩)⟩
      rw [key]
      by_cases q : findF X.heads xs[i].ln.name < 0
      · rw [if_pos q]
        constructor
        · rintro ⟨y, hy, e⟩
          rcases List.mem_append.1 hy with hy | hy
          · exact .inl ⟨y, hy, e⟩
          · simp at hy; subst hy; exact .inr e
        · rintro (⟨y, hy, e⟩ | e)
          · exact ⟨y, by simp [hy], e⟩
          · exact ⟨_, by simp, e⟩
      · rw [if_neg q]
        constructor
        · exact fun z => .inl z
        · rintro (z | e)
          · exact z
          · obtain ⟨y, hy, e2⟩ := findF_mem q
            exact ⟨y, hy, e2.trans e⟩
    · rw [htk, List.filter_append, ← hS.rl]; simp [List.filter_cons, hr]
    · rw [htk, List.filter_append, ← hS.pr]; simp [List.filter_cons, hr]
  · have hst : sortStep X xs[i] = { X with rules := X.rules ++ [xs[i]] } := by
      unfold sortStep; rw [if_pos hr]
    rw [hst]
    rw [hr] at c1 c2 c3
    refine ⟨?_, ?_, ?_, ?_, ?_, ?_⟩
    · rw [c1]
      show (X.rules ++ [xs[i]]).length = _
      rw [List.length_append, hS.rules]; rfl
    · rw [c2]; simpa using hS.prods
    · rw [c3]; simpa using hS.heads
    · intro t
      dsimp only
      rw [hS.mem t]
      constructor
      · rintro ⟨j, z, q⟩
        exact ⟨j, z, (hmem t j z).2 (.inl q)⟩
      · rintro ⟨j, z, q⟩
        rcases (hmem t j z).1 q with q | ⟨_, rfl, q, _⟩
        · exact ⟨j, z, q⟩
        · rw [hr] at q; cases q
    · rw [htk, List.filter_append, ← hS.rl]; simp [List.filter_cons, hr]
    · rw [htk, List.filter_append, ← hS.pr]; simp [List.filter_cons, hr]
theorem many_rel (h : Lines2 s lns xs) : ∀ (f i : Nat) (X : SP), i ≤ xs.length → xs.length + 1 ≤ f + i → SI lns xs i X →
    (sortL X (xs.drop i)).2 = tooManyL lns f i ∧ ((sortL X (xs.drop i)).2 = -1 → SI lns xs xs.length (sortL X (xs.drop i)).1)
  | 0, i, X, hi, hf, hS => by omega
  | f + 1, i, X, hi, hf, hS => by
    unfold tooManyL
    by_cases hlt : i < xs.length
    · obtain ⟨x, p, g1, g2, g3, g4, g5⟩ := h.get hlt
      have hs1 := si_step h hlt hS
      rw [g1, List.drop_eq_getElem_cons hlt]
      dsimp only
      have hov : overZ (sortStep X xs[i]) xs[i] = overB lns i x := by
        unfold overZ overB
        rw [hs1.rules, hs1.prods, hs1.heads, g3.syms.1]
      unfold sortL
      rw [hov]
      cases ho : overB lns i x
      · rw [if_neg (by simp), if_neg (by simp)]
        exact many_rel h f (i + 1) _ (by omega) (by omega) hs1
      · rw [if_pos rfl, if_pos rfl]
        refine ⟨by rw [g4, g5], fun q => ?_⟩
        dsimp only at q
        omega
    · have hie : i = xs.length := by omega
      rw [List.getElem?_eq_none (by rw [h.len]; omega), List.drop_eq_nil_of_le (by omega)]
      exact ⟨rfl, fun _ => by rw [← hie]; exact hS⟩
theorem si_zero : SI lns xs 0 noSP := by
  refine ⟨rfl, rfl, rfl, fun t => ?_, by simp [noSP], by simp [noSP]⟩
  constructor
  · rintro ⟨y, hy, _⟩; simp [noSP] at hy
  · rintro ⟨j, z, q, _⟩; omega
theorem many_is (h : Lines2 s lns xs) : (sortL noSP xs).2 = tooMany lns ∧ ((sortL noSP xs).2 = -1 → SI lns xs xs.length (sortL noSP xs).1) := by
  have := many_rel h (lns.length + 1) 0 noSP (by omega) (by rw [h.len]; omega) si_zero
  exact this
end
end Go.Proofs.Ytjcknghdgfcboaa
namespace Go.Proofs.Ytjcknghdgfcboaa
open Go.RowKit
set_option linter.unusedVariables false
set_option linter.unusedSimpArgs false

/-- which rule of this name: the first in the list -/
theorem rNumL_none {rs : List ZLV} {t : ByteArray} : ∀ (f i : Nat), rs.length + 1 ≤ f + i → (∀ j (z : ZLV), i ≤ j → rs[j]? = some z → z.ln.name.toList ≠ t.toList) → rNumL rs t f i = -1
  | 0, i, hf, h => rfl
  | f + 1, i, hf, h => by
    rw [rNumL_s]
    cases hq : rs[i]? with
    | none => rfl
    | some z =>
      dsimp only
      rw [if_neg (by have := h i z (Nat.le_refl _) hq; simpa using this)]
      exact rNumL_none f (i + 1) (by omega) (fun j z hj => h j z (by omega))
theorem rNumL_some {rs : List ZLV} {t : ByteArray} {k : Nat} {z : ZLV} (hk : rs[k]? = some z) (hz : z.ln.name.toList = t.toList) (hb : ∀ j (y : ZLV), j < k → rs[j]? = some y → y.ln.name.toList ≠ t.toList) :
    ∀ (f i : Nat), rs.length + 1 ≤ f + i → i ≤ k → rNumL rs t f i = if z.ln.skip = true then -1 else (k : Int)
  | 0, i, hf, hi => by
    have := (List.getElem?_eq_some_iff.1 hk).1; omega
  | f + 1, i, hf, hi => by
    rw [rNumL_s]
    by_cases e : i = k
    · subst e
      rw [hk]
      dsimp only
      rw [if_pos (by simpa using hz)]
    · have hlt : i < rs.length := by have := (List.getElem?_eq_some_iff.1 hk).1; omega
      rw [List.getElem?_eq_getElem hlt]
      dsimp only
      rw [if_neg (by have := hb i rs[i] (by omega) (List.getElem?_eq_getElem hlt); simpa using this)]
      exact rNumL_some hk hz hb f (i + 1) (by omega) (by omega)
section
variable {s : ByteArray} {lns : List Ln} {xs : List ZLV} {X : SP}
/-- the first line of a name is the first rule of that name among the rules -/
theorem first_rule (t : ByteArray) : ∀ (xs : List ZLV) (f : Nat) (hf : f < xs.length), (xs[f]'hf).ln.rule = true → (xs[f]'hf).ln.name.toList = t.toList → (∀ (j : Nat) (z : ZLV), j < f → xs[j]? = some z → z.ln.name.toList ≠ t.toList) →
    ∃ k : Nat, (xs.filter (fun z => z.ln.rule))[k]? = some (xs[f]'hf) ∧ ∀ (j : Nat) (y : ZLV), j < k → (xs.filter (fun z => z.ln.rule))[j]? = some y → y.ln.name.toList ≠ t.toList
  | [], f, hf, h1, h2, h3 => by simp at hf
  | x :: xs, 0, hf, h1, h2, h3 => by
    have h1' : x.ln.rule = true := h1
    exact ⟨0, by simp [List.filter_cons, h1'], fun j y hj => by omega⟩
  | x :: xs, f + 1, hf, h1, h2, h3 => by
    obtain ⟨k, q1, q2⟩ := first_rule t xs f (by simpa using hf) h1 h2 (fun j z hj hz => h3 (j + 1) z (by omega) (by simpa using hz))
    have hx := h3 0 x (by omega) rfl
    cases hr : x.ln.rule
    · exact ⟨k, by simpa [List.filter_cons, hr] using q1, fun j y hj hy => q2 j y hj (by simpa [List.filter_cons, hr] using hy)⟩
    · refine ⟨k + 1, by simpa [List.filter_cons, hr] using q1, fun j y hj hy => ?_⟩
      cases j with
      | zero =>
        simp [List.filter_cons, hr] at hy
        subst hy; exact hx
      | succ j => exact q2 j y (by omega) (by simpa [List.filter_cons, hr] using hy)
theorem sym_iff (h : Lines2 s lns xs) (hS : SI lns xs xs.length X) {d : Wd} {n : ByteArray} (hw : WordN s d.ls n) : numF X n < 0 ↔ symB lns d = false := by
  have hl := h.len
  have hcap := hw.cap
  unfold symB
  by_cases hf : frontF lns d.ls < lns.length
  · have hf' : frontF lns d.ls < xs.length := by omega
    obtain ⟨x, p, g1, g2, g3, g4, g5⟩ := h.get hf'
    have hfl : x.front.ls = d.ls := by
      have hg := List.findIdx_getElem (w := hf)
      have e : lns[frontF lns d.ls] = x := by rw [List.getElem?_eq_getElem hf] at g1; injection g1
      unfold frontF at e
      rw [e] at hg
      simpa using hg
    have hnm : xs[frontF lns d.ls].ln.name.toList = n.toList := (g3.word.eq_iff hw).1 hfl
    have hbf : ∀ (j : Nat) (z : ZLV), j < frontF lns d.ls → xs[j]? = some z → z.ln.name.toList ≠ n.toList := by
      intro j z hj hz e
      obtain ⟨hjl, hzz⟩ := List.getElem?_eq_some_iff.1 hz
      obtain ⟨y, q, k1, k2, k3, k4, k5⟩ := h.get hjl
      rw [hzz] at k3
      have := (k3.word.eq_iff hw).2 e
      have := (front_lt (lns := lns) (ls := d.ls) (i := j + 1) (by omega)).2 ⟨j, y, by omega, k1, this⟩
      omega
    have hrl := g3.rule
    rw [rule_ls, hfl, hcap] at hrl
    rw [g1]
    dsimp only
    rw [← g3.skip]
    unfold numF
    generalize frontF lns d.ls = fi at *
    cases hc : isCapB (atB n 0)
    · rw [hc] at hrl
      rw [if_neg (by simp)]
      obtain ⟨k, q1, q2⟩ := first_rule n xs _ hf' hrl hnm hbf
      have hrr : X.rules = xs.filter (fun z => z.ln.rule) := by rw [hS.rl, List.take_length]
      rw [← hrr] at q1 q2
      rw [rNumL_some q1 hnm q2 _ 0 (by omega) (by omega)]
      cases xs[fi].ln.skip <;> simp
    · rw [hc] at hrl
      rw [if_pos rfl]
      have hmem : ¬ findF X.heads n < 0 := by
        have := findF_nn ((hS.mem n).2 ⟨fi, xs[fi], hf', List.getElem?_eq_getElem hf', hrl, hnm⟩)
        omega
      rw [if_neg hmem, g3.noskip hrl]
      simp; omega
  · have hnf : ∀ (j : Nat) (z : ZLV), xs[j]? = some z → z.ln.name.toList ≠ n.toList := by
      intro j z hz e
      obtain ⟨hjl, hzz⟩ := List.getElem?_eq_some_iff.1 hz
      obtain ⟨y, q, k1, k2, k3, k4, k5⟩ := h.get hjl
      rw [hzz] at k3
      have := (k3.word.eq_iff hw).2 e
      have := (front_lt (lns := lns) (ls := d.ls) (i := j + 1) (by omega)).2 ⟨j, y, by omega, k1, this⟩
      omega
    rw [List.getElem?_eq_none (by omega)]
    refine ⟨fun _ => rfl, fun _ => ?_⟩
    unfold numF
    cases hc : isCapB (atB n 0)
    · rw [if_neg (by simp)]
      rw [rNumL_none _ 0 (by omega) (fun j z _ hz => ?_)]
      · omega
      · have hm : z ∈ X.rules := List.mem_of_getElem? hz
        rw [hS.rl, List.take_length] at hm
        obtain ⟨i, hi, e⟩ := List.getElem_of_mem (List.mem_filter.1 hm).1
        exact hnf i z (by rw [List.getElem?_eq_getElem hi, e])
    · rw [if_pos rfl]
      have : findF X.heads n < 0 := by
        by_cases q : findF X.heads n < 0
        · exact q
        · exfalso
          obtain ⟨j, z, _, q2, _, q4⟩ := (hS.mem n).1 (findF_mem q)
          exact hnf j z q2 q4
      rw [if_pos this]; omega
theorem syms_rel (h : Lines2 s lns xs) (hS : SI lns xs xs.length X) {x : Ln} {z : ZLV} {i : Nat} (hz : ZRel s i x z.ln) (hp : z.pl = i) : ∀ (f g j : Nat), x.syms.length + 1 ≤ f + j → x.syms.length + 1 ≤ g + j → symsL lns x.syms f j = symZL X z g j
  | 0, g, j, hf, hg => by
    cases g with
    | zero => rfl
    | succ g =>
      rw [symZL_s, List.getElem?_eq_none (by rw [← hz.syms.1]; omega)]; rfl
  | f + 1, 0, j, hf, hg => by
    unfold symsL
    rw [List.getElem?_eq_none (by omega)]; rfl
  | f + 1, g + 1, j, hf, hg => by
    rw [symZL_s]
    unfold symsL
    by_cases hj : j < x.syms.length
    · have hj' : j < z.ln.syms.length := by rw [← hz.syms.1]; exact hj
      rw [List.getElem?_eq_getElem hj, List.getElem?_eq_getElem hj']
      dsimp only
      have hsi := sym_iff h hS (hz.sword (List.getElem?_eq_getElem hj) (List.getElem?_eq_getElem hj'))
      cases hb : symB lns x.syms[j]
      · rw [if_neg (by simp), if_pos (hsi.2 hb), hz.places, hp]
        congr 1
        rw [List.getD_eq_getElem?_getD, List.getElem?_map, List.getElem?_eq_getElem hj]
        simp
        omega
      · rw [if_pos rfl, if_neg (fun q => by rw [hsi.1 q] at hb; cases hb)]
        exact syms_rel h hS hz hp f g (j + 1) (by omega) (by omega)
    · rw [List.getElem?_eq_none (by omega), List.getElem?_eq_none (by rw [← hz.syms.1]; omega)]
theorem names_rel (h : Lines2 s lns xs) (hS : SI lns xs xs.length X) : ∀ (f i : Nat) (ah : List ByteArray), i ≤ xs.length → xs.length + 1 ≤ f + i →
    (∀ t : ByteArray, (∃ y ∈ ah, y.toList = t.toList) ↔ ∃ (j : Nat) (z : ZLV), j < i ∧ xs[j]? = some z ∧ z.ln.rule = true ∧ z.ln.name.toList = t.toList) → namesL X (xs.drop i) ah = wrongL lns f i
  | 0, i, ah, hi, hf, hA => by omega
  | f + 1, i, ah, hi, hf, hA => by
    unfold wrongL
    by_cases hlt : i < xs.length
    · obtain ⟨x, p, g1, g2, g3, g4, g5⟩ := h.get hlt
      rw [g1, List.drop_eq_getElem_cons hlt, namesL]
      dsimp only
      have hsy := syms_rel h hS g3 g4 (x.syms.length + 1) (xs[i].ln.syms.length + 1) 0 (by omega) (by rw [g3.syms.1]; omega)
      unfold symsBad
      rw [hsy]
      have hnext : ∀ ah2 : List ByteArray, ah2 = (if xs[i].ln.rule = true then ah ++ [xs[i].ln.name] else ah) → ∀ t : ByteArray, (∃ y ∈ ah2, y.toList = t.toList) ↔ ∃ (j : Nat) (z : ZLV), j < i + 1 ∧ xs[j]? = some z ∧ z.ln.rule = true ∧ z.ln.name.toList = t.toList := by
        intro ah2 he t
        have hm : (∃ (j : Nat) (z : ZLV), j < i + 1 ∧ xs[j]? = some z ∧ z.ln.rule = true ∧ z.ln.name.toList = t.toList) ↔ ((∃ y ∈ ah, y.toList = t.toList) ∨ (xs[i].ln.rule = true ∧ xs[i].ln.name.toList = t.toList)) := by
          rw [hA t]
          constructor
          · rintro ⟨j, z, q1, q2, q3, q4⟩
            by_cases e : j = i
            · subst e
              rw [List.getElem?_eq_getElem hlt] at q2
              injection q2 with q2
              subst q2
              exact .inr ⟨q3, q4⟩
            · exact .inl ⟨j, z, by omega, q2, q3, q4⟩
          · rintro (⟨j, z, q1, q2⟩ | ⟨q1, q2⟩)
            · exact ⟨j, z, by omega, q2⟩
            · exact ⟨i, xs[i], by omega, List.getElem?_eq_getElem hlt, q1, q2⟩
        rw [hm, he]
        cases hr : xs[i].ln.rule
        · simp
        · simp only [if_true, List.mem_append, List.mem_singleton, true_and]
          constructor
          · rintro ⟨y, hy | rfl, e⟩
            · exact .inl ⟨y, hy, e⟩
            · exact .inr e
          · rintro (⟨y, hy, e⟩ | e)
            · exact ⟨y, .inl hy, e⟩
            · exact ⟨_, .inr rfl, e⟩
      have rc := fun ah2 he => names_rel h hS f (i + 1) ah2 (by omega) (by omega) (hnext ah2 he)
      have hcond : (ruleB x && aheadB lns i) = true ↔ (xs[i].ln.rule = true ∧ 0 ≤ findF ah xs[i].ln.name) := by
        rw [Bool.and_eq_true, ← g3.rule]
        constructor
        · rintro ⟨q1, q2⟩
          exact ⟨q1, by rw [findF_iff, hA]; exact (ahead_rule h hlt q1).1 q2⟩
        · rintro ⟨q1, q2⟩
          exact ⟨q1, (ahead_rule h hlt q1).2 ((hA _).1 (findF_iff.1 q2))⟩
      by_cases q : xs[i].ln.rule = true ∧ 0 ≤ findF ah xs[i].ln.name
      · rw [if_pos q, if_pos (hcond.2 q), g4, g5]
      · rw [if_neg q, if_neg (fun z => q (hcond.1 z))]
        cases symZL X xs[i] (xs[i].ln.syms.length + 1) 0 with
        | some p => rfl
        | none => exact rc _ rfl
    · rw [List.getElem?_eq_none (by rw [h.len]; omega), List.drop_eq_nil_of_le (by omega)]; rfl
theorem names_is (h : Lines2 s lns xs) (hS : SI lns xs xs.length X) : namesL X xs [] = wrongName lns := by
  have := names_rel h hS (lns.length + 1) 0 [] (by omega) (by rw [h.len]; omega) (fun t => by
    constructor
    · rintro ⟨y, hy, _⟩; cases hy
    · rintro ⟨j, z, q, _⟩; omega)
  exact this
theorem empty_rel (h : Lines2 s lns xs) {em : ByteArray → Bool} (hem : ∀ (k : Nat) (x : Ln) (z : ZLV), lns[k]? = some x → xs[k]? = some z → z.ln.rule = true → (em z.ln.pat = true ↔ (longF x.ns x.st x.en ByteArray.empty 0 == 0) = true)) : ∀ (f i : Nat), i ≤ xs.length → xs.length + 1 ≤ f + i →
    (match emptyZ em ((xs.drop i).filter (fun z => z.ln.rule)) with | some p => p | none => -1) = emptyL lns f i ∧ (∀ p, emptyZ em ((xs.drop i).filter (fun z => z.ln.rule)) = some p → 0 ≤ p)
  | 0, i, hi, hf => by omega
  | f + 1, i, hi, hf => by
    unfold emptyL
    by_cases hlt : i < xs.length
    · obtain ⟨x, p, g1, g2, g3, g4, g5⟩ := h.get hlt
      rw [g1, List.drop_eq_getElem_cons hlt, List.filter_cons]
      dsimp only
      have rc := empty_rel h hem f (i + 1) (by omega) (by omega)
      unfold emptyB
      rw [← g3.rule]
      cases hr : xs[i].ln.rule
      · rw [if_neg (by simp), if_neg (by simp)]
        exact rc
      · have he := hem i x xs[i] g1 (List.getElem?_eq_getElem hlt) hr
        rw [if_pos rfl, emptyZ, Bool.true_and]
        by_cases q : em xs[i].ln.pat = true
        · rw [if_pos q, if_pos (he.1 q)]
          exact ⟨by dsimp only; rw [g4, g5], fun p hp => by injection hp with hp; omega⟩
        · rw [if_neg q, if_neg (fun z => q (he.2 z))]
          exact rc
    · rw [List.getElem?_eq_none (by rw [h.len]; omega), List.drop_eq_nil_of_le (by omega)]
      exact ⟨rfl, fun p hp => by cases hp⟩
theorem prods_is (h : Lines2 s lns xs) (hS : SI lns xs xs.length X) : X.prods.length = 0 ↔ hasProd lns = false := by
  rw [hS.pr, List.take_length]
  unfold hasProd
  rw [List.length_eq_zero_iff, List.filter_eq_nil_iff, List.any_eq_false]
  constructor
  · intro q x hx
    obtain ⟨k, hk, rfl⟩ := List.getElem_of_mem hx
    have hk' : k < xs.length := by rw [← h.len]; exact hk
    obtain ⟨y, p, g1, g2, g3, g4, g5⟩ := h.get hk'
    have e : lns[k] = y := by rw [List.getElem?_eq_getElem hk] at g1; injection g1
    have := q xs[k] (by simp)
    rw [e, ← g3.rule]; simpa using this
  · intro q z hz
    obtain ⟨k, hk, rfl⟩ := List.getElem_of_mem hz
    obtain ⟨y, p, g1, g2, g3, g4, g5⟩ := h.get hk
    have := q y (List.mem_of_getElem? g1)
    rw [g3.rule]; simpa using this
end
end Go.Proofs.Ytjcknghdgfcboaa
