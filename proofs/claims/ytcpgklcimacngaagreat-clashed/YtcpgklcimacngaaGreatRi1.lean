import Derived.Test.YtcpgklcimacngaaGreatRh7
namespace Go.Proofs.YtcpgklcimacngaaGreat
open Go.RowKit
set_option linter.unusedVariables false
set_option linter.unusedSimpArgs false

/-- lines, as both read them -/
structure RelB (s : ByteArray) (lns : List Ln) (zs : List (ZLn × Int)) : Prop where
  len : lns.length = zs.length
  at' : ∀ (k : Nat) (x : Ln) (z : ZLn × Int), lns[k]? = some x → zs[k]? = some z → ∃ i : Nat, i < s.size ∧ ZRel s i x z.1 ∧ z.2 = i ∧ ∀ p ∈ z.1.places, 0 ≤ p ∧ p ≤ s.size
theorem RelB.nil (s : ByteArray) : RelB s [] [] := ⟨rfl, fun k x z h => by simp at h⟩
theorem RelB.snoc {s : ByteArray} {lns : List Ln} {zs : List (ZLn × Int)} {x : Ln} {z : ZLn} {i : Nat} (h : RelB s lns zs) (hi : i < s.size) (hr : ZRel s i x z) (hp : ∀ p ∈ z.places, 0 ≤ p ∧ p ≤ s.size) : RelB s (lns ++ [x]) (zs ++ [(z, (i : Int))]) := by
  refine ⟨by simp [h.len], fun k y u h1 h2 => ?_⟩
  by_cases hk : k < lns.length
  · rw [List.getElem?_append_left hk] at h1
    rw [List.getElem?_append_left (by rw [← h.len]; exact hk)] at h2
    exact h.at' k y u h1 h2
  · have hk2 := (List.getElem?_eq_some_iff.1 h1).1
    simp at hk2
    have e : k = lns.length := by omega
    subst e
    rw [List.getElem?_append_right (Nat.le_refl _)] at h1
    rw [h.len, List.getElem?_append_right (Nat.le_refl _)] at h2
    simp at h1 h2
    subst h1 h2
    exact ⟨i, hi, hr, rfl, hp⟩
theorem zProdL_places (s : ByteArray) : ∀ (f : Nat) (i : Int) (a : List ByteArray) (b : List Int) (l : List ByteArray × List Int), 0 ≤ i → (∀ p ∈ b, 0 ≤ p ∧ p ≤ s.size) → zProdL s f i a b = some l → ∀ p ∈ l.2, 0 ≤ p ∧ p ≤ s.size
  | 0, i, a, b, l, h0, hb, h => by simp [zProdL] at h
  | f + 1, i, a, b, l, h0, hb, h => by
    rw [zProdL_s] at h
    split at h
    · rename_i c1
      split at h
      · split at h
        · cases h
        · rename_i c3
          refine zProdL_places s f _ _ _ l (by omega) (fun p hp => ?_) h
          rcases List.mem_append.1 hp with hp | hp
          · exact hb p hp
          · simp at hp; subst hp; omega
      · cases h
    · injection h with h
      subst h
      exact hb
theorem zLine_places {u : ByteArray} {z : ZLn} (h : zLine u = some z) : ∀ p ∈ z.places, 0 ≤ p ∧ p ≤ u.size := by
  unfold zLine at h
  split at h
  · split at h
    · injection h with h
      subst h
      intro p hp; cases hp
    · cases h
  · split at h
    · rename_i c
      cases hz : zProdL u (u.size + 5) (zSym u 0 + 1) [] [] with
      | none => rw [hz] at h; cases h
      | some l =>
        rw [hz] at h
        injection h with h
        subst h
        exact zProdL_places u _ _ _ _ l (by omega) (fun p hp => by cases hp) hz
    · cases h
theorem nl_is {s : ByteArray} {a e : Nat} (hae : a ≤ e) (he : e < s.size) (h10 : atB s (e : Nat) = 10) (hc : Clean s a e) : nlF s a = e := by
  obtain ⟨n1, n2, n3, n4⟩ := nlF_spec s (a := a) (by omega)
  rcases Nat.lt_trichotomy (nlF s a) e with q | q | q
  · exfalso
    rcases n3 with z | z
    · omega
    · have := hc (nlF s a) (by omega) (by omega)
      omega
  · exact q
  · exact absurd h10 (n4 e hae q)
/-- forms agree -/
theorem forms (s : ByteArray) : ∀ (f g a : Nat) (acc : List Ln) (accz : List (ZLn × Int)), a ≤ s.size → s.size + 2 ≤ f + a → s.size + 1 ≤ g + a → RelB s acc accz →
    ((rLinesL s f a acc).2.2 = true → (zFormL s g a accz).2 = -1 ∧ RelB s (rLinesL s f a acc).1 (zFormL s g a accz).1) ∧ ((rLinesL s f a acc).2.2 = false → 0 ≤ (zFormL s g a accz).2)
  | 0, g, a, acc, accz, h1, h2, h3, h4 => by omega
  | f + 1, 0, a, acc, accz, h1, h2, h3, h4 => by omega
  | f + 1, g + 1, a, acc, accz, h1, h2, h3, h4 => by
    unfold rLinesL
    rw [zFormL_s]
    by_cases c : a < s.size
    · have ci : ((a : Nat) : Int) < (s.size : Int) := by omega
      rw [if_pos c, if_pos ci]
      by_cases hok : (rLine s a).2.2 = true
      · obtain ⟨e, e1, e2, e3, e4, e5, z, e6, e7⟩ := zline_of hok
        have hn := nl_is (by omega) e1 e3 e5
        rw [if_neg (by rw [hok]; simp), hn, e6, e4]
        dsimp only
        rw [if_neg (by omega)]
        have hsz := part_size (s := s) (a := a) (e := e) (by omega)
        exact forms s f g (e + 1) _ _ (by omega) (by omega) (by omega) (h4.snoc c e7 (fun p hp => by have := zLine_places e6 p hp; omega))
      · rw [if_pos (by simpa using hok)]
        refine ⟨fun q => (by cases q), fun _ => ?_⟩
        obtain ⟨n1, n2, n3, n4⟩ := nlF_spec s (a := a) h1
        cases hz : zLine (s.extract a (nlF s a)) with
        | none => dsimp only; omega
        | some z =>
          dsimp only
          by_cases hn : nlF s a = s.size
          · rw [if_pos hn]; dsimp only; omega
          · exfalso
            refine hok (rline_of (e := nlF s a) (by omega) n1 ?_ (by rw [hz]; rfl))
            rcases n3 with q | q
            · exact absurd q hn
            · exact q
    · have ci : ¬ ((a : Nat) : Int) < (s.size : Int) := by omega
      rw [if_neg c, if_neg ci]
      exact ⟨fun _ => ⟨rfl, h4⟩, fun q => (by cases q)⟩
theorem form_both (s : ByteArray) : ((rLines s).2.2 = true → (zForm s).2 = -1 ∧ RelB s (rLines s).1 (zForm s).1) ∧ ((rLines s).2.2 = false → 0 ≤ (zForm s).2) :=
  forms s (s.size + 5) (s.size + 1) 0 [] [] (by omega) (by omega) (by omega) (RelB.nil s)
theorem zFormL_bad (s : ByteArray) : ∀ (f a : Nat) (acc : List (ZLn × Int)), 0 ≤ (zFormL s f a acc).2 → (zFormL s f a acc).1 = []
  | 0, a, acc, h => by simp [zFormL] at h
  | f + 1, a, acc, h => by
    rw [zFormL_s] at h ⊢
    by_cases c : a < s.size
    · rw [if_pos c] at h ⊢
      cases hz : zLine (s.extract a (nlF s a)) with
      | none => rfl
      | some z =>
        rw [hz] at h
        dsimp only at h ⊢
        by_cases hn : nlF s a = s.size
        · rw [if_pos hn]
        · rw [if_neg hn] at h ⊢
          exact zFormL_bad s f _ _ h
    · rw [if_neg c] at h; dsimp only at h; omega
/-- a predicate on patterns, there is one -/
theorem ex_mat : ∃ em : ByteArray → ByteArray → Bool, ∀ p t, em p t = true ↔ (lchK p 6 0).lang (bytesOf t) :=
  ⟨fun p t => @decide ((lchK p 6 0).lang (bytesOf t)) (Classical.propDecidable _), fun p t => by simp⟩
theorem form_ok' {s : ByteArray} (hs : s.size ≤ 800) {em : ByteArray → ByteArray → Bool} (hem : ∀ p t, em p t = true ↔ (lchK p 6 0).lang (bytesOf t)) : ∀ y ∈ (zForm s).1, YOk (fun p => em p ⟨#[]⟩) y := by
  intro y hy
  cases hk : (rLines s).2.2
  · have := zFormL_bad s _ 0 [] ((form_both s).2 hk)
    have e : (zForm s).1 = [] := this
    rw [e] at hy; cases hy
  · obtain ⟨h1, h2⟩ := (form_both s).1 hk
    obtain ⟨k, hkl, rfl⟩ := List.getElem_of_mem hy
    have hx : k < (rLines s).1.length := by rw [h2.len]; exact hkl
    obtain ⟨i, i1, i2, i3, i4⟩ := h2.at' k _ _ (List.getElem?_eq_getElem hx) (List.getElem?_eq_getElem hkl)
    have hlo := (rLines_ok s).2 _ (List.getElem_mem hx)
    have hsb := hlo.sb
    have hsl := i2.syms.1
    refine ⟨fun n hn => ?_, ?_, by omega, by omega, fun p hp => by have := i4 p hp; omega, fun hr => ?_⟩
    · obtain ⟨j, hj, rfl⟩ := List.getElem_of_mem hn
      obtain ⟨a, m, q1, q2, q3⟩ := i2.syms.2 j _ _ (List.getElem?_eq_getElem (by omega)) (List.getElem?_eq_getElem hj)
      rw [q3, part_size q2]
      have := q1.pos; omega
    · rw [i2.places]; simp [hsl]
    · obtain ⟨L, q1, q2, q3⟩ := i2.pat hr
      refine ⟨L, q1, by omega, ?_⟩
      rw [hem, q1]; rfl
end Go.Proofs.YtcpgklcimacngaaGreat
namespace Go.Proofs.YtcpgklcimacngaaGreat
open Go.RowKit
set_option linter.unusedVariables false
set_option linter.unusedSimpArgs false

/-- names are the same just if the words are -/
theorem word_iff {s : ByteArray} {a b m n : Nat} {d d' : Wd} (h : WordAt s a m d) (h' : WordAt s b n d') (ha : a + m ≤ s.size) (hb : b + n ≤ s.size) : d.ls = d'.ls ↔ (s.extract a (a + m)).toList = (s.extract b (b + n)).toList := by
  constructor
  · exact word_same h h' ha hb
  · intro e
    have e2 : (s.extract a (a + m)).data.toList = (s.extract b (b + n)).data.toList := by rw [← btl, ← btl]; exact e
    have e3 : s.extract a (a + m) = s.extract b (b + n) := by
      apply ByteArray.ext
      exact Array.toList_inj.1 e2
    have s1 := part_size (s := s) (a := a) (e := a + m) ha
    have s2 := part_size (s := s) (a := b) (e := b + n) hb
    have hmn : m = n := by rw [e3, s2] at s1; omega
    subst hmn
    rw [h.ls, h'.ls]
    apply List.map_congr_left
    intro k _
    by_cases hk : k < m
    · rw [if_pos hk, if_pos hk]
      have q1 := atB_part (s := s) (a := a) (e := a + m) ha (k := (k : Int)) (by omega) (by omega)
      have q2 := atB_part (s := s) (a := b) (e := b + m) hb (k := (k : Int)) (by omega) (by omega)
      rw [← q1, ← q2, e3]
    · rw [if_neg hk, if_neg hk]
/-- the names of lines and of symbols -/
structure Lines2 (s : ByteArray) (lns : List Ln) (xs : List ZLV) : Prop where
  len : lns.length = xs.length
  at' : ∀ (k : Nat) (x : Ln) (z : ZLV), lns[k]? = some x → xs[k]? = some z → ∃ i : Nat, i < s.size ∧ ZRel s i x z.ln ∧ z.pl = i
theorem lines2_of {s : ByteArray} {lns : List Ln} {xs : List ZLV} (h : RelB s lns (xs.map ZLV.both)) : Lines2 s lns xs := by
  refine ⟨by have := h.len; rw [List.length_map] at this; exact this, fun k x z h1 h2 => ?_⟩
  obtain ⟨i, i1, i2, i3, _⟩ := h.at' k x z.both h1 (by rw [List.getElem?_map, h2]; rfl)
  exact ⟨i, i1, i2, i3⟩
section
variable {s : ByteArray} {lns : List Ln} {xs : List ZLV}
theorem Lines2.get (h : Lines2 s lns xs) {k : Nat} (hk : k < xs.length) : ∃ (x : Ln) (i : Nat), lns[k]? = some x ∧ i < s.size ∧ ZRel s i x xs[k].ln ∧ xs[k].pl = i ∧ x.front.place = i := by
  have hk' : k < lns.length := by rw [h.len]; exact hk
  obtain ⟨i, i1, i2, i3⟩ := h.at' k _ _ (List.getElem?_eq_getElem hk') (List.getElem?_eq_getElem hk)
  exact ⟨lns[k], i, List.getElem?_eq_getElem hk', i1, i2, i3, i2.place⟩
/-- a word of these bytes -/
def WordN (s : ByteArray) (ls : List Int) (n : ByteArray) : Prop := ∃ (j m : Nat) (d : Wd), WordAt s j m d ∧ d.ls = ls ∧ j + m ≤ s.size ∧ n = s.extract j (j + m)
theorem ZRel.word {i : Nat} {x : Ln} {z : ZLn} (h : ZRel s i x z) : WordN s x.front.ls z.name := by
  obtain ⟨m, h1, h2, h3⟩ := h.name
  exact ⟨i, m, x.front, h1, rfl, h2, h3⟩
theorem ZRel.sword {i : Nat} {x : Ln} {z : ZLn} (h : ZRel s i x z) {k : Nat} {d : Wd} {n : ByteArray} (h1 : x.syms[k]? = some d) (h2 : z.syms[k]? = some n) : WordN s d.ls n := by
  obtain ⟨j, m, q1, q2, q3⟩ := h.syms.2 k d n h1 h2
  exact ⟨j, m, d, q1, rfl, q2, q3⟩
theorem WordN.eq_iff {ls ls' : List Int} {n n' : ByteArray} (h : WordN s ls n) (h' : WordN s ls' n') : ls = ls' ↔ n.toList = n'.toList := by
  obtain ⟨j, m, d, q1, q2, q3, q4⟩ := h
  obtain ⟨j', m', d', q1', q2', q3', q4'⟩ := h'
  rw [← q2, ← q2', q4, q4']
  exact word_iff q1 q1' q3 q3'
/-- the kind of a word: does it begin with a great letter? -/
theorem WordN.cap {ls : List Int} {n : ByteArray} (h : WordN s ls n) : isCapB (ls.getD 0 0) = isCapB (atB n 0) := by
  obtain ⟨j, m, d, q1, q2, q3, q4⟩ := h
  have hp := q1.pos
  rw [q4, ← q2, q1.ls]
  have : ((List.range 8).map (fun k : Nat => if k < m then atB s ((j : Int) + k) else 0)).getD 0 0 = atB s j := by
    simp [List.range, List.range.loop, show 0 < m by omega]
  rw [this, atB_part q3 (by omega) (by omega), Int.add_zero]
theorem rule_ls (x : Ln) : ruleB x = !isCapB (x.front.ls.getD 0 0) := rfl
/-- an earlier line of this name -/
theorem front_lt {ls : List Int} {i : Nat} (hi : i ≤ lns.length) : frontF lns ls < i ↔ ∃ (j : Nat) (x : Ln), j < i ∧ lns[j]? = some x ∧ x.front.ls = ls := by
  unfold frontF
  constructor
  · intro h
    have hl : lns.findIdx (fun x => x.front.ls == ls) < lns.length := by omega
    have hg := List.findIdx_getElem (w := hl)
    exact ⟨_, _, h, List.getElem?_eq_getElem hl, by simpa using hg⟩
  · rintro ⟨j, x, h1, h2, h3⟩
    obtain ⟨hj, hx⟩ := List.getElem?_eq_some_iff.1 h2
    by_cases q : lns.findIdx (fun x => x.front.ls == ls) ≤ j
    · omega
    · exfalso
      have nf := List.not_of_lt_findIdx (xs := lns) (p := fun x => x.front.ls == ls) (i := j) (by omega)
      rw [hx] at nf
      simp [h3] at nf
theorem findF_iff {l : List ByteArray} {t : ByteArray} : 0 ≤ findF l t ↔ ∃ y ∈ l, y.toList = t.toList :=
  ⟨fun h => findF_mem (by omega), findF_nn⟩
end
end Go.Proofs.YtcpgklcimacngaaGreat
namespace Go.Proofs.YtcpgklcimacngaaGreat
open Go.RowKit
set_option linter.unusedVariables false
set_option linter.unusedSimpArgs false

structure SI (lns : List Ln) (xs : List ZLV) (i : Nat) (X : SP) : Prop where
  rules : X.rules.length = cntRules lns i
  prods : X.prods.length = cntProds lns i
  heads : X.heads.length = cntHeads lns i
  mem : ∀ t : ByteArray, (∃ y ∈ X.heads, y.toList = t.toList) ↔ ∃ (j : Nat) (z : ZLV), j < i ∧ xs[j]? = some z ∧ z.ln.rule = false ∧ z.ln.name.toList = t.toList
  rl : X.rules = (xs.take i).filter (fun z => z.ln.rule)
  pr : X.prods = (xs.take i).filter (fun z => !z.ln.rule)
section
variable {s : ByteArray} {lns : List Ln} {xs : List ZLV}
/-- an earlier production of this name -/
theorem ahead_prod (h : Lines2 s lns xs) {i : Nat} (hi : i < xs.length) (hr : xs[i].ln.rule = false) : aheadB lns i = true ↔ ∃ (j : Nat) (z : ZLV), j < i ∧ xs[j]? = some z ∧ z.ln.rule = false ∧ z.ln.name.toList = xs[i].ln.name.toList := by
  obtain ⟨x, p, g1, g2, g3, g4, g5⟩ := h.get hi
  have hl := h.len
  unfold aheadB
  rw [g1]
  dsimp only
  rw [decide_eq_true_eq, front_lt (by omega)]
  constructor
  · rintro ⟨j, y, h1, h2, h3⟩
    obtain ⟨y', q, k1, k2, k3, k4, k5⟩ := h.get (k := j) (by omega)
    rw [h2] at k1
    injection k1 with k1
    subst k1
    refine ⟨j, xs[j], h1, List.getElem?_eq_getElem (by omega), ?_, (k3.word.eq_iff g3.word).1 h3⟩
    have e1 := k3.rule
    have e2 := g3.rule
    rw [hr] at e2
    rw [e1, rule_ls, h3, ← rule_ls, ← e2]
  · rintro ⟨j, z, h1, h2, h3, h4⟩
    obtain ⟨hj, hz⟩ := List.getElem?_eq_some_iff.1 h2
    obtain ⟨y', q, k1, k2, k3, k4, k5⟩ := h.get hj
    rw [hz] at k3
    exact ⟨j, y', h1, k1, (k3.word.eq_iff g3.word).2 h4⟩
theorem ahead_rule (h : Lines2 s lns xs) {i : Nat} (hi : i < xs.length) (hr : xs[i].ln.rule = true) : aheadB lns i = true ↔ ∃ (j : Nat) (z : ZLV), j < i ∧ xs[j]? = some z ∧ z.ln.rule = true ∧ z.ln.name.toList = xs[i].ln.name.toList := by
  obtain ⟨x, p, g1, g2, g3, g4, g5⟩ := h.get hi
  have hl := h.len
  unfold aheadB
  rw [g1]
  dsimp only
  rw [decide_eq_true_eq, front_lt (by omega)]
  constructor
  · rintro ⟨j, y, h1, h2, h3⟩
    obtain ⟨y', q, k1, k2, k3, k4, k5⟩ := h.get (k := j) (by omega)
    rw [h2] at k1
    injection k1 with k1
    subst k1
    refine ⟨j, xs[j], h1, List.getElem?_eq_getElem (by omega), ?_, (k3.word.eq_iff g3.word).1 h3⟩
    have e1 := k3.rule
    have e2 := g3.rule
    rw [hr] at e2
    rw [e1, rule_ls, h3, ← rule_ls, ← e2]
  · rintro ⟨j, z, h1, h2, h3, h4⟩
    obtain ⟨hj, hz⟩ := List.getElem?_eq_some_iff.1 h2
    obtain ⟨y', q, k1, k2, k3, k4, k5⟩ := h.get hj
    rw [hz] at k3
    exact ⟨j, y', h1, k1, (k3.word.eq_iff g3.word).2 h4⟩
theorem si_step (h : Lines2 s lns xs) {i : Nat} {X : SP} (hi : i < xs.length) (hS : SI lns xs i X) : SI lns xs (i + 1) (sortStep X xs[i]) := by
  obtain ⟨x, p, g1, g2, g3, g4, g5⟩ := h.get hi
  have hil : i < lns.length := by rw [h.len]; exact hi
  have hx : lns[i] = x := by rw [List.getElem?_eq_getElem hil] at g1; injection g1
  have c1 := cntRules_succ lns i hil
  have c2 := cntProds_succ lns i hil
  have c3 := cntHeads_succ lns i hil
  rw [hx, ← g3.rule] at c1 c2 c3
  have htk : xs.take (i + 1) = xs.take i ++ [xs[i]] := by rw [List.take_add_one, List.getElem?_eq_getElem hi]; rfl
  have hmem : ∀ (t : ByteArray) (j : Nat) (z : ZLV), (j < i + 1 ∧ xs[j]? = some z ∧ z.ln.rule = false ∧ z.ln.name.toList = t.toList) ↔ ((j < i ∧ xs[j]? = some z ∧ z.ln.rule = false ∧ z.ln.name.toList = t.toList) ∨ (j = i ∧ z = xs[i] ∧ z.ln.rule = false ∧ z.ln.name.toList = t.toList)) := by
    intro t j z
    constructor
    · rintro ⟨q1, q2, q3⟩
      by_cases e : j = i
      · subst e
        rw [List.getElem?_eq_getElem hi] at q2
        injection q2 with q2
        exact .inr ⟨rfl, q2.symm, q3⟩
      · exact .inl ⟨by omega, q2, q3⟩
    · rintro (⟨q1, q2⟩ | ⟨rfl, rfl, q3⟩)
      · exact ⟨by omega, q2⟩
      · exact ⟨by omega, List.getElem?_eq_getElem hi, q3⟩
  cases hr : xs[i].ln.rule
  · have hst : sortStep X xs[i] = { X with prods := X.prods ++ [xs[i]], heads := if findF X.heads xs[i].ln.name < 0 then X.heads ++ [xs[i].ln.name] else X.heads, head := X.head ++ [if findF X.heads xs[i].ln.name < 0 then (X.heads.length : Int) else findF X.heads xs[i].ln.name] } := by
      unfold sortStep; rw [if_neg (by rw [hr]; simp)]
    rw [hst]
    rw [hr] at c1 c2 c3
    have hah : aheadB lns i = true ↔ 0 ≤ findF X.heads xs[i].ln.name := by
      rw [ahead_prod h hi hr, findF_iff, hS.mem]
    refine ⟨?_, ?_, ?_, ?_, ?_, ?_⟩
    · rw [c1]; simpa using hS.rules
    · rw [c2]
      show (X.prods ++ [xs[i]]).length = _
      rw [List.length_append, hS.prods]; rfl
    · dsimp only
      rw [c3, ← hS.heads]
      by_cases q : findF X.heads xs[i].ln.name < 0
      · have : aheadB lns i = false := by
          cases z : aheadB lns i
          · rfl
          · exact absurd (hah.1 z) (by omega)
        rw [if_pos q, this]; simp
      · rw [if_neg q, hah.2 (by omega)]; simp
    · intro t
      dsimp only
      have key : (∃ (j : Nat) (z : ZLV), j < i + 1 ∧ xs[j]? = some z ∧ z.ln.rule = false ∧ z.ln.name.toList = t.toList) ↔ ((∃ y ∈ X.heads, y.toList = t.toList) ∨ xs[i].ln.name.toList = t.toList) := by
        rw [hS.mem t]
        constructor
        · rintro ⟨j, z, q⟩
          rcases (hmem t j z).1 q with q | ⟨_, rfl, _, q⟩
          · exact .inl ⟨j, z, q⟩
          · exact .inr q
        · rintro (⟨j, z, q⟩ | q)
          · exact ⟨j, z, (hmem t j z).2 (.inl q)⟩
          · exact ⟨i, xs[i], (hmem t i _).2 (.inr ⟨rfl, rfl, hr, q⟩)⟩
      rw [key]
      by_cases q : findF X.heads xs[i].ln.name < 0
      · rw [if_pos q]
        constructor
        · rintro ⟨y, hy, e⟩
          rcases List.mem_append.1 hy with hy | hy
          · exact .inl ⟨y, hy, e⟩
          · simp at hy; subst hy; exact .inr e
        · rintro (⟨y, hy, e⟩ | e)
          · exact ⟨y, by simp [hy], e⟩
          · exact ⟨_, by simp, e⟩
      · rw [if_neg q]
        constructor
        · exact fun z => .inl z
        · rintro (z | e)
          · exact z
          · obtain ⟨y, hy, e2⟩ := findF_mem q
            exact ⟨y, hy, e2.trans e⟩
    · rw [htk, List.filter_append, ← hS.rl]; simp [List.filter_cons, hr]
    · rw [htk, List.filter_append, ← hS.pr]; simp [List.filter_cons, hr]
  · have hst : sortStep X xs[i] = { X with rules := X.rules ++ [xs[i]] } := by
      unfold sortStep; rw [if_pos hr]
    rw [hst]
    rw [hr] at c1 c2 c3
    refine ⟨?_, ?_, ?_, ?_, ?_, ?_⟩
    · rw [c1]
      show (X.rules ++ [xs[i]]).length = _
      rw [List.length_append, hS.rules]; rfl
    · rw [c2]; simpa using hS.prods
    · rw [c3]; simpa using hS.heads
    · intro t
      dsimp only
      rw [hS.mem t]
      constructor
      · rintro ⟨j, z, q⟩
        exact ⟨j, z, (hmem t j z).2 (.inl q)⟩
      · rintro ⟨j, z, q⟩
        rcases (hmem t j z).1 q with q | ⟨_, rfl, q, _⟩
        · exact ⟨j, z, q⟩
        · rw [hr] at q; cases q
    · rw [htk, List.filter_append, ← hS.rl]; simp [List.filter_cons, hr]
    · rw [htk, List.filter_append, ← hS.pr]; simp [List.filter_cons, hr]
theorem many_rel (h : Lines2 s lns xs) : ∀ (f i : Nat) (X : SP), i ≤ xs.length → xs.length + 1 ≤ f + i → SI lns xs i X →
    (sortL X (xs.drop i)).2 = tooManyL lns f i ∧ ((sortL X (xs.drop i)).2 = -1 → SI lns xs xs.length (sortL X (xs.drop i)).1)
  | 0, i, X, hi, hf, hS => by omega
  | f + 1, i, X, hi, hf, hS => by
    unfold tooManyL
    by_cases hlt : i < xs.length
    · obtain ⟨x, p, g1, g2, g3, g4, g5⟩ := h.get hlt
      have hs1 := si_step h hlt hS
      rw [g1, List.drop_eq_getElem_cons hlt]
      dsimp only
      have hov : overZ (sortStep X xs[i]) xs[i] = overB lns i x := by
        unfold overZ overB
        rw [hs1.rules, hs1.prods, hs1.heads, g3.syms.1]
      unfold sortL
      rw [hov]
      cases ho : overB lns i x
      · rw [if_neg (by simp), if_neg (by simp)]
        exact many_rel h f (i + 1) _ (by omega) (by omega) hs1
      · rw [if_pos rfl, if_pos rfl]
        refine ⟨by rw [g4, g5], fun q => ?_⟩
        dsimp only at q
        omega
    · have hie : i = xs.length := by omega
      rw [List.getElem?_eq_none (by rw [h.len]; omega), List.drop_eq_nil_of_le (by omega)]
      exact ⟨rfl, fun _ => by rw [← hie]; exact hS⟩
theorem si_zero : SI lns xs 0 noSP := by
  refine ⟨rfl, rfl, rfl, fun t => ?_, by simp [noSP], by simp [noSP]⟩
  constructor
  · rintro ⟨y, hy, _⟩; simp [noSP] at hy
  · rintro ⟨j, z, q, _⟩; omega
theorem many_is (h : Lines2 s lns xs) : (sortL noSP xs).2 = tooMany lns ∧ ((sortL noSP xs).2 = -1 → SI lns xs xs.length (sortL noSP xs).1) := by
  have := many_rel h (lns.length + 1) 0 noSP (by omega) (by rw [h.len]; omega) si_zero
  exact this
end
end Go.Proofs.YtcpgklcimacngaaGreat
