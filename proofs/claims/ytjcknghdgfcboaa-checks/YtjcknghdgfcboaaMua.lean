import Derived.Test.YtjcknghdgfcboaaMu7
namespace Go.Proofs.Ytjcknghdgfcboaa
open Go.RowKit
set_option linter.unusedVariables false
set_option linter.unusedSimpArgs false

theorem syms_none {lns : List Ln} {syms : List Wd} (hp : ∀ d ∈ syms, 0 ≤ d.place) : ∀ (f j : Nat), symsL lns syms f j = none → syms.length + 1 ≤ f + j → ∀ k (hk : k < syms.length), j ≤ k → symB lns syms[k] = true
  | 0, j, h, hf, k, hk, hjk => by omega
  | f + 1, j, h, hf, k, hk, hjk => by
    unfold symsL at h
    have hj : j < syms.length := by omega
    rw [List.getElem?_eq_getElem hj] at h
    simp only [] at h
    cases hs : symB lns syms[j]
    · rw [hs] at h; simp at h
    · rw [hs] at h
      simp only [if_true] at h
      by_cases e : j = k
      · subst e; exact hs
      · exact syms_none hp f (j + 1) h (by omega) k hk (by omega)
theorem wrong_none {lns : List Ln} (hp : ∀ y ∈ lns, 0 ≤ y.front.place ∧ ∀ d ∈ y.syms, 0 ≤ d.place) : ∀ (f i : Nat), wrongL lns f i = -1 → lns.length + 1 ≤ f + i → ∀ k (hk : k < lns.length), i ≤ k → symsBad lns lns[k].syms = none
  | 0, i, h, hf, k, hk, hik => by omega
  | f + 1, i, h, hf, k, hk, hik => by
    unfold wrongL at h
    have hi : i < lns.length := by omega
    rw [List.getElem?_eq_getElem hi] at h
    simp only [] at h
    have hpi := hp lns[i] (List.getElem_mem hi)
    by_cases c : (ruleB lns[i] && aheadB lns i) = true
    · rw [if_pos c] at h; omega
    · rw [if_neg c] at h
      cases hs : symsBad lns lns[i].syms with
      | some p =>
        rw [hs] at h
        simp only [] at h
        exfalso
        have : ∀ (f j : Nat), symsL lns lns[i].syms f j = some p → 0 ≤ p := by
          intro f
          induction f with
          | zero => intro j h; simp [symsL] at h
          | succ f ih =>
            intro j h
            unfold symsL at h
            split at h
            · rename_i d hd
              split at h
              · exact ih _ h
              · simp at h
                rw [← h]
                exact hpi.2 d (List.mem_of_getElem? hd)
            · cases h
        have := this _ _ hs
        omega
      | none =>
        rw [hs] at h
        simp only [] at h
        by_cases e : i = k
        · subst e; exact hs
        · exact wrong_none hp f (i + 1) h (by omega) k hk (by omega)
/-- Every symbol of a line is the name of a line. -/
theorem sym_named {s : ByteArray} {lns : List Ln} {x : LO} (hI : Inv s lns x) (hw : wrongName lns = -1) {y : Ln} (hy : y ∈ lns) {d : Wd} (hd : d ∈ y.syms) {j m : Nat} (hwd : WordAt s j m d) :
    (∃ z ∈ x.rules, z.toList = (s.extract j (j + m)).toList) ∨ (∃ z ∈ x.heads, z.toList = (s.extract j (j + m)).toList) := by
  obtain ⟨k, hk, rfl⟩ := List.getElem_of_mem hy
  have h1 := wrong_none hI.places _ 0 hw (by omega) k hk (by omega)
  obtain ⟨q, hq, rfl⟩ := List.getElem_of_mem hd
  have h2 := syms_none (hI.places _ hy).2 _ 0 h1 (by omega) q hq (by omega)
  unfold symB at h2
  by_cases hf : frontF lns (lns[k].syms[q]).ls < lns.length
  · have h3 : (lns[frontF lns (lns[k].syms[q]).ls]).front.ls = (lns[k].syms[q]).ls := by
      have := List.findIdx_getElem (xs := lns) (p := fun x : Ln => x.front.ls == (lns[k].syms[q]).ls) (w := hf)
      exact beq_iff_eq.1 this
    have hn := hI.named _ (List.getElem_mem hf)
    have hin := hwd.in'
    split at hn
    · obtain ⟨a, b, ha, z, hz, he⟩ := hn
      left
      have := ha.in'
      exact ⟨z, hz, he.trans (word_same ha hwd (by omega) (by omega) h3)⟩
    · obtain ⟨a, b, ha, z, hz, he⟩ := hn
      right
      have := ha.in'
      exact ⟨z, hz, he.trans (word_same ha hwd (by omega) (by omega) h3)⟩
  · rw [List.getElem?_eq_none (by omega)] at h2; cases h2

theorem ksyms_some {x : LO} : ∀ (l : List ByteArray) (acc : List Int), (∀ t ∈ l, ¬ (findF x.heads t < 0 ∧ findF x.rules t < 0)) → ∃ r, ksyms x l acc = some r
  | [], acc, h => ⟨acc, rfl⟩
  | t :: l, acc, h => by
    unfold ksyms symOf
    rw [if_neg (h t (by simp))]
    exact ksyms_some l _ (fun t ht => h t (by simp [ht]))
theorem allS_true {x : LO} : ∀ (ls : List (List ByteArray)) (acc : List (List Int)), (∀ l ∈ ls, ∀ t ∈ l, ¬ (findF x.heads t < 0 ∧ findF x.rules t < 0)) → (0 < ls.length + acc.length) → (allS x ls acc).2 = true ∧ (allS x ls acc).1.rules = x.rules ∧ (allS x ls acc).1.skip = x.skip
  | [], acc, h, hp => by unfold allS; simp at hp ⊢; omega
  | l :: ls, acc, h, hp => by
    unfold allS
    obtain ⟨r, hr⟩ := ksyms_some (x := x) l [] (h l (by simp))
    rw [hr]
    exact allS_true ls _ (fun l hl => h l (by simp [hl])) (by simp; omega)

theorem check_parts {s : ByteArray} (h : checkF s = (0, 0)) : s.size ≤ 800 ∧ (rLines s).2.2 = true ∧ wrongName (rLines s).1 = -1 ∧ hasProd (rLines s).1 = true ∧ tooMany (rLines s).1 = -1 := by
  unfold checkF at h
  split at h
  · simp at h
  · rename_i h1
    split at h
    · simp at h
    · rename_i h2
      split at h
      · simp at h
      · rename_i h3
        split at h
        · simp at h
        · rename_i h4
          split at h
          · simp at h
          · split at h
            · simp at h
            · rename_i h5
              exact ⟨by omega, by simpa using h2, by simpa using h4, by simpa using h5, by simpa using h3⟩
theorem inv_zero {s : ByteArray} : Inv s [] zeroLO := by
  refine ⟨rfl, rfl, rfl, ?_, ?_, ?_⟩
  · intro y hy; simp at hy
  · intro l hl; simp [zeroLO] at hl
  · intro y hy; simp at hy
theorem linesInv {s : ByteArray} (h : checkF s = (0, 0)) : Inv s (rLines s).1 (linesX s) := by
  obtain ⟨h1, h2, h3, h4, h5⟩ := check_parts h
  have h2' : (rLinesL s (s.size + 5) ((0 : Nat) : Int) []).2.2 = true := h2
  exact inv_lines s (s.size + 5) 0 [] (s.size + 1) zeroLO h2' (by omega) (by omega) inv_zero
theorem linesAs {s : ByteArray} (h : checkF s = (0, 0)) : LinesAs s := by
  obtain ⟨h1, h2, h3, h4, h5⟩ := check_parts h
  have hI := linesInv h
  have hall : ∀ l ∈ (linesX s).names, ∀ t ∈ l, ¬ (findF (linesX s).heads t < 0 ∧ findF (linesX s).rules t < 0) := by
    intro l hl t ht ⟨c1, c2⟩
    obtain ⟨y, hy, d, hd, j, m, hw, rfl⟩ := hI.words l hl t ht
    rcases sym_named hI h3 hy hd hw with h6 | h6
    · have := findF_nn h6; omega
    · have := findF_nn h6; omega
  have hpos : 0 < (linesX s).names.length := by
    rw [hI.count]
    unfold hasProd at h4
    rw [List.any_eq_true] at h4
    obtain ⟨y, hy, hq⟩ := h4
    exact List.length_pos_of_mem (List.mem_filter.2 ⟨hy, hq⟩)
  obtain ⟨q1, q2, q3⟩ := allS_true (x := linesX s) (linesX s).names [] hall (by omega)
  exact ⟨q1, by unfold linesF; rw [q2]; exact hI.rules, by unfold linesF; rw [q3]; exact hI.skip⟩

end Go.Proofs.Ytjcknghdgfcboaa
namespace Go.Proofs.Ytjcknghdgfcboaa
open Go.RowKit
set_option linter.unusedVariables false
set_option linter.unusedSimpArgs false

/-- one step from node to node: without a byte, or reading one -/
def Step (ns : List Node) (o : Option Nat) (a b : Nat) : Prop :=
  ∃ x, ns[a]? = some x ∧ b < ns.length ∧ match o with
    | none => x.reads = false ∧ ((b : Int) = x.next ∨ (b : Int) = x.other)
    | some c => x.reads = true ∧ hasB x.set c = true ∧ (b : Int) = x.next
def Run (ns : List Node) : List (Option Nat) → Nat → Nat → Prop
  | [], a, b => a = b
  | o :: r, a, b => ∃ m, Step ns o a m ∧ Run ns r m b
/-- from a to b, reading w -/
def Path (ns : List Node) (a : Nat) (w : List Nat) (b : Nat) : Prop := ∃ r, Run ns r a b ∧ r.filterMap id = w
theorem Run.append {ns : List Node} : ∀ {r q : List (Option Nat)} {a b c : Nat}, Run ns r a b → Run ns q b c → Run ns (r ++ q) a c
  | [], _, _, _, _, h, k => by cases h; exact k
  | _ :: _, _, _, _, _, ⟨m, h1, h2⟩, k => ⟨m, h1, h2.append k⟩
theorem Run.split {ns : List Node} : ∀ {r q : List (Option Nat)} {a c : Nat}, Run ns (r ++ q) a c → ∃ b, Run ns r a b ∧ Run ns q b c
  | [], _, a, _, h => ⟨a, rfl, h⟩
  | _ :: _, _, _, _, ⟨m, h1, h2⟩ => by
    obtain ⟨b, k1, k2⟩ := h2.split
    exact ⟨b, ⟨m, h1, k1⟩, k2⟩
theorem Path.refl (ns : List Node) (a : Nat) : Path ns a [] a := ⟨[], rfl, rfl⟩
theorem Path.trans {ns : List Node} {a b c : Nat} {u v : List Nat} (h : Path ns a u b) (k : Path ns b v c) : Path ns a (u ++ v) c := by
  obtain ⟨r, h1, h2⟩ := h
  obtain ⟨q, k1, k2⟩ := k
  exact ⟨r ++ q, h1.append k1, by rw [List.filterMap_append, h2, k2]⟩
theorem Path.eps {ns : List Node} {a b : Nat} (h : Step ns none a b) : Path ns a [] b := ⟨[none], ⟨b, h, rfl⟩, rfl⟩
theorem Path.byte {ns : List Node} {a b c : Nat} (h : Step ns (some c) a b) : Path ns a [c] b := ⟨[some c], ⟨b, h, rfl⟩, rfl⟩

theorem mem_enter {n : Nat} {l : List Nat} {m : Int} {x : Nat} (hl : ∀ y ∈ l, y < n) : x ∈ enterF n l m ↔ x ∈ l ∨ (x < n ∧ (x : Int) = m) := by
  unfold enterF
  split
  · rename_i h
    rw [List.mem_append, List.mem_singleton]
    constructor
    · rintro (h1 | rfl)
      · exact .inl h1
      · exact .inr ⟨by omega, by omega⟩
    · rintro (h1 | ⟨_, h1⟩)
      · exact .inl h1
      · exact .inr (by omega)
  · rename_i h
    constructor
    · exact .inl
    · rintro (h1 | ⟨h1, h2⟩)
      · exact h1
      · rcases Classical.em (m.toNat ∈ l) with q | q
        · rwa [show m.toNat = x by omega] at q
        · exact absurd ⟨by omega, by omega, q⟩ h
theorem enter_pre (n : Nat) (l : List Nat) (m : Int) : ∃ t, enterF n l m = l ++ t := by
  unfold enterF; split
  · exact ⟨_, rfl⟩
  · exact ⟨[], by simp⟩
/-- the spread: what it holds, and that it is closed -/
theorem spreadL_spec (ns : List Node) : ∀ (f i : Nat) (l : List Nat), l.Nodup → (∀ x ∈ l, x < ns.length) → ns.length + 1 ≤ f + i → i ≤ l.length →
    (∀ j (hj : j < l.length), j < i → ∀ b, Step ns none l[j] b → b ∈ l) →
    (∀ x ∈ l, x ∈ spreadL ns f i l) ∧ (∀ x ∈ spreadL ns f i l, x < ns.length) ∧ (∀ x ∈ spreadL ns f i l, ∃ a ∈ l, Path ns a [] x) ∧ (∀ x ∈ spreadL ns f i l, ∀ b, Step ns none x b → b ∈ spreadL ns f i l)
  | 0, i, l, hd, hl, hf, hi, hc => by
    have h1 : l.length ≤ ns.length := nodup_len hd hl
    omega
  | f + 1, i, l, hd, hl, hf, hi, hc => by
    unfold spreadL
    by_cases h : i < l.length
    · rw [dif_pos h]
      have hlt : l[i] < ns.length := hl _ (List.getElem_mem h)
      rw [List.getElem?_eq_getElem hlt]
      simp only []
      by_cases hr : ns[l[i]].reads = true
      · rw [if_pos hr]
        refine spreadL_spec ns f (i + 1) l hd hl (by omega) (by omega) (fun j hj hji b hs => ?_)
        by_cases e : j = i
        · subst e
          obtain ⟨x, hx, _, hx2, _⟩ := hs
          rw [List.getElem?_eq_getElem hlt] at hx
          have : ns[l[j]] = x := by simpa using hx
          rw [this] at hr; rw [hr] at hx2; cases hx2
        · exact hc j hj (by omega) b hs
      · rw [if_neg hr]
        have hr' : ns[l[i]].reads = false := by simpa using hr
        have hl1 := enterF_lt ns[l[i]].next hl
        have hl2 := enterF_lt ns[l[i]].other hl1
        obtain ⟨t1, e1⟩ := enter_pre ns.length l ns[l[i]].next
        obtain ⟨t2, e2⟩ := enter_pre ns.length (enterF ns.length l ns[l[i]].next) ns[l[i]].other
        have ee : enterF ns.length (enterF ns.length l ns[l[i]].next) ns[l[i]].other = l ++ (t1 ++ t2) := by rw [e2, e1, List.append_assoc]
        have hm : ∀ x, x ∈ enterF ns.length (enterF ns.length l ns[l[i]].next) ns[l[i]].other ↔ x ∈ l ∨ Step ns none l[i] x := fun x => by
          rw [mem_enter hl1, mem_enter hl]
          constructor
          · rintro ((q | ⟨q1, q2⟩) | ⟨q1, q2⟩)
            · exact .inl q
            · exact .inr ⟨_, List.getElem?_eq_getElem hlt, q1, hr', .inl q2⟩
            · exact .inr ⟨_, List.getElem?_eq_getElem hlt, q1, hr', .inr q2⟩
          · rintro (q | ⟨y, q1, q2, q3, q4⟩)
            · exact .inl (.inl q)
            · rw [List.getElem?_eq_getElem hlt] at q1
              have : ns[l[i]] = y := by simpa using q1
              subst this
              rcases q4 with q4 | q4
              · exact .inl (.inr ⟨q2, q4⟩)
              · exact .inr ⟨q2, q4⟩
        obtain ⟨r1, r2, r3, r4⟩ := spreadL_spec ns f (i + 1) _ (enterF_nodup _ (enterF_nodup _ hd)) hl2 (by omega) (by rw [ee]; simp; omega) (fun j hj hji b hs => by
          have hjl : j < l.length := by omega
          have ej : (enterF ns.length (enterF ns.length l ns[l[i]].next) ns[l[i]].other)[j] = l[j] := by simp only [ee]; rw [List.getElem_append_left hjl]
          rw [ej] at hs
          rw [hm]
          by_cases e : j = i
          · subst e; exact .inr hs
          · exact .inl (hc j hjl (by omega) b hs))
        refine ⟨fun x hx => r1 x ((hm x).2 (.inl hx)), r2, fun x hx => ?_, r4⟩
        obtain ⟨a, ha, hp⟩ := r3 x hx
        rcases (hm a).1 ha with q | q
        · exact ⟨a, q, hp⟩
        · exact ⟨l[i], List.getElem_mem h, by simpa using (Path.eps q).trans hp⟩
    · rw [dif_neg h]
      exact ⟨fun x hx => hx, hl, fun x hx => ⟨x, hx, Path.refl ns x⟩, fun x hx b hs => by
        obtain ⟨j, hj, rfl⟩ := List.getElem_of_mem hx
        exact hc j hj (by omega) b hs⟩
theorem spreadF_mem {ns : List Node} {l : List Nat} (hd : l.Nodup) (hl : ∀ x ∈ l, x < ns.length) (b : Nat) : b ∈ spreadF ns l ↔ ∃ a ∈ l, Path ns a [] b := by
  obtain ⟨h1, h2, h3, h4⟩ := spreadL_spec ns (ns.length + 1) 0 l hd hl (by omega) (by omega) (fun j hj h => by omega)
  refine ⟨h3 b, fun ⟨a, ha, r, hr, he⟩ => ?_⟩
  have go : ∀ (r : List (Option Nat)) (a : Nat), a ∈ spreadF ns l → Run ns r a b → r.filterMap id = [] → b ∈ spreadF ns l := by
    intro r
    induction r with
    | nil => intro a ha hr _; cases hr; exact ha
    | cons o r ih =>
      intro a ha hr he
      obtain ⟨m, k1, k2⟩ := hr
      cases o with
      | none => exact ih m (h4 a ha m k1) k2 (by simpa using he)
      | some c => simp at he
  exact go r a (h1 a ha) hr he
theorem stepF_mem {ns : List Node} {c : Nat} : ∀ (l acc : List Nat), (∀ x ∈ acc, x < ns.length) → ∀ b, b ∈ stepF ns c l acc ↔ b ∈ acc ∨ ∃ a ∈ l, Step ns (some c) a b
  | [], acc, _, b => by simp [stepF]
  | m :: l, acc, ha, b => by
    unfold stepF
    rw [List.foldl_cons]
    have hlt : ∀ x ∈ stepOne ns c acc m, x < ns.length := by
      unfold stepOne
      split
      · split
        · exact enterF_lt _ ha
        · exact ha
      · exact ha
    have ih := stepF_mem (ns := ns) (c := c) l (stepOne ns c acc m) hlt b
    unfold stepF at ih
    rw [ih]
    have hone : b ∈ stepOne ns c acc m ↔ b ∈ acc ∨ Step ns (some c) m b := by
      unfold stepOne Step
      cases hq : ns[m]? with
      | none => simp
      | some nd =>
        simp only [Option.some.injEq]
        split
        · rename_i h
          rw [Bool.and_eq_true] at h
          rw [mem_enter ha]
          constructor
          · rintro (q | ⟨q1, q2⟩)
            · exact .inl q
            · exact .inr ⟨nd, rfl, q1, h.1, h.2, q2⟩
          · rintro (q | ⟨x, rfl, q1, _, _, q2⟩)
            · exact .inl q
            · exact .inr ⟨q1, q2⟩
        · rename_i h
          constructor
          · exact .inl
          · rintro (q | ⟨x, rfl, q1, q3, q4, q2⟩)
            · exact q
            · exact absurd (by rw [q3, q4]; rfl) h
    rw [hone]
    simp only [List.mem_cons, exists_eq_or_imp]
    exact or_assoc
end Go.Proofs.Ytjcknghdgfcboaa
namespace Go.Proofs.Ytjcknghdgfcboaa
open Go.RowKit
set_option linter.unusedVariables false
set_option linter.unusedSimpArgs false

theorem stepF_ok {ns : List Node} {c : Nat} : ∀ (l acc : List Nat), acc.Nodup → (∀ x ∈ acc, x < ns.length) → (stepF ns c l acc).Nodup ∧ ∀ x ∈ stepF ns c l acc, x < ns.length
  | [], acc, h1, h2 => ⟨h1, h2⟩
  | m :: l, acc, h1, h2 => by
    unfold stepF
    rw [List.foldl_cons]
    refine stepF_ok l (stepOne ns c acc m) ?_ ?_
    · unfold stepOne
      split
      · split
        · exact enterF_nodup _ h1
        · exact h1
      · exact h1
    · unfold stepOne
      split
      · split
        · exact enterF_lt _ h2
        · exact h2
      · exact h2
theorem crK_ok (ns : List Node) (st : Int) (s : ByteArray) (i : Nat) : ∀ k, (crK ns st s i k).Nodup ∧ ∀ x ∈ crK ns st s i k, x < ns.length
  | 0 => by
    unfold crK
    exact ⟨enterF_nodup _ List.nodup_nil, enterF_lt _ (by simp)⟩
  | k + 1 => by
    unfold crK nextL
    split
    · exact stepF_ok _ _ List.nodup_nil (by simp)
    · simp
/-- the k bytes from i on -/
def bytesK (s : ByteArray) (i : Nat) : Nat → List Nat
  | 0 => []
  | k + 1 => bytesK s i k ++ (if h : i + k < s.size then [s[i + k].toNat] else [])
theorem Path.snoc {ns : List Node} {a b : Nat} {u : List Nat} {c : Nat} : Path ns a (u ++ [c]) b ↔ ∃ p m, Path ns a u p ∧ Step ns (some c) p m ∧ Path ns m [] b := by
  constructor
  · rintro ⟨r, h1, h2⟩
    rw [List.filterMap_eq_append_iff] at h2
    obtain ⟨r1, r2, rfl, e1, e2⟩ := h2
    rw [List.filterMap_eq_cons_iff] at e2
    obtain ⟨q1, o, q2, rfl, k1, k2, k3⟩ := e2
    obtain ⟨x, hx1, hx2⟩ := h1.split
    obtain ⟨y, hy1, hy2⟩ := hx2.split
    obtain ⟨m, hm1, hm2⟩ := hy2
    have ho : o = some c := k2
    subst ho
    refine ⟨y, m, ⟨r1 ++ q1, hx1.append hy1, ?_⟩, hm1, ⟨q2, hm2, k3⟩⟩
    rw [List.filterMap_append, e1]
    have : q1.filterMap id = [] := by
      rw [List.filterMap_eq_nil_iff]; exact k1
    rw [this, List.append_nil]
  · rintro ⟨p, m, h1, h2, h3⟩
    have := (h1.trans (Path.byte h2)).trans h3
    simpa using this
theorem crK_path {ns : List Node} {a : Nat} (ha : a < ns.length) (s : ByteArray) (i : Nat) : ∀ k, i + k ≤ s.size → ∀ b, b ∈ spreadF ns (crK ns (a : Int) s i k) ↔ Path ns a (bytesK s i k) b
  | 0, _, b => by
    obtain ⟨h1, h2⟩ := crK_ok ns (a : Int) s i 0
    rw [spreadF_mem h1 h2]
    have e : crK ns (a : Int) s i 0 = [a] := by
      unfold crK enterF
      rw [if_pos ⟨by omega, by omega, by simp⟩]; simp
    rw [e]; simp [bytesK]
  | k + 1, hk, b => by
    obtain ⟨h1, h2⟩ := crK_ok ns (a : Int) s i (k + 1)
    rw [spreadF_mem h1 h2]
    have hlt : i + k < s.size := by omega
    have ih := crK_path ha s i k (by omega)
    have e : bytesK s i (k + 1) = bytesK s i k ++ [s[i + k].toNat] := by
      show bytesK s i k ++ _ = _
      rw [dif_pos hlt]
    rw [e, Path.snoc]
    have hm : ∀ m, m ∈ crK ns (a : Int) s i (k + 1) ↔ ∃ p, Path ns a (bytesK s i k) p ∧ Step ns (some s[i + k].toNat) p m := fun m => by
      show m ∈ nextL ns s (i + k) (spreadF ns (crK ns (a : Int) s i k)) ↔ _
      unfold nextL
      rw [dif_pos hlt, stepF_mem _ _ (by simp)]
      simp only [List.not_mem_nil, false_or]
      constructor
      · rintro ⟨p, q1, q2⟩; exact ⟨p, (ih p).1 q1, q2⟩
      · rintro ⟨p, q1, q2⟩; exact ⟨p, (ih p).2 q1, q2⟩
    constructor
    · rintro ⟨m, q1, q2⟩
      obtain ⟨p, q3, q4⟩ := (hm m).1 q1
      exact ⟨p, m, q3, q4, q2⟩
    · rintro ⟨p, m, q3, q4, q2⟩
      exact ⟨m, (hm m).2 ⟨p, q3, q4⟩, q2⟩
/-- The crowd takes just what a path reads. -/
theorem accK_path {ns : List Node} {a e : Nat} (ha : a < ns.length) (he : e < ns.length) (s : ByteArray) (i k : Nat) (hk : i + k ≤ s.size) : accK ns (a : Int) (e : Int) s i k = true ↔ Path ns a (bytesK s i k) e := by
  rw [← crK_path ha s i k hk]
  unfold accK holdsB
  simp [he]
end Go.Proofs.Ytjcknghdgfcboaa
namespace Go.Proofs.Ytjcknghdgfcboaa
open Go.RowKit
set_option linter.unusedVariables false
set_option linter.unusedSimpArgs false

/-- A run inside a part that no step leaves is a run of the other nodes too. -/
theorem Run.stay {ns ns' : List Node} {S : Nat → Prop} (h : ∀ x, S x → ∀ o y, Step ns' o x y → Step ns o x y ∧ S y) : ∀ (r : List (Option Nat)) (x z : Nat), S x → Run ns' r x z → Run ns r x z ∧ S z
  | [], x, z, hx, hr => by cases hr; exact ⟨rfl, hx⟩
  | o :: r, x, z, hx, ⟨m, h1, h2⟩ => by
    obtain ⟨k1, k2⟩ := h x hx o m h1
    obtain ⟨k3, k4⟩ := Run.stay h r m z k2 h2
    exact ⟨⟨m, k1, k3⟩, k4⟩
theorem Path.stay {ns ns' : List Node} {S : Nat → Prop} (h : ∀ x, S x → ∀ o y, Step ns' o x y → Step ns o x y ∧ S y) {x z : Nat} {w : List Nat} (hx : S x) (hp : Path ns' x w z) : Path ns x w z ∧ S z := by
  obtain ⟨r, h1, h2⟩ := hp
  obtain ⟨k1, k2⟩ := Run.stay h r x z hx h1
  exact ⟨⟨r, k1, h2⟩, k2⟩
/-- Out of a part there is one way: its end, and a step without a byte from there. -/
theorem Run.exit {ns ns' : List Node} {S : Nat → Prop} {e : Nat} (h : ∀ x, S x → x ≠ e → ∀ o y, Step ns' o x y → Step ns o x y ∧ S y) (he : ∀ o y, Step ns' o e y → o = none) :
    ∀ (r : List (Option Nat)) (x z : Nat), S x → ¬ S z → Run ns' r x z → ∃ r1 t r2, r = r1 ++ none :: r2 ∧ Run ns r1 x e ∧ Step ns' none e t ∧ Run ns' r2 t z
  | [], x, z, hx, hz, hr => by cases hr; exact absurd hx hz
  | o :: r, x, z, hx, hz, ⟨m, h1, h2⟩ => by
    by_cases q : x = e
    · subst q
      have ho := he o m h1
      subst ho
      exact ⟨[], m, r, rfl, rfl, h1, h2⟩
    · obtain ⟨k1, k2⟩ := h x hx q o m h1
      obtain ⟨r1, t, r2, e1, e2, e3, e4⟩ := Run.exit h he r m z k2 hz h2
      exact ⟨o :: r1, t, r2, by rw [e1]; rfl, ⟨m, k1, e2⟩, e3, e4⟩
theorem Path.exit {ns ns' : List Node} {S : Nat → Prop} {e : Nat} (h : ∀ x, S x → x ≠ e → ∀ o y, Step ns' o x y → Step ns o x y ∧ S y) (he : ∀ o y, Step ns' o e y → o = none) {x z : Nat} {w : List Nat} (hx : S x) (hz : ¬ S z) (hp : Path ns' x w z) :
    ∃ u v t, w = u ++ v ∧ Path ns x u e ∧ Step ns' none e t ∧ Path ns' t v z := by
  obtain ⟨r, h1, h2⟩ := hp
  obtain ⟨r1, t, r2, e1, e2, e3, e4⟩ := Run.exit h he r x z hx hz h1
  refine ⟨r1.filterMap id, r2.filterMap id, t, ?_, ⟨r1, e2, rfl⟩, e3, ⟨r2, e4, rfl⟩⟩
  rw [← h2, e1, List.filterMap_append]; rfl
/-- Steps alone say where the paths lead. -/
theorem Path.mono {ns ns' : List Node} {S : Nat → Prop} (h : ∀ x, S x → ∀ o y, Step ns o x y → Step ns' o x y ∧ S y) {x z : Nat} {w : List Nat} (hx : S x) (hp : Path ns x w z) : Path ns' x w z :=
  (Path.stay h hx hp).1

/-- languages -/
abbrev Lang := List Nat → Prop
def Lang.cat (A B : Lang) : Lang := fun w => ∃ u v, w = u ++ v ∧ A u ∧ B v
def Lang.alt (A B : Lang) : Lang := fun w => A w ∨ B w
def Lang.star (A : Lang) : Lang := fun w => ∃ ws : List (List Nat), (∀ u ∈ ws, A u) ∧ w = ws.flatten
def Lang.byte (P : Nat → Prop) : Lang := fun w => ∃ c, P c ∧ w = [c]
/-- A fragment: its nodes are those from lo on up to hi; it begins at a, ends at e, which leads nowhere as yet; no step leaves it; from a to e one reads just L. -/
structure Frg (ns : List Node) (lo hi a e : Nat) (L : Lang) : Prop where
  bd : hi ≤ ns.length
  ia : lo ≤ a ∧ a < hi
  ie : lo ≤ e ∧ e < hi
  en : ns[e]? = some plainNode
  nb : ∀ x, lo ≤ x → x < hi → ∀ nd, ns[x]? = some nd → (nd.next = -1 ∨ (lo : Int) ≤ nd.next ∧ nd.next < hi) ∧ (nd.other = -1 ∨ (lo : Int) ≤ nd.other ∧ nd.other < hi)
  lg : ∀ w, Path ns a w e ↔ L w
theorem Frg.cl {ns : List Node} {lo hi a e : Nat} {L : Lang} (h : Frg ns lo hi a e L) (x : Nat) (h1 : lo ≤ x) (h2 : x < hi) (o : Option Nat) (y : Nat) (st : Step ns o x y) : lo ≤ y ∧ y < hi := by
  obtain ⟨nd, q1, q2, q3⟩ := st
  obtain ⟨n1, n2⟩ := h.nb x h1 h2 nd q1
  cases o with
  | none => rcases q3.2 with q | q <;> omega
  | some c => have := q3.2.2; omega
/-- A fragment stays one where its own nodes stay. -/
theorem Frg.keep {ns ns' : List Node} {lo hi a e : Nat} {L : Lang} (h : Frg ns lo hi a e L) (hl : hi ≤ ns'.length) (hk : ∀ x, lo ≤ x → x < hi → ns'[x]? = ns[x]?) : Frg ns' lo hi a e L := by
  have s1 : ∀ x, (lo ≤ x ∧ x < hi) → ∀ o y, Step ns' o x y → Step ns o x y ∧ (lo ≤ y ∧ y < hi) := fun x hx o y ⟨nd, q1, q2, q3⟩ => by
    rw [hk x hx.1 hx.2] at q1
    obtain ⟨n1, n2⟩ := h.nb x hx.1 hx.2 nd q1
    have hy : y < hi := by
      cases o with
      | none => rcases q3.2 with q | q <;> omega
      | some c => have := q3.2.2; omega
    have st : Step ns o x y := ⟨nd, q1, by have := h.bd; omega, q3⟩
    exact ⟨st, h.cl x hx.1 hx.2 o y st⟩
  have s2 : ∀ x, (lo ≤ x ∧ x < hi) → ∀ o y, Step ns o x y → Step ns' o x y ∧ (lo ≤ y ∧ y < hi) := fun x hx o y st => by
    have hy := h.cl x hx.1 hx.2 o y st
    obtain ⟨nd, q1, q2, q3⟩ := st
    exact ⟨⟨nd, by rw [hk x hx.1 hx.2]; exact q1, by omega, q3⟩, hy⟩
  refine ⟨hl, h.ia, h.ie, by rw [hk e h.ie.1 h.ie.2]; exact h.en, fun x h1 h2 nd q => h.nb x h1 h2 nd (by rw [← hk x h1 h2]; exact q), fun w => ?_⟩
  rw [← h.lg w]
  exact ⟨fun q => (Path.stay s1 h.ia q).1, fun q => (Path.stay s2 h.ia q).1⟩
end Go.Proofs.Ytjcknghdgfcboaa
