import Derived.Test.YtcpgklcimacngaaGreatRa2
import Derived.Test.YtcpgklcimacngaaGreatMu7
namespace Go.Proofs.YtcpgklcimacngaaGreat
open Go.RowKit
set_option linter.unusedVariables false
set_option linter.unusedSimpArgs false

/-- a production in numbers: its head, its symbols -/
abbrev Q1 := Int × List Int
def codesOf (R : Nat) (ps : List Pr) : List Q1 := ps.map fun p => (p.head, p.syms.map (codeS R))
def wellB (base : Int) (rules : Bool) (out : List Bool) (c : Int) : Bool := (decide (c - base < 0) && rules) || (decide (0 ≤ c - base) && out.getD (c - base).toNat false)
def derP (base : Int) (rules : Bool) (out : List Bool) : List Q1 → List Bool → List Bool
  | [], next => next
  | x :: r, next => derP base rules out r (next.set x.1.toNat (next.getD x.1.toNat false || x.2.all (wellB base rules out)))
def derN (base : Int) (rules : Bool) (q : List Q1) : Nat → List Bool → List Bool
  | 0, out => out
  | n + 1, out => derN base rules q n (derP base rules out q out)
def derF (base : Int) (rules : Bool) (q : List Q1) (H : Nat) : List Bool := derN base rules q H (List.replicate H false)
def nothF (base : Int) (null : List Bool) (l : List Int) : Bool := l.all fun c => decide (0 ≤ c - base) && null.getD (c - base).toNat false
section
variable {ps : List Pr} {R H : Nat}
theorem code_head {s : Sy} (hb : s.isH = true) : codeS R s - ((R : Int) + 1) = s.num := by unfold codeS; rw [hb, if_pos rfl]; omega
theorem code_rule {s : Sy} (hb : s.isH = false) : codeS R s = s.num := by unfold codeS; rw [hb, if_neg (by simp)]
theorem derP_len (base : Int) (rules : Bool) (out : List Bool) : ∀ (q : List Q1) (next : List Bool), (derP base rules out q next).length = next.length
  | [], _ => rfl
  | x :: r, next => by unfold derP; rw [derP_len base rules out r, List.length_set]
theorem derP_at (base : Int) (rules : Bool) (out : List Bool) (h : Nat) : ∀ (q : List Q1) (next : List Bool), (∀ x ∈ q, 0 ≤ x.1 ∧ x.1 < next.length) →
    (derP base rules out q next).getD h false = (next.getD h false || q.any fun x => x.1 == (h : Int) && x.2.all (wellB base rules out))
  | [], next, _ => by simp [derP]
  | x :: r, next, hq => by
    have hx := hq x (by simp)
    unfold derP
    rw [derP_at base rules out h r _ (fun y hy => by rw [List.length_set]; exact hq y (by simp [hy])), getD_set _ _ _ _ _ (by omega), List.any_cons]
    by_cases e : h = x.1.toNat
    · rw [if_pos e]
      have e2 : (x.1 == (h : Int)) = true := by rw [beq_iff_eq]; omega
      rw [e2, e, Bool.true_and, Bool.or_assoc]
    · rw [if_neg e]
      have e2 : (x.1 == (h : Int)) = false := by rw [beq_eq_false_iff_ne]; omega
      rw [e2, Bool.false_and, Bool.false_or]
theorem well_is {out : List Bool} {rules : Bool} {s : Sy} (hv : 0 ≤ s.num ∧ s.num < (if s.isH then (H : Int) else R)) : wellB ((R : Int) + 1) rules out (codeS R s) = if s.isH then out.getD s.num.toNat false else rules := by
  unfold wellB
  cases hb : s.isH
  · rw [hb, if_neg (by simp)] at hv
    rw [code_rule hb, if_neg (by simp), decide_eq_true (by omega), decide_eq_false (by omega)]; simp
  · rw [code_head hb, if_pos rfl, decide_eq_false (by omega), decide_eq_true (by omega)]; simp
theorem codes_in (hT : TabOk ps R H) : ∀ x ∈ codesOf R ps, 0 ≤ x.1 ∧ x.1 < H := by
  intro x hx
  unfold codesOf at hx
  rw [List.mem_map] at hx
  obtain ⟨p, hp, rfl⟩ := hx
  exact hT.hd p hp
/-- round by round: what a height gives -/
theorem derN_is (hT : TabOk ps R H) {rules : Bool} {D : Nat → Int → Bool} (hm : ∀ n X, D n X = true → D (n + 1) X = true)
    (hD : ∀ n X, D (n + 1) X = ps.any fun p => p.head == X && p.syms.all fun s => if s.isH then D n s.num else rules) : ∀ (n m : Nat) (out : List Bool), out.length = H → (∀ h : Nat, h < H → out.getD h false = D m h) →
    (derN ((R : Int) + 1) rules (codesOf R ps) n out).length = H ∧ ∀ h : Nat, h < H → (derN ((R : Int) + 1) rules (codesOf R ps) n out).getD h false = D (m + n) h
  | 0, m, out, hl, h => ⟨hl, h⟩
  | n + 1, m, out, hl, h => by
    unfold derN
    have := derN_is hT hm hD n (m + 1) (derP ((R : Int) + 1) rules out (codesOf R ps) out) (by rw [derP_len]; exact hl) (fun k hk => by
      rw [derP_at _ _ _ _ _ _ (by rw [hl]; exact codes_in hT), h k hk, hD]
      have e : (codesOf R ps).any (fun x => x.1 == (k : Int) && x.2.all (wellB ((R : Int) + 1) rules out)) = ps.any fun p => p.head == (k : Int) && p.syms.all fun s => if s.isH then D m s.num else rules := by
        unfold codesOf
        rw [List.any_map]
        refine any_congr' (fun p hp => ?_)
        dsimp only [Function.comp]
        congr 1
        rw [List.all_map]
        refine all_congr' (fun s hs => ?_)
        dsimp only [Function.comp]
        have hv := hT.sy p hp s hs
        rw [well_is hv]
        cases hb : s.isH
        · simp
        · rw [hb, if_pos rfl] at hv
          rw [if_pos rfl, if_pos rfl, h s.num.toNat (by omega), show ((s.num.toNat : Nat) : Int) = s.num by omega]
      rw [e, ← hD]
      cases c : D m (k : Int)
      · simp
      · rw [hm m _ c]; simp)
    rw [show m + (n + 1) = m + 1 + n by omega]
    exact this
theorem derF_null (hT : TabOk ps R H) : (derF ((R : Int) + 1) false (codesOf R ps) H).length = H ∧ ∀ h : Nat, h < H → (derF ((R : Int) + 1) false (codesOf R ps) H).getD h false = NS ps H h := by
  have := derN_is hT (rules := false) (D := NS ps) (NS_mono ps) (fun n X => by
    rw [NS]
    refine any_congr' (fun p hp => ?_)
    congr 1
    refine all_congr' (fun s hs => ?_)
    cases s.isH <;> simp) H 0 (List.replicate H false) (by simp) (fun h hh => by rw [List.getD_eq_getElem?_getD]; simp [hh, NS])
  rw [Nat.zero_add] at this
  exact this
theorem derF_fru (hT : TabOk ps R H) : (derF ((R : Int) + 1) true (codesOf R ps) H).length = H ∧ ∀ h : Nat, h < H → (derF ((R : Int) + 1) true (codesOf R ps) H).getD h false = US ps H h := by
  have := derN_is hT (rules := true) (D := US ps) us_mono (fun n X => by
    rw [US]
    refine any_congr' (fun p hp => ?_)
    congr 1
    refine all_congr' (fun s hs => ?_)
    cases s.isH <;> simp) H 0 (List.replicate H false) (by simp) (fun h hh => by rw [List.getD_eq_getElem?_getD]; simp [hh, US])
  rw [Nat.zero_add] at this
  exact this
/-- which heads may be empty, as a row -/
structure NullIs (ps : List Pr) (H : Nat) (null : List Bool) : Prop where
  len : null.length = H
  at' : ∀ h : Nat, h < H → null.getD h false = NS ps H h
theorem noth_is {null : List Bool} (hn : NullIs ps H null) {l : List Sy} (hv : ∀ s ∈ l, 0 ≤ s.num ∧ s.num < (if s.isH then (H : Int) else R)) : nothF ((R : Int) + 1) null (l.map (codeS R)) = l.all (nulS (NS ps H)) := by
  unfold nothF
  rw [List.all_map]
  refine all_congr' (fun s hs => ?_)
  dsimp only [Function.comp]
  have h := hv s hs
  unfold nulS
  cases hb : s.isH
  · rw [hb, if_neg (by simp)] at h
    rw [code_rule hb, decide_eq_false (by omega)]; simp
  · rw [hb, if_pos rfl] at h
    rw [code_head hb, decide_eq_true (by omega), hn.at' s.num.toNat (by omega), show ((s.num.toNat : Nat) : Int) = s.num by omega]
end
end Go.Proofs.YtcpgklcimacngaaGreat
namespace Go.Proofs.YtcpgklcimacngaaGreat
open Go.RowKit
set_option linter.unusedVariables false
set_option linter.unusedSimpArgs false

/-- one step from node to node: without a byte, or reading one -/
def Step (ns : List Node) (o : Option Nat) (a b : Nat) : Prop :=
  ∃ x, ns[a]? = some x ∧ b < ns.length ∧ match o with
    | none => x.reads = false ∧ ((b : Int) = x.next ∨ (b : Int) = x.other)
    | some c => x.reads = true ∧ hasB x.set c = true ∧ (b : Int) = x.next
def Run (ns : List Node) : List (Option Nat) → Nat → Nat → Prop
  | [], a, b => a = b
  | o :: r, a, b => ∃ m, Step ns o a m ∧ Run ns r m b
/-- from a to b, reading w -/
def Path (ns : List Node) (a : Nat) (w : List Nat) (b : Nat) : Prop := ∃ r, Run ns r a b ∧ r.filterMap id = w
theorem Run.append {ns : List Node} : ∀ {r q : List (Option Nat)} {a b c : Nat}, Run ns r a b → Run ns q b c → Run ns (r ++ q) a c
  | [], _, _, _, _, h, k => by cases h; exact k
  | _ :: _, _, _, _, _, ⟨m, h1, h2⟩, k => ⟨m, h1, h2.append k⟩
theorem Run.split {ns : List Node} : ∀ {r q : List (Option Nat)} {a c : Nat}, Run ns (r ++ q) a c → ∃ b, Run ns r a b ∧ Run ns q b c
  | [], _, a, _, h => ⟨a, rfl, h⟩
  | _ :: _, _, _, _, ⟨m, h1, h2⟩ => by
    obtain ⟨b, k1, k2⟩ := h2.split
    exact ⟨b, ⟨m, h1, k1⟩, k2⟩
theorem Path.refl (ns : List Node) (a : Nat) : Path ns a [] a := ⟨[], rfl, rfl⟩
theorem Path.trans {ns : List Node} {a b c : Nat} {u v : List Nat} (h : Path ns a u b) (k : Path ns b v c) : Path ns a (u ++ v) c := by
  obtain ⟨r, h1, h2⟩ := h
  obtain ⟨q, k1, k2⟩ := k
  exact ⟨r ++ q, h1.append k1, by rw [List.filterMap_append, h2, k2]⟩
theorem Path.eps {ns : List Node} {a b : Nat} (h : Step ns none a b) : Path ns a [] b := ⟨[none], ⟨b, h, rfl⟩, rfl⟩
theorem Path.byte {ns : List Node} {a b c : Nat} (h : Step ns (some c) a b) : Path ns a [c] b := ⟨[some c], ⟨b, h, rfl⟩, rfl⟩

theorem mem_enter {n : Nat} {l : List Nat} {m : Int} {x : Nat} (hl : ∀ y ∈ l, y < n) : x ∈ enterF n l m ↔ x ∈ l ∨ (x < n ∧ (x : Int) = m) := by
  unfold enterF
  split
  · rename_i h
    rw [List.mem_append, List.mem_singleton]
    constructor
    · rintro (h1 | rfl)
      · exact .inl h1
      · exact .inr ⟨by omega, by omega⟩
    · rintro (h1 | ⟨_, h1⟩)
      · exact .inl h1
      · exact .inr (by omega)
  · rename_i h
    constructor
    · exact .inl
    · rintro (h1 | ⟨h1, h2⟩)
      · exact h1
      · rcases Classical.em (m.toNat ∈ l) with q | q
        · rwa [show m.toNat = x by omega] at q
        · exact absurd ⟨by omega, by omega, q⟩ h
theorem enter_pre (n : Nat) (l : List Nat) (m : Int) : ∃ t, enterF n l m = l ++ t := by
  unfold enterF; split
  · exact ⟨_, rfl⟩
  · exact ⟨[], by simp⟩
/-- the spread: what it holds, and that it is closed -/
theorem spreadL_spec (ns : List Node) : ∀ (f i : Nat) (l : List Nat), l.Nodup → (∀ x ∈ l, x < ns.length) → ns.length + 1 ≤ f + i → i ≤ l.length →
    (∀ j (hj : j < l.length), j < i → ∀ b, Step ns none l[j] b → b ∈ l) →
    (∀ x ∈ l, x ∈ spreadL ns f i l) ∧ (∀ x ∈ spreadL ns f i l, x < ns.length) ∧ (∀ x ∈ spreadL ns f i l, ∃ a ∈ l, Path ns a [] x) ∧ (∀ x ∈ spreadL ns f i l, ∀ b, Step ns none x b → b ∈ spreadL ns f i l)
  | 0, i, l, hd, hl, hf, hi, hc => by
    have h1 : l.length ≤ ns.length := nodup_len hd hl
    omega
  | f + 1, i, l, hd, hl, hf, hi, hc => by
    unfold spreadL
    by_cases h : i < l.length
    · rw [dif_pos h]
      have hlt : l[i] < ns.length := hl _ (List.getElem_mem h)
      rw [List.getElem?_eq_getElem hlt]
      simp only []
      by_cases hr : ns[l[i]].reads = true
      · rw [if_pos hr]
        refine spreadL_spec ns f (i + 1) l hd hl (by omega) (by omega) (fun j hj hji b hs => ?_)
        by_cases e : j = i
        · subst e
          obtain ⟨x, hx, _, hx2, _⟩ := hs
          rw [List.getElem?_eq_getElem hlt] at hx
          have : ns[l[j]] = x := by simpa using hx
          rw [this] at hr; rw [hr] at hx2; cases hx2
        · exact hc j hj (by omega) b hs
      · rw [if_neg hr]
        have hr' : ns[l[i]].reads = false := by simpa using hr
        have hl1 := enterF_lt ns[l[i]].next hl
        have hl2 := enterF_lt ns[l[i]].other hl1
        obtain ⟨t1, e1⟩ := enter_pre ns.length l ns[l[i]].next
        obtain ⟨t2, e2⟩ := enter_pre ns.length (enterF ns.length l ns[l[i]].next) ns[l[i]].other
        have ee : enterF ns.length (enterF ns.length l ns[l[i]].next) ns[l[i]].other = l ++ (t1 ++ t2) := by rw [e2, e1, List.append_assoc]
        have hm : ∀ x, x ∈ enterF ns.length (enterF ns.length l ns[l[i]].next) ns[l[i]].other ↔ x ∈ l ∨ Step ns none l[i] x := fun x => by
          rw [mem_enter hl1, mem_enter hl]
          constructor
          · rintro ((q | ⟨q1, q2⟩) | ⟨q1, q2⟩)
            · exact .inl q
            · exact .inr ⟨_, List.getElem?_eq_getElem hlt, q1, hr', .inl q2⟩
            · exact .inr ⟨_, List.getElem?_eq_getElem hlt, q1, hr', .inr q2⟩
          · rintro (q | ⟨y, q1, q2, q3, q4⟩)
            · exact .inl (.inl q)
            · rw [List.getElem?_eq_getElem hlt] at q1
              have : ns[l[i]] = y := by simpa using q1
              subst this
              rcases q4 with q4 | q4
              · exact .inl (.inr ⟨q2, q4⟩)
              · exact .inr ⟨q2, q4⟩
        obtain ⟨r1, r2, r3, r4⟩ := spreadL_spec ns f (i + 1) _ (enterF_nodup _ (enterF_nodup _ hd)) hl2 (by omega) (by rw [ee]; simp; omega) (fun j hj hji b hs => by
          have hjl : j < l.length := by omega
          have ej : (enterF ns.length (enterF ns.length l ns[l[i]].next) ns[l[i]].other)[j] = l[j] := by simp only [ee]; rw [List.getElem_append_left hjl]
          rw [ej] at hs
          rw [hm]
          by_cases e : j = i
          · subst e; exact .inr hs
          · exact .inl (hc j hjl (by omega) b hs))
        refine ⟨fun x hx => r1 x ((hm x).2 (.inl hx)), r2, fun x hx => ?_, r4⟩
        obtain ⟨a, ha, hp⟩ := r3 x hx
        rcases (hm a).1 ha with q | q
        · exact ⟨a, q, hp⟩
        · exact ⟨l[i], List.getElem_mem h, by simpa using (Path.eps q).trans hp⟩
    · rw [dif_neg h]
      exact ⟨fun x hx => hx, hl, fun x hx => ⟨x, hx, Path.refl ns x⟩, fun x hx b hs => by
        obtain ⟨j, hj, rfl⟩ := List.getElem_of_mem hx
        exact hc j hj (by omega) b hs⟩
theorem spreadF_mem {ns : List Node} {l : List Nat} (hd : l.Nodup) (hl : ∀ x ∈ l, x < ns.length) (b : Nat) : b ∈ spreadF ns l ↔ ∃ a ∈ l, Path ns a [] b := by
  obtain ⟨h1, h2, h3, h4⟩ := spreadL_spec ns (ns.length + 1) 0 l hd hl (by omega) (by omega) (fun j hj h => by omega)
  refine ⟨h3 b, fun ⟨a, ha, r, hr, he⟩ => ?_⟩
  have go : ∀ (r : List (Option Nat)) (a : Nat), a ∈ spreadF ns l → Run ns r a b → r.filterMap id = [] → b ∈ spreadF ns l := by
    intro r
    induction r with
    | nil => intro a ha hr _; cases hr; exact ha
    | cons o r ih =>
      intro a ha hr he
      obtain ⟨m, k1, k2⟩ := hr
      cases o with
      | none => exact ih m (h4 a ha m k1) k2 (by simpa using he)
      | some c => simp at he
  exact go r a (h1 a ha) hr he
theorem stepF_mem {ns : List Node} {c : Nat} : ∀ (l acc : List Nat), (∀ x ∈ acc, x < ns.length) → ∀ b, b ∈ stepF ns c l acc ↔ b ∈ acc ∨ ∃ a ∈ l, Step ns (some c) a b
  | [], acc, _, b => by simp [stepF]
  | m :: l, acc, ha, b => by
    unfold stepF
    rw [List.foldl_cons]
    have hlt : ∀ x ∈ stepOne ns c acc m, x < ns.length := by
      unfold stepOne
      split
      · split
        · exact enterF_lt _ ha
        · exact ha
      · exact ha
    have ih := stepF_mem (ns := ns) (c := c) l (stepOne ns c acc m) hlt b
    unfold stepF at ih
    rw [ih]
    have hone : b ∈ stepOne ns c acc m ↔ b ∈ acc ∨ Step ns (some c) m b := by
      unfold stepOne Step
      cases hq : ns[m]? with
      | none => simp
      | some nd =>
        simp only [Option.some.injEq]
        split
        · rename_i h
          rw [Bool.and_eq_true] at h
          rw [mem_enter ha]
          constructor
          · rintro (q | ⟨q1, q2⟩)
            · exact .inl q
            · exact .inr ⟨nd, rfl, q1, h.1, h.2, q2⟩
          · rintro (q | ⟨x, rfl, q1, _, _, q2⟩)
            · exact .inl q
            · exact .inr ⟨q1, q2⟩
        · rename_i h
          constructor
          · exact .inl
          · rintro (q | ⟨x, rfl, q1, q3, q4, q2⟩)
            · exact q
            · exact absurd (by rw [q3, q4]; rfl) h
    rw [hone]
    simp only [List.mem_cons, exists_eq_or_imp]
    exact or_assoc
end Go.Proofs.YtcpgklcimacngaaGreat
namespace Go.Proofs.YtcpgklcimacngaaGreat
open Go.RowKit
set_option linter.unusedVariables false
set_option linter.unusedSimpArgs false

theorem stepF_ok {ns : List Node} {c : Nat} : ∀ (l acc : List Nat), acc.Nodup → (∀ x ∈ acc, x < ns.length) → (stepF ns c l acc).Nodup ∧ ∀ x ∈ stepF ns c l acc, x < ns.length
  | [], acc, h1, h2 => ⟨h1, h2⟩
  | m :: l, acc, h1, h2 => by
    unfold stepF
    rw [List.foldl_cons]
    refine stepF_ok l (stepOne ns c acc m) ?_ ?_
    · unfold stepOne
      split
      · split
        · exact enterF_nodup _ h1
        · exact h1
      · exact h1
    · unfold stepOne
      split
      · split
        · exact enterF_lt _ h2
        · exact h2
      · exact h2
theorem crK_ok (ns : List Node) (st : Int) (s : ByteArray) (i : Nat) : ∀ k, (crK ns st s i k).Nodup ∧ ∀ x ∈ crK ns st s i k, x < ns.length
  | 0 => by
    unfold crK
    exact ⟨enterF_nodup _ List.nodup_nil, enterF_lt _ (by simp)⟩
  | k + 1 => by
    unfold crK nextL
    split
    · exact stepF_ok _ _ List.nodup_nil (by simp)
    · simp
/-- the k bytes from i on -/
def bytesK (s : ByteArray) (i : Nat) : Nat → List Nat
  | 0 => []
  | k + 1 => bytesK s i k ++ (if h : i + k < s.size then [s[i + k].toNat] else [])
theorem Path.snoc {ns : List Node} {a b : Nat} {u : List Nat} {c : Nat} : Path ns a (u ++ [c]) b ↔ ∃ p m, Path ns a u p ∧ Step ns (some c) p m ∧ Path ns m [] b := by
  constructor
  · rintro ⟨r, h1, h2⟩
    rw [List.filterMap_eq_append_iff] at h2
    obtain ⟨r1, r2, rfl, e1, e2⟩ := h2
    rw [List.filterMap_eq_cons_iff] at e2
    obtain ⟨q1, o, q2, rfl, k1, k2, k3⟩ := e2
    obtain ⟨x, hx1, hx2⟩ := h1.split
    obtain ⟨y, hy1, hy2⟩ := hx2.split
    obtain ⟨m, hm1, hm2⟩ := hy2
    have ho : o = some c := k2
    subst ho
    refine ⟨y, m, ⟨r1 ++ q1, hx1.append hy1, ?_⟩, hm1, ⟨q2, hm2, k3⟩⟩
    rw [List.filterMap_append, e1]
    have : q1.filterMap id = [] := by
      rw [List.filterMap_eq_nil_iff]; exact k1
    rw [this, List.append_nil]
  · rintro ⟨p, m, h1, h2, h3⟩
    have := (h1.trans (Path.byte h2)).trans h3
    simpa using this
theorem crK_path {ns : List Node} {a : Nat} (ha : a < ns.length) (s : ByteArray) (i : Nat) : ∀ k, i + k ≤ s.size → ∀ b, b ∈ spreadF ns (crK ns (a : Int) s i k) ↔ Path ns a (bytesK s i k) b
  | 0, _, b => by
    obtain ⟨h1, h2⟩ := crK_ok ns (a : Int) s i 0
    rw [spreadF_mem h1 h2]
    have e : crK ns (a : Int) s i 0 = [a] := by
      unfold crK enterF
      rw [if_pos ⟨by omega, by omega, by simp⟩]; simp
    rw [e]; simp [bytesK]
  | k + 1, hk, b => by
    obtain ⟨h1, h2⟩ := crK_ok ns (a : Int) s i (k + 1)
    rw [spreadF_mem h1 h2]
    have hlt : i + k < s.size := by omega
    have ih := crK_path ha s i k (by omega)
    have e : bytesK s i (k + 1) = bytesK s i k ++ [s[i + k].toNat] := by
      show bytesK s i k ++ _ = _
      rw [dif_pos hlt]
    rw [e, Path.snoc]
    have hm : ∀ m, m ∈ crK ns (a : Int) s i (k + 1) ↔ ∃ p, Path ns a (bytesK s i k) p ∧ Step ns (some s[i + k].toNat) p m := fun m => by
      show m ∈ nextL ns s (i + k) (spreadF ns (crK ns (a : Int) s i k)) ↔ _
      unfold nextL
      rw [dif_pos hlt, stepF_mem _ _ (by simp)]
      simp only [List.not_mem_nil, false_or]
      constructor
      · rintro ⟨p, q1, q2⟩; exact ⟨p, (ih p).1 q1, q2⟩
      · rintro ⟨p, q1, q2⟩; exact ⟨p, (ih p).2 q1, q2⟩
    constructor
    · rintro ⟨m, q1, q2⟩
      obtain ⟨p, q3, q4⟩ := (hm m).1 q1
      exact ⟨p, m, q3, q4, q2⟩
    · rintro ⟨p, m, q3, q4, q2⟩
      exact ⟨m, (hm m).2 ⟨p, q3, q4⟩, q2⟩
/-- The crowd takes just what a path reads. -/
theorem accK_path {ns : List Node} {a e : Nat} (ha : a < ns.length) (he : e < ns.length) (s : ByteArray) (i k : Nat) (hk : i + k ≤ s.size) : accK ns (a : Int) (e : Int) s i k = true ↔ Path ns a (bytesK s i k) e := by
  rw [← crK_path ha s i k hk]
  unfold accK holdsB
  simp [he]
end Go.Proofs.YtcpgklcimacngaaGreat
namespace Go.Proofs.YtcpgklcimacngaaGreat
open Go.RowKit
set_option linter.unusedVariables false
set_option linter.unusedSimpArgs false

/-- A run inside a part that no step leaves is a run of the other nodes too. -/
theorem Run.stay {ns ns' : List Node} {S : Nat → Prop} (h : ∀ x, S x → ∀ o y, Step ns' o x y → Step ns o x y ∧ S y) : ∀ (r : List (Option Nat)) (x z : Nat), S x → Run ns' r x z → Run ns r x z ∧ S z
  | [], x, z, hx, hr => by cases hr; exact ⟨rfl, hx⟩
  | o :: r, x, z, hx, ⟨m, h1, h2⟩ => by
    obtain ⟨k1, k2⟩ := h x hx o m h1
    obtain ⟨k3, k4⟩ := Run.stay h r m z k2 h2
    exact ⟨⟨m, k1, k3⟩, k4⟩
theorem Path.stay {ns ns' : List Node} {S : Nat → Prop} (h : ∀ x, S x → ∀ o y, Step ns' o x y → Step ns o x y ∧ S y) {x z : Nat} {w : List Nat} (hx : S x) (hp : Path ns' x w z) : Path ns x w z ∧ S z := by
  obtain ⟨r, h1, h2⟩ := hp
  obtain ⟨k1, k2⟩ := Run.stay h r x z hx h1
  exact ⟨⟨r, k1, h2⟩, k2⟩
/-- Out of a part there is one way: its end, and a step without a byte from there. -/
theorem Run.exit {ns ns' : List Node} {S : Nat → Prop} {e : Nat} (h : ∀ x, S x → x ≠ e → ∀ o y, Step ns' o x y → Step ns o x y ∧ S y) (he : ∀ o y, Step ns' o e y → o = none) :
    ∀ (r : List (Option Nat)) (x z : Nat), S x → ¬ S z → Run ns' r x z → ∃ r1 t r2, r = r1 ++ none :: r2 ∧ Run ns r1 x e ∧ Step ns' none e t ∧ Run ns' r2 t z
  | [], x, z, hx, hz, hr => by cases hr; exact absurd hx hz
  | o :: r, x, z, hx, hz, ⟨m, h1, h2⟩ => by
    by_cases q : x = e
    · subst q
      have ho := he o m h1
      subst ho
      exact ⟨[], m, r, rfl, rfl, h1, h2⟩
    · obtain ⟨k1, k2⟩ := h x hx q o m h1
      obtain ⟨r1, t, r2, e1, e2, e3, e4⟩ := Run.exit h he r m z k2 hz h2
      exact ⟨o :: r1, t, r2, by rw [e1]; rfl, ⟨m, k1, e2⟩, e3, e4⟩
theorem Path.exit {ns ns' : List Node} {S : Nat → Prop} {e : Nat} (h : ∀ x, S x → x ≠ e → ∀ o y, Step ns' o x y → Step ns o x y ∧ S y) (he : ∀ o y, Step ns' o e y → o = none) {x z : Nat} {w : List Nat} (hx : S x) (hz : ¬ S z) (hp : Path ns' x w z) :
    ∃ u v t, w = u ++ v ∧ Path ns x u e ∧ Step ns' none e t ∧ Path ns' t v z := by
  obtain ⟨r, h1, h2⟩ := hp
  obtain ⟨r1, t, r2, e1, e2, e3, e4⟩ := Run.exit h he r x z hx hz h1
  refine ⟨r1.filterMap id, r2.filterMap id, t, ?_, ⟨r1, e2, rfl⟩, e3, ⟨r2, e4, rfl⟩⟩
  rw [← h2, e1, List.filterMap_append]; rfl
/-- Steps alone say where the paths lead. -/
theorem Path.mono {ns ns' : List Node} {S : Nat → Prop} (h : ∀ x, S x → ∀ o y, Step ns o x y → Step ns' o x y ∧ S y) {x z : Nat} {w : List Nat} (hx : S x) (hp : Path ns x w z) : Path ns' x w z :=
  (Path.stay h hx hp).1

/-- languages -/
abbrev Lang := List Nat → Prop
def Lang.cat (A B : Lang) : Lang := fun w => ∃ u v, w = u ++ v ∧ A u ∧ B v
def Lang.alt (A B : Lang) : Lang := fun w => A w ∨ B w
def Lang.byte (P : Nat → Prop) : Lang := fun w => ∃ c, P c ∧ w = [c]
/-- A fragment: its nodes are those from lo on up to hi; it begins at a, ends at e, which leads nowhere as yet; no step leaves it; from a to e one reads just L. -/
structure Frg (ns : List Node) (lo hi a e : Nat) (L : Lang) : Prop where
  bd : hi ≤ ns.length
  ia : lo ≤ a ∧ a < hi
  ie : lo ≤ e ∧ e < hi
  en : ns[e]? = some plainNode
  nb : ∀ x, lo ≤ x → x < hi → ∀ nd, ns[x]? = some nd → (nd.next = -1 ∨ (lo : Int) ≤ nd.next ∧ nd.next < hi) ∧ (nd.other = -1 ∨ (lo : Int) ≤ nd.other ∧ nd.other < hi)
  lg : ∀ w, Path ns a w e ↔ L w
theorem Frg.cl {ns : List Node} {lo hi a e : Nat} {L : Lang} (h : Frg ns lo hi a e L) (x : Nat) (h1 : lo ≤ x) (h2 : x < hi) (o : Option Nat) (y : Nat) (st : Step ns o x y) : lo ≤ y ∧ y < hi := by
  obtain ⟨nd, q1, q2, q3⟩ := st
  obtain ⟨n1, n2⟩ := h.nb x h1 h2 nd q1
  cases o with
  | none => rcases q3.2 with q | q <;> omega
  | some c => have := q3.2.2; omega
/-- A fragment stays one where its own nodes stay. -/
theorem Frg.keep {ns ns' : List Node} {lo hi a e : Nat} {L : Lang} (h : Frg ns lo hi a e L) (hl : hi ≤ ns'.length) (hk : ∀ x, lo ≤ x → x < hi → ns'[x]? = ns[x]?) : Frg ns' lo hi a e L := by
  have s1 : ∀ x, (lo ≤ x ∧ x < hi) → ∀ o y, Step ns' o x y → Step ns o x y ∧ (lo ≤ y ∧ y < hi) := fun x hx o y ⟨nd, q1, q2, q3⟩ => by
    rw [hk x hx.1 hx.2] at q1
    obtain ⟨n1, n2⟩ := h.nb x hx.1 hx.2 nd q1
    have hy : y < hi := by
      cases o with
      | none => rcases q3.2 with q | q <;> omega
      | some c => have := q3.2.2; omega
    have st : Step ns o x y := ⟨nd, q1, by have := h.bd; omega, q3⟩
    exact ⟨st, h.cl x hx.1 hx.2 o y st⟩
  have s2 : ∀ x, (lo ≤ x ∧ x < hi) → ∀ o y, Step ns o x y → Step ns' o x y ∧ (lo ≤ y ∧ y < hi) := fun x hx o y st => by
    have hy := h.cl x hx.1 hx.2 o y st
    obtain ⟨nd, q1, q2, q3⟩ := st
    exact ⟨⟨nd, by rw [hk x hx.1 hx.2]; exact q1, by omega, q3⟩, hy⟩
  refine ⟨hl, h.ia, h.ie, by rw [hk e h.ie.1 h.ie.2]; exact h.en, fun x h1 h2 nd q => h.nb x h1 h2 nd (by rw [← hk x h1 h2]; exact q), fun w => ?_⟩
  rw [← h.lg w]
  exact ⟨fun q => (Path.stay s1 h.ia q).1, fun q => (Path.stay s2 h.ia q).1⟩
end Go.Proofs.YtcpgklcimacngaaGreat
namespace Go.Proofs.YtcpgklcimacngaaGreat
open Go.RowKit
set_option linter.unusedVariables false
set_option linter.unusedSimpArgs false

/-- one byte of a set -/
theorem Frg.one (ns : List Node) (ws : List Int) : Frg (oneN ns ws) ns.length (ns.length + 2) (ns.length + 1) ns.length (Lang.byte fun c => hasB ws c = true) := by
  have l0 : (oneN ns ws).length = ns.length + 2 := by simp [oneN]
  have g0 : (oneN ns ws)[ns.length]? = some plainNode := by simp [oneN]
  have g1 : (oneN ns ws)[ns.length + 1]? = some (readNode ws ns.length) := by simp [oneN]
  have e0 : ∀ o y, ¬ Step (oneN ns ws) o ns.length y := fun o y ⟨nd, q1, q2, q3⟩ => by
    rw [g0] at q1
    have : plainNode = nd := by simpa using q1
    subst this
    cases o with
    | none => rcases q3.2 with q | q <;> (simp only [plainNode] at q; omega)
    | some c => have := q3.1; simp [plainNode] at this
  have e1 : ∀ o y, Step (oneN ns ws) o (ns.length + 1) y ↔ ∃ c, o = some c ∧ hasB ws c = true ∧ y = ns.length := fun o y => by
    constructor
    · rintro ⟨nd, q1, q2, q3⟩
      rw [g1] at q1
      have : readNode ws ns.length = nd := by simpa using q1
      subst this
      cases o with
      | none => have := q3.1; simp [readNode] at this
      | some c => exact ⟨c, rfl, q3.2.1, by have := q3.2.2; simp only [readNode] at this; omega⟩
    · rintro ⟨c, rfl, q1, rfl⟩
      exact ⟨_, g1, by omega, rfl, q1, rfl⟩
  refine ⟨by omega, by omega, by omega, g0, fun x h1 h2 nd hx => ?_, fun w => ?_⟩
  · rcases (show x = ns.length ∨ x = ns.length + 1 by omega) with rfl | rfl
    · rw [g0] at hx
      have : plainNode = nd := by simpa using hx
      subst this
      exact ⟨.inl rfl, .inl rfl⟩
    · rw [g1] at hx
      have : readNode ws ns.length = nd := by simpa using hx
      subst this
      exact ⟨.inr ⟨by simp [readNode], by simp only [readNode]; omega⟩, .inl rfl⟩
  · constructor
    · rintro ⟨r, h1, h2⟩
      cases r with
      | nil => have : ns.length + 1 = ns.length := h1; omega
      | cons o r =>
        obtain ⟨m, k1, k2⟩ := h1
        obtain ⟨c, rfl, q1, rfl⟩ := (e1 o m).1 k1
        cases r with
        | nil => exact ⟨c, q1, h2.symm⟩
        | cons o2 r =>
          obtain ⟨m2, k3, _⟩ := k2
          exact absurd k3 (e0 o2 m2)
    · rintro ⟨c, q1, rfl⟩
      exact Path.byte ((e1 _ _).2 ⟨c, rfl, q1, rfl⟩)

theorem linkN_at {ns : List Node} {e b : Nat} (he : ns[e]? = some plainNode) (x : Nat) : (linkN ns (e : Int) (b : Int))[x]? = if x = e then some { plainNode with next := (b : Int) } else ns[x]? := by
  have hl := (List.getElem?_eq_some_iff.1 he).1
  unfold linkN
  rw [if_neg (by omega), List.getElem?_modify]
  by_cases q : x = e
  · subst q
    simp [he, plainNode]
  · rw [if_neg q]
    have q2 : ¬ (e : Int).toNat = x := by omega
    simp only [q2, if_false]
    cases ns[x]? <;> rfl
/-- one behind the other -/
theorem Frg.join {ns : List Node} {lo mi hi a e b f : Nat} {A B : Lang} (h : Frg ns lo mi a e A) (k : Frg ns mi hi b f B) : Frg (linkN ns (e : Int) (b : Int)) lo hi a f (Lang.cat A B) := by
  have hln := linkN_len ns (e : Int) (b : Int)
  have hat := linkN_at (b := b) h.en
  have b1 := h.bd; have b2 := k.bd
  have i1 := h.ia; have i2 := h.ie; have i3 := k.ia; have i4 := k.ie
  have ee : (linkN ns (e : Int) (b : Int))[e]? = some { plainNode with next := (b : Int) } := by rw [hat, if_pos rfl]
  have K : Frg (linkN ns (e : Int) (b : Int)) mi hi b f B := k.keep (by omega) (fun x h1 h2 => by rw [hat, if_neg (by omega)])
  have hs : ∀ x, x ≠ e → ∀ o y, Step (linkN ns (e : Int) (b : Int)) o x y ↔ Step ns o x y := fun x hx o y => by
    unfold Step; rw [hat, if_neg hx, hln]
  have hes : ∀ o y, Step (linkN ns (e : Int) (b : Int)) o e y ↔ o = none ∧ y = b := fun o y => by
    constructor
    · rintro ⟨nd, q1, q2, q3⟩
      rw [ee] at q1
      have : { plainNode with next := (b : Int) } = nd := by simpa using q1
      subst this
      cases o with
      | none => rcases q3.2 with q | q
                · exact ⟨rfl, by simp only at q; omega⟩
                · simp only [plainNode] at q; omega
      | some c => have := q3.1; simp [plainNode] at this
    · rintro ⟨rfl, rfl⟩
      exact ⟨_, ee, by omega, rfl, .inl rfl⟩
  have ho : ∀ o y, ¬ Step ns o e y := fun o y ⟨nd, q1, q2, q3⟩ => by
    rw [h.en] at q1
    have : plainNode = nd := by simpa using q1
    subst this
    cases o with
    | none => rcases q3.2 with q | q <;> (simp only [plainNode] at q; omega)
    | some c => have := q3.1; simp [plainNode] at this
  refine ⟨by omega, by omega, by omega, K.en, fun x h1 h2 nd hx => ?_, fun w => ?_⟩
  · by_cases q : x = e
    · subst q
      rw [ee] at hx
      have : { plainNode with next := (b : Int) } = nd := by simpa using hx
      subst this
      exact ⟨.inr ⟨by simp only; omega, by simp only; omega⟩, .inl rfl⟩
    · rw [hat, if_neg q] at hx
      by_cases hm : x < mi
      · have := h.nb x h1 hm nd hx; omega
      · have := k.nb x (by omega) h2 nd hx; omega
  · constructor
    · intro hp
      obtain ⟨u, v, t, e1, e2, e3, e4⟩ := Path.exit (ns := ns) (S := fun x => lo ≤ x ∧ x < mi) (e := e) (fun x hx hne o y st => ⟨(hs x hne o y).1 st, h.cl x hx.1 hx.2 o y ((hs x hne o y).1 st)⟩) (fun o y st => ((hes o y).1 st).1) h.ia (by omega) hp
      obtain ⟨_, rfl⟩ := (hes _ _).1 e3
      exact ⟨u, v, e1, (h.lg u).1 e2, (K.lg v).1 e4⟩
    · rintro ⟨u, v, rfl, q1, q2⟩
      have p1 := (h.lg u).2 q1
      have p1' : Path (linkN ns (e : Int) (b : Int)) a u e := Path.mono (ns := ns) (S := fun _ => True) (fun x _ o y st => ⟨(hs x (fun q => by subst q; exact ho o y st) o y).2 st, trivial⟩) trivial p1
      have := (p1'.trans (Path.eps ((hes none b).2 ⟨rfl, rfl⟩))).trans ((K.lg v).2 q2)
      simpa using this
end Go.Proofs.YtcpgklcimacngaaGreat
namespace Go.Proofs.YtcpgklcimacngaaGreat
open Go.RowKit
set_option linter.unusedVariables false
set_option linter.unusedSimpArgs false

theorem linkN_get {ns : List Node} {e : Nat} (b : Int) (hl : e < ns.length) (x : Nat) : (linkN ns (e : Int) b)[x]? = if x = e then (ns[e]?).map (fun nd => if nd.next = -1 then { nd with next := b } else { nd with other := b }) else ns[x]? := by
  unfold linkN
  rw [if_neg (by omega), List.getElem?_modify]
  by_cases q : x = e
  · subst q
    simp
  · rw [if_neg q]
    have q2 : ¬ (e : Int).toNat = x := by omega
    simp only [q2, if_false]
    cases ns[x]? <;> rfl
theorem Path.stuck {ns : List Node} {x z : Nat} {w : List Nat} (h : ∀ o y, ¬ Step ns o x y) (hp : Path ns x w z) : w = [] ∧ z = x := by
  obtain ⟨r, h1, h2⟩ := hp
  cases r with
  | nil => exact ⟨h2.symm, Eq.symm h1⟩
  | cons o r => obtain ⟨m, k, _⟩ := h1; exact absurd k (h o m)
theorem plain_stuck {ns : List Node} {e : Nat} (h : ns[e]? = some plainNode) (o : Option Nat) (y : Nat) : ¬ Step ns o e y := fun ⟨nd, q1, q2, q3⟩ => by
  rw [h] at q1
  have : plainNode = nd := by simpa using q1
  subst this
  cases o with
  | none => rcases q3.2 with q | q <;> (simp only [plainNode] at q; omega)
  | some c => have := q3.1; simp [plainNode] at this
theorem eps_step {ns : List Node} {x : Nat} {p q : Int} (h : ns[x]? = some ⟨false, zero4, p, q⟩) (o : Option Nat) (y : Nat) : Step ns o x y ↔ o = none ∧ y < ns.length ∧ ((y : Int) = p ∨ (y : Int) = q) := by
  constructor
  · rintro ⟨nd, q1, q2, q3⟩
    rw [h] at q1
    have : (⟨false, zero4, p, q⟩ : Node) = nd := by simpa using q1
    subst this
    cases o with
    | none => exact ⟨rfl, q2, q3.2⟩
    | some c => have := q3.1; simp at this
  · rintro ⟨rfl, q1, q2⟩
    exact ⟨_, h, q1, rfl, q2⟩
/-- A part whose end has been led on: a path out of it. -/
theorem Frg.out {ns ns' : List Node} {lo hi a e : Nat} {A : Lang} (h : Frg ns lo hi a e A) (hl : ns.length ≤ ns'.length) (hk : ∀ x, lo ≤ x → x < hi → x ≠ e → ns'[x]? = ns[x]?) {p q : Int} (he : ns'[e]? = some ⟨false, zero4, p, q⟩) :
    (∀ {w : List Nat} {z : Nat}, ¬ (lo ≤ z ∧ z < hi) → Path ns' a w z → ∃ u v t, w = u ++ v ∧ A u ∧ Step ns' none e t ∧ Path ns' t v z) ∧ (∀ u, A u → Path ns' a u e) := by
  have b1 := h.bd
  have s1 : ∀ x, (lo ≤ x ∧ x < hi) → x ≠ e → ∀ o y, Step ns' o x y → Step ns o x y ∧ (lo ≤ y ∧ y < hi) := fun x hx hne o y ⟨nd, q1, q2, q3⟩ => by
    rw [hk x hx.1 hx.2 hne] at q1
    have n1 := h.nb x hx.1 hx.2 nd q1
    have hy : y < hi := by
      cases o with
      | none => rcases q3.2 with q | q <;> omega
      | some c => have := q3.2.2; omega
    have st : Step ns o x y := ⟨nd, q1, by omega, q3⟩
    exact ⟨st, h.cl x hx.1 hx.2 o y st⟩
  refine ⟨fun hz hp => ?_, fun u hu => ?_⟩
  · obtain ⟨u, v, t, e1, e2, e3, e4⟩ := Path.exit (ns := ns) (S := fun x => lo ≤ x ∧ x < hi) (e := e) s1 (fun o y st => ((eps_step he o y).1 st).1) h.ia hz hp
    exact ⟨u, v, t, e1, (h.lg u).1 e2, e3, e4⟩
  · refine Path.mono (ns := ns) (S := fun x => lo ≤ x ∧ x < hi) (fun x hx o y st => ?_) h.ia ((h.lg u).2 hu)
    have hy := h.cl x hx.1 hx.2 o y st
    have hne : x ≠ e := fun q => by subst q; exact plain_stuck h.en o y st
    obtain ⟨nd, q1, q2, q3⟩ := st
    exact ⟨⟨nd, by rw [hk x hx.1 hx.2 hne]; exact q1, by omega, q3⟩, hy⟩
end Go.Proofs.YtcpgklcimacngaaGreat
