import Derived.Test.YtcpgklcimacngaaGreatRa5
import Derived.Test.YtcpgklcimacngaaGreatRm3
namespace Go.Proofs.YtcpgklcimacngaaGreat
open Go.RowKit
set_option linter.unusedVariables false
set_option linter.unusedSimpArgs false

/-- set where a condition holds -/
def cdJ (c : Nat → Bool) (x : Nat) (y : Nat → Nat) : Nat → Nat → Mat → Mat
  | 0, _, M => M
  | f + 1, j, M => cdJ c x y f (j + 1) (if c j = true then setM M x (y j) true else M)
def cdI (c : Q1 → Nat → Bool) (x : Q1 → Nat) (y : Q1 → Nat → Nat) : List Q1 → Mat → Mat
  | [], M => M
  | z :: r, M => cdI c x y r (cdJ (c z) (x z) (y z) z.2.length 0 M)
def sqF (n : Nat) : Mat := List.replicate n (List.replicate n false)
theorem sqF_sq (n : Nat) : Sq n (sqF n) := ⟨by simp [sqF], fun i hi => by rw [List.getD_eq_getElem?_getD]; simp [sqF, hi]⟩
theorem sqF_at (n i j : Nat) : atM (sqF n) i j = false := by
  unfold atM sqF
  rw [List.getD_eq_getElem?_getD, List.getD_eq_getElem?_getD]
  by_cases hi : i < n
  · by_cases hj : j < n
    · simp [hi, hj]
    · simp [hi, hj]
  · simp [hi]
section
variable {n : Nat}
theorem cdJ_at {c : Nat → Bool} {x : Nat} {y : Nat → Nat} (hx : x < n) : ∀ (f j : Nat) (M : Mat), Sq n M → (∀ k, j ≤ k → k < j + f → c k = true → y k < n) →
    Sq n (cdJ c x y f j M) ∧ ∀ a b, atM (cdJ c x y f j M) a b = true ↔ atM M a b = true ∨ ∃ k, j ≤ k ∧ k < j + f ∧ c k = true ∧ a = x ∧ b = y k
  | 0, j, M, hs, hy => ⟨hs, fun a b => ⟨.inl, fun h => by
      rcases h with h | ⟨k, h1, h2, _⟩
      · exact h
      · omega⟩⟩
  | f + 1, j, M, hs, hy => by
    unfold cdJ
    have hs' : Sq n (if c j = true then setM M x (y j) true else M) := by
      split
      · exact setM_sq hs hx _
      · exact hs
    obtain ⟨r1, r2⟩ := cdJ_at hx f (j + 1) _ hs' (fun k h1 h2 h3 => hy k (by omega) (by omega) h3)
    refine ⟨r1, fun a b => ?_⟩
    rw [r2]
    by_cases hc : c j = true
    · rw [if_pos hc, setM_at hs hx (hy j (by omega) (by omega) hc)]
      constructor
      · rintro (h | ⟨k, h1, h2, h3⟩)
        · split at h
          · rename_i q; exact .inr ⟨j, by omega, by omega, hc, q⟩
          · exact .inl h
        · exact .inr ⟨k, by omega, by omega, h3⟩
      · rintro (h | ⟨k, h1, h2, h3, h4⟩)
        · left; split
          · rfl
          · exact h
        · by_cases e : k = j
          · subst e; left; rw [if_pos h4]
          · exact .inr ⟨k, by omega, by omega, h3, h4⟩
    · rw [if_neg hc]
      constructor
      · rintro (h | ⟨k, h1, h2, h3⟩)
        · exact .inl h
        · exact .inr ⟨k, by omega, by omega, h3⟩
      · rintro (h | ⟨k, h1, h2, h3, h4⟩)
        · exact .inl h
        · by_cases e : k = j
          · subst e; exact absurd h3 hc
          · exact .inr ⟨k, by omega, by omega, h3, h4⟩
theorem cdI_at {c : Q1 → Nat → Bool} {x : Q1 → Nat} {y : Q1 → Nat → Nat} : ∀ (q : List Q1) (M : Mat), Sq n M → (∀ z ∈ q, x z < n ∧ ∀ k, k < z.2.length → c z k = true → y z k < n) →
    Sq n (cdI c x y q M) ∧ ∀ a b, atM (cdI c x y q M) a b = true ↔ atM M a b = true ∨ ∃ z ∈ q, ∃ k, k < z.2.length ∧ c z k = true ∧ a = x z ∧ b = y z k
  | [], M, hs, hy => ⟨hs, fun a b => ⟨.inl, fun h => by
      rcases h with h | ⟨z, h1, _⟩
      · exact h
      · cases h1⟩⟩
  | z :: r, M, hs, hy => by
    have hz := hy z (by simp)
    obtain ⟨q1, q2⟩ := cdJ_at (c := c z) (x := x z) (y := y z) hz.1 z.2.length 0 M hs (fun k h1 h2 h3 => hz.2 k (by omega) h3)
    obtain ⟨r1, r2⟩ := cdI_at (c := c) (x := x) (y := y) r _ q1 (fun w hw => hy w (by simp [hw]))
    unfold cdI
    refine ⟨r1, fun a b => ?_⟩
    rw [r2, q2]
    constructor
    · rintro ((h | ⟨k, h1, h2, h3⟩) | ⟨w, hw, h⟩)
      · exact .inl h
      · exact .inr ⟨z, by simp, k, by omega, h3⟩
      · exact .inr ⟨w, by simp [hw], h⟩
    · rintro (h | ⟨w, hw, k, h1, h2⟩)
      · exact .inl (.inl h)
      · rw [List.mem_cons] at hw
        rcases hw with rfl | hw
        · exact .inl (.inr ⟨k, by omega, by omega, h2⟩)
        · exact .inr ⟨w, hw, k, h1, h2⟩
end
/-- rows joined where a condition holds -/
def orJ (n : Nat) (c : Nat → Bool) (g : Nat → List Bool) : Nat → Nat → List Bool → List Bool
  | 0, _, out => out
  | f + 1, j, out => orJ n c g f (j + 1) (if c j = true then orI out (g j) n n else out)
theorem orI_at {xs ys : List Bool} {n t : Nat} (ht : t < n) : (orI xs ys n n).getD t false = (xs.getD t false || ys.getD t false) := by simp [orI, ht]
theorem orJ_at {n : Nat} {c : Nat → Bool} {g : Nat → List Bool} : ∀ (f j : Nat) (out : List Bool), out.length = n →
    (orJ n c g f j out).length = n ∧ ∀ t, t < n → ((orJ n c g f j out).getD t false = true ↔ out.getD t false = true ∨ ∃ k, j ≤ k ∧ k < j + f ∧ c k = true ∧ (g k).getD t false = true)
  | 0, j, out, hl => ⟨hl, fun t ht => ⟨.inl, fun h => by
      rcases h with h | ⟨k, h1, h2, _⟩
      · exact h
      · omega⟩⟩
  | f + 1, j, out, hl => by
    unfold orJ
    obtain ⟨r1, r2⟩ := orJ_at (n := n) (c := c) (g := g) f (j + 1) (if c j = true then orI out (g j) n n else out) (by split <;> first | exact orI_len _ _ _ _ | exact hl)
    refine ⟨r1, fun t ht => ?_⟩
    rw [r2 t ht]
    by_cases hc : c j = true
    · rw [if_pos hc, orI_at ht, Bool.or_eq_true]
      constructor
      · rintro ((h | h) | ⟨k, h1, h2, h3⟩)
        · exact .inl h
        · exact .inr ⟨j, by omega, by omega, hc, h⟩
        · exact .inr ⟨k, by omega, by omega, h3⟩
      · rintro (h | ⟨k, h1, h2, h3, h4⟩)
        · exact .inl (.inl h)
        · by_cases e : k = j
          · subst e; exact .inl (.inr h4)
          · exact .inr ⟨k, by omega, by omega, h3, h4⟩
    · rw [if_neg hc]
      constructor
      · rintro (h | ⟨k, h1, h2, h3⟩)
        · exact .inl h
        · exact .inr ⟨k, by omega, by omega, h3⟩
      · rintro (h | ⟨k, h1, h2, h3, h4⟩)
        · exact .inl h
        · by_cases e : k = j
          · subst e; exact absurd h3 hc
          · exact .inr ⟨k, by omega, by omega, h3, h4⟩
def orQ (n : Nat) (c : Q1 → Nat → Bool) (g : Q1 → Nat → List Bool) : List Q1 → List Bool → List Bool
  | [], out => out
  | z :: r, out => orQ n c g r (orJ n (c z) (g z) z.2.length 0 out)
theorem orQ_at {n : Nat} {c : Q1 → Nat → Bool} {g : Q1 → Nat → List Bool} : ∀ (q : List Q1) (out : List Bool), out.length = n →
    (orQ n c g q out).length = n ∧ ∀ t, t < n → ((orQ n c g q out).getD t false = true ↔ out.getD t false = true ∨ ∃ z ∈ q, ∃ k, k < z.2.length ∧ c z k = true ∧ (g z k).getD t false = true)
  | [], out, hl => ⟨hl, fun t ht => ⟨.inl, fun h => by
      rcases h with h | ⟨k, h1, _⟩
      · exact h
      · cases h1⟩⟩
  | z :: r, out, hl => by
    obtain ⟨q1, q2⟩ := orJ_at (n := n) (c := c z) (g := g z) z.2.length 0 out hl
    obtain ⟨r1, r2⟩ := orQ_at (n := n) (c := c) (g := g) r _ q1
    unfold orQ
    refine ⟨r1, fun t ht => ?_⟩
    rw [r2 t ht, q2 t ht]
    constructor
    · rintro ((h | ⟨k, h1, h2, h3⟩) | ⟨w, hw, h⟩)
      · exact .inl h
      · exact .inr ⟨z, by simp, k, by omega, h3⟩
      · exact .inr ⟨w, by simp [hw], h⟩
    · rintro (h | ⟨w, hw, k, h1, h2⟩)
      · exact .inl (.inl h)
      · rw [List.mem_cons] at hw
        rcases hw with rfl | hw
        · exact .inl (.inr ⟨k, by omega, by omega, h2⟩)
        · exact .inr ⟨w, hw, k, h1, h2⟩
/-- first's inner loop -/
def fiT (L : Mat) (c : Int) : Nat → Nat → List Bool → List Bool
  | 0, _, out => out
  | f + 1, t, out => fiT L c f (t + 1) (out.set t ((out.getD t false || c == (t : Int)) || atM L c.toNat t))
def fiI (base : Int) (null : List Bool) (L : Mat) (R : Nat) (l : List Int) : Nat → Nat → List Bool → List Bool
  | 0, _, out => out
  | f + 1, i, out => fiI base null L R l f (i + 1) (if nothF base null (l.take i) = true then fiT L (l.getD i 0) R 0 out else out)
def firF (base : Int) (null : List Bool) (L : Mat) (R : Nat) (l : List Int) : List Bool := fiI base null L R l l.length 0 (List.replicate (R + 1) false)
theorem fiT_at {L : Mat} {c : Int} : ∀ (f t : Nat) (out : List Bool), t + f ≤ out.length → (fiT L c f t out).length = out.length ∧ ∀ u, ((fiT L c f t out).getD u false = true ↔ out.getD u false = true ∨ (t ≤ u ∧ u < t + f ∧ (c = u ∨ atM L c.toNat u = true)))
  | 0, t, out, h => ⟨rfl, fun u => ⟨.inl, fun q => by
      rcases q with q | ⟨h1, h2, _⟩
      · exact q
      · omega⟩⟩
  | f + 1, t, out, h => by
    unfold fiT
    obtain ⟨r1, r2⟩ := fiT_at (L := L) (c := c) f (t + 1) (out.set t ((out.getD t false || c == (t : Int)) || atM L c.toNat t)) (by rw [List.length_set]; omega)
    refine ⟨by rw [r1, List.length_set], fun u => ?_⟩
    rw [r2, getD_set _ _ _ _ _ (by omega)]
    by_cases e : u = t
    · subst e
      rw [if_pos rfl, Bool.or_eq_true, Bool.or_eq_true, beq_iff_eq]
      constructor
      · rintro (((h1 | h1) | h1) | h1)
        · exact .inl h1
        · exact .inr ⟨by omega, by omega, .inl h1⟩
        · exact .inr ⟨by omega, by omega, .inr h1⟩
        · omega
      · rintro (h1 | ⟨_, _, h1 | h1⟩)
        · exact .inl (.inl (.inl h1))
        · exact .inl (.inl (.inr h1))
        · exact .inl (.inr h1)
    · rw [if_neg e]
      constructor
      · rintro (h1 | ⟨h1, h2, h3⟩)
        · exact .inl h1
        · exact .inr ⟨by omega, by omega, h3⟩
      · rintro (h1 | ⟨h1, h2, h3⟩)
        · exact .inl h1
        · exact .inr ⟨by omega, by omega, h3⟩
theorem fiI_at {base : Int} {null : List Bool} {L : Mat} {R : Nat} {l : List Int} : ∀ (f i : Nat) (out : List Bool), out.length = R + 1 → (fiI base null L R l f i out).length = R + 1 ∧
    ∀ u, ((fiI base null L R l f i out).getD u false = true ↔ out.getD u false = true ∨ (u < R ∧ ∃ k, i ≤ k ∧ k < i + f ∧ nothF base null (l.take k) = true ∧ (l.getD k 0 = u ∨ atM L (l.getD k 0).toNat u = true)))
  | 0, i, out, h => ⟨h, fun u => ⟨.inl, fun q => by
      rcases q with q | ⟨_, k, h1, h2, _⟩
      · exact q
      · omega⟩⟩
  | f + 1, i, out, h => by
    unfold fiI
    obtain ⟨t1, t2⟩ := fiT_at (L := L) (c := l.getD i 0) R 0 out (by omega)
    obtain ⟨r1, r2⟩ := fiI_at (base := base) (null := null) (L := L) (R := R) (l := l) f (i + 1) (if nothF base null (l.take i) = true then fiT L (l.getD i 0) R 0 out else out) (by split <;> first | (rw [t1]; exact h) | exact h)
    refine ⟨r1, fun u => ?_⟩
    rw [r2]
    by_cases hc : nothF base null (l.take i) = true
    · rw [if_pos hc, t2]
      constructor
      · rintro ((h1 | ⟨h1, h2, h3⟩) | ⟨h0, k, h1, h2, h3⟩)
        · exact .inl h1
        · exact .inr ⟨by omega, i, by omega, by omega, hc, h3⟩
        · exact .inr ⟨h0, k, by omega, by omega, h3⟩
      · rintro (h1 | ⟨h0, k, h1, h2, h3, h4⟩)
        · exact .inl (.inl h1)
        · by_cases e : k = i
          · subst e; exact .inl (.inr ⟨by omega, by omega, h4⟩)
          · exact .inr ⟨h0, k, by omega, by omega, h3, h4⟩
    · rw [if_neg hc]
      constructor
      · rintro (h1 | ⟨h0, k, h1, h2, h3⟩)
        · exact .inl h1
        · exact .inr ⟨h0, k, by omega, by omega, h3⟩
      · rintro (h1 | ⟨h0, k, h1, h2, h3, h4⟩)
        · exact .inl h1
        · by_cases e : k = i
          · subst e; exact absurd h3 hc
          · exact .inr ⟨h0, k, by omega, by omega, h3, h4⟩
end Go.Proofs.YtcpgklcimacngaaGreat
namespace Go.Proofs.YtcpgklcimacngaaGreat
open Go.RowKit
set_option linter.unusedVariables false
set_option linter.unusedSimpArgs false

theorem at_split {α : Type} {P : List α → α → List α → Prop} (l : List α) : (∃ k, ∃ h : k < l.length, P (l.take k) l[k] (l.drop (k + 1))) ↔ ∃ a s b, l = a ++ s :: b ∧ P a s b := by
  constructor
  · rintro ⟨k, h, hp⟩
    refine ⟨l.take k, l[k], l.drop (k + 1), ?_, hp⟩
    rw [← List.drop_eq_getElem_cons h, List.take_append_drop]
  · rintro ⟨a, s, b, e, hp⟩
    have hl : a.length < l.length := by rw [e]; simp
    refine ⟨a.length, hl, ?_⟩
    have e1 : l.take a.length = a := by rw [e]; simp
    have e2 : l[a.length] = s := by
      have : l[a.length]? = some s := by rw [e]; simp
      rw [List.getElem?_eq_getElem hl] at this; injection this
    have e3 : l.drop (a.length + 1) = b := by rw [e]; simp
    rw [e1, e2, e3]; exact hp
theorem getD_map {α β : Type} (f : α → β) (l : List α) (k : Nat) (d : β) (h : k < l.length) : (l.map f).getD k d = f l[k] := by
  rw [List.getD_eq_getElem?_getD, List.getElem?_map, List.getElem?_eq_getElem h]; rfl
section
variable {ps : List Pr} {R H : Nat} {null : List Bool}
def bs (R : Nat) : Int := (R : Int) + 1
/-- of a production, place by place -/
theorem q_split (P : Pr → List Sy → Sy → List Sy → Prop) {C : Q1 → Nat → Prop} (hC : ∀ p ∈ ps, ∀ (k : Nat) (h : k < p.syms.length), C (p.head, p.syms.map (codeS R)) k ↔ P p (p.syms.take k) p.syms[k] (p.syms.drop (k + 1))) :
    (∃ z ∈ codesOf R ps, ∃ k, k < z.2.length ∧ C z k) ↔ ∃ p ∈ ps, ∃ a s b, p.syms = a ++ s :: b ∧ P p a s b := by
  constructor
  · rintro ⟨z, hz, k, hk, hc⟩
    unfold codesOf at hz
    rw [List.mem_map] at hz
    obtain ⟨p, hp, rfl⟩ := hz
    have hk' : k < p.syms.length := by simpa using hk
    exact ⟨p, hp, (at_split (P := P p) p.syms).1 ⟨k, hk', (hC p hp k hk').1 hc⟩⟩
  · rintro ⟨p, hp, h⟩
    obtain ⟨k, hk, hc⟩ := (at_split (P := P p) p.syms).2 h
    exact ⟨(p.head, p.syms.map (codeS R)), by unfold codesOf; exact List.mem_map.2 ⟨p, hp, rfl⟩, k, by simpa using hk, (hC p hp k hk).2 hc⟩
theorem code_nn (hT : TabOk ps R H) {p : Pr} (hp : p ∈ ps) {s : Sy} (hs : s ∈ p.syms) : 0 ≤ codeS R s ∧ codeS R s < (R : Int) + 1 + H := by
  have hv := hT.sy p hp s hs
  cases hb : s.isH
  · rw [hb, if_neg (by simp)] at hv
    rw [code_rule hb]; omega
  · rw [hb, if_pos rfl] at hv
    have := code_head (R := R) hb
    omega
theorem z_take (p : Pr) (k : Nat) : ((p.head, p.syms.map (codeS R)) : Q1).2.take k = (p.syms.take k).map (codeS R) := (List.map_take).symm
theorem z_drop (p : Pr) (k : Nat) : ((p.head, p.syms.map (codeS R)) : Q1).2.drop k = (p.syms.drop k).map (codeS R) := (List.map_drop).symm
theorem z_get (p : Pr) {k : Nat} (h : k < p.syms.length) : ((p.head, p.syms.map (codeS R)) : Q1).2.getD k 0 = codeS R p.syms[k] := getD_map _ _ _ _ h
theorem take_ok (hT : TabOk ps R H) {p : Pr} (hp : p ∈ ps) (k : Nat) : ∀ s ∈ p.syms.take k, 0 ≤ s.num ∧ s.num < (if s.isH then (H : Int) else R) := fun s hs => hT.sy p hp s (List.mem_of_mem_take hs)
theorem drop_ok (hT : TabOk ps R H) {p : Pr} (hp : p ∈ ps) (k : Nat) : ∀ s ∈ p.syms.drop k, 0 ≤ s.num ∧ s.num < (if s.isH then (H : Int) else R) := fun s hs => hT.sy p hp s (List.mem_of_mem_drop hs)
def ldC (R : Nat) (null : List Bool) (z : Q1) (k : Nat) : Bool := nothF (bs R) null (z.2.take k)
def ldX (R : Nat) (z : Q1) : Nat := (bs R + z.1).toNat
def ldY (z : Q1) (k : Nat) : Nat := (z.2.getD k 0).toNat
def ld0 (R H : Nat) (null : List Bool) (q : List Q1) : Mat := cdI (ldC R null) (ldX R) ldY q (sqF (R + 1 + H))
def ldF (R H : Nat) (null : List Bool) (q : List Q1) : Mat := chainF (ld0 R H null q)
theorem ld0_is (hT : TabOk ps R H) (hn : NullIs ps H null) : Sq (R + 1 + H) (ld0 R H null (codesOf R ps)) ∧ relM (ld0 R H null (codesOf R ps)) = Ld ps R (NS ps H) := by
  obtain ⟨c1, c2⟩ := cdI_at (n := R + 1 + H) (c := ldC R null) (x := ldX R) (y := ldY) (codesOf R ps) (sqF (R + 1 + H)) (sqF_sq _) (by
    intro z hz
    unfold codesOf at hz
    rw [List.mem_map] at hz
    obtain ⟨p, hp, rfl⟩ := hz
    have h1 := hT.hd p hp
    refine ⟨by unfold ldX bs; dsimp only; omega, fun k hk _ => ?_⟩
    have hk' : k < p.syms.length := by simpa using hk
    unfold ldY
    rw [z_get p hk']
    have := code_nn hT hp (List.getElem_mem hk')
    omega)
  refine ⟨c1, ?_⟩
  funext i j
  apply propext
  unfold relM ld0
  rw [c2, sqF_at]
  have key := q_split (ps := ps) (R := R) (fun p a s b => a.all (nulS (NS ps H)) = true ∧ i.toNat = (bs R + p.head).toNat ∧ j.toNat = (codeS R s).toNat) (C := fun z k => ldC R null z k = true ∧ i.toNat = ldX R z ∧ j.toNat = ldY z k) (fun p hp k hk => by
    unfold ldC ldX ldY
    rw [z_take, z_get p hk]
    unfold bs
    rw [noth_is hn (take_ok hT hp k)])
  constructor
  · rintro ⟨h0, h1, h | h⟩
    · cases h
    · obtain ⟨p, hp, a, s, b, e, ha, e1, e2⟩ := key.1 h
      have g1 := hT.hd p hp
      have g2 := code_nn hT hp (s := s) (by rw [e]; simp)
      unfold bs at e1
      exact ⟨p, hp, by omega, a, s, b, e, ha, by omega⟩
  · rintro ⟨p, hp, e1, a, s, b, e, ha, e2⟩
    have g1 := hT.hd p hp
    have g2 := code_nn hT hp (s := s) (by rw [e]; simp)
    exact ⟨by omega, by omega, .inr (key.2 ⟨p, hp, a, s, b, e, ha, by unfold bs; omega, by omega⟩)⟩
theorem ld_is (hT : TabOk ps R H) (hn : NullIs ps H null) : Sq (R + 1 + H) (ldF R H null (codesOf R ps)) ∧ ∀ c t : Nat, atM (ldF R H null (codesOf R ps)) c t = true ↔ TC (Ld ps R (NS ps H)) c t := by
  obtain ⟨h1, h2⟩ := ld0_is hT hn
  have := chain_iff h1
  rw [h2] at this
  exact this
theorem fs_lt (hT : TabOk ps R H) {N : Int → Bool} {t : Nat} : ∀ (n : Nat) (X : Int), FS ps N t n X = true → t < R
  | 0, X, h => by cases h
  | n + 1, X, h => by
    unfold FS at h
    rw [List.any_eq_true] at h
    obtain ⟨p, hp, h⟩ := h
    rw [Bool.and_eq_true] at h
    obtain ⟨a, s, b, e, ha, hs⟩ := begX_split h.2
    have hv := hT.sy p hp s (by rw [e]; simp)
    cases hb : s.isH
    · rw [hb, if_neg (by simp)] at hv
      rw [hb, if_neg (by simp), beq_iff_eq] at hs
      omega
    · rw [hb, if_pos rfl] at hs
      exact fs_lt hT n _ hs
theorem beg_lt (hT : TabOk ps R H) {N : Int → Bool} {t : Nat} {l : List Sy} (hv : ∀ s ∈ l, 0 ≤ s.num ∧ s.num < (if s.isH then (H : Int) else R)) (h : begX N (fun X => FS ps N t H X) t l = true) : t < R := by
  obtain ⟨a, s, b, e, ha, hs⟩ := begX_split h
  have hvs := hv s (by rw [e]; simp)
  cases hb : s.isH
  · rw [hb, if_neg (by simp)] at hvs
    rw [hb, if_neg (by simp), beq_iff_eq] at hs
    omega
  · rw [hb, if_pos rfl] at hs
    exact fs_lt hT H _ hs
def fiF (R H : Nat) (null : List Bool) (q : List Q1) (l : List Int) : List Bool := firF (bs R) null (ldF R H null q) R l
theorem fi_is (hT : TabOk ps R H) (hn : NullIs ps H null) {l : List Sy} (hv : ∀ s ∈ l, 0 ≤ s.num ∧ s.num < (if s.isH then (H : Int) else R)) :
    (fiF R H null (codesOf R ps) (l.map (codeS R))).length = R + 1 ∧ ∀ u, (fiF R H null (codesOf R ps) (l.map (codeS R))).getD u false = begX (NS ps H) (fun X => FS ps (NS ps H) u H X) u l := by
  obtain ⟨f1, f2⟩ := fiI_at (base := bs R) (null := null) (L := ldF R H null (codesOf R ps)) (R := R) (l := l.map (codeS R)) (l.map (codeS R)).length 0 (List.replicate (R + 1) false) (by simp)
  refine ⟨f1, fun u => ?_⟩
  unfold fiF firF
  rw [Bool.eq_iff_iff, f2]
  have hz : ¬ (List.replicate (R + 1) false).getD u false = true := by
    rw [List.getD_eq_getElem?_getD]
    by_cases h : u < R + 1
    · simp [h]
    · simp [h]
  have hL := (ld_is hT hn).2
  have key : u < R → ((∃ k, 0 ≤ k ∧ k < 0 + (l.map (codeS R)).length ∧ nothF (bs R) null ((l.map (codeS R)).take k) = true ∧ ((l.map (codeS R)).getD k 0 = u ∨ atM (ldF R H null (codesOf R ps)) ((l.map (codeS R)).getD k 0).toNat u = true)) ↔ begX (NS ps H) (fun X => FS ps (NS ps H) u H X) u l = true) := by
    intro hu
    rw [beg_iff hT hu hv, ← at_split (P := fun a s b => a.all (nulS (NS ps H)) = true ∧ (codeS R s = u ∨ TC (Ld ps R (NS ps H)) (codeS R s) u))]
    have each : ∀ (k : Nat) (h : k < l.length), (nothF (bs R) null ((l.map (codeS R)).take k) = true ∧ ((l.map (codeS R)).getD k 0 = u ∨ atM (ldF R H null (codesOf R ps)) ((l.map (codeS R)).getD k 0).toNat u = true)) ↔ ((l.take k).all (nulS (NS ps H)) = true ∧ (codeS R l[k] = u ∨ TC (Ld ps R (NS ps H)) (codeS R l[k]) u)) := fun k h => by
      have hvk := hv l[k] (List.getElem_mem h)
      have hnn : 0 ≤ codeS R l[k] := by
        cases hb : l[k].isH
        · rw [code_rule hb]; exact hvk.1
        · have := code_head (R := R) hb; omega
      rw [← List.map_take, getD_map _ _ _ _ h, hL, show (((codeS R l[k]).toNat : Nat) : Int) = codeS R l[k] by omega]
      unfold bs
      rw [noth_is hn (fun s hs => hv s (List.mem_of_mem_take hs))]
    constructor
    · rintro ⟨k, _, h1, h2⟩
      have h : k < l.length := by simpa using h1
      exact ⟨k, h, (each k h).1 h2⟩
    · rintro ⟨k, h, h2⟩
      exact ⟨k, by omega, by simpa using h, (each k h).2 h2⟩
  constructor
  · rintro (h | ⟨hu, h⟩)
    · exact absurd h hz
    · exact (key hu).1 h
  · intro h
    have hu := beg_lt hT hv h
    exact .inr ⟨hu, (key hu).2 h⟩
def laC (R : Nat) (null : List Bool) (z : Q1) (k : Nat) : Bool := decide (0 ≤ z.2.getD k 0 - bs R) && nothF (bs R) null (z.2.drop (k + 1))
def laX (z : Q1) : Nat := z.1.toNat
def laY (R : Nat) (z : Q1) (k : Nat) : Nat := (z.2.getD k 0 - bs R).toNat
def la0 (R H : Nat) (null : List Bool) (q : List Q1) : Mat := cdI (laC R null) laX (laY R) q (sqF H)
def laF (R H : Nat) (null : List Bool) (q : List Q1) : Mat := chainF (la0 R H null q)
theorem isH_code (hT : TabOk ps R H) {p : Pr} (hp : p ∈ ps) {s : Sy} (hs : s ∈ p.syms) : 0 ≤ codeS R s - bs R ↔ s.isH = true := by
  have hv := hT.sy p hp s hs
  unfold bs
  cases hb : s.isH
  · rw [hb, if_neg (by simp)] at hv
    rw [code_rule hb]
    exact ⟨fun h => by omega, fun h => by cases h⟩
  · rw [code_head hb]
    exact ⟨fun _ => rfl, fun _ => hv.1⟩
theorem la_is (hT : TabOk ps R H) (hn : NullIs ps H null) : Sq H (laF R H null (codesOf R ps)) ∧ ∀ a b : Nat, atM (laF R H null (codesOf R ps)) a b = true ↔ TC (Ls ps (NS ps H)) a b := by
  have h12 : Sq H (la0 R H null (codesOf R ps)) ∧ relM (la0 R H null (codesOf R ps)) = Ls ps (NS ps H) := by
    obtain ⟨c1, c2⟩ := cdI_at (n := H) (c := laC R null) (x := laX) (y := laY R) (codesOf R ps) (sqF H) (sqF_sq _) (by
      intro z hz
      unfold codesOf at hz
      rw [List.mem_map] at hz
      obtain ⟨p, hp, rfl⟩ := hz
      have h1 := hT.hd p hp
      refine ⟨by unfold laX; dsimp only; omega, fun k hk _ => ?_⟩
      have hk' : k < p.syms.length := by simpa using hk
      unfold laY
      rw [z_get p hk']
      have := code_nn hT hp (List.getElem_mem hk')
      unfold bs
      omega)
    refine ⟨c1, ?_⟩
    funext i j
    apply propext
    unfold relM la0
    rw [c2, sqF_at]
    have key := q_split (ps := ps) (R := R) (fun p a s b => (0 ≤ codeS R s - bs R ∧ b.all (nulS (NS ps H)) = true) ∧ i.toNat = p.head.toNat ∧ j.toNat = (codeS R s - bs R).toNat) (C := fun z k => laC R null z k = true ∧ i.toNat = laX z ∧ j.toNat = laY R z k) (fun p hp k hk => by
      unfold laC laX laY
      rw [z_drop, z_get p hk, Bool.and_eq_true, decide_eq_true_eq]
      have := noth_is hn (drop_ok hT hp (k + 1))
      unfold bs
      rw [this])
    constructor
    · rintro ⟨h0, h1, h | h⟩
      · cases h
      · obtain ⟨p, hp, a, s, b, e, ⟨e0, ha⟩, e1, e2⟩ := key.1 h
        have g1 := hT.hd p hp
        have hs : s ∈ p.syms := by rw [e]; simp
        have hb := (isH_code hT hp hs).1 e0
        have g3 := code_head (R := R) hb
        unfold bs at e0 e2
        exact ⟨p, hp, by omega, a, s, b, e, hb, by omega, ha⟩
    · rintro ⟨p, hp, e1, a, s, b, e, hb, e2, ha⟩
      have g1 := hT.hd p hp
      have hs : s ∈ p.syms := by rw [e]; simp
      have e0 := (isH_code hT hp hs).2 hb
      have g3 := code_head (R := R) hb
      have hv := hT.sy p hp s hs
      exact ⟨by omega, by omega, .inr (key.2 ⟨p, hp, a, s, b, e, ⟨e0, ha⟩, by rw [e1], by unfold bs; omega⟩)⟩
  have := chain_iff h12.1
  rw [h12.2] at this
  exact this
def reC (R : Nat) (z : Q1) (k : Nat) : Bool := decide (0 ≤ z.2.getD k 0 - bs R)
def re0 (R H : Nat) (q : List Q1) : Mat := cdI (reC R) laX (laY R) q (sqF H)
def reF (R H : Nat) (q : List Q1) : Mat := chainF (re0 R H q)
theorem re_is (hT : TabOk ps R H) : Sq H (reF R H (codesOf R ps)) ∧ ∀ a b : Nat, atM (reF R H (codesOf R ps)) a b = true ↔ TC (Rc ps) a b := by
  have h12 : Sq H (re0 R H (codesOf R ps)) ∧ relM (re0 R H (codesOf R ps)) = Rc ps := by
    obtain ⟨c1, c2⟩ := cdI_at (n := H) (c := reC R) (x := laX) (y := laY R) (codesOf R ps) (sqF H) (sqF_sq _) (by
      intro z hz
      unfold codesOf at hz
      rw [List.mem_map] at hz
      obtain ⟨p, hp, rfl⟩ := hz
      have h1 := hT.hd p hp
      refine ⟨by unfold laX; dsimp only; omega, fun k hk _ => ?_⟩
      have hk' : k < p.syms.length := by simpa using hk
      unfold laY
      rw [z_get p hk']
      have := code_nn hT hp (List.getElem_mem hk')
      unfold bs
      omega)
    refine ⟨c1, ?_⟩
    funext i j
    apply propext
    unfold relM re0
    rw [c2, sqF_at]
    have key := q_split (ps := ps) (R := R) (fun p a s b => 0 ≤ codeS R s - bs R ∧ i.toNat = p.head.toNat ∧ j.toNat = (codeS R s - bs R).toNat) (C := fun z k => reC R z k = true ∧ i.toNat = laX z ∧ j.toNat = laY R z k) (fun p hp k hk => by
      unfold reC laX laY
      rw [z_get p hk, decide_eq_true_eq])
    constructor
    · rintro ⟨h0, h1, h | h⟩
      · cases h
      · obtain ⟨p, hp, a, s, b, e, e0, e1, e2⟩ := key.1 h
        have g1 := hT.hd p hp
        have hs : s ∈ p.syms := by rw [e]; simp
        have hb := (isH_code hT hp hs).1 e0
        have g3 := code_head (R := R) hb
        unfold bs at e0 e2
        exact ⟨p, hp, by omega, s, hs, hb, by omega⟩
    · rintro ⟨p, hp, e1, s, hs, hb, e2⟩
      have g1 := hT.hd p hp
      have e0 := (isH_code hT hp hs).2 hb
      have g3 := code_head (R := R) hb
      have hv := hT.sy p hp s hs
      obtain ⟨a, b, e⟩ := List.append_of_mem hs
      exact ⟨by omega, by omega, .inr (key.2 ⟨p, hp, a, s, b, e, e0, by rw [e1], by unfold bs; omega⟩)⟩
  have := chain_iff h12.1
  rw [h12.2] at this
  exact this
def nxC (R : Nat) (head : Int) (z : Q1) (k : Nat) : Bool := z.2.getD k 0 == bs R + head
def nxG (R H : Nat) (null : List Bool) (q : List Q1) (z : Q1) (k : Nat) : List Bool := fiF R H null q (z.2.drop (k + 1))
def nxF (R H : Nat) (null : List Bool) (q : List Q1) (head : Int) : List Bool := orQ (R + 1) (nxC R head) (nxG R H null q) q ((List.replicate (R + 1) false).set R (head == 0))
theorem nx_is (hT : TabOk ps R H) (hn : NullIs ps H null) {h : Int} (hh : 0 ≤ h) : (nxF R H null (codesOf R ps) h).length = R + 1 ∧ ∀ t, t < R + 1 → ((nxF R H null (codesOf R ps) h).getD t false = true ↔ Nx ps R (NS ps H) (fun X t => FS ps (NS ps H) t H X) h t) := by
  obtain ⟨q1, q2⟩ := orQ_at (n := R + 1) (c := nxC R h) (g := nxG R H null (codesOf R ps)) (codesOf R ps) ((List.replicate (R + 1) false).set R (h == 0)) (by simp)
  refine ⟨q1, fun t ht => ?_⟩
  unfold nxF
  rw [q2 t ht, getD_set _ _ _ _ _ (by simp)]
  have key := q_split (ps := ps) (R := R) (fun p a s b => codeS R s = bs R + h ∧ begX (NS ps H) (fun X => FS ps (NS ps H) t H X) t b = true) (C := fun z k => nxC R h z k = true ∧ (nxG R H null (codesOf R ps) z k).getD t false = true) (fun p hp k hk => by
    unfold nxC nxG
    rw [z_drop, z_get p hk, beq_iff_eq, (fi_is hT hn (drop_ok hT hp (k + 1))).2])
  rw [key]
  unfold Nx
  refine or_congr ?_ ?_
  · by_cases e : t = R
    · rw [if_pos e, beq_iff_eq]; exact ⟨fun q => ⟨q, e⟩, fun q => q.1⟩
    · rw [if_neg e]
      refine ⟨fun q => ?_, fun q => absurd q.2 e⟩
      rw [List.getD_eq_getElem?_getD] at q
      simp [ht] at q
  · constructor
    · rintro ⟨p, hp, a, s, b, e, e1, e2⟩
      have hs : s ∈ p.syms := by rw [e]; simp
      have hb := (isH_code hT hp hs).1 (by omega)
      have g3 := code_head (R := R) hb
      unfold bs at e1
      exact ⟨p, hp, a, s, b, e, hb, by omega, e2⟩
    · rintro ⟨p, hp, a, s, b, e, hb, e1, e2⟩
      have g3 := code_head (R := R) hb
      exact ⟨p, hp, a, s, b, e, by unfold bs; omega, e2⟩
def foF (R H : Nat) (null : List Bool) (q : List Q1) (head : Nat) : List Bool := orJ (R + 1) (fun h => atM (laF R H null q) h head) (fun h => nxF R H null q h) H 0 (nxF R H null q head)
theorem fo_is (hT : TabOk ps R H) (hn : NullIs ps H null) (h : Nat) : (foF R H null (codesOf R ps) h).length = R + 1 ∧ ∀ t, t < R + 1 → ((foF R H null (codesOf R ps) h).getD t false = true ↔ Fo ps R (NS ps H) (fun X t => FS ps (NS ps H) t H X) h t) := by
  obtain ⟨n1, n2⟩ := nx_is hT hn (h := (h : Int)) (by omega)
  obtain ⟨q1, q2⟩ := orJ_at (n := R + 1) (c := fun k => atM (laF R H null (codesOf R ps)) k h) (g := fun k => nxF R H null (codesOf R ps) k) H 0 (nxF R H null (codesOf R ps) h) n1
  refine ⟨q1, fun t ht => ?_⟩
  unfold foF
  rw [q2 t ht, n2 t ht]
  unfold Fo
  refine or_congr Iff.rfl ?_
  have la := la_is hT hn
  constructor
  · rintro ⟨k, _, _, h1, h2⟩
    exact ⟨k, (la.2 k h).1 h1, ((nx_is hT hn (h := (k : Int)) (by omega)).2 t ht).1 h2⟩
  · rintro ⟨k, h1, h2⟩
    have hk : ∃ m : Nat, k = m := by
      obtain ⟨n, hp⟩ := h1
      have : ∃ p ∈ ps, p.head = k := by
        cases n with
        | zero => obtain ⟨p, hp, e, _⟩ := hp; exact ⟨p, hp, e⟩
        | succ n => obtain ⟨_, ⟨p, hp, e, _⟩, _⟩ := hp; exact ⟨p, hp, e⟩
      obtain ⟨p, hp, e⟩ := this
      have := hT.hd p hp
      exact ⟨k.toNat, by omega⟩
    obtain ⟨m, rfl⟩ := hk
    have h1' := (la.2 m h).2 h1
    have := la.1.atM_lt h1'
    exact ⟨m, by omega, by omega, h1', ((nx_is hT hn (h := (m : Int)) (by omega)).2 t ht).2 h2⟩
end
end Go.Proofs.YtcpgklcimacngaaGreat
