import Derived.Test.YtcpgklcimacngaaGreatRa5
namespace Go.Proofs.YtcpgklcimacngaaGreat
open Go.RowKit
set_option linter.unusedVariables false
set_option linter.unusedSimpArgs false

theorem Path.head {ns : List Node} {x z : Nat} {w : List Nat} {p q : Int} (h : ns[x]? = some ⟨false, zero4, p, q⟩) (hne : x ≠ z) (hp : Path ns x w z) : ∃ y : Nat, ((y : Int) = p ∨ (y : Int) = q) ∧ Path ns y w z := by
  obtain ⟨r, h1, h2⟩ := hp
  cases r with
  | nil => exact absurd h1 hne
  | cons o r =>
    obtain ⟨m, k1, k2⟩ := h1
    obtain ⟨rfl, _, q2⟩ := (eps_step h o m).1 k1
    exact ⟨m, q2, ⟨r, k2, by simpa using h2⟩⟩
theorem either_at {ns : List Node} {a e b f : Nat} (he : ns[e]? = some plainNode) (hf : ns[f]? = some plainNode) (hef : e ≠ f) :
    (eitherN ns (a : Int) (e : Int) (b : Int) (f : Int)).length = ns.length + 2 ∧
    ∀ x, (eitherN ns (a : Int) (e : Int) (b : Int) (f : Int))[x]? = if x = f ∨ x = e then some ⟨false, zero4, (ns.length + 1 : Int), -1⟩ else if x = ns.length then some ⟨false, zero4, a, b⟩ else if x = ns.length + 1 then some plainNode else ns[x]? := by
  have le := (List.getElem?_eq_some_iff.1 he).1
  have lf := (List.getElem?_eq_some_iff.1 hf).1
  have l0 : (eitherN ns (a : Int) (e : Int) (b : Int) (f : Int)).length = ns.length + 2 := by simp [eitherN, linkN_len]
  refine ⟨l0, fun x => ?_⟩
  have m0 : ∀ x, (ns ++ [plainNode] ++ [plainNode])[x]? = if x = ns.length then some plainNode else if x = ns.length + 1 then some plainNode else ns[x]? := fun x => by
    by_cases h1 : x < ns.length
    · rw [if_neg (by omega), if_neg (by omega), List.append_assoc, List.getElem?_append_left h1]
    · by_cases h2 : x = ns.length
      · subst h2; simp
      · by_cases h3 : x = ns.length + 1
        · subst h3; simp
        · rw [if_neg h2, if_neg h3, List.getElem?_eq_none (by simp; omega), List.getElem?_eq_none (by omega)]
  have lm : (ns ++ [plainNode] ++ [plainNode]).length = ns.length + 2 := by simp
  unfold eitherN
  generalize ns ++ [plainNode] ++ [plainNode] = M at m0 lm
  have g1 : ∀ x, (linkN M (ns.length : Int) (a : Int))[x]? = if x = ns.length then some ⟨false, zero4, a, -1⟩ else if x = ns.length + 1 then some plainNode else ns[x]? := fun x => by
    rw [linkN_get _ (by omega)]
    by_cases q : x = ns.length
    · rw [if_pos q, if_pos q, m0, if_pos rfl]; rfl
    · rw [if_neg q, if_neg q, m0, if_neg q]
  have l1 : (linkN M (ns.length : Int) (a : Int)).length = ns.length + 2 := by rw [linkN_len]; exact lm
  generalize linkN M (ns.length : Int) (a : Int) = M1 at g1 l1
  have g2 : ∀ x, (linkN M1 (ns.length : Int) (b : Int))[x]? = if x = ns.length then some ⟨false, zero4, a, b⟩ else if x = ns.length + 1 then some plainNode else ns[x]? := fun x => by
    rw [linkN_get _ (by omega)]
    by_cases q : x = ns.length
    · rw [if_pos q, if_pos q, g1, if_pos rfl]
      have h6 : ¬ ((a : Int) = -1) := by omega
      simp [h6]
    · rw [if_neg q, if_neg q, g1, if_neg q]
  have l2 : (linkN M1 (ns.length : Int) (b : Int)).length = ns.length + 2 := by rw [linkN_len]; exact l1
  generalize linkN M1 (ns.length : Int) (b : Int) = M2 at g2 l2
  have me : M2[e]? = some plainNode := by rw [g2, if_neg (by omega), if_neg (by omega)]; exact he
  have g3 : ∀ x, (linkN M2 (e : Int) (ns.length + 1 : Int))[x]? = if x = e then some ⟨false, zero4, (ns.length + 1 : Int), -1⟩ else M2[x]? := fun x => by
    rw [linkN_get _ (by omega), me]; rfl
  have l3 : (linkN M2 (e : Int) (ns.length + 1 : Int)).length = ns.length + 2 := by rw [linkN_len]; exact l2
  generalize linkN M2 (e : Int) (ns.length + 1 : Int) = M3 at g3 l3
  have mf : M3[f]? = some plainNode := by rw [g3, if_neg (fun q => hef q.symm), g2, if_neg (by omega), if_neg (by omega)]; exact hf
  rw [linkN_get _ (by omega), mf]
  by_cases h1 : x = f
  · rw [if_pos h1, if_pos (.inl h1)]; rfl
  · rw [if_neg h1, g3]
    by_cases h2 : x = e
    · rw [if_pos h2, if_pos (.inr h2)]
    · rw [if_neg h2, if_neg (fun q => q.elim h1 h2), g2]
/-- the one or the other -/
theorem Frg.either {ns : List Node} {lo mi a e b f : Nat} {A B : Lang} (h : Frg ns lo mi a e A) (k : Frg ns mi ns.length b f B) : Frg (eitherN ns (a : Int) (e : Int) (b : Int) (f : Int)) lo (ns.length + 2) ns.length (ns.length + 1) (Lang.alt A B) := by
  have i1 := h.ia; have i2 := h.ie; have i3 := k.ia; have i4 := k.ie; have b1 := h.bd
  obtain ⟨ln, hat⟩ := either_at (a := a) (b := b) h.en k.en (by omega)
  generalize eitherN ns (a : Int) (e : Int) (b : Int) (f : Int) = N at ln hat
  have gS : N[ns.length]? = some ⟨false, zero4, a, b⟩ := by rw [hat, if_neg (by omega), if_pos rfl]
  have gE : N[ns.length + 1]? = some plainNode := by rw [hat, if_neg (by omega), if_neg (by omega), if_pos rfl]
  have ge : N[e]? = some ⟨false, zero4, (ns.length + 1 : Int), -1⟩ := by rw [hat, if_pos (.inr rfl)]
  have gf : N[f]? = some ⟨false, zero4, (ns.length + 1 : Int), -1⟩ := by rw [hat, if_pos (.inl rfl)]
  have ha := h.out (by omega) (fun x h1 h2 h3 => by rw [hat, if_neg (by omega), if_neg (by omega), if_neg (by omega)]) ge
  have hb := k.out (by omega) (fun x h1 h2 h3 => by rw [hat, if_neg (by omega), if_neg (by omega), if_neg (by omega)]) gf
  have fin : ∀ {x t : Nat} {v : List Nat}, N[x]? = some ⟨false, zero4, (ns.length + 1 : Int), -1⟩ → Step N none x t → Path N t v (ns.length + 1) → v = [] := fun {x t v} g st hp => by
    obtain ⟨_, _, q⟩ := (eps_step g _ _).1 st
    have ht : t = ns.length + 1 := by rcases q with q | q <;> omega
    subst ht
    exact (Path.stuck (plain_stuck gE) hp).1
  have bk : ∀ {x : Nat}, N[x]? = some ⟨false, zero4, (ns.length + 1 : Int), -1⟩ → Step N none x (ns.length + 1) := fun g => (eps_step g _ _).2 ⟨rfl, by omega, .inl (by omega)⟩
  refine ⟨by omega, by omega, by omega, gE, fun x h1 h2 nd hx => ?_, fun w => ?_⟩
  · rw [hat] at hx
    split at hx
    · have : (⟨false, zero4, (ns.length + 1 : Int), -1⟩ : Node) = nd := by simpa using hx
      subst this
      exact ⟨.inr ⟨by simp only; omega, by simp only; omega⟩, .inl rfl⟩
    · split at hx
      · have : (⟨false, zero4, a, b⟩ : Node) = nd := by simpa using hx
        subst this
        exact ⟨.inr ⟨by simp only; omega, by simp only; omega⟩, .inr ⟨by simp only; omega, by simp only; omega⟩⟩
      · split at hx
        · have : plainNode = nd := by simpa using hx
          subst this
          exact ⟨.inl rfl, .inl rfl⟩
        · by_cases hm : x < mi
          · have := h.nb x h1 hm nd hx; omega
          · have := k.nb x (by omega) (by omega) nd hx; omega
  · constructor
    · intro hp
      obtain ⟨y, q, hp2⟩ := Path.head gS (by omega) hp
      rcases q with q | q
      · have : y = a := by omega
        subst this
        obtain ⟨u, v, t, rfl, q1, q2, q3⟩ := ha.1 (by omega) hp2
        have := fin ge q2 q3
        subst this
        exact .inl (by simpa using q1)
      · have : y = b := by omega
        subst this
        obtain ⟨u, v, t, rfl, q1, q2, q3⟩ := hb.1 (by omega) hp2
        have := fin gf q2 q3
        subst this
        exact .inr (by simpa using q1)
    · rintro (q | q)
      · have := ((Path.eps ((eps_step gS none a).2 ⟨rfl, by omega, .inl rfl⟩)).trans (ha.2 w q)).trans (Path.eps (bk ge))
        simpa using this
      · have := ((Path.eps ((eps_step gS none b).2 ⟨rfl, by omega, .inr rfl⟩)).trans (hb.2 w q)).trans (Path.eps (bk gf))
        simpa using this
end Go.Proofs.YtcpgklcimacngaaGreat
namespace Go.Proofs.YtcpgklcimacngaaGreat
open Go.RowKit
set_option linter.unusedVariables false
set_option linter.unusedSimpArgs false

/-- a language some times: with the mark m behind it -/
def Lang.rep (m : Int) (A : Lang) : Lang := fun w => ∃ ws : List (List Nat), (∀ u ∈ ws, A u) ∧ w = ws.flatten ∧ (m = 43 → ws ≠ []) ∧ (m = 63 → ws.length ≤ 1)
theorem repeat_at {ns : List Node} {a e : Nat} (m : Int) (he : ns[e]? = some plainNode) :
    (repeatN ns (a : Int) (e : Int) m).length = ns.length + 2 ∧
    ∀ x, (repeatN ns (a : Int) (e : Int) m)[x]? = if x = e then some ⟨false, zero4, (ns.length + 1 : Int), if m = 63 then -1 else a⟩ else if x = ns.length then some ⟨false, zero4, a, if m = 43 then -1 else (ns.length + 1 : Int)⟩ else if x = ns.length + 1 then some plainNode else ns[x]? := by
  have le := (List.getElem?_eq_some_iff.1 he).1
  have l0 : (repeatN ns (a : Int) (e : Int) m).length = ns.length + 2 := by
    unfold repeatN
    dsimp only
    split <;> split <;> simp [linkN_len]
  refine ⟨l0, fun x => ?_⟩
  have m0 : ∀ x, (ns ++ [plainNode] ++ [plainNode])[x]? = if x = ns.length then some plainNode else if x = ns.length + 1 then some plainNode else ns[x]? := fun x => by
    by_cases h1 : x < ns.length
    · rw [if_neg (by omega), if_neg (by omega), List.append_assoc, List.getElem?_append_left h1]
    · by_cases h2 : x = ns.length
      · subst h2; simp
      · by_cases h3 : x = ns.length + 1
        · subst h3; simp
        · rw [if_neg h2, if_neg h3, List.getElem?_eq_none (by simp; omega), List.getElem?_eq_none (by omega)]
  have lm : (ns ++ [plainNode] ++ [plainNode]).length = ns.length + 2 := by simp
  unfold repeatN
  dsimp only
  generalize ns ++ [plainNode] ++ [plainNode] = M at m0 lm
  have g1 : ∀ x, (linkN M (ns.length : Int) (a : Int))[x]? = if x = ns.length then some ⟨false, zero4, a, -1⟩ else if x = ns.length + 1 then some plainNode else ns[x]? := fun x => by
    rw [linkN_get _ (by omega)]
    by_cases q : x = ns.length
    · rw [if_pos q, if_pos q, m0, if_pos rfl]; rfl
    · rw [if_neg q, if_neg q, m0, if_neg q]
  have l1 : (linkN M (ns.length : Int) (a : Int)).length = ns.length + 2 := by rw [linkN_len]; exact lm
  generalize linkN M (ns.length : Int) (a : Int) = M1 at g1 l1
  have me : M1[e]? = some plainNode := by rw [g1, if_neg (by omega), if_neg (by omega)]; exact he
  have g2 : ∀ x, (linkN M1 (e : Int) (ns.length + 1 : Int))[x]? = if x = e then some ⟨false, zero4, (ns.length + 1 : Int), -1⟩ else M1[x]? := fun x => by
    rw [linkN_get _ (by omega), me]; rfl
  have l2 : (linkN M1 (e : Int) (ns.length + 1 : Int)).length = ns.length + 2 := by rw [linkN_len]; exact l1
  generalize linkN M1 (e : Int) (ns.length + 1 : Int) = M2 at g2 l2
  have g3 : ∀ x, (if m = 43 then M2 else linkN M2 (ns.length : Int) (ns.length + 1 : Int))[x]? = if x = e then some ⟨false, zero4, (ns.length + 1 : Int), -1⟩ else if x = ns.length then some ⟨false, zero4, a, if m = 43 then -1 else (ns.length + 1 : Int)⟩ else if x = ns.length + 1 then some plainNode else ns[x]? := fun x => by
    by_cases hm : m = 43
    · rw [if_pos hm, g2]
      by_cases q : x = e
      · rw [if_pos q, if_pos q]
      · rw [if_neg q, if_neg q, g1, if_pos hm]
    · rw [if_neg hm, linkN_get _ (by omega)]
      by_cases q2 : x = ns.length
      · rw [if_pos q2, if_neg (by omega), if_pos q2, g2, if_neg (by omega), g1, if_pos rfl, if_neg hm]
        have h6 : ¬ ((a : Int) = -1) := by omega
        simp [h6]
      · rw [if_neg q2, g2]
        by_cases q : x = e
        · rw [if_pos q, if_pos q]
        · rw [if_neg q, if_neg q, if_neg q2, g1, if_neg q2]
  have l3 : (if m = 43 then M2 else linkN M2 (ns.length : Int) (ns.length + 1 : Int)).length = ns.length + 2 := by
    split
    · exact l2
    · rw [linkN_len]; exact l2
  generalize (if m = 43 then M2 else linkN M2 (ns.length : Int) (ns.length + 1 : Int)) = M3 at g3 l3
  by_cases h6 : m = 63
  · rw [if_pos h6, g3]
    by_cases q : x = e
    · rw [if_pos q, if_pos q, if_pos h6]
    · rw [if_neg q, if_neg q]
  · rw [if_neg h6, linkN_get _ (by omega)]
    by_cases q : x = e
    · rw [if_pos q, if_pos q, g3, if_pos rfl, if_neg h6]
      have h7 : ¬ (((ns.length : Int) + 1) = -1) := by omega
      simp [h7]
    · rw [if_neg q, if_neg q, g3, if_neg q]
/-- some times -/
theorem Frg.rep {ns : List Node} {lo a e : Nat} {A : Lang} (m : Int) (h : Frg ns lo ns.length a e A) : Frg (repeatN ns (a : Int) (e : Int) m) lo (ns.length + 2) ns.length (ns.length + 1) (Lang.rep m A) := by
  have i1 := h.ia; have i2 := h.ie
  obtain ⟨ln, hat⟩ := repeat_at (a := a) m h.en
  generalize repeatN ns (a : Int) (e : Int) m = N at ln hat
  have gS : N[ns.length]? = some ⟨false, zero4, a, if m = 43 then -1 else (ns.length + 1 : Int)⟩ := by rw [hat, if_neg (by omega), if_pos rfl]
  have gE : N[ns.length + 1]? = some plainNode := by rw [hat, if_neg (by omega), if_neg (by omega), if_pos rfl]
  have ge : N[e]? = some ⟨false, zero4, (ns.length + 1 : Int), if m = 63 then -1 else a⟩ := by rw [hat, if_pos rfl]
  have hkeep : ∀ x, lo ≤ x → x < ns.length → x ≠ e → N[x]? = ns[x]? := fun x h1 h2 h3 => by rw [hat, if_neg h3, if_neg (by omega), if_neg (by omega)]
  have ha := h.out (by omega) hkeep ge
  have s1 : ∀ x, (lo ≤ x ∧ x < ns.length) → x ≠ e → ∀ o y, Step N o x y → Step ns o x y ∧ (lo ≤ y ∧ y < ns.length) := fun x hx hne o y ⟨nd, q1, q2, q3⟩ => by
    rw [hkeep x hx.1 hx.2 hne] at q1
    have n1 := h.nb x hx.1 hx.2 nd q1
    have hy : y < ns.length := by
      cases o with
      | none => rcases q3.2 with q | q <;> omega
      | some c => have := q3.2.2; omega
    have st : Step ns o x y := ⟨nd, q1, by omega, q3⟩
    exact ⟨st, h.cl x hx.1 hx.2 o y st⟩
  have down : ∀ (n : Nat) (r : List (Option Nat)), r.length ≤ n → Run N r a (ns.length + 1) → ∃ ws : List (List Nat), ws ≠ [] ∧ (∀ u ∈ ws, A u) ∧ r.filterMap id = ws.flatten ∧ (m = 63 → ws.length ≤ 1) := by
    intro n
    induction n with
    | zero =>
      intro r hr hrun
      have : r = [] := List.eq_nil_of_length_eq_zero (by omega)
      subst this
      have h2 : a = ns.length + 1 := hrun
      omega
    | succ n ih =>
      intro r hr hrun
      obtain ⟨r1, t, r2, e1, e2, e3, e4⟩ := Run.exit (ns := ns) (S := fun x => lo ≤ x ∧ x < ns.length) (e := e) s1 (fun o y st => ((eps_step ge o y).1 st).1) r a _ h.ia (by omega) hrun
      have hA : A (r1.filterMap id) := (h.lg _).1 ⟨r1, e2, rfl⟩
      obtain ⟨_, _, q⟩ := (eps_step ge _ _).1 e3
      have hf : r.filterMap id = r1.filterMap id ++ r2.filterMap id := by rw [e1, List.filterMap_append]; rfl
      rcases q with q | q
      · have ht : t = ns.length + 1 := by omega
        subst ht
        have hv := (Path.stuck (plain_stuck gE) ⟨r2, e4, rfl⟩).1
        exact ⟨[r1.filterMap id], by simp, by simpa using hA, by rw [hf, hv]; simp, fun _ => by simp⟩
      · by_cases h6 : m = 63
        · rw [if_pos h6] at q; omega
        · rw [if_neg h6] at q
          have ht : t = a := by omega
          subst ht
          obtain ⟨ws, w1, w2, w3, _⟩ := ih r2 (by rw [e1] at hr; simp at hr; omega) e4
          refine ⟨r1.filterMap id :: ws, by simp, ?_, by rw [hf, w3]; rfl, fun x => absurd x h6⟩
          intro u hu
          rcases List.mem_cons.1 hu with rfl | hu
          · exact hA
          · exact w2 u hu
  have up : ∀ (ws : List (List Nat)), ws ≠ [] → (∀ u ∈ ws, A u) → (m = 63 → ws.length ≤ 1) → Path N a ws.flatten (ns.length + 1) := by
    intro ws
    induction ws with
    | nil => intro h0; exact absurd rfl h0
    | cons u ws ih =>
      intro _ hA h6
      have p1 := ha.2 u (hA u (by simp))
      cases ws with
      | nil =>
        have p2 : Path N e [] (ns.length + 1) := Path.eps ((eps_step ge _ _).2 ⟨rfl, by omega, .inl (by omega)⟩)
        simpa using p1.trans p2
      | cons v ws =>
        have h63 : ¬ m = 63 := fun e => by have := h6 e; simp at this
        have p2 : Path N e [] a := Path.eps ((eps_step ge _ _).2 ⟨rfl, by omega, .inr (by rw [if_neg h63])⟩)
        have p3 := ih (by simp) (fun x hx => hA x (List.mem_cons_of_mem _ hx)) (fun e => absurd e h63)
        simpa using (p1.trans p2).trans p3
  refine ⟨by omega, by omega, by omega, gE, fun x h1 h2 nd hx => ?_, fun w => ?_⟩
  · rw [hat] at hx
    split at hx
    · have : (⟨false, zero4, (ns.length + 1 : Int), if m = 63 then -1 else a⟩ : Node) = nd := by simpa using hx
      subst this
      refine ⟨.inr ⟨by simp only; omega, by simp only; omega⟩, ?_⟩
      dsimp only
      split
      · exact .inl rfl
      · exact .inr ⟨by omega, by omega⟩
    · split at hx
      · have : (⟨false, zero4, a, if m = 43 then -1 else (ns.length + 1 : Int)⟩ : Node) = nd := by simpa using hx
        subst this
        refine ⟨.inr ⟨by simp only; omega, by simp only; omega⟩, ?_⟩
        dsimp only
        split
        · exact .inl rfl
        · exact .inr ⟨by omega, by omega⟩
      · split at hx
        · have : plainNode = nd := by simpa using hx
          subst this
          exact ⟨.inl rfl, .inl rfl⟩
        · have := h.nb x h1 (by omega) nd hx; omega
  · constructor
    · intro hp
      obtain ⟨y, q, hp2⟩ := Path.head gS (by omega) hp
      rcases q with q | q
      · have : y = a := by omega
        subst this
        obtain ⟨r, hr, hw⟩ := hp2
        obtain ⟨ws, w1, w2, w3, w4⟩ := down _ r (Nat.le_refl _) hr
        exact ⟨ws, w2, by rw [← hw, w3], fun _ => w1, w4⟩
      · by_cases h43 : m = 43
        · rw [if_pos h43] at q; omega
        · rw [if_neg h43] at q
          have : y = ns.length + 1 := by omega
          subst this
          have hv := (Path.stuck (plain_stuck gE) hp2).1
          exact ⟨[], by simp, by rw [hv]; rfl, fun e => absurd e h43, fun _ => by simp⟩
    · rintro ⟨ws, w1, rfl, w3, w4⟩
      by_cases h0 : ws = []
      · subst h0
        have h43 : ¬ m = 43 := fun e => w3 e rfl
        have := Path.eps ((eps_step gS none (ns.length + 1)).2 ⟨rfl, by omega, .inr (by rw [if_neg h43]; omega)⟩)
        simpa using this
      · have := (Path.eps ((eps_step gS none a).2 ⟨rfl, by omega, .inl rfl⟩)).trans (up ws h0 w1 w4)
        simpa using this
end Go.Proofs.YtcpgklcimacngaaGreat
namespace Go.Proofs.YtcpgklcimacngaaGreat
open Go.RowKit
set_option linter.unusedVariables false
set_option linter.unusedSimpArgs false

/-- what a reading yields: behind it, whether it is one, what it means -/
structure LR where
  next : Int
  ok : Bool
  lang : Lang
def noL : Lang := fun _ => False
def lAtom (g : Int → LR) (s : ByteArray) (i : Int) : LR :=
  if atB s i = 40 then g i
  else if (rSet s i).2.2 = false then ⟨(rSet s i).2.1, false, noL⟩
  else ⟨(rSet s i).2.1, true, Lang.byte fun c => hasB (rSet s i).1 c = true⟩
def lPieceL (s : ByteArray) : Nat → LR → LR
  | 0, r => r
  | f + 1, r => if (r.ok && isMark (atB s r.next)) = true then lPieceL s f ⟨r.next + 1, true, Lang.rep (atB s r.next) r.lang⟩ else r
def lPiece (a : Int → LR) (s : ByteArray) (i : Int) : LR := lPieceL s (s.size + 5) (a i)
def lJoin (r p : LR) : LR := if p.ok then ⟨p.next, true, Lang.cat r.lang p.lang⟩ else ⟨p.next, false, noL⟩
def lBranchL (p : Int → LR) (s : ByteArray) : Nat → LR → LR
  | 0, r => r
  | f + 1, r => if (r.ok && beginsB s r.next) = true then lBranchL p s f (lJoin r (p r.next)) else r
def lBranch (p : Int → LR) (s : ByteArray) (i : Int) : LR := lBranchL p s (s.size + 5) (p i)
def lEither (r p : LR) : LR := if p.ok then ⟨p.next, true, Lang.alt r.lang p.lang⟩ else ⟨p.next, false, noL⟩
def lChoiceL (p : Int → LR) (s : ByteArray) : Nat → LR → LR
  | 0, r => r
  | f + 1, r => if (r.ok && (atB s r.next == 124)) = true then lChoiceL p s f (lEither r (p (r.next + 1))) else r
def lChoice (p : Int → LR) (s : ByteArray) (i : Int) : LR := lChoiceL p s (s.size + 5) (p i)
def lGroup (c : Int → LR) (s : ByteArray) (i : Int) : LR :=
  if (c (i + 1)).ok = false then ⟨(c (i + 1)).next, false, noL⟩
  else if atB s (c (i + 1)).next ≠ 41 then ⟨(c (i + 1)).next, false, noL⟩
  else ⟨(c (i + 1)).next + 1, true, (c (i + 1)).lang⟩
def lgK (s : ByteArray) : Nat → Int → LR
  | 0 => fun i => ⟨i, false, noL⟩
  | k + 1 => lGroup (lChoice (lBranch (lPiece (lAtom (lgK s k) s) s) s) s) s
def lchK (s : ByteArray) (k : Nat) : Int → LR := lChoice (lBranch (lPiece (lAtom (lgK s k) s) s) s) s

/-- the nodes that are read mean what is read -/
structure Lk (ns : List Node) (r : PR) (l : LR) : Prop where
  ok : r.ok = l.ok
  next : r.next = l.next
  frg : l.ok = true → ns.length ≤ r.ns.length ∧ (∀ x, x < ns.length → r.ns[x]? = ns[x]?) ∧ ∃ a e : Nat, r.st = a ∧ r.en = e ∧ Frg r.ns ns.length r.ns.length a e l.lang
def LkF (f : Int → List Node → PR) (l : Int → LR) : Prop := ∀ i ns, Lk ns (f i ns) (l i)
theorem lk_atom {g : Int → List Node → PR} {l : Int → LR} {s : ByteArray} (h : LkF g l) : LkF (rAtom g s) (lAtom l s) := by
  intro i ns
  unfold rAtom lAtom
  split
  · exact h i ns
  · split
    · exact ⟨rfl, rfl, fun e => by cases e⟩
    · have hl : (oneN ns (rSet s i).1).length = ns.length + 2 := by simp [oneN]
      refine ⟨rfl, rfl, fun _ => ⟨by dsimp only; omega, fun x hx => ?_, ns.length + 1, ns.length, by dsimp only; omega, rfl, ?_⟩⟩
      · dsimp only [oneN]
        rw [List.append_assoc, List.getElem?_append_left hx]
      · dsimp only
        rw [hl]; exact Frg.one ns _
theorem lk_pieceL (s : ByteArray) (ns : List Node) : ∀ (f : Nat) (r : PR) (l : LR), Lk ns r l → Lk ns (rPieceL s f r) (lPieceL s f l)
  | 0, r, l, h => h
  | f + 1, r, l, h => by
    unfold rPieceL lPieceL
    rw [h.ok, h.next]
    split
    · rename_i hc
      rw [Bool.and_eq_true] at hc
      refine lk_pieceL s ns f _ _ ⟨rfl, rfl, fun _ => ?_⟩
      obtain ⟨q1, q2, a, e, q3, q4, q5⟩ := h.frg hc.1
      have i2 := q5.ie
      obtain ⟨ln, hat⟩ := repeat_at (a := a) (atB s l.next) q5.en
      dsimp only
      rw [q3, q4]
      refine ⟨by omega, fun x hx => ?_, r.ns.length, r.ns.length + 1, rfl, by omega, ?_⟩
      · rw [hat, if_neg (by omega), if_neg (by omega), if_neg (by omega)]; exact q2 x hx
      · rw [ln]; exact q5.rep _
    · exact h
theorem lk_piece {f : Int → List Node → PR} {l : Int → LR} {s : ByteArray} (h : LkF f l) : LkF (rPiece f s) (lPiece l s) := fun i ns => lk_pieceL s ns _ _ _ (h i ns)
theorem lk_join {ns : List Node} {r p : PR} {l q : LR} (h : Lk ns r l) (hok : l.ok = true) (hp : Lk r.ns p q) : Lk ns (joinR r p) (lJoin l q) := by
  unfold joinR lJoin
  rw [hp.ok]
  cases hq : q.ok
  · exact ⟨rfl, hp.next, fun e => by cases e⟩
  · obtain ⟨q1, q2, a, e, q3, q4, q5⟩ := h.frg hok
    obtain ⟨p1, p2, b, f, p3, p4, p5⟩ := hp.frg hq
    have i2 := q5.ie
    simp only [if_true]
    refine ⟨rfl, hp.next, fun _ => ?_⟩
    dsimp only
    rw [q3, q4, p3, p4]
    have hk := q5.keep p1 (fun x _ h2 => p2 x h2)
    rw [linkN_len]
    refine ⟨by omega, fun x hx => ?_, a, f, rfl, rfl, hk.join p5⟩
    rw [linkN_get _ (by omega), if_neg (by omega), p2 x (by omega)]; exact q2 x hx
theorem lk_branchL {p : Int → List Node → PR} {q : Int → LR} {s : ByteArray} (hp : LkF p q) (ns : List Node) : ∀ (f : Nat) (r : PR) (l : LR), Lk ns r l → Lk ns (rBranchL p s f r) (lBranchL q s f l)
  | 0, r, l, h => h
  | f + 1, r, l, h => by
    unfold rBranchL lBranchL
    rw [h.ok, h.next]
    split
    · rename_i hc
      rw [Bool.and_eq_true] at hc
      exact lk_branchL hp ns f _ _ (lk_join h hc.1 (hp _ _))
    · exact h
theorem lk_branch {f : Int → List Node → PR} {l : Int → LR} {s : ByteArray} (h : LkF f l) : LkF (rBranch f s) (lBranch l s) := fun i ns => lk_branchL h ns _ _ _ (h i ns)
theorem lk_either {ns : List Node} {r p : PR} {l q : LR} (h : Lk ns r l) (hok : l.ok = true) (hp : Lk r.ns p q) : Lk ns (eitherR r p) (lEither l q) := by
  unfold eitherR lEither
  rw [hp.ok]
  cases hq : q.ok
  · exact ⟨rfl, hp.next, fun e => by cases e⟩
  · obtain ⟨q1, q2, a, e, q3, q4, q5⟩ := h.frg hok
    obtain ⟨p1, p2, b, f, p3, p4, p5⟩ := hp.frg hq
    have i2 := q5.ie
    have i4 := p5.ie
    simp only [if_true]
    refine ⟨rfl, hp.next, fun _ => ?_⟩
    dsimp only
    rw [q3, q4, p3, p4]
    have hk := q5.keep p1 (fun x _ h2 => p2 x h2)
    obtain ⟨ln, hat⟩ := either_at (a := a) (b := b) hk.en p5.en (by omega)
    refine ⟨by omega, fun x hx => ?_, p.ns.length, p.ns.length + 1, rfl, by omega, ?_⟩
    · rw [hat, if_neg (by omega), if_neg (by omega), if_neg (by omega), p2 x (by omega)]; exact q2 x hx
    · rw [ln]; exact hk.either p5
theorem lk_choiceL {p : Int → List Node → PR} {q : Int → LR} {s : ByteArray} (hp : LkF p q) (ns : List Node) : ∀ (f : Nat) (r : PR) (l : LR), Lk ns r l → Lk ns (rChoiceL p s f r) (lChoiceL q s f l)
  | 0, r, l, h => h
  | f + 1, r, l, h => by
    unfold rChoiceL lChoiceL
    rw [h.ok, h.next]
    split
    · rename_i hc
      rw [Bool.and_eq_true] at hc
      exact lk_choiceL hp ns f _ _ (lk_either h hc.1 (hp _ _))
    · exact h
theorem lk_choice {f : Int → List Node → PR} {l : Int → LR} {s : ByteArray} (h : LkF f l) : LkF (rChoice f s) (lChoice l s) := fun i ns => lk_choiceL h ns _ _ _ (h i ns)
theorem lk_group {f : Int → List Node → PR} {l : Int → LR} {s : ByteArray} (h : LkF f l) : LkF (rGroup f s) (lGroup l s) := by
  intro i ns
  have hh := h (i + 1) ns
  unfold rGroup lGroup
  rw [hh.ok, hh.next]
  split
  · exact ⟨rfl, rfl, fun e => by cases e⟩
  · rename_i h1
    split
    · exact ⟨rfl, rfl, fun e => by cases e⟩
    · exact ⟨rfl, rfl, fun _ => hh.frg (by simpa using h1)⟩
theorem lk_gK (s : ByteArray) : ∀ k, LkF (gK s k) (lgK s k)
  | 0 => fun i ns => ⟨rfl, rfl, fun e => by cases e⟩
  | k + 1 => lk_group (lk_choice (lk_branch (lk_piece (lk_atom (lk_gK s k)))))
theorem lk_chK (s : ByteArray) (k : Nat) : LkF (chK s k) (lchK s k) := lk_choice (lk_branch (lk_piece (lk_atom (lk_gK s k))))
/-- the bytes of a text -/
def bytesOf (t : ByteArray) : List Nat := bytesK t 0 t.size
/-- what a rule matches is what its pattern means -/
theorem match_lang {s : ByteArray} {i : Int} (hok : (rRead s i).ok = true) (d : Wd) (sk : Bool) (t : ByteArray) : ruleMatch ⟨d, sk, (rRead s i).ns, (rRead s i).st, (rRead s i).en, []⟩ t = true ↔ (lchK s 6 i).lang (bytesOf t) := by
  have h := lk_chK s 6 i []
  obtain ⟨_, _, a, e, h3, h4, h5⟩ := h.frg (by rw [← h.ok]; exact hok)
  have h3 : (rRead s i).st = a := h3
  have h4 : (rRead s i).en = e := h4
  have h5 : Frg (rRead s i).ns 0 (rRead s i).ns.length a e (lchK s 6 i).lang := h5
  have m := match_acc ⟨d, sk, (rRead s i).ns, (rRead s i).st, (rRead s i).en, []⟩ t 0 t.size (by omega)
  rw [Nat.zero_add, show t.extract 0 t.size = t from by simp] at m
  rw [m]
  dsimp only
  rw [h3, h4, accK_path h5.ia.2 h5.ie.2 t 0 t.size (by omega)]
  exact h5.lg _
end Go.Proofs.YtcpgklcimacngaaGreat
