import Derived.Test.YtcpgklcimacngaaGreatRf5
import Derived.Laws.Bits64
import Derived.Laws.Bits64b
import Derived.WalkSmall
namespace Go.Proofs.YtcpgklcimacngaaGreat
open Go.RowKit
set_option linter.unusedVariables false
set_option linter.unusedSimpArgs false

/-- none may be, many may be -/
def flagL (n m : Bool) (A : Lang) : Lang := fun w => (n = true ∧ w = []) ∨ ∃ ws : List (List Nat), ws ≠ [] ∧ (∀ u ∈ ws, A u) ∧ w = ws.flatten ∧ (m = false → ws.length = 1)
theorem flag_one (A : Lang) (w : List Nat) : flagL false false A w ↔ A w := by
  constructor
  · rintro (⟨h, _⟩ | ⟨ws, _, h1, h2, h3⟩)
    · cases h
    · obtain ⟨u, rfl⟩ := List.length_eq_one_iff.1 (h3 rfl)
      rw [h2]; simpa using h1 u (by simp)
  · intro h; exact .inr ⟨[w], by simp, by simpa using h, by simp, fun _ => rfl⟩
/-- the words of texts that are rows of words -/
theorem flag_flat {n m : Bool} {A : Lang} : ∀ (ws : List (List Nat)), (∀ u ∈ ws, flagL n m A u) → ∃ vs : List (List Nat), (∀ u ∈ vs, A u) ∧ ws.flatten = vs.flatten ∧ (vs = [] → ws = [] ∨ n = true) ∧ (m = false → vs.length ≤ ws.length)
  | [], _ => ⟨[], by simp, rfl, fun _ => .inl rfl, fun _ => by simp⟩
  | w :: ws, h => by
    obtain ⟨vs, h1, h2, h3, h4⟩ := flag_flat ws (fun u hu => h u (by simp [hu]))
    rcases h w (by simp) with ⟨q1, q2⟩ | ⟨us, q1, q2, q3, q4⟩
    · exact ⟨vs, h1, by rw [List.flatten_cons, q2, h2, List.nil_append], fun _ => .inr q1, fun e => by have := h4 e; simp only [List.length_cons]; omega⟩
    · refine ⟨us ++ vs, ?_, by rw [List.flatten_cons, q3, h2, List.flatten_append], fun e => ?_, fun e => ?_⟩
      · intro u hu
        rcases List.mem_append.1 hu with hu | hu
        · exact q2 u hu
        · exact h1 u hu
      · exact absurd (List.append_eq_nil_iff.1 e).1 q1
      · have := h4 e; have := q4 e; simp only [List.length_append, List.length_cons]; omega
theorem rep_iff {A B : Lang} (h : ∀ w, A w ↔ B w) (c : Int) (w : List Nat) : Lang.rep c A w ↔ Lang.rep c B w := by
  constructor
  · rintro ⟨ws, h1, h2⟩; exact ⟨ws, fun u hu => (h u).1 (h1 u hu), h2⟩
  · rintro ⟨ws, h1, h2⟩; exact ⟨ws, fun u hu => (h u).2 (h1 u hu), h2⟩
/-- what a mark behind it makes of it -/
theorem rep_flag {n m : Bool} {A : Lang} {c : Int} (hc : isMark c = true) (w : List Nat) : Lang.rep c (flagL n m A) w ↔ flagL (n || (c != 43)) (m || (c != 63)) A w := by
  constructor
  · rintro ⟨ws, h1, h2, h3, h4⟩
    obtain ⟨vs, k1, k2, k3, k4⟩ := flag_flat ws h1
    by_cases hv : vs = []
    · left
      refine ⟨?_, by rw [h2, k2, hv]; rfl⟩
      rcases k3 hv with e | e
      · by_cases c43 : c = 43
        · exact absurd e (h3 c43)
        · have : (c != 43) = true := by simpa using c43
          rw [this]; simp
      · rw [e]; rfl
    · right
      refine ⟨vs, hv, k1, by rw [h2, k2], fun e => ?_⟩
      rw [Bool.or_eq_false_iff] at e
      have c63 : c = 63 := by simpa using e.2
      have := h4 c63
      have := k4 e.1
      have : 0 < vs.length := List.length_pos_iff.2 hv
      omega
  · rintro (⟨h1, h2⟩ | ⟨vs, h1, h2, h3, h4⟩)
    · by_cases c43 : c = 43
      · have hn : n = true := by
          rw [c43] at h1; simpa using h1
        exact ⟨[[]], by intro u hu; simp at hu; exact .inl ⟨hn, hu⟩, by simp [h2], fun _ => by simp, fun _ => by simp⟩
      · exact ⟨[], by simp, by simp [h2], fun e => absurd e c43, fun _ => by simp⟩
    · by_cases hm : m = true
      · exact ⟨[w], by intro u hu; simp at hu; subst hu; exact .inr ⟨vs, h1, h2, h3, fun e => by rw [hm] at e; cases e⟩, by simp, fun _ => by simp, fun _ => by simp⟩
      · by_cases c63 : c = 63
        · have hl := h4 (by rw [c63]; simp; simpa using hm)
          exact ⟨[w], by intro u hu; simp at hu; subst hu; exact .inr ⟨vs, h1, h2, h3, fun _ => hl⟩, by simp, fun _ => by simp, fun _ => by simp⟩
        · exact ⟨vs, by intro u hu; exact .inr ⟨[u], by simp, by simpa using h2 u hu, by simp, fun _ => rfl⟩, h3, fun _ => h1, fun e => absurd e c63⟩
/-- the marks from here on -/
def markF (s : ByteArray) : Nat → Nat → Bool × Bool → Bool × Bool
  | 0, _, b => b
  | f + 1, i, b => if i < s.size then markF s f (i + 1) (b.1 || (atB s i != 43), b.2 || (atB s i != 63)) else b
theorem markF_s (s : ByteArray) (f i : Nat) (b : Bool × Bool) : markF s (f + 1) i b = if i < s.size then markF s f (i + 1) (b.1 || (atB s i != 43), b.2 || (atB s i != 63)) else b := rfl
theorem piece_flags {s : ByteArray} {A : Lang} : ∀ (f g : Nat) (x : Nat) (L : Lang) (b : Bool × Bool), (∀ w, L w ↔ flagL b.1 b.2 A w) → s.size + 1 ≤ f + x → s.size + 1 ≤ g + x → x ≤ s.size → (lPieceL s f ⟨x, true, L⟩).next = s.size →
    ∀ w, (lPieceL s f ⟨x, true, L⟩).lang w ↔ flagL (markF s g x b).1 (markF s g x b).2 A w
  | 0, g, x, L, b, hL, hf, hg, hx, hn => by omega
  | f + 1, 0, x, L, b, hL, hf, hg, hx, hn => by omega
  | f + 1, g + 1, x, L, b, hL, hf, hg, hx, hn => by
    rw [lPieceL_s] at hn ⊢
    rw [markF_s]
    dsimp only at hn ⊢
    rw [Bool.true_and] at hn ⊢
    by_cases c : isMark (atB s x) = true
    · have hlt := atB_lt (s := s) (i := (x : Int)) (mark_in c)
      rw [if_pos c] at hn ⊢
      rw [if_pos (by omega)]
      have e : ((x : Nat) : Int) + 1 = ((x + 1 : Nat) : Int) := by omega
      rw [e] at hn ⊢
      refine piece_flags f g (x + 1) _ _ (fun w => ?_) (by omega) (by omega) (by omega) hn
      rw [rep_iff hL]
      exact rep_flag c w
    · rw [if_neg c] at hn ⊢
      dsimp only at hn ⊢
      have hxs : x = s.size := by omega
      rw [if_neg (by omega)]
      exact hL
/-- a row of pieces -/
def Row (P : Int → LR) : Int → List Lang → Int → Prop
  | x, [], y => x = y
  | x, A :: As, y => (P x).ok = true ∧ (P x).lang = A ∧ Row P (P x).next As y
theorem Row.snoc {P : Int → LR} : ∀ {As : List Lang} {x y : Int}, Row P x As y → (P y).ok = true → Row P x (As ++ [(P y).lang]) (P y).next
  | [], x, y, h, hk => by
    have h' : x = y := h
    subst h'
    exact ⟨hk, rfl, rfl⟩
  | A :: As, x, y, ⟨h1, h2, h3⟩, hk => ⟨h1, h2, Row.snoc h3 hk⟩
section
variable {P : Int → LR} {s : ByteArray}
theorem branchL_row : ∀ (f : Nat) (x : Int) (L : Lang), (lBranchL P s f ⟨x, true, L⟩).ok = true → ∃ As, Row P x As (lBranchL P s f ⟨x, true, L⟩).next ∧ ∀ w, (lBranchL P s f ⟨x, true, L⟩).lang w ↔ Lang.cat L (catL As) w
  | 0, x, L, h => ⟨[], rfl, fun w => (cat_eps L w).symm⟩
  | f + 1, x, L, h => by
    rw [lBranchL_s] at h ⊢
    dsimp only at h ⊢
    rw [Bool.true_and] at h ⊢
    by_cases c : beginsB s x = true
    · rw [if_pos c] at h ⊢
      cases hk : (P x).ok
      · have q1 : lJoin ⟨x, true, L⟩ (P x) = ⟨(P x).next, false, noL⟩ := by unfold lJoin; rw [hk]; rfl
        rw [q1, lBranchL_bad P s _ _ rfl] at h; cases h
      · have q1 : lJoin ⟨x, true, L⟩ (P x) = ⟨(P x).next, true, Lang.cat L (P x).lang⟩ := by unfold lJoin; rw [if_pos hk]
        rw [q1] at h ⊢
        obtain ⟨As, h1, h2⟩ := branchL_row f (P x).next _ h
        refine ⟨(P x).lang :: As, ⟨hk, rfl, h1⟩, fun w => ?_⟩
        rw [h2, cat_assoc]; rfl
    · rw [if_neg c] at h ⊢
      exact ⟨[], rfl, fun w => (cat_eps L w).symm⟩
theorem branch_row {x : Int} (h : (lBranch P s x).ok = true) : ∃ As, As ≠ [] ∧ Row P x As (lBranch P s x).next ∧ ∀ w, (lBranch P s x).lang w ↔ catL As w := by
  have hk : (P x).ok = true := branch_ok h
  unfold lBranch at h ⊢
  rw [lr_eta hk] at h ⊢
  obtain ⟨As, h1, h2⟩ := branchL_row _ _ _ h
  exact ⟨(P x).lang :: As, by simp, ⟨hk, rfl, h1⟩, h2⟩
/-- branches, with | between them -/
def Alts (P : Int → LR) (s : ByteArray) : Int → List (List Lang) → Int → Prop
  | _, [], _ => False
  | x, B :: Bs, y => ∃ z, B ≠ [] ∧ Row P x B z ∧ ((Bs = [] ∧ z = y) ∨ (atB s z = 124 ∧ Alts P s (z + 1) Bs y))
theorem choiceL_alts : ∀ (f : Nat) (x : Int) (L : Lang), (lChoiceL (lBranch P s) s f ⟨x, true, L⟩).ok = true → ∃ Bs, ((Bs = [] ∧ x = (lChoiceL (lBranch P s) s f ⟨x, true, L⟩).next) ∨ (atB s x = 124 ∧ Alts P s (x + 1) Bs (lChoiceL (lBranch P s) s f ⟨x, true, L⟩).next)) ∧
    ∀ w, (lChoiceL (lBranch P s) s f ⟨x, true, L⟩).lang w ↔ L w ∨ ∃ B ∈ Bs, catL B w
  | 0, x, L, h => ⟨[], .inl ⟨rfl, rfl⟩, fun w => by simp [lChoiceL]⟩
  | f + 1, x, L, h => by
    rw [lChoiceL_s] at h ⊢
    dsimp only at h ⊢
    rw [Bool.true_and] at h ⊢
    by_cases c : (atB s x == 124) = true
    · rw [if_pos c] at h ⊢
      have c124 : atB s x = 124 := by simpa using c
      cases hk : (lBranch P s (x + 1)).ok
      · have q1 : lEither ⟨x, true, L⟩ (lBranch P s (x + 1)) = ⟨(lBranch P s (x + 1)).next, false, noL⟩ := by unfold lEither; rw [hk]; rfl
        rw [q1, lChoiceL_bad _ s _ _ rfl] at h; cases h
      · have q1 : lEither ⟨x, true, L⟩ (lBranch P s (x + 1)) = ⟨(lBranch P s (x + 1)).next, true, Lang.alt L (lBranch P s (x + 1)).lang⟩ := by unfold lEither; rw [if_pos hk]
        rw [q1] at h ⊢
        obtain ⟨Bs, h1, h2⟩ := choiceL_alts f (lBranch P s (x + 1)).next _ h
        obtain ⟨As, k1, k2, k3⟩ := branch_row hk
        refine ⟨As :: Bs, .inr ⟨c124, _, k1, k2, h1⟩, fun w => ?_⟩
        rw [h2]
        unfold Lang.alt
        rw [k3]
        simp only [List.mem_cons]
        constructor
        · rintro ((q | q) | ⟨B, hB, q⟩)
          · exact .inl q
          · exact .inr ⟨As, .inl rfl, q⟩
          · exact .inr ⟨B, .inr hB, q⟩
        · rintro (q | ⟨B, rfl | hB, q⟩)
          · exact .inl (.inl q)
          · exact .inl (.inr q)
          · exact .inr ⟨B, hB, q⟩
    · rw [if_neg c]
      exact ⟨[], .inl ⟨rfl, rfl⟩, fun w => by simp⟩
theorem choice_alts {x : Int} (h : (lChoice (lBranch P s) s x).ok = true) : ∃ Bs, Alts P s x Bs (lChoice (lBranch P s) s x).next ∧ ∀ w, (lChoice (lBranch P s) s x).lang w ↔ ∃ B ∈ Bs, catL B w := by
  have hk : (lBranch P s x).ok = true := choice_ok h
  obtain ⟨As, k1, k2, k3⟩ := branch_row hk
  unfold lChoice at h ⊢
  rw [lr_eta hk] at h ⊢
  obtain ⟨Bs, h1, h2⟩ := choiceL_alts _ _ _ h
  refine ⟨As :: Bs, ⟨_, k1, k2, h1⟩, fun w => ?_⟩
  rw [h2, k3]
  simp only [List.mem_cons]
  constructor
  · rintro (q | ⟨B, hB, q⟩)
    · exact ⟨As, .inl rfl, q⟩
    · exact ⟨B, .inr hB, q⟩
  · rintro ⟨B, rfl | hB, q⟩
    · exact .inl q
    · exact .inr ⟨B, hB, q⟩
end
/-- the closure: many times -/
theorem plus_closed {A : Lang} {t : ByteArray} {fs os ns : List Bool} (hl : os.length = t.size + 1) (h1 : ∀ j, j ≤ t.size → Reach A t (On fs) j → On os j) (h2 : ∀ j, On os j → j ≤ t.size → Reach (flagL false true A) t (On fs) j)
    (hn : Goes A t os ns) (hno : ∀ j, On ns j → On os j) : Goes (flagL false true A) t fs os := by
  refine ⟨hl, fun j hj => ⟨fun h => h2 j h hj, ?_⟩⟩
  rintro ⟨i, hi, hf, ⟨h, _⟩ | ⟨ws, hne, hall, he, _⟩⟩
  · cases h
  · -- by the number of words
    have key : ∀ (ws : List (List Nat)) (k : Nat), ws ≠ [] → (∀ u ∈ ws, A u) → k ≤ j → (On fs k ∨ On os k) → bytesK t k (j - k) = ws.flatten → On os j := by
      intro ws
      induction ws with
      | nil => intro k hne; exact absurd rfl hne
      | cons u ws ih =>
        intro k _ hall hk hon he
        rw [List.flatten_cons] at he
        obtain ⟨a, q1, q2, q3⟩ := bytesK_split (by omega) he
        have hA := hall u (by simp)
        have hmid : On os (k + a) := by
          have r : ∀ F : Nat → Prop, F k → Reach A t F (k + a) := fun F hF => ⟨k, by omega, hF, by rw [show k + a - k = a by omega, ← q2]; exact hA⟩
          rcases hon with hon | hon
          · exact h1 _ (by omega) (r _ hon)
          · exact hno _ ((hn.on _ (by omega)).2 (r _ hon))
        by_cases hw : ws = []
        · rw [hw] at q3
          have := bytesK_len t (k + a) (j - k - a) (by omega)
          rw [← q3] at this
          simp at this
          rw [show j = k + a by omega]; exact hmid
        · exact ih (k + a) hw (fun u hu => hall u (by simp [hu])) (by omega) (.inr hmid) (by rw [show j - (k + a) = j - k - a by omega]; exact q3.symm)
    exact key ws i hne hall hi (.inl hf) he
theorem plus_one {A : Lang} {t : ByteArray} {F : Nat → Prop} {j : Nat} (h : Reach A t F j) : Reach (flagL false true A) t F j := by
  obtain ⟨i, h1, h2, h3⟩ := h
  exact ⟨i, h1, h2, .inr ⟨[_], by simp, by simpa using h3, by simp, fun _ => rfl⟩⟩
theorem plus_more {A : Lang} {t : ByteArray} {F : Nat → Prop} {j : Nat} (hj : j ≤ t.size) (h : Reach A t (fun k => Reach (flagL false true A) t F k) j) : Reach (flagL false true A) t F j := by
  obtain ⟨k, h1, ⟨i, k1, k2, ⟨q, _⟩ | ⟨ws, q1, q2, q3, _⟩⟩, h3⟩ := h
  · cases q
  · refine ⟨i, by omega, k2, .inr ⟨ws ++ [bytesK t k (j - k)], by simp, ?_, ?_, fun e => by cases e⟩⟩
    · intro u hu
      rcases List.mem_append.1 hu with hu | hu
      · exact q2 u hu
      · simp at hu; subst hu; exact h3
    · have := bytesK_app t i (k - i) (j - k)
      rw [show k - i + (j - k) = j - i by omega, show i + (k - i) = k by omega] at this
      rw [this, q3]; simp
end Go.Proofs.YtcpgklcimacngaaGreat
namespace Go.Proofs.YtcpgklcimacngaaGreat
open Go.RowKit
set_option linter.unusedVariables false
set_option linter.unusedSimpArgs false

end Go.Proofs.YtcpgklcimacngaaGreat
namespace Go.Proofs.YtcpgklcimacngaaGreat
open Go.RowKit
set_option linter.unusedVariables false
set_option linter.unusedSimpArgs false

end Go.Proofs.YtcpgklcimacngaaGreat
namespace Go.Proofs.YtcpgklcimacngaaGreat
open Go.RowKit
set_option linter.unusedVariables false
set_option linter.unusedSimpArgs false

/-- four words -/
structure WOk (ws : List Int) : Prop where
  len : ws.length = 4
  rng : ∀ k : Nat, 0 ≤ ws.getD k 0 ∧ ws.getD k 0 < 18446744073709551616
def tb (ws : List Int) (c : Nat) : Bool := (ws.getD (c / 64) 0).toNat.testBit (c % 64)
theorem hasB_tb {ws : List Int} (h : WOk ws) (c : Nat) : hasB ws c = tb ws c := by
  have hr := h.rng (c / 64)
  unfold hasB tb
  have e : ws[c / 64]?.getD 0 = ws.getD (c / 64) 0 := rfl
  rw [e]
  generalize ws.getD (c / 64) 0 = x at hr
  obtain ⟨n, rfl⟩ : ∃ n : Nat, x = n := ⟨x.toNat, by omega⟩
  have e2 : ((n : Int) / 2 ^ (c % 64)) = ((n / 2 ^ (c % 64) : Nat) : Int) := by push_cast; rfl
  have hle : n / 2 ^ (c % 64) ≤ n := Nat.div_le_self _ _
  rw [e2, Int.toNat_natCast, Nat.testBit_eq_decide_div_mod_eq]
  generalize n / 2 ^ (c % 64) = m at hle ⊢
  rw [and_one_u64 _ (by omega) (by omega), Bool.eq_iff_iff, beq_iff_eq, decide_eq_true_eq]
  omega
theorem zero4_ok : WOk zero4 := ⟨rfl, fun k => by
  match k with
  | 0 => decide
  | 1 => decide
  | 2 => decide
  | 3 => decide
  | k + 4 => simp [zero4]⟩
theorem zero4_tb (c : Nat) : tb zero4 c = false := by
  unfold tb
  have : zero4.getD (c / 64) 0 = 0 := by
    match c / 64 with
    | 0 => rfl
    | 1 => rfl
    | 2 => rfl
    | 3 => rfl
    | k + 4 => simp [zero4]
  rw [this]; simp
theorem two_lt {k : Nat} (h : k < 64) : 2 ^ k < 18446744073709551616 := by
  have := Nat.pow_lt_pow_right (a := 2) (by omega) h
  simpa using this
theorem setBit_ok {ws : List Int} (h : WOk ws) {n : Nat} (hn : n < 256) : WOk (setBit ws n) ∧ ∀ c, tb (setBit ws n) c = (tb ws c || decide (c = n)) := by
  have hr := h.rng (n / 64)
  have hl := h.len
  have hk : n % 64 < 64 := Nat.mod_lt _ (by omega)
  have hp := two_lt hk
  have e0 : setBit ws n = ws.set (n / 64) (((ws.getD (n / 64) 0).toNat ||| 2 ^ (n % 64) : Nat) : Int) := by
    unfold setBit
    have e1 : ((n : Int) / 64).toNat = n / 64 := by omega
    have e2 : ((n : Int) % 64).toNat = n % 64 := by omega
    rw [e1, e2]
    congr 1
    have e3 : IntKind.u64.wrap (2 ^ (n % 64)) = ((2 ^ (n % 64) : Nat) : Int) := by
      rw [IntKind.wrap_u64]
      have : ((2 : Int) ^ (n % 64)) = ((2 ^ (n % 64) : Nat) : Int) := by push_cast; rfl
      rw [this]
      generalize 2 ^ (n % 64) = P at hp ⊢
      omega
    have e4 : ws[n / 64]?.getD 0 = ((ws.getD (n / 64) 0).toNat : Int) := by
      have : ws[n / 64]?.getD 0 = ws.getD (n / 64) 0 := rfl
      rw [this]; omega
    rw [e3, e4, bits_or_u64_nat _ _ (by omega) hp]
  rw [e0]
  have hor : ((ws.getD (n / 64) 0).toNat ||| 2 ^ (n % 64)) < 18446744073709551616 := by
    have := Nat.or_lt_two_pow (n := 64) (x := (ws.getD (n / 64) 0).toNat) (y := 2 ^ (n % 64)) (by omega) (by omega)
    omega
  refine ⟨⟨by rw [List.length_set]; exact hl, fun k => ?_⟩, fun c => ?_⟩
  · by_cases q : n / 64 = k
    · rw [← q]
      have : (ws.set (n / 64) (((ws.getD (n / 64) 0).toNat ||| 2 ^ (n % 64) : Nat) : Int)).getD (n / 64) 0 = (((ws.getD (n / 64) 0).toNat ||| 2 ^ (n % 64) : Nat) : Int) := by
        rw [List.getD, List.getElem?_set_self (by omega)]; rfl
      rw [this]; omega
    · have : (ws.set (n / 64) (((ws.getD (n / 64) 0).toNat ||| 2 ^ (n % 64) : Nat) : Int)).getD k 0 = ws.getD k 0 := by
        rw [List.getD, List.getElem?_set_ne q]; rfl
      rw [this]; exact h.rng k
  · unfold tb
    by_cases q : n / 64 = c / 64
    · have : (ws.set (n / 64) (((ws.getD (n / 64) 0).toNat ||| 2 ^ (n % 64) : Nat) : Int)).getD (c / 64) 0 = (((ws.getD (c / 64) 0).toNat ||| 2 ^ (n % 64) : Nat) : Int) := by
        rw [← q, List.getD, List.getElem?_set_self (by omega)]; rfl
      rw [this, Int.toNat_natCast, Nat.testBit_or, Nat.testBit_two_pow]
      congr 1
      rw [Bool.eq_iff_iff, decide_eq_true_eq, decide_eq_true_eq]
      omega
    · have : (ws.set (n / 64) (((ws.getD (n / 64) 0).toNat ||| 2 ^ (n % 64) : Nat) : Int)).getD (c / 64) 0 = ws.getD (c / 64) 0 := by
        rw [List.getD, List.getElem?_set_ne q]; rfl
      rw [this]
      have : decide (c = n) = false := by simp; intro e; exact q (by rw [e])
      rw [this, Bool.or_false]
theorem withN_ok {ws : List Int} (h : WOk ws) {lo : Nat} : ∀ n, lo + n ≤ 256 → WOk (withN ws lo n) ∧ ∀ c, tb (withN ws lo n) c = (tb ws c || decide (lo ≤ c ∧ c < lo + n))
  | 0, _ => ⟨h, fun c => by
      have : decide (lo ≤ c ∧ c < lo + 0) = false := decide_eq_false (by omega)
      rw [this, Bool.or_false]; rfl⟩
  | n + 1, hn => by
    obtain ⟨h1, h2⟩ := withN_ok h (lo := lo) n (by omega)
    have e : ((lo : Int) + (n : Int)) = ((lo + n : Nat) : Int) := by omega
    obtain ⟨h3, h4⟩ := setBit_ok h1 (n := lo + n) (by omega)
    unfold withN
    rw [e]
    refine ⟨h3, fun c => ?_⟩
    rw [h4, h2, Bool.or_assoc]
    congr 1
    rw [Bool.eq_iff_iff, Bool.or_eq_true, decide_eq_true_eq, decide_eq_true_eq, decide_eq_true_eq]
    omega
theorem has_range {lo hi : Nat} (h1 : lo ≤ hi) (h2 : hi < 256) : WOk (withF zero4 lo hi) ∧ ∀ c, hasB (withF zero4 lo hi) c = decide (lo ≤ c ∧ c ≤ hi) := by
  obtain ⟨q1, q2⟩ := withN_ok zero4_ok (lo := lo) (hi + 1 - lo) (by omega)
  have e : withF zero4 lo hi = withN zero4 lo (hi + 1 - lo) := by
    unfold withF
    congr 1; omega
  rw [e]
  refine ⟨q1, fun c => ?_⟩
  rw [hasB_tb q1, q2, zero4_tb, Bool.false_or, Bool.eq_iff_iff, decide_eq_true_eq, decide_eq_true_eq]
  omega
theorem flip_ok {n : Nat} (h : n < 18446744073709551616) : flip64 n = ((18446744073709551615 ^^^ n : Nat) : Int) := by
  unfold flip64
  have e : (if IntKind.u64.signed = true then (-1 : Int) else IntKind.u64.max) = ((18446744073709551615 : Nat) : Int) := by decide
  rw [e, bits_xor_u64_nat _ _ (by omega) h]
theorem has_opp {ws : List Int} (h : WOk ws) {c : Nat} (hc : c < 256) : hasB (oppN ws 4) c = !hasB ws c := by
  obtain ⟨a, b, d, e, rfl⟩ := four h.len
  have ra := h.rng 0
  have rb := h.rng 1
  have rd := h.rng 2
  have re := h.rng 3
  simp only [List.getD_cons_zero, List.getD_cons_succ] at ra rb rd re
  obtain ⟨a, rfl⟩ : ∃ n : Nat, a = n := ⟨a.toNat, by omega⟩
  obtain ⟨b, rfl⟩ : ∃ n : Nat, b = n := ⟨b.toNat, by omega⟩
  obtain ⟨d, rfl⟩ : ∃ n : Nat, d = n := ⟨d.toNat, by omega⟩
  obtain ⟨e, rfl⟩ : ∃ n : Nat, e = n := ⟨e.toNat, by omega⟩
  have e1 : oppN [(a : Int), (b : Int), (d : Int), (e : Int)] 4 = [flip64 a, flip64 b, flip64 d, flip64 e] := rfl
  rw [e1, flip_ok (by omega), flip_ok (by omega), flip_ok (by omega), flip_ok (by omega)]
  have xl : ∀ n : Nat, n < 18446744073709551616 → 18446744073709551615 ^^^ n < 18446744073709551616 := fun n hn => by
    have := Nat.xor_lt_two_pow (n := 64) (x := 18446744073709551615) (y := n) (by omega) (by omega)
    omega
  have la := xl a (by omega)
  have lb := xl b (by omega)
  have ld := xl d (by omega)
  have le := xl e (by omega)
  have h2 : WOk [((18446744073709551615 ^^^ a : Nat) : Int), ((18446744073709551615 ^^^ b : Nat) : Int), ((18446744073709551615 ^^^ d : Nat) : Int), ((18446744073709551615 ^^^ e : Nat) : Int)] := ⟨rfl, fun k => by
    match k with
    | 0 => simp only [List.getD_cons_zero]; omega
    | 1 => simp only [List.getD_cons_succ, List.getD_cons_zero]; omega
    | 2 => simp only [List.getD_cons_succ, List.getD_cons_zero]; omega
    | 3 => simp only [List.getD_cons_succ, List.getD_cons_zero]; omega
    | k + 4 => simp⟩
  rw [hasB_tb h, hasB_tb h2]
  unfold tb
  have key : ∀ n : Nat, (18446744073709551615 ^^^ n).testBit (c % 64) = !n.testBit (c % 64) := fun n => by
    have hm : (18446744073709551615 : Nat).testBit (c % 64) = true := by
      have := Nat.testBit_two_pow_sub_one 64 (c % 64)
      rw [show (2 : Nat) ^ 64 - 1 = 18446744073709551615 from rfl] at this
      rw [this]; simp; omega
    rw [Nat.testBit_xor, hm]; simp
  have hq : c / 64 < 4 := by omega
  match hcc : c / 64, hq with
  | 0, _ => simp only [List.getD_cons_zero, Int.toNat_natCast]; exact key a
  | 1, _ => simp only [List.getD_cons_succ, List.getD_cons_zero, Int.toNat_natCast]; exact key b
  | 2, _ => simp only [List.getD_cons_succ, List.getD_cons_zero, Int.toNat_natCast]; exact key d
  | 3, _ => simp only [List.getD_cons_succ, List.getD_cons_zero, Int.toNat_natCast]; exact key e
end Go.Proofs.YtcpgklcimacngaaGreat
