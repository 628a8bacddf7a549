import Derived.Test.YtjcknghdgfcboaaRf6
import Derived.Test.YtjcknghdgfcboaaLb4
namespace Go.Proofs.Ytjcknghdgfcboaa
open Go.RowKit
set_option linter.unusedVariables false
set_option linter.unusedSimpArgs false

/-- where a text of the language may end, if it begins at one of these places -/
def Reach (L : Lang) (t : ByteArray) (F : Nat → Prop) (j : Nat) : Prop := ∃ i, i ≤ j ∧ F i ∧ L (bytesK t i (j - i))
def On (fs : List Bool) (i : Nat) : Prop := fs[i]? = some true
/-- gs are the places that the language leads to from fs -/
structure Goes (L : Lang) (t : ByteArray) (fs gs : List Bool) : Prop where
  len : gs.length = t.size + 1
  on : ∀ j, j ≤ t.size → (On gs j ↔ Reach L t (On fs) j)
theorem On.lt {fs : List Bool} {i : Nat} (h : On fs i) : i < fs.length := (List.getElem?_eq_some_iff.1 h).1
theorem on_get {fs : List Bool} {i : Nat} (h : i < fs.length) : On fs i ↔ fs[i] = true := by
  unfold On; rw [List.getElem?_eq_getElem h]; simp
theorem bytesK_app (t : ByteArray) (i a : Nat) : ∀ b, bytesK t i (a + b) = bytesK t i a ++ bytesK t (i + a) b
  | 0 => by simp [bytesK]
  | b + 1 => by
    rw [← Nat.add_assoc, bytesK, bytesK_app t i a b, bytesK, List.append_assoc]
    simp only [Nat.add_assoc]
theorem bytesK_len (t : ByteArray) (i : Nat) : ∀ k, i + k ≤ t.size → (bytesK t i k).length = k
  | 0, _ => rfl
  | k + 1, h => by
    rw [bytesK, dif_pos (by omega), List.length_append, bytesK_len t i k (by omega)]; rfl
/-- a text that is parted parts the places -/
theorem bytesK_split {t : ByteArray} {i n : Nat} {u v : List Nat} (hn : i + n ≤ t.size) (h : bytesK t i n = u ++ v) : ∃ a, a ≤ n ∧ u = bytesK t i a ∧ v = bytesK t (i + a) (n - a) := by
  have hl := bytesK_len t i n hn
  rw [h, List.length_append] at hl
  refine ⟨u.length, by omega, ?_⟩
  have e := bytesK_app t i u.length (n - u.length)
  rw [show u.length + (n - u.length) = n by omega, h] at e
  have l1 := bytesK_len t i u.length (by omega)
  exact List.append_inj e (by omega)
theorem reach_cat {A B : Lang} {t : ByteArray} {F : Nat → Prop} {j : Nat} (hj : j ≤ t.size) : Reach (Lang.cat A B) t F j ↔ Reach B t (fun k => k ≤ t.size ∧ Reach A t F k) j := by
  constructor
  · rintro ⟨i, hi, hf, u, v, he, ha, hb⟩
    obtain ⟨a, h1, h2, h3⟩ := bytesK_split (by omega) he
    refine ⟨i + a, by omega, ⟨by omega, i, by omega, hf, ?_⟩, ?_⟩
    · rw [show i + a - i = a by omega, ← h2]; exact ha
    · rw [show j - (i + a) = j - i - a by omega, ← h3]; exact hb
  · rintro ⟨k, hk, ⟨_, i, hi, hf, ha⟩, hb⟩
    refine ⟨i, by omega, hf, _, _, ?_, ha, hb⟩
    have := bytesK_app t i (k - i) (j - k)
    rw [show k - i + (j - k) = j - i by omega, show i + (k - i) = k by omega] at this
    exact this
theorem reach_iff {A B : Lang} (h : ∀ w, A w ↔ B w) {t : ByteArray} {F : Nat → Prop} {j : Nat} : Reach A t F j ↔ Reach B t F j := by
  constructor
  · rintro ⟨i, h1, h2, h3⟩; exact ⟨i, h1, h2, (h _).1 h3⟩
  · rintro ⟨i, h1, h2, h3⟩; exact ⟨i, h1, h2, (h _).2 h3⟩
theorem reach_from {A : Lang} {t : ByteArray} {F G : Nat → Prop} (h : ∀ k, k ≤ t.size → (F k ↔ G k)) {j : Nat} (hj : j ≤ t.size) : Reach A t F j ↔ Reach A t G j := by
  constructor
  · rintro ⟨i, h1, h2, h3⟩; exact ⟨i, h1, (h i (by omega)).1 h2, h3⟩
  · rintro ⟨i, h1, h2, h3⟩; exact ⟨i, h1, (h i (by omega)).2 h2, h3⟩
theorem Goes.cat {A B : Lang} {t : ByteArray} {fs gs hs : List Bool} (h : Goes A t fs gs) (k : Goes B t gs hs) : Goes (Lang.cat A B) t fs hs := by
  refine ⟨k.len, fun j hj => ?_⟩
  rw [k.on j hj, reach_cat hj]
  refine reach_from (fun q hq => ?_) hj
  rw [h.on q hq]
  exact ⟨fun z => ⟨hq, z⟩, fun z => z.2⟩
theorem Goes.iff {A B : Lang} {t : ByteArray} {fs gs : List Bool} (h : Goes A t fs gs) (e : ∀ w, A w ↔ B w) : Goes B t fs gs :=
  ⟨h.len, fun j hj => by rw [h.on j hj]; exact reach_iff e⟩
/-- two sets joined -/
structure Un (xs bs cs : List Bool) : Prop where
  len : cs.length = xs.length
  on : ∀ j, On cs j ↔ On xs j ∨ (j < xs.length ∧ On bs j)
theorem Goes.alt {A B : Lang} {t : ByteArray} {fs gs hs cs : List Bool} (h : Goes A t fs gs) (k : Goes B t fs hs) (u : Un gs hs cs) : Goes (Lang.alt A B) t fs cs := by
  refine ⟨u.len.trans h.len, fun j hj => ?_⟩
  rw [u.on, h.on j hj, k.on j hj]
  have hl := h.len
  constructor
  · rintro (⟨i, h1, h2, h3⟩ | ⟨_, i, h1, h2, h3⟩)
    · exact ⟨i, h1, h2, .inl h3⟩
    · exact ⟨i, h1, h2, .inr h3⟩
  · rintro ⟨i, h1, h2, h3 | h3⟩
    · exact .inl ⟨i, h1, h2, h3⟩
    · exact .inr ⟨by omega, i, h1, h2, h3⟩
theorem goes_none {t : ByteArray} {fs gs : List Bool} (hl : gs.length = t.size + 1) (h : ∀ j, ¬ On gs j) : Goes noL t fs gs :=
  ⟨hl, fun j hj => ⟨fun q => (h j q).elim, fun ⟨i, _, _, q⟩ => q.elim⟩⟩
/-- the language of a row of pieces -/
def epsL : Lang := fun w => w = []
def catL : List Lang → Lang
  | [] => epsL
  | A :: As => Lang.cat A (catL As)
theorem goes_eps {t : ByteArray} {fs : List Bool} (hl : fs.length = t.size + 1) : Goes epsL t fs fs := by
  refine ⟨hl, fun j hj => ⟨fun h => ⟨j, Nat.le_refl _, h, by rw [Nat.sub_self]; rfl⟩, ?_⟩⟩
  rintro ⟨i, h1, h2, h3⟩
  have : (bytesK t i (j - i)).length = 0 := by rw [show bytesK t i (j - i) = [] from h3]; rfl
  rw [bytesK_len t i (j - i) (by omega)] at this
  rw [show j = i by omega]; exact h2
theorem cat_eps (A : Lang) (w : List Nat) : Lang.cat A epsL w ↔ A w := by
  constructor
  · rintro ⟨u, v, rfl, h1, h2⟩; rw [show v = [] from h2, List.append_nil]; exact h1
  · intro h; exact ⟨w, [], by simp, h, rfl⟩
theorem cat_assoc (A B C : Lang) (w : List Nat) : Lang.cat (Lang.cat A B) C w ↔ Lang.cat A (Lang.cat B C) w := by
  constructor
  · rintro ⟨_, z, rfl, ⟨u, v, rfl, h1, h2⟩, h3⟩; exact ⟨u, v ++ z, by simp, h1, v, z, rfl, h2, h3⟩
  · rintro ⟨u, _, rfl, h1, v, z, rfl, h2, h3⟩; exact ⟨u ++ v, z, by simp, ⟨u, v, rfl, h1, h2⟩, h3⟩
theorem cat_iff {A A' B B' : Lang} (h : ∀ w, A w ↔ A' w) (k : ∀ w, B w ↔ B' w) (w : List Nat) : Lang.cat A B w ↔ Lang.cat A' B' w := by
  constructor
  · rintro ⟨u, v, e, h1, h2⟩; exact ⟨u, v, e, (h u).1 h1, (k v).1 h2⟩
  · rintro ⟨u, v, e, h1, h2⟩; exact ⟨u, v, e, (h u).2 h1, (k v).2 h2⟩
theorem catL_snoc : ∀ (As : List Lang) (A : Lang) (w : List Nat), catL (As ++ [A]) w ↔ Lang.cat (catL As) A w
  | [], A, w => by
    show Lang.cat A epsL w ↔ Lang.cat epsL A w
    rw [cat_eps]
    constructor
    · intro h; exact ⟨[], w, rfl, rfl, h⟩
    · rintro ⟨u, v, rfl, h1, h2⟩; rw [show u = [] from h1]; exact h2
  | B :: As, A, w => by
    show Lang.cat B (catL (As ++ [A])) w ↔ Lang.cat (Lang.cat B (catL As)) A w
    rw [cat_assoc]
    exact cat_iff (fun _ => Iff.rfl) (catL_snoc As A) w
end Go.Proofs.Ytjcknghdgfcboaa
namespace Go.Proofs.Ytjcknghdgfcboaa
open Go.RowKit
set_option linter.unusedVariables false
set_option linter.unusedSimpArgs false

/-- none may be, many may be -/
def flagL (n m : Bool) (A : Lang) : Lang := fun w => (n = true ∧ w = []) ∨ ∃ ws : List (List Nat), ws ≠ [] ∧ (∀ u ∈ ws, A u) ∧ w = ws.flatten ∧ (m = false → ws.length = 1)
theorem flag_one (A : Lang) (w : List Nat) : flagL false false A w ↔ A w := by
  constructor
  · rintro (⟨h, _⟩ | ⟨ws, _, h1, h2, h3⟩)
    · cases h
    · obtain ⟨u, rfl⟩ := List.length_eq_one_iff.1 (h3 rfl)
      rw [h2]; simpa using h1 u (by simp)
  · intro h; exact .inr ⟨[w], by simp, by simpa using h, by simp, fun _ => rfl⟩
/-- the words of texts that are rows of words -/
theorem flag_flat {n m : Bool} {A : Lang} : ∀ (ws : List (List Nat)), (∀ u ∈ ws, flagL n m A u) → ∃ vs : List (List Nat), (∀ u ∈ vs, A u) ∧ ws.flatten = vs.flatten ∧ (vs = [] → ws = [] ∨ n = true) ∧ (m = false → vs.length ≤ ws.length)
  | [], _ => ⟨[], by simp, rfl, fun _ => .inl rfl, fun _ => by simp⟩
  | w :: ws, h => by
    obtain ⟨vs, h1, h2, h3, h4⟩ := flag_flat ws (fun u hu => h u (by simp [hu]))
    rcases h w (by simp) with ⟨q1, q2⟩ | ⟨us, q1, q2, q3, q4⟩
    · exact ⟨vs, h1, by rw [List.flatten_cons, q2, h2, List.nil_append], fun _ => .inr q1, fun e => by have := h4 e; simp only [List.length_cons]; omega⟩
    · refine ⟨us ++ vs, ?_, by rw [List.flatten_cons, q3, h2, List.flatten_append], fun e => ?_, fun e => ?_⟩
      · intro u hu
        rcases List.mem_append.1 hu with hu | hu
        · exact q2 u hu
        · exact h1 u hu
      · exact absurd (List.append_eq_nil_iff.1 e).1 q1
      · have := h4 e; have := q4 e; simp only [List.length_append, List.length_cons]; omega
theorem rep_iff {A B : Lang} (h : ∀ w, A w ↔ B w) (c : Int) (w : List Nat) : Lang.rep c A w ↔ Lang.rep c B w := by
  constructor
  · rintro ⟨ws, h1, h2⟩; exact ⟨ws, fun u hu => (h u).1 (h1 u hu), h2⟩
  · rintro ⟨ws, h1, h2⟩; exact ⟨ws, fun u hu => (h u).2 (h1 u hu), h2⟩
/-- what a mark behind it makes of it -/
theorem rep_flag {n m : Bool} {A : Lang} {c : Int} (hc : isMark c = true) (w : List Nat) : Lang.rep c (flagL n m A) w ↔ flagL (n || (c != 43)) (m || (c != 63)) A w := by
  constructor
  · rintro ⟨ws, h1, h2, h3, h4⟩
    obtain ⟨vs, k1, k2, k3, k4⟩ := flag_flat ws h1
    by_cases hv : vs = []
    · left
      refine ⟨?_, by rw [h2, k2, hv]; rfl⟩
      rcases k3 hv with e | e
      · by_cases c43 : c = 43
        · exact absurd e (h3 c43)
        · have : (c != 43) = true := by simpa using c43
          rw [this]; simp
      · rw [e]; rfl
    · right
      refine ⟨vs, hv, k1, by rw [h2, k2], fun e => ?_⟩
      rw [Bool.or_eq_false_iff] at e
      have c63 : c = 63 := by simpa using e.2
      have := h4 c63
      have := k4 e.1
      have : 0 < vs.length := List.length_pos_iff.2 hv
      omega
  · rintro (⟨h1, h2⟩ | ⟨vs, h1, h2, h3, h4⟩)
    · by_cases c43 : c = 43
      · have hn : n = true := by
          rw [c43] at h1; simpa using h1
        exact ⟨[[]], by intro u hu; simp at hu; exact .inl ⟨hn, hu⟩, by simp [h2], fun _ => by simp, fun _ => by simp⟩
      · exact ⟨[], by simp, by simp [h2], fun e => absurd e c43, fun _ => by simp⟩
    · by_cases hm : m = true
      · exact ⟨[w], by intro u hu; simp at hu; subst hu; exact .inr ⟨vs, h1, h2, h3, fun e => by rw [hm] at e; cases e⟩, by simp, fun _ => by simp, fun _ => by simp⟩
      · by_cases c63 : c = 63
        · have hl := h4 (by rw [c63]; simp; simpa using hm)
          exact ⟨[w], by intro u hu; simp at hu; subst hu; exact .inr ⟨vs, h1, h2, h3, fun _ => hl⟩, by simp, fun _ => by simp, fun _ => by simp⟩
        · exact ⟨vs, by intro u hu; exact .inr ⟨[u], by simp, by simpa using h2 u hu, by simp, fun _ => rfl⟩, h3, fun _ => h1, fun e => absurd e c63⟩
/-- the marks from here on -/
def markF (s : ByteArray) : Nat → Nat → Bool × Bool → Bool × Bool
  | 0, _, b => b
  | f + 1, i, b => if i < s.size then markF s f (i + 1) (b.1 || (atB s i != 43), b.2 || (atB s i != 63)) else b
theorem markF_s (s : ByteArray) (f i : Nat) (b : Bool × Bool) : markF s (f + 1) i b = if i < s.size then markF s f (i + 1) (b.1 || (atB s i != 43), b.2 || (atB s i != 63)) else b := rfl
theorem piece_flags {s : ByteArray} {A : Lang} : ∀ (f g : Nat) (x : Nat) (L : Lang) (b : Bool × Bool), (∀ w, L w ↔ flagL b.1 b.2 A w) → s.size + 1 ≤ f + x → s.size + 1 ≤ g + x → x ≤ s.size → (lPieceL s f ⟨x, true, L⟩).next = s.size →
    ∀ w, (lPieceL s f ⟨x, true, L⟩).lang w ↔ flagL (markF s g x b).1 (markF s g x b).2 A w
  | 0, g, x, L, b, hL, hf, hg, hx, hn => by omega
  | f + 1, 0, x, L, b, hL, hf, hg, hx, hn => by omega
  | f + 1, g + 1, x, L, b, hL, hf, hg, hx, hn => by
    rw [lPieceL_s] at hn ⊢
    rw [markF_s]
    dsimp only at hn ⊢
    rw [Bool.true_and] at hn ⊢
    by_cases c : isMark (atB s x) = true
    · have hlt := atB_lt (s := s) (i := (x : Int)) (mark_in c)
      rw [if_pos c] at hn ⊢
      rw [if_pos (by omega)]
      have e : ((x : Nat) : Int) + 1 = ((x + 1 : Nat) : Int) := by omega
      rw [e] at hn ⊢
      refine piece_flags f g (x + 1) _ _ (fun w => ?_) (by omega) (by omega) (by omega) hn
      rw [rep_iff hL]
      exact rep_flag c w
    · rw [if_neg c] at hn ⊢
      dsimp only at hn ⊢
      have hxs : x = s.size := by omega
      rw [if_neg (by omega)]
      exact hL
/-- a row of pieces -/
def Row (P : Int → LR) : Int → List Lang → Int → Prop
  | x, [], y => x = y
  | x, A :: As, y => (P x).ok = true ∧ (P x).lang = A ∧ Row P (P x).next As y
theorem Row.snoc {P : Int → LR} : ∀ {As : List Lang} {x y : Int}, Row P x As y → (P y).ok = true → Row P x (As ++ [(P y).lang]) (P y).next
  | [], x, y, h, hk => by
    have h' : x = y := h
    subst h'
    exact ⟨hk, rfl, rfl⟩
  | A :: As, x, y, ⟨h1, h2, h3⟩, hk => ⟨h1, h2, Row.snoc h3 hk⟩
section
variable {P : Int → LR} {s : ByteArray}
theorem branchL_row : ∀ (f : Nat) (x : Int) (L : Lang), (lBranchL P s f ⟨x, true, L⟩).ok = true → ∃ As, Row P x As (lBranchL P s f ⟨x, true, L⟩).next ∧ ∀ w, (lBranchL P s f ⟨x, true, L⟩).lang w ↔ Lang.cat L (catL As) w
  | 0, x, L, h => ⟨[], rfl, fun w => (cat_eps L w).symm⟩
  | f + 1, x, L, h => by
    rw [lBranchL_s] at h ⊢
    dsimp only at h ⊢
    rw [Bool.true_and] at h ⊢
    by_cases c : beginsB s x = true
    · rw [if_pos c] at h ⊢
      cases hk : (P x).ok
      · have q1 : lJoin ⟨x, true, L⟩ (P x) = ⟨(P x).next, false, noL⟩ := by unfold lJoin; rw [hk]; rfl
        rw [q1, lBranchL_bad P s _ _ rfl] at h; cases h
      · have q1 : lJoin ⟨x, true, L⟩ (P x) = ⟨(P x).next, true, Lang.cat L (P x).lang⟩ := by unfold lJoin; rw [if_pos hk]
        rw [q1] at h ⊢
        obtain ⟨As, h1, h2⟩ := branchL_row f (P x).next _ h
        refine ⟨(P x).lang :: As, ⟨hk, rfl, h1⟩, fun w => ?_⟩
        rw [h2, cat_assoc]; rfl
    · rw [if_neg c] at h ⊢
      exact ⟨[], rfl, fun w => (cat_eps L w).symm⟩
theorem branch_row {x : Int} (h : (lBranch P s x).ok = true) : ∃ As, As ≠ [] ∧ Row P x As (lBranch P s x).next ∧ ∀ w, (lBranch P s x).lang w ↔ catL As w := by
  have hk : (P x).ok = true := branch_ok h
  unfold lBranch at h ⊢
  rw [lr_eta hk] at h ⊢
  obtain ⟨As, h1, h2⟩ := branchL_row _ _ _ h
  exact ⟨(P x).lang :: As, by simp, ⟨hk, rfl, h1⟩, h2⟩
/-- branches, with | between them -/
def Alts (P : Int → LR) (s : ByteArray) : Int → List (List Lang) → Int → Prop
  | _, [], _ => False
  | x, B :: Bs, y => ∃ z, B ≠ [] ∧ Row P x B z ∧ ((Bs = [] ∧ z = y) ∨ (atB s z = 124 ∧ Alts P s (z + 1) Bs y))
theorem choiceL_alts : ∀ (f : Nat) (x : Int) (L : Lang), (lChoiceL (lBranch P s) s f ⟨x, true, L⟩).ok = true → ∃ Bs, ((Bs = [] ∧ x = (lChoiceL (lBranch P s) s f ⟨x, true, L⟩).next) ∨ (atB s x = 124 ∧ Alts P s (x + 1) Bs (lChoiceL (lBranch P s) s f ⟨x, true, L⟩).next)) ∧
    ∀ w, (lChoiceL (lBranch P s) s f ⟨x, true, L⟩).lang w ↔ L w ∨ ∃ B ∈ Bs, catL B w
  | 0, x, L, h => ⟨[], .inl ⟨rfl, rfl⟩, fun w => by simp [lChoiceL]⟩
  | f + 1, x, L, h => by
    rw [lChoiceL_s] at h ⊢
    dsimp only at h ⊢
    rw [Bool.true_and] at h ⊢
    by_cases c : (atB s x == 124) = true
    · rw [if_pos c] at h ⊢
      have c124 : atB s x = 124 := by simpa using c
      cases hk : (lBranch P s (x + 1)).ok
      · have q1 : lEither ⟨x, true, L⟩ (lBranch P s (x + 1)) = ⟨(lBranch P s (x + 1)).next, false, noL⟩ := by unfold lEither; rw [hk]; rfl
        rw [q1, lChoiceL_bad _ s _ _ rfl] at h; cases h
      · have q1 : lEither ⟨x, true, L⟩ (lBranch P s (x + 1)) = ⟨(lBranch P s (x + 1)).next, true, Lang.alt L (lBranch P s (x + 1)).lang⟩ := by unfold lEither; rw [if_pos hk]
        rw [q1] at h ⊢
        obtain ⟨Bs, h1, h2⟩ := choiceL_alts f (lBranch P s (x + 1)).next _ h
        obtain ⟨As, k1, k2, k3⟩ := branch_row hk
        refine ⟨As :: Bs, .inr ⟨c124, _, k1, k2, h1⟩, fun w => ?_⟩
        rw [h2]
        unfold Lang.alt
        rw [k3]
        simp only [List.mem_cons]
        constructor
        · rintro ((q | q) | ⟨B, hB, q⟩)
          · exact .inl q
          · exact .inr ⟨As, .inl rfl, q⟩
          · exact .inr ⟨B, .inr hB, q⟩
        · rintro (q | ⟨B, rfl | hB, q⟩)
          · exact .inl (.inl q)
          · exact .inl (.inr q)
          · exact .inr ⟨B, hB, q⟩
    · rw [if_neg c]
      exact ⟨[], .inl ⟨rfl, rfl⟩, fun w => by simp⟩
theorem choice_alts {x : Int} (h : (lChoice (lBranch P s) s x).ok = true) : ∃ Bs, Alts P s x Bs (lChoice (lBranch P s) s x).next ∧ ∀ w, (lChoice (lBranch P s) s x).lang w ↔ ∃ B ∈ Bs, catL B w := by
  have hk : (lBranch P s x).ok = true := choice_ok h
  obtain ⟨As, k1, k2, k3⟩ := branch_row hk
  unfold lChoice at h ⊢
  rw [lr_eta hk] at h ⊢
  obtain ⟨Bs, h1, h2⟩ := choiceL_alts _ _ _ h
  refine ⟨As :: Bs, ⟨_, k1, k2, h1⟩, fun w => ?_⟩
  rw [h2, k3]
  simp only [List.mem_cons]
  constructor
  · rintro (q | ⟨B, hB, q⟩)
    · exact ⟨As, .inl rfl, q⟩
    · exact ⟨B, .inr hB, q⟩
  · rintro ⟨B, rfl | hB, q⟩
    · exact .inl q
    · exact .inr ⟨B, hB, q⟩
end
/-- the closure: many times -/
theorem plus_closed {A : Lang} {t : ByteArray} {fs os ns : List Bool} (hl : os.length = t.size + 1) (h1 : ∀ j, j ≤ t.size → Reach A t (On fs) j → On os j) (h2 : ∀ j, On os j → j ≤ t.size → Reach (flagL false true A) t (On fs) j)
    (hn : Goes A t os ns) (hno : ∀ j, On ns j → On os j) : Goes (flagL false true A) t fs os := by
  refine ⟨hl, fun j hj => ⟨fun h => h2 j h hj, ?_⟩⟩
  rintro ⟨i, hi, hf, ⟨h, _⟩ | ⟨ws, hne, hall, he, _⟩⟩
  · cases h
  · -- by the number of words
    have key : ∀ (ws : List (List Nat)) (k : Nat), ws ≠ [] → (∀ u ∈ ws, A u) → k ≤ j → (On fs k ∨ On os k) → bytesK t k (j - k) = ws.flatten → On os j := by
      intro ws
      induction ws with
      | nil => intro k hne; exact absurd rfl hne
      | cons u ws ih =>
        intro k _ hall hk hon he
        rw [List.flatten_cons] at he
        obtain ⟨a, q1, q2, q3⟩ := bytesK_split (by omega) he
        have hA := hall u (by simp)
        have hmid : On os (k + a) := by
          have r : ∀ F : Nat → Prop, F k → Reach A t F (k + a) := fun F hF => ⟨k, by omega, hF, by rw [show k + a - k = a by omega, ← q2]; exact hA⟩
          rcases hon with hon | hon
          · exact h1 _ (by omega) (r _ hon)
          · exact hno _ ((hn.on _ (by omega)).2 (r _ hon))
        by_cases hw : ws = []
        · rw [hw] at q3
          have := bytesK_len t (k + a) (j - k - a) (by omega)
          rw [← q3] at this
          simp at this
          rw [show j = k + a by omega]; exact hmid
        · exact ih (k + a) hw (fun u hu => hall u (by simp [hu])) (by omega) (.inr hmid) (by rw [show j - (k + a) = j - k - a by omega]; exact q3.symm)
    exact key ws i hne hall hi (.inl hf) he
theorem plus_one {A : Lang} {t : ByteArray} {F : Nat → Prop} {j : Nat} (h : Reach A t F j) : Reach (flagL false true A) t F j := by
  obtain ⟨i, h1, h2, h3⟩ := h
  exact ⟨i, h1, h2, .inr ⟨[_], by simp, by simpa using h3, by simp, fun _ => rfl⟩⟩
theorem plus_more {A : Lang} {t : ByteArray} {F : Nat → Prop} {j : Nat} (hj : j ≤ t.size) (h : Reach A t (fun k => Reach (flagL false true A) t F k) j) : Reach (flagL false true A) t F j := by
  obtain ⟨k, h1, ⟨i, k1, k2, ⟨q, _⟩ | ⟨ws, q1, q2, q3, _⟩⟩, h3⟩ := h
  · cases q
  · refine ⟨i, by omega, k2, .inr ⟨ws ++ [bytesK t k (j - k)], by simp, ?_, ?_, fun e => by cases e⟩⟩
    · intro u hu
      rcases List.mem_append.1 hu with hu | hu
      · exact q2 u hu
      · simp at hu; subst hu; exact h3
    · have := bytesK_app t i (k - i) (j - k)
      rw [show k - i + (j - k) = j - i by omega, show i + (k - i) = k by omega] at this
      rw [this, q3]; simp
end Go.Proofs.Ytjcknghdgfcboaa
namespace Go.Proofs.Ytjcknghdgfcboaa
open Go.RowKit
set_option linter.unusedVariables false
set_option linter.unusedSimpArgs false

end Go.Proofs.Ytjcknghdgfcboaa
