import Derived.Test.YteneagnhihcljaaGreatDoorSm6
import Derived.Test.YteneagnhihcljaaGreatDoorSed
import Derived.Test.YteneagnhihcljaaGreatDoorCk7
namespace Go.Proofs.YteneagnhihcljaaGreatDoor
open Go.RowKit
set_option linter.unusedVariables false
set_option linter.unusedSimpArgs false

/-- a node that a tree grows by -/
structure St where
  leaf : Bool
  num : Int
/-- a production stands ahead of a token -/
def ahd (N : Int → Bool) (F O : Int → Nat → Bool) (p : Pr) (t : Nat) : Bool := begX N (fun X => F X t) t p.syms || (p.syms.all (nulS N) && O p.head t)
/-- productions without clashes, and their sets -/
structure LLG (ps : List Pr) (R H : Nat) (N : Int → Bool) (F O : Int → Nat → Bool) (ch : Int → Nat → Int) : Prop where
  tab : TabOk ps R H
  mx : ∀ p ∈ ps, p.syms.length ≤ 6
  clN : ∀ p ∈ ps, p.syms.all (nulS N) = true → N p.head = true
  clF : ∀ p ∈ ps, ∀ t, begX N (fun X => F X t) t p.syms = true → F p.head t = true
  clO : ∀ p ∈ ps, ∀ a s b, p.syms = a ++ s :: b → s.isH = true → ∀ t, (begX N (fun X => F X t) t b || (b.all (nulS N) && O p.head t)) = true → O s.num t = true
  leN : ∀ X, N X = true → NS ps H X = true
  leF : ∀ X t, F X t = true → FS ps N t H X = true
  st : O 0 R = true
  bF : ∀ X t, F X t = true → t < R
  one : ∀ (i : Nat) p, ps[i]? = some p → ∀ t, t ≤ R → ahd N F O p t = true → ch p.head t = i
  chr : ∀ X t, 0 ≤ ch X t → ∃ p, ps[(ch X t).toNat]? = some p ∧ p.head = X ∧ ahd N F O p t = true

/-- a tree grows up to the leaf of a kind -/
def gTo (ps : List Pr) (ch : Int → Nat → Int) (t : Nat) : Nat → List Sy → List St → Option (List Sy × List St)
  | 0, _, _ => none
  | _ + 1, [], st => some ([], st)
  | f + 1, s :: k, st => if s.isH = false then some (k, st ++ [⟨true, s.num⟩]) else
      if 0 ≤ ch s.num t then (match ps[(ch s.num t).toNat]? with
        | some p => gTo ps ch t f (p.syms ++ k) (st ++ [⟨false, ch s.num t⟩])
        | none => none) else none
theorem gTo_mono {ps : List Pr} {ch : Int → Nat → Int} {t : Nat} : ∀ (f : Nat) (k : List Sy) (st : List St) (r : List Sy × List St), gTo ps ch t f k st = some r → ∀ g, f ≤ g → gTo ps ch t g k st = some r
  | 0, _, _, _, h, _, _ => by cases h
  | f + 1, [], st, r, h, g, hg => by
    obtain ⟨g, rfl⟩ : ∃ k, g = k + 1 := ⟨g - 1, by omega⟩
    exact h
  | f + 1, s :: k, st, r, h, g, hg => by
    obtain ⟨g, rfl⟩ : ∃ k, g = k + 1 := ⟨g - 1, by omega⟩
    unfold gTo at h ⊢
    split
    · rename_i e; rw [if_pos e] at h; exact h
    · rename_i e
      rw [if_neg e] at h
      split
      · rename_i e2
        rw [if_pos e2] at h
        cases hp : ps[(ch s.num t).toNat]? with
        | none => rw [hp] at h; cases h
        | some p =>
          rw [hp] at h
          exact gTo_mono f _ _ r h g (by omega)
      · rename_i e2; rw [if_neg e2] at h; exact h
theorem gTo_len {ps : List Pr} {ch : Int → Nat → Int} {t : Nat} : ∀ (f : Nat) (k : List Sy) (st : List St) (r : List Sy × List St), gTo ps ch t f k st = some r → st.length ≤ r.2.length
  | 0, _, _, _, h => by cases h
  | f + 1, [], st, r, h => by cases h; exact Nat.le_refl _
  | f + 1, s :: k, st, r, h => by
    unfold gTo at h
    split at h
    · cases h; simp
    · split at h
      · split at h
        · have := gTo_len f _ _ r h; simp at this; omega
        · cases h
      · cases h

def szN : Nat → Nat
  | 0 => 0
  | n + 1 => 1 + 6 * szN n
theorem szN_mono : ∀ n, szN n ≤ szN (n + 1)
  | 0 => by decide
  | n + 1 => by have := szN_mono n; simp only [szN] at *; omega
theorem szN_le {n m : Nat} (h : n ≤ m) : szN n ≤ szN m := by
  obtain ⟨k, rfl⟩ : ∃ k, m = n + k := ⟨m - n, by omega⟩
  induction k with
  | zero => exact Nat.le_refl _
  | succ k ih => exact Nat.le_trans (ih (by omega)) (szN_mono _)
section
variable {ps : List Pr} {R H : Nat} {N : Int → Bool} {F O : Int → Nat → Bool} {ch : Int → Nat → Int}

theorem LLG.nsN (g : LLG ps R H N F O ch) : ∀ (n : Nat) (X : Int), NS ps n X = true → N X = true
  | 0, _, h => by cases h
  | n + 1, X, h => by
    unfold NS at h
    rw [List.any_eq_true] at h
    obtain ⟨p, hp, h⟩ := h
    simp only [Bool.and_eq_true, List.all_eq_true, beq_iff_eq] at h
    rw [← h.1]
    refine g.clN p hp ?_
    rw [List.all_eq_true]
    intro s hs
    simp only [nulS, Bool.and_eq_true]
    exact ⟨(h.2 s hs).1, g.nsN n _ (h.2 s hs).2⟩
theorem LLG.fsF (g : LLG ps R H N F O ch) (t : Nat) : ∀ (n : Nat) (X : Int), FS ps N t n X = true → F X t = true
  | 0, _, h => by cases h
  | n + 1, X, h => by
    unfold FS at h
    rw [List.any_eq_true] at h
    obtain ⟨p, hp, h⟩ := h
    simp only [Bool.and_eq_true, beq_iff_eq] at h
    rw [← h.1]
    exact g.clF p hp t (begX_mono (g.fsF t n) _ h.2)
theorem at_of {p : Pr} (h : p ∈ ps) : ∃ i : Nat, ps[i]? = some p := by
  obtain ⟨i, hi, rfl⟩ := List.getElem_of_mem h
  exact ⟨i, by simp⟩
/-- the one production of a nullable head, and what is below it -/
theorem LLG.nul1 (g : LLG ps R H N F O ch) {n : Nat} {X : Int} (h : NS ps (n + 1) X = true) {t : Nat} (ht : t ≤ R) (ho : O X t = true) :
    ∃ (i : Nat) (p : Pr), ps[i]? = some p ∧ p.head = X ∧ ch X t = i ∧ p.syms.length ≤ 6 ∧ ∀ s ∈ p.syms, s.isH = true ∧ NS ps n s.num = true ∧ O s.num t = true := by
  unfold NS at h
  rw [List.any_eq_true] at h
  obtain ⟨p, hp, h⟩ := h
  simp only [Bool.and_eq_true, List.all_eq_true, beq_iff_eq] at h
  obtain ⟨i, hi⟩ := at_of hp
  have hall : p.syms.all (nulS N) = true := by
    rw [List.all_eq_true]; intro s hs
    simp only [nulS, Bool.and_eq_true]
    exact ⟨(h.2 s hs).1, g.nsN n _ (h.2 s hs).2⟩
  have ha : ahd N F O p t = true := by unfold ahd; rw [hall, h.1, ho]; simp
  refine ⟨i, p, hi, h.1, ?_, g.mx p hp, fun s hs => ⟨(h.2 s hs).1, (h.2 s hs).2, ?_⟩⟩
  · rw [← h.1]; exact g.one i p hi t ht ha
  · obtain ⟨a, b, e⟩ := List.append_of_mem hs
    refine g.clO p hp a s b e (h.2 s hs).1 t ?_
    have hb : b.all (nulS N) = true := by
      rw [List.all_eq_true] at hall ⊢
      intro x hx; exact hall x (by rw [e]; simp [hx])
    rw [hb, h.1, ho]; simp
theorem gTo_open {i : Nat} {p : Pr} {s : Sy} {t : Nat} (hi : ps[i]? = some p) (hs : s.isH = true) (hc : ch s.num t = i) (f : Nat) (k : List Sy) (st : List St) :
    gTo ps ch t (f + 1) (s :: k) st = gTo ps ch t f (p.syms ++ k) (st ++ [⟨false, i⟩]) := by
  rw [gTo, if_neg (by rw [hs]; simp), hc, if_pos (by omega), Int.toNat_natCast, hi]
/-- a list of symbols goes by, if each of them does -/
theorem gTo_list {t B : Nat} : ∀ (l : List Sy), (∀ s ∈ l, ∃ (c : Nat) (ns : List St), ns.length = c ∧ c ≤ B ∧ ∀ f k st, gTo ps ch t (c + f) (s :: k) st = gTo ps ch t f k (st ++ ns)) →
    ∃ (c : Nat) (ns : List St), ns.length = c ∧ c ≤ l.length * B ∧ ∀ f k st, gTo ps ch t (c + f) (l ++ k) st = gTo ps ch t f k (st ++ ns)
  | [], _ => ⟨0, [], rfl, by simp, fun f k st => by simp⟩
  | s :: l, h => by
    obtain ⟨c1, n1, h1, h2, h3⟩ := h s (by simp)
    obtain ⟨c2, n2, h4, h5, h6⟩ := gTo_list l (fun x hx => h x (by simp [hx]))
    refine ⟨c1 + c2, n1 ++ n2, by simp [h1, h4], ?_, fun f k st => ?_⟩
    · simp only [List.length_cons, Nat.add_mul, Nat.one_mul]; omega
    · rw [Nat.add_assoc, List.cons_append, h3, h6, List.append_assoc]
theorem LLG.null (g : LLG ps R H N F O ch) {t : Nat} (ht : t ≤ R) : ∀ (n : Nat) (s : Sy), s.isH = true → NS ps n s.num = true → O s.num t = true →
    ∃ (c : Nat) (ns : List St), ns.length = c ∧ c ≤ szN n ∧ ∀ f k st, gTo ps ch t (c + f) (s :: k) st = gTo ps ch t f k (st ++ ns)
  | 0, _, _, h, _ => by cases h
  | n + 1, s, hs, h, ho => by
    obtain ⟨i, p, hi, hp, hc, hl, hall⟩ := g.nul1 h ht ho
    obtain ⟨c, ns, h1, h2, h3⟩ := gTo_list (ps := ps) (ch := ch) (t := t) (B := szN n) p.syms (fun x hx => g.null ht n x (hall x hx).1 (hall x hx).2.1 (hall x hx).2.2)
    refine ⟨c + 1, ⟨false, i⟩ :: ns, by simp [h1], ?_, fun f k st => ?_⟩
    · have := Nat.mul_le_mul_right (szN n) hl
      simp only [szN]; omega
    · rw [show c + 1 + f = c + f + 1 by omega, gTo_open hi hs hc, h3, List.append_assoc]; rfl
def szF (B : Nat) : Nat → Nat
  | 0 => 0
  | n + 1 => 1 + 6 * B + szF B n
theorem LLG.first (g : LLG ps R H N F O ch) {t : Nat} (ht : t ≤ R) : ∀ (n : Nat) (s : Sy), s.isH = true → FS ps N t n s.num = true →
    ∃ (c : Nat) (ns : List St) (k' : List Sy), ns.length = c ∧ c ≤ szF (szN H) n ∧ k'.length ≤ 6 * n ∧ ∀ f k st, gTo ps ch t (c + f + 1) (s :: k) st = some (k' ++ k, st ++ ns ++ [⟨true, t⟩])
  | 0, _, _, h => by cases h
  | n + 1, s, hs, h => by
    unfold FS at h
    rw [List.any_eq_true] at h
    obtain ⟨p, hp, h⟩ := h
    simp only [Bool.and_eq_true, beq_iff_eq] at h
    obtain ⟨i, hi⟩ := at_of hp
    have hb := begX_mono (g.fsF t n) _ h.2
    have ha : ahd N F O p t = true := by unfold ahd; rw [hb]; rfl
    have hc := g.one i p hi t ht ha
    rw [h.1] at hc
    obtain ⟨a, x, b, e, h1, h2⟩ := begX_split h.2
    have hl := g.mx p hp
    have hlen : a.length + b.length + 1 ≤ 6 := by rw [e] at hl; simp at hl; omega
    have hxF : (if x.isH then F x.num t else x.num == (t : Int)) = true := by
      cases hx : x.isH
      · rw [hx] at h2; exact h2
      · rw [hx] at h2; exact g.fsF t n _ h2
    obtain ⟨c, ns, k1, k2, k3⟩ := gTo_list (ps := ps) (ch := ch) (t := t) (B := szN H) a (fun y hy => by
      have hy1 := (List.all_eq_true.1 h1) y hy
      simp only [nulS, Bool.and_eq_true] at hy1
      refine g.null ht H y hy1.1 (g.leN _ hy1.2) ?_
      obtain ⟨a1, a2, ea⟩ := List.append_of_mem hy
      refine g.clO p hp a1 y (a2 ++ x :: b) (by rw [e, ea]; simp) hy1.1 t ?_
      have : begX N (fun X => F X t) t (a2 ++ x :: b) = true := begX_join x b hxF a2 (by
        rw [List.all_eq_true] at h1 ⊢; intro z hz; exact h1 z (by rw [ea]; simp [hz]))
      rw [this]; rfl)
    have hcB : c ≤ 6 * szN H := Nat.le_trans k2 (Nat.mul_le_mul_right _ (by omega))
    cases hx : x.isH
    · rw [hx] at h2
      simp only [Bool.false_eq_true, if_false, beq_iff_eq] at h2
      refine ⟨c + 1, ⟨false, i⟩ :: ns, b, by simp [k1], by simp only [szF]; omega, by omega, fun f k st => ?_⟩
      rw [show c + 1 + f + 1 = c + (f + 1) + 1 by omega, gTo_open hi hs hc, e, List.append_assoc, k3, List.cons_append, gTo, if_pos hx, h2]
      simp
    · rw [hx] at h2
      simp only [if_true] at h2
      obtain ⟨c', ns', k', m1, m2, m3, m4⟩ := g.first ht n x hx h2
      refine ⟨c + 1 + c', ⟨false, i⟩ :: (ns ++ ns'), k' ++ b, by simp [k1, m1]; omega, by simp only [szF]; omega, by simp; omega, fun f k st => ?_⟩
      rw [show c + 1 + c' + f + 1 = c + (c' + f + 1) + 1 by omega, gTo_open hi hs hc, e, List.append_assoc, k3, List.cons_append, m4]
      simp

/-- what can come next, of a stack -/
def wanT (N : Int → Bool) (F : Int → Nat → Bool) (R : Nat) (k : List Sy) (t : Nat) : Bool := begX N (fun X => F X t) t k || (k.all (nulS N) && (t == R))
/-- what can come behind a head on the stack follows it -/
def StkOk (N : Int → Bool) (F O : Int → Nat → Bool) (R : Nat) (k : List Sy) : Prop := ∀ a s b, k = a ++ s :: b → s.isH = true → ∀ t, wanT N F R b t = true → O s.num t = true
theorem LLG.stk0 (g : LLG ps R H N F O ch) : StkOk N F O R [⟨true, 0⟩] := by
  intro a s b e hs t ht
  cases a with
  | nil =>
    simp only [List.nil_append, List.cons.injEq] at e
    obtain ⟨rfl, rfl⟩ := e
    simp only [wanT, begX, List.all_nil, Bool.true_and, Bool.false_or, beq_iff_eq] at ht
    rw [ht]; exact g.st
  | cons x a => simp at e
theorem StkOk.tail {s : Sy} {k : List Sy} (h : StkOk N F O R (s :: k)) : StkOk N F O R k := fun a x b e hx t ht => h (s :: a) x b (by rw [e]; rfl) hx t ht
theorem app_split {α : Type} {l k a b : List α} {s : α} (h : l ++ k = a ++ s :: b) : (∃ c, k = c ++ s :: b) ∨ ∃ b', b = b' ++ k ∧ l = a ++ s :: b' := by
  rcases List.append_eq_append_iff.1 h with ⟨c, h1, h2⟩ | ⟨c, h1, h2⟩
  · exact .inl ⟨c, h2⟩
  · cases c with
    | nil => simp only [List.nil_append] at h2; exact .inl ⟨[], h2.symm⟩
    | cons x c =>
      simp only [List.cons_append, List.cons.injEq] at h2
      obtain ⟨rfl, rfl⟩ := h2
      exact .inr ⟨c, rfl, h1⟩
theorem LLG.stkOpen (g : LLG ps R H N F O ch) {p : Pr} (hp : p ∈ ps) {s : Sy} {k : List Sy} (hs : s.isH = true) (he : p.head = s.num) (h : StkOk N F O R (s :: k)) : StkOk N F O R (p.syms ++ k) := by
  intro a x b e hx t ht
  rcases app_split e with ⟨c, hc⟩ | ⟨b', rfl, hb⟩
  · exact h (s :: c) x b (by rw [hc]; rfl) hx t ht
  · refine g.clO p hp a x b' hb hx t ?_
    unfold wanT at ht
    rw [begX_append] at ht
    cases hq : begX N (fun X => F X t) t b'
    · rw [hq] at ht
      simp only [Bool.false_or, List.all_append] at ht ⊢
      have hw : b'.all (nulS N) = true ∧ wanT N F R k t = true := by
        unfold wanT
        cases h1 : b'.all (nulS N)
        · rw [h1] at ht; simp at ht
        · rw [h1] at ht; simp only [Bool.true_and] at ht; exact ⟨rfl, ht⟩
      rw [hw.1, he, h [] s k rfl hs t hw.2]; rfl
    · rfl
theorem LLG.stkTo (g : LLG ps R H N F O ch) {t : Nat} : ∀ (f : Nat) (k : List Sy) (st : List St) (r : List Sy × List St), gTo ps ch t f k st = some r → StkOk N F O R k → StkOk N F O R r.1
  | 0, _, _, _, h, _ => by cases h
  | f + 1, [], st, r, h, hk => by cases h; exact hk
  | f + 1, s :: k, st, r, h, hk => by
    unfold gTo at h
    split at h
    · cases h; exact hk.tail
    · rename_i hs
      split at h
      · rename_i h0
        obtain ⟨p, hp, he, _⟩ := g.chr _ _ h0
        rw [hp] at h
        exact g.stkTo f _ _ r h (g.stkOpen (List.mem_of_getElem? hp) (by simpa using hs) he hk)
      · cases h
/-- how many rounds are enough -/
def enough (H n : Nat) : Nat := n * szN H + szF (szN H) H + 1
theorem LLG.grows (g : LLG ps R H N F O ch) {t : Nat} (ht : t ≤ R) (k : List Sy) (hk : StkOk N F O R k) (hw : wanT N F R k t = true) (st : List St) :
    ∃ r, gTo ps ch t (enough H k.length) k st = some r ∧ r.1.length ≤ k.length + 6 * H ∧ r.2.length ≤ st.length + enough H k.length := by
  have key : ∀ (a : List Sy) (x : List Sy), k = a ++ x → a.all (nulS N) = true → wanT N F R x t = true → ∃ (c : Nat) (ns : List St), ns.length = c ∧ c ≤ a.length * szN H ∧ ∀ f k st, gTo ps ch t (c + f) (a ++ k) st = gTo ps ch t f k (st ++ ns) := by
    intro a x e ha hx
    refine gTo_list a (fun y hy => ?_)
    have hy1 := (List.all_eq_true.1 ha) y hy
    simp only [nulS, Bool.and_eq_true] at hy1
    refine g.null ht H y hy1.1 (g.leN _ hy1.2) ?_
    obtain ⟨a1, a2, ea⟩ := List.append_of_mem hy
    refine hk a1 y (a2 ++ x) (by rw [e, ea]; simp) hy1.1 t ?_
    have ha2 : a2.all (nulS N) = true := by
      rw [List.all_eq_true] at ha ⊢; intro z hz; exact ha z (by rw [ea]; simp [hz])
    unfold wanT at hx ⊢
    rw [begX_append, List.all_append, ha2]
    simp only [Bool.true_and]
    rw [Bool.or_assoc, hx]; simp
  unfold wanT at hw
  cases hb : begX N (fun X => F X t) t k
  · rw [hb] at hw
    simp only [Bool.false_or, Bool.and_eq_true, beq_iff_eq] at hw
    obtain ⟨hw1, rfl⟩ := hw
    obtain ⟨c, ns, h1, h2, h3⟩ := key k [] (by simp) hw1 (by simp [wanT, begX])
    refine ⟨([], st ++ ns), ?_, by simp, by simp only [List.length_append, h1, enough]; omega⟩
    have h4 := h3 1 [] st
    rw [List.append_nil] at h4
    refine gTo_mono (c + 1) k st _ (by rw [h4]; rfl) _ (by unfold enough; omega)
  · obtain ⟨a, s, b, rfl, ha, hs⟩ := begX_split hb
    obtain ⟨c, ns, h1, h2, h3⟩ := key a (s :: b) rfl ha (by
      unfold wanT
      have : begX N (fun X => F X t) t ([] ++ s :: b) = true := begX_join s b hs [] rfl
      rw [List.nil_append] at this
      rw [this]; rfl)
    have hal : a.length * szN H ≤ (a ++ s :: b).length * szN H := Nat.mul_le_mul_right _ (by simp)
    cases hx : s.isH
    · rw [hx] at hs
      refine ⟨(b, st ++ ns ++ [⟨true, s.num⟩]), ?_, by simp; omega, by simp only [List.length_append, h1, enough, List.length_singleton] at *; omega⟩
      refine gTo_mono (c + 1) _ st _ ?_ _ (by unfold enough; omega)
      rw [h3, gTo, if_pos hx]
    · rw [hx] at hs
      simp only [if_true] at hs
      obtain ⟨c', ns', k', m1, m2, m3, m4⟩ := g.first ht H s hx (g.leF _ _ hs)
      refine ⟨(k' ++ b, st ++ ns ++ ns' ++ [⟨true, t⟩]), ?_, by simp; omega, by simp only [List.length_append, h1, m1, enough, List.length_singleton] at *; omega⟩
      refine gTo_mono (c + (c' + 0 + 1)) _ st _ ?_ _ (by unfold enough; omega)
      rw [h3]
      exact m4 0 b (st ++ ns)
end
end Go.Proofs.YteneagnhihcljaaGreatDoor
namespace Go.Proofs.YteneagnhihcljaaGreatDoor
open Go.RowKit
set_option linter.unusedVariables false
set_option linter.unusedSimpArgs false

theorem fcell' {a b : World} {p : Addr} {v : Value} (h : Fresh a b) (hc : a.cell? p = some v) : b.cell? p = some v := by
  have hp : p.block < a.heap.size := by
    unfold World.cell? at hc
    split at hc
    · rename_i hq; exact heap_lt hq
    · cases hc
  have hb := h.block p.block hp (fun x => x)
  unfold World.cell? at hc ⊢
  rw [hb]; exact hc
/-- v is a slice of these numbers. -/
def IntAt (w : World) (v : Value) (l : List Int) : Prop :=
  ∃ ao cap, v = .slice ao l.length cap ∧ l.length ≤ cap ∧ ∀ j (h : j < l.length), ∃ g o, ao = some ⟨g, o, none⟩ ∧ w.cell? ⟨g, o + j, none⟩ = some (.int .i64 l[j])
theorem IntAt.fresh {w w' : World} {v : Value} {l : List Int} (h : IntAt w v l) (hf : Fresh w w') : IntAt w' v l := by
  obtain ⟨ao, cap, h1, h2, h3⟩ := h
  refine ⟨ao, cap, h1, h2, fun j hj => ?_⟩
  obtain ⟨g, o, h4, h5⟩ := h3 j hj
  exact ⟨g, o, h4, fcell' hf h5⟩
theorem IntOwn.at' {w : World} {base : Nat} {v : Value} {l : List Int} (h : IntOwn w base v l) : IntAt w v l := by
  rcases h.2 with ⟨rfl, h0⟩ | ⟨g, cap, cur, rfl, _, _, hc, _⟩
  · exact ⟨none, 0, by rw [h0], by omega, fun j hj => by omega⟩
  · refine ⟨_, _, rfl, hc, fun j hj => ⟨g, 0, rfl, ?_⟩⟩
    have := h.cells (g := g) rfl j (.int .i64 l[j]) (by simp [hj])
    rwa [Addr.add_mid] at this
end Go.Proofs.YteneagnhihcljaaGreatDoor
namespace Go.Proofs.YteneagnhihcljaaGreatDoor
open Go.RowKit
set_option linter.unusedVariables false
set_option linter.unusedSimpArgs false

theorem listT_len (a : List Bool) : (listT a).length ≤ 9 := listL_len a 9

end Go.Proofs.YteneagnhihcljaaGreatDoor
namespace Go.Proofs.YteneagnhihcljaaGreatDoor
open Go.RowKit
set_option linter.unusedVariables false
set_option linter.unusedSimpArgs false

end Go.Proofs.YteneagnhihcljaaGreatDoor
namespace Go.Proofs.YteneagnhihcljaaGreatDoor
open Go.RowKit
set_option linter.unusedVariables false
set_option linter.unusedSimpArgs false

end Go.Proofs.YteneagnhihcljaaGreatDoor
namespace Go.Proofs.YteneagnhihcljaaGreatDoor
open Go.RowKit
set_option linter.unusedVariables false
set_option linter.unusedSimpArgs false

end Go.Proofs.YteneagnhihcljaaGreatDoor
namespace Go.Proofs.YteneagnhihcljaaGreatDoor
open Go.RowKit
set_option linter.unusedVariables false
set_option linter.unusedSimpArgs false

theorem runL_bd (ns : List Node) (en : Int) (s : ByteArray) : ∀ (f i : Nat) (l : List Nat) (best : Int), -1 ≤ best → best ≤ s.size → -1 ≤ runL ns en s f i l best ∧ runL ns en s f i l best ≤ s.size
  | 0, _, _, best, h1, h2 => ⟨h1, h2⟩
  | f + 1, i, l, best, h1, h2 => by
    unfold runL; split
    · refine runL_bd ns en s f _ _ _ ?_ ?_ <;> split <;> omega
    · exact ⟨h1, h2⟩
theorem longF_bd (ns : List Node) (st en : Int) (s : ByteArray) (i : Nat) : -1 ≤ longF ns st en s i ∧ longF ns st en s i ≤ s.size := runL_bd ns en s _ _ _ _ (by omega) (by omega)

def rulesOf (s : ByteArray) : List Ln := (rLines s).1.filter ruleB
theorem filter_ln (xs : List LV) : (xs.filter fun x => ruleB x.ln).map LV.ln = (xs.map LV.ln).filter ruleB := by
  induction xs with
  | nil => rfl
  | cons x xs ih => cases h : ruleB x.ln <;> simp [h, ih]

theorem LinesAt.patRange {w : World} {g n cap : Nat} {xs : List LV} (h : LinesAt w (.slice (some ⟨g, 0, none⟩) n cap) xs) (i : Nat) (hi : i < xs.length) : w.rangeAt g (i * 14 + 10) [xs[i].vn, .int .i64 xs[i].ln.st, .int .i64 xs[i].ln.en] := by
  intro j v hj
  obtain ⟨k10, k11, k12⟩ := LV.at10 (h.each xs[i] (by simp)).front
  have hlt : j < 3 := by have := (List.getElem?_eq_some_iff.1 hj).1; simpa using this
  have e : i * 14 + 10 + j = i * 14 + (10 + j) := by omega
  rw [e, h.cells14 i (10 + j) hi (by omega)]
  simp only [List.getElem?_toArray] at k10 k11 k12
  rcases j with _ | _ | _ | j
  · rw [k10]; simpa using hj
  · rw [k11]; simpa using hj
  · rw [k12]; simpa using hj
  · omega

end Go.Proofs.YteneagnhihcljaaGreatDoor
namespace Go.Proofs.YteneagnhihcljaaGreatDoor
open Go.RowKit
set_option linter.unusedVariables false
set_option linter.unusedSimpArgs false

def bestL (lns : List Ln) (t : ByteArray) (i : Nat) : Nat → Nat → Int × Int → Int × Int
  | 0, _, b => b
  | f + 1, k, b => match lns[k]? with
    | some x => bestL lns t i f (k + 1) (if b.2 < longF x.ns x.st x.en t i then ((k : Int), longF x.ns x.st x.en t i) else b)
    | none => b
def bestF (lns : List Ln) (t : ByteArray) (i : Nat) : Int × Int := bestL lns t i (lns.length + 1) 0 (0, i)
abbrev tokArr (r a b : Int) : Array Value := #[.int .i64 r, .int .i64 a, .int .i64 b]
theorem szTok : (Tryz.prog.info? 78).map (·.size) = some 3 := by kernel_rfl

set_option maxRecDepth 20000 in
set_option maxHeartbeats 4000000 in
theorem lexLongest_any (w : World) (v : Value) (xs : List LV) (t : ByteArray) (i : Nat) (hL : LinesAt w v xs) (hn : xs.length ≤ 1000) (ht : t.size ≤ 200) (hi : i ≤ 200) :
    Calls Tryz.prog 28 #[v, .string t, .int .i64 i] w fun e w' => e = .returned (.agg (tokArr (bestF (xs.map LV.ln) t i).1 i (bestF (xs.map LV.ln) t i).2)) ∧ Fresh w w' := by
  obtain ⟨ao, cap, hv⟩ := own_form hL.own
  subst hv
  have HL := hid hL
  generalize hR : bestF (xs.map LV.ln) t i = R
  have HR : Hid (bestL (xs.map LV.ln) t i ((xs.map LV.ln).length + 1) 0 (0, i) = R) := hR
  clear hL hR
  go_enter Tryz.func28, Tryz.ntmps28
  go_wp2
  go_loopw [15] (fun x15 wr => ∃ (f k : Nat) (b : Int × Int), x15 = .int .i64 k ∧ bestL (xs.map LV.ln) t i f k b = R ∧ xs.length + 1 ≤ f + k ∧ k ≤ xs.length ∧ Fresh w wr ∧
      wr.heap[w.heap.size]? = some (.cells (tokArr 0 0 0) 78 (0, 0)) ∧ ∃ fr : Int, wr.heap[w.heap.size + 1]? = some (.cells (tokArr b.1 i b.2) 78 (0, 0)))
      (fun x _ => 1001 - (intOf x).toNat)
  case atStart => exact ⟨_, 0, (0, i), rfl, HR.out, by simp, by omega, ((Mod.refl _ w).alloc _).alloc _, heap_alloc2_old _ _ _, 0, heap_alloc2_new _ _ _⟩
  case round =>
    obtain ⟨f, k, b, rfl, hR, hfu, hk, hfr, hb0, _, hb1⟩ := hrel
    obtain ⟨f, rfl⟩ : ∃ g, f = g + 1 := ⟨f - 1, by omega⟩
    unfold bestL at hR
    have HME := hid (meas (B := 1001) k (by omega))
    have HB0 := hid hb0
    have HB1 := hid hb1
    clear hb0 hb1
    by_cases hlt : k < xs.length
    · have hlt' : k < (xs.map LV.ln).length := by simpa using hlt
      rw [List.getElem?_eq_getElem hlt'] at hR
      simp only [List.getElem_map] at hR
      obtain ⟨g, cap', hv'⟩ := Joins.ownsRow_form HL.out.own (by omega)
      rw [Value.slice.injEq] at hv'
      obtain ⟨rfl, _, rfl⟩ := hv'
      have HL1 := hid (HL.out.fresh hfr)
      have RG := hid (HL1.out.patRange k hlt)
      have hA := HL1.out.each xs[k] (by simp)
      have LG := hid (longest_any wr xs[k].vn xs[k].ln.st xs[k].ln.en xs[k].ln.ns t i hA.nodes (by have := hA.small; omega) (by omega) (by omega))
      have hbd := longF_bd xs[k].ln.ns xs[k].ln.st xs[k].ln.en t i
      generalize longF xs[k].ln.ns xs[k].ln.st xs[k].ln.en t i = lg at hR LG hbd
      obtain ⟨hbd1, hbd2⟩ := hbd
      clear hA
      by_cases hgt : b.2 < lg
      · rw [if_pos hgt] at hR
        have HRR := hid hR
        clear hR
        go_wp2_with (first
          | (refine wpList_load_mid rfl 67 _ rfl g (k * 14 + 10) rfl [xs[k].vn, .int .i64 xs[k].ln.st, .int .i64 xs[k].ln.en] _ RG.out Tryz.underlying67 rfl szPat ?_)
          | (go_at_call 39; refine LG.out.mono ?_; rintro e w2 ⟨rfl, hf2⟩; have k1 := cellOf (hf2.at HB1.out (fun x => x)); have k2 := frozenOf (hf2.at HB1.out (fun x => x))))
        go_roundw
        case rel =>
          refine ⟨f, k + 1, (k, lg), by go_num, HRR.out, by omega, by omega, (((hfr.trans hf2).setCell (by simp) _).setCell (by simp) _).setCell (by simp) _, ?_, 0, ?_⟩
          · exact heap_setCell_prev (heap_setCell_prev (heap_setCell_prev (hf2.at HB0.out (fun x => x)) (by simp)) (by simp)) (by simp)
          · rw [Proofs.YteneagnhihcljaaGreatDoor.heap_setCell_same (Proofs.YteneagnhihcljaaGreatDoor.heap_setCell_same (Proofs.YteneagnhihcljaaGreatDoor.heap_setCell_same (hf2.at HB1.out (fun x => x)) _ _) _ _) _ _]; rfl
        case measure => exact HME.out
      · rw [if_neg hgt] at hR
        have HRR := hid hR
        clear hR
        go_wp2_with (first
          | (refine wpList_load_mid rfl 67 _ rfl g (k * 14 + 10) rfl [xs[k].vn, .int .i64 xs[k].ln.st, .int .i64 xs[k].ln.en] _ RG.out Tryz.underlying67 rfl szPat ?_)
          | (go_at_call 39; refine LG.out.mono ?_; rintro e w2 ⟨rfl, hf2⟩; have k1 := cellOf (hf2.at HB1.out (fun x => x))))
        go_roundw
        case rel => exact ⟨f, k + 1, b, by go_num, HRR.out, by omega, by omega, hfr.trans hf2, hf2.at HB0.out (fun x => x), 0, hf2.at HB1.out (fun x => x)⟩
        case measure => exact HME.out
    · rw [List.getElem?_eq_none (by simp; omega)] at hR
      simp only [] at hR
      have HRR := hid hR
      clear hR
      have k1 := cellOf HB1.out
      have k3 := cellOf HB0.out
      have k4 := frozenOf HB0.out
      go_wp2
      refine bodyPost_ret (results_cell_row rfl _ _ w.heap.size 78 (tokArr b.1 i b.2) (0, 0) _ rfl ?_ Tryz.underlying78 rfl szTok) rfl ⟨by rw [← HRR.out], ((hfr.setCell (by simp) _).setCell (by simp) _).setCell (by simp) _⟩
      rw [Proofs.YteneagnhihcljaaGreatDoor.heap_setCell_same (Proofs.YteneagnhihcljaaGreatDoor.heap_setCell_same (Proofs.YteneagnhihcljaaGreatDoor.heap_setCell_same HB0.out _ _) _ _) _ _]; rfl

def skipB (lns : List Ln) (r : Int) : Bool := if r < 0 then false else match lns[r.toNat]? with | some x => x.skip | none => false
set_option maxRecDepth 20000 in
set_option maxHeartbeats 4000000 in
theorem isSkipped_any (w : World) (v : Value) (xs : List LV) (r : Nat) (hL : LinesAt w v xs) (hn : xs.length ≤ 1000) :
    Calls Tryz.prog 29 #[v, .int .i64 r] w fun e w' => e = .returned (.bool (skipB (xs.map LV.ln) r)) ∧ w' = w := by
  by_cases hlt : r < xs.length
  · obtain ⟨g, cap, hv⟩ := Joins.ownsRow_form hL.own (by omega)
    subst hv
    have c9 := hL.cell9 r hlt
    have e1 : skipB (xs.map LV.ln) r = xs[r].ln.skip := by unfold skipB; rw [if_neg (by omega)]; simp [hlt]
    rw [e1]
    clear hL e1
    go_enter Tryz.func29, Tryz.ntmps29
    go_wp2
    go_ret
    exact ⟨rfl, rfl⟩
  · obtain ⟨ao, cap, hv⟩ := own_form hL.own
    subst hv
    have e1 : skipB (xs.map LV.ln) r = false := by unfold skipB; rw [if_neg (by omega)]; simp [hlt]
    rw [e1]
    clear hL e1
    go_enter Tryz.func29, Tryz.ntmps29
    go_wp2
    go_ret
    exact ⟨rfl, rfl⟩
end Go.Proofs.YteneagnhihcljaaGreatDoor
