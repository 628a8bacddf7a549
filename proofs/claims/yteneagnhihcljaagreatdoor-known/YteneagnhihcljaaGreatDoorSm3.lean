import Derived.Test.YteneagnhihcljaaGreatDoorSea
import Derived.Test.YteneagnhihcljaaGreatDoorSed
namespace Go.Proofs.YteneagnhihcljaaGreatDoor
open Go.RowKit
set_option linter.unusedVariables false
set_option linter.unusedSimpArgs false

theorem getH_put (hs : List Hd) (n m : Int) (x : Hd) : getH (putF hs n x) m = if m = n ∧ 0 ≤ n ∧ n < hs.length then x else getH hs m := by
  unfold getH putF
  by_cases hn : 0 ≤ n
  · rw [if_pos hn]
    by_cases hm : 0 ≤ m
    · rw [if_pos hm, if_pos hm, List.getElem?_set]
      by_cases e : n.toNat = m.toNat
      · have e2 : m = n := by omega
        subst e2
        rw [if_pos e]
        by_cases hl : m.toNat < hs.length
        · rw [if_pos hl, if_pos ⟨rfl, hn, by omega⟩]; rfl
        · rw [if_neg hl, if_neg (by omega), List.getElem?_eq_none (by omega)]
      · rw [if_neg e, if_neg (by omega)]
    · rw [if_neg hm, if_neg hm, if_neg (by omega)]
  · rw [if_neg hn, if_neg (show ¬ (m = n ∧ 0 ≤ n ∧ n < hs.length) from fun h => hn h.2.1)]
theorem putB_false {hs : List Hd} {n : Int} {x : Hd} (h : putB hs n x = false) (h0 : 0 ≤ n) (hl : n < hs.length) : getH hs n = x := by
  unfold putB at h
  unfold getH
  rw [if_pos h0] at h ⊢
  rw [List.getElem?_eq_getElem (by omega)] at h ⊢
  exact hdEq_iff.1 (by simpa using h)

theorem growBL_same : ∀ (l : List Pr) (hs : List Hd) (g : Bool), (∀ x ∈ hs, x.ok) → (growBL l hs g).2 = false → ∀ p ∈ l, (growB1 hs p).2 = false
  | [], _, _, _, _, p, hp => by cases hp
  | q :: l, hs, g, hok, h, p, hp => by
    have h1 := growB1_grows hok q g
    have h2 := growBL_grows l h1.ok (g || (growB1 hs q).2)
    have h3 := (h2.same h).1
    simp only [Bool.or_eq_false_iff] at h3
    have h4 := (h1.same (by simpa using h3)).2
    simp only [List.mem_cons] at hp
    rcases hp with rfl | hp
    · exact h3.2
    · have h5 : (growBL l (growB1 hs q).1 (g || (growB1 hs q).2)).2 = false := h
      dsimp only at h4
      rw [h4] at h5
      exact growBL_same l hs _ hok h5 p hp
theorem growFL_same : ∀ (l : List Pr) (hs : List Hd) (g : Bool), (∀ x ∈ hs, x.ok) → (growFL l hs g).2 = false → ∀ p ∈ l, (growF1 hs p).2 = false
  | [], _, _, _, _, p, hp => by cases hp
  | q :: l, hs, g, hok, h, p, hp => by
    have h1 := growF1_grows hok q g
    have h2 := growFL_grows l h1.ok (g || (growF1 hs q).2)
    have h3 := (h2.same h).1
    simp only [Bool.or_eq_false_iff] at h3
    have h4 := (h1.same (by simpa using h3)).2
    simp only [List.mem_cons] at hp
    rcases hp with rfl | hp
    · exact h3.2
    · have h5 : (growFL l (growF1 hs q).1 (g || (growF1 hs q).2)).2 = false := h
      dsimp only at h4
      rw [h4] at h5
      exact growFL_same l hs _ hok h5 p hp
/-- every head of a list of symbols, with what stands behind it -/
theorem growSS_same (ph : Int) : ∀ (l : List Sy) (hs : List Hd) (g : Bool), (∀ x ∈ hs, x.ok) → (growSS ph l hs g).2 = false → ∀ (a : List Sy) (s : Sy) (b : List Sy), l = a ++ s :: b → s.isH = true → putB hs s.num (growS1 hs ph s.num b) = false
  | [], _, _, _, _, a, s, b, e, _ => by cases a <;> cases e
  | q :: l, hs, g, hok, h, a, s, b, e, hs1 => by
    unfold growSS at h
    cases hq : q.isH
    · rw [if_pos hq] at h
      cases a with
      | nil => simp only [List.nil_append, List.cons.injEq] at e; obtain ⟨rfl, _⟩ := e; rw [hq] at hs1; cases hs1
      | cons c a => simp only [List.cons_append, List.cons.injEq] at e; exact growSS_same ph l hs g hok h a s b e.2 hs1
    · rw [if_neg (by simp [hq])] at h
      have h1 : Grows hs (putF hs q.num (growS1 hs ph q.num l), g || putB hs q.num (growS1 hs ph q.num l)) g := by
        refine Grows.put hok ?_ ?_ g
        · exact ⟨(getH_ok hok q.num).fi, orL_len (getH_ok hok q.num).fo (folB_len hok _ _)⟩
        · exact le_fo (getH_ok hok _) (folB_len hok _ _)
      have h2 := growSS_grows ph l h1.ok (g || putB hs q.num (growS1 hs ph q.num l))
      have h3 := (h2.same h).1
      have h4 := (h1.same h3).2
      simp only [Bool.or_eq_false_iff] at h3
      cases a with
      | nil => simp only [List.nil_append, List.cons.injEq] at e; obtain ⟨rfl, rfl⟩ := e; exact h3.2
      | cons c a =>
        simp only [List.cons_append, List.cons.injEq] at e
        dsimp only at h4
        rw [h4] at h
        exact growSS_same ph l hs _ hok h a s b e.2 hs1
theorem growSL_same : ∀ (l : List Pr) (hs : List Hd) (g : Bool), (∀ x ∈ hs, x.ok) → (growSL l hs g).2 = false → ∀ p ∈ l, (growSS p.head p.syms hs false).2 = false
  | [], _, _, _, _, p, hp => by cases hp
  | q :: l, hs, g, hok, h, p, hp => by
    have h1 := growSS_grows q.head q.syms hok g
    have h2 := growSL_grows l h1.ok (growSS q.head q.syms hs g).2
    have h3 := (h2.same h).1
    have h4 := h1.same h3
    simp only [List.mem_cons] at hp
    rcases hp with rfl | hp
    · have h6 := h3; rw [h4.1] at h6; exact h6
    · have h5 : (growSL l (growSS q.head q.syms hs g).1 (growSS q.head q.syms hs g).2).2 = false := h
      rw [h4.2] at h5
      exact growSL_same l hs _ hok h5 p hp
theorem growRS_same : ∀ (l : List Sy) (hs : List Hd) (g : Bool), (∀ x ∈ hs, x.ok) → (growRS l hs g).2 = false → ∀ s ∈ l, s.isH = true → putB hs s.num { getH hs s.num with rch := true } = false
  | [], _, _, _, _, s, hs, _ => by cases hs
  | q :: l, hs, g, hok, h, s, hm, hs1 => by
    unfold growRS at h
    simp only [List.mem_cons] at hm
    cases hq : q.isH
    · rw [if_pos hq] at h
      rcases hm with rfl | hm
      · rw [hq] at hs1; cases hs1
      · exact growRS_same l hs g hok h s hm hs1
    · rw [if_neg (by simp [hq])] at h
      have h1 : Grows hs (putF hs q.num { getH hs q.num with rch := true }, g || putB hs q.num { getH hs q.num with rch := true }) g := by
        refine Grows.put hok ?_ ?_ g
        · exact ⟨(getH_ok hok q.num).fi, (getH_ok hok q.num).fo⟩
        · exact le_rch _
      have h2 := growRS_grows l h1.ok (g || putB hs q.num { getH hs q.num with rch := true })
      have h3 := (h2.same h).1
      have h4 := (h1.same h3).2
      simp only [Bool.or_eq_false_iff] at h3
      rcases hm with rfl | hm
      · exact h3.2
      · dsimp only at h4
        rw [h4] at h
        exact growRS_same l hs _ hok h s hm hs1
theorem growRL_same : ∀ (l : List Pr) (hs : List Hd) (g : Bool), (∀ x ∈ hs, x.ok) → (growRL l hs g).2 = false → ∀ p ∈ l, (getH hs p.head).rch = true → (growRS p.syms hs false).2 = false
  | [], _, _, _, _, p, hp, _ => by cases hp
  | q :: l, hs, g, hok, h, p, hp, hr => by
    unfold growRL at h
    simp only [List.mem_cons] at hp
    cases hq : (getH hs q.head).rch
    · rw [if_pos hq] at h
      rcases hp with rfl | hp
      · rw [hq] at hr; cases hr
      · exact growRL_same l hs g hok h p hp hr
    · rw [if_neg (by simp [hq])] at h
      have h1 := growRS_grows q.syms hok g
      have h2 := growRL_grows l h1.ok (growRS q.syms hs g).2
      have h3 := (h2.same h).1
      have h4 := h1.same h3
      rcases hp with rfl | hp
      · have h6 := h3; rw [h4.1] at h6; exact h6
      · rw [h4.2] at h
        exact growRL_same l hs _ hok h p hp hr

/-- what does not change: a field, of every head -/
def Keeps {α : Type} (f : Hd → α) (hs hs' : List Hd) : Prop := ∀ n, f (getH hs' n) = f (getH hs n)
theorem Keeps.refl {α : Type} (f : Hd → α) (hs : List Hd) : Keeps f hs hs := fun _ => rfl
theorem Keeps.trans {α : Type} {f : Hd → α} {a b c : List Hd} (h : Keeps f a b) (k : Keeps f b c) : Keeps f a c := fun n => (k n).trans (h n)
theorem Keeps.put {α : Type} {f : Hd → α} {hs : List Hd} {n : Int} {x : Hd} (h : f x = f (getH hs n)) : Keeps f hs (putF hs n x) := fun m => by
  rw [getH_put]
  split
  · rename_i e; rw [e.1]; exact h
  · rfl
theorem growBL_keeps {α : Type} {f : Hd → α} (hf : ∀ (h : Hd) (b : Bool) (l : List Bool), f { h with nul := b, fi := l } = f h) : ∀ (l : List Pr) (hs : List Hd) (g : Bool), Keeps f hs (growBL l hs g).1
  | [], hs, _ => Keeps.refl f hs
  | p :: l, hs, g => Keeps.trans (Keeps.put (hf _ _ _)) (growBL_keeps hf l _ _)
theorem growFL_keeps {α : Type} {f : Hd → α} (hf : ∀ (h : Hd) (b : Bool), f { h with fru := b } = f h) : ∀ (l : List Pr) (hs : List Hd) (g : Bool), Keeps f hs (growFL l hs g).1
  | [], hs, _ => Keeps.refl f hs
  | p :: l, hs, g => Keeps.trans (Keeps.put (hf _ _)) (growFL_keeps hf l _ _)
theorem growSS_keeps {α : Type} {f : Hd → α} (hf : ∀ (h : Hd) (l : List Bool), f { h with fo := l } = f h) (ph : Int) : ∀ (l : List Sy) (hs : List Hd) (g : Bool), Keeps f hs (growSS ph l hs g).1
  | [], hs, _ => Keeps.refl f hs
  | s :: l, hs, g => by
    unfold growSS
    split
    · exact growSS_keeps hf ph l hs g
    · exact Keeps.trans (Keeps.put (hf _ _)) (growSS_keeps hf ph l _ _)
theorem growSL_keeps {α : Type} {f : Hd → α} (hf : ∀ (h : Hd) (l : List Bool), f { h with fo := l } = f h) : ∀ (l : List Pr) (hs : List Hd) (g : Bool), Keeps f hs (growSL l hs g).1
  | [], hs, _ => Keeps.refl f hs
  | p :: l, hs, g => Keeps.trans (growSS_keeps hf p.head p.syms hs g) (growSL_keeps hf l _ _)
theorem growRS_keeps {α : Type} {f : Hd → α} (hf : ∀ (h : Hd) (b : Bool), f { h with rch := b } = f h) : ∀ (l : List Sy) (hs : List Hd) (g : Bool), Keeps f hs (growRS l hs g).1
  | [], hs, _ => Keeps.refl f hs
  | s :: l, hs, g => by
    unfold growRS
    split
    · exact growRS_keeps hf l hs g
    · exact Keeps.trans (Keeps.put (hf _ _)) (growRS_keeps hf l _ _)
theorem growRL_keeps {α : Type} {f : Hd → α} (hf : ∀ (h : Hd) (b : Bool), f { h with rch := b } = f h) : ∀ (l : List Pr) (hs : List Hd) (g : Bool), Keeps f hs (growRL l hs g).1
  | [], hs, _ => Keeps.refl f hs
  | p :: l, hs, g => by
    unfold growRL
    split
    · exact growRL_keeps hf l hs g
    · exact Keeps.trans (growRS_keeps hf p.syms hs g) (growRL_keeps hf l _ _)

theorem begF_congr {hs hs' : List Hd} (h1 : Keeps Hd.nul hs hs') (h2 : Keeps Hd.fi hs hs') : ∀ (l : List Sy) (acc : List Bool), begF hs' l acc = begF hs l acc
  | [], _ => rfl
  | s :: l, acc => by
    unfold begF
    rw [h1 s.num, h2 s.num, begF_congr h1 h2 l]
end Go.Proofs.YteneagnhihcljaaGreatDoor
namespace Go.Proofs.YteneagnhihcljaaGreatDoor
open Go.RowKit
set_option linter.unusedVariables false
set_option linter.unusedSimpArgs false

theorem leB_split : ∀ {a c b d : List Bool}, a.length = c.length → leB (a ++ b) (c ++ d) → leB a c ∧ leB b d
  | [], [], _, _, _, h => ⟨trivial, h⟩
  | x :: xs, y :: ys, _, _, e, h => by
    have := leB_split (a := xs) (c := ys) (by simpa using e) h.2
    exact ⟨⟨h.1, this.1⟩, this.2⟩
theorem Hd.le.parts {a b : Hd} (ha : a.ok) (hb : b.ok) (h : a.le b) : (a.nul = true → b.nul = true) ∧ (a.rch = true → b.rch = true) ∧ (a.fru = true → b.fru = true) ∧ leB a.fi b.fi ∧ leB a.fo b.fo := by
  obtain ⟨h1, h2, h3, h4⟩ := h
  have := leB_split (by rw [ha.fi, hb.fi]) h4
  exact ⟨h1, h2, h3, this.1, this.2⟩
def Up (hs hs' : List Hd) : Prop := ∀ n, (getH hs n).le (getH hs' n)
theorem Up.refl (hs : List Hd) : Up hs hs := fun _ => Hd.le_refl _
theorem Up.trans {a b c : List Hd} (h : Up a b) (k : Up b c) : Up a c := fun n => Hd.le_trans (h n) (k n)
theorem Up.put {hs : List Hd} {n : Int} {x : Hd} (h : (getH hs n).le x) : Up hs (putF hs n x) := fun m => by
  rw [getH_put]
  split
  · rename_i e; rw [e.1]; exact h
  · exact Hd.le_refl _
theorem growB1_up {hs : List Hd} (hok : ∀ x ∈ hs, x.ok) (p : Pr) : Up hs (growB1 hs p).1 := Up.put (le_nf (getH_ok hok _) _ (begF_len hok _ _ rfl))
theorem growF1_up (hs : List Hd) (p : Pr) : Up hs (growF1 hs p).1 := Up.put (le_fru _ _)
theorem growRS_up : ∀ (l : List Sy) (hs : List Hd) (g : Bool), Up hs (growRS l hs g).1
  | [], hs, _ => Up.refl hs
  | s :: l, hs, g => by
    unfold growRS
    split
    · exact growRS_up l hs g
    · exact Up.trans (Up.put (le_rch _)) (growRS_up l _ _)
theorem growRL_up : ∀ (l : List Pr) (hs : List Hd) (g : Bool), Up hs (growRL l hs g).1
  | [], hs, _ => Up.refl hs
  | p :: l, hs, g => by
    unfold growRL
    split
    · exact growRL_up l hs g
    · exact Up.trans (growRS_up p.syms hs g) (growRL_up l _ _)
theorem withT_at {a : List Bool} {n : Int} {t : Nat} (h : (withT a n).getD t false = true) : a.getD t false = true ∨ (0 ≤ n ∧ n.toNat = t) := by
  unfold withT at h
  split at h
  · rename_i hn
    simp only [List.getD_eq_getElem?_getD, List.getElem?_set] at h ⊢
    by_cases e : n.toNat = t
    · exact .inr ⟨hn.1, e⟩
    · rw [if_neg e] at h; exact .inl h
  · exact .inl h
theorem withT_up {a : List Bool} (ha : a.length = 9) (n : Int) : leB a (withT a n) := by
  refine leB_of (by rw [withT_len ha, ha]) (fun i hi => ?_)
  unfold withT
  split
  · simp only [List.getD_eq_getElem?_getD, List.getElem?_set] at hi ⊢
    split
    · split
      · rfl
      · rename_i h1 h2; rw [List.getElem?_eq_none (by omega)] at hi; simp at hi
    · exact hi
  · exact hi
theorem withT_mono {a b : List Bool} (ha : a.length = 9) (hb : b.length = 9) (h : leB a b) (n : Int) : leB (withT a n) (withT b n) := by
  refine leB_of (by rw [withT_len ha, withT_len hb]) (fun i hi => ?_)
  rcases withT_at hi with h1 | ⟨h1, h2⟩
  · exact leB_at (withT_up hb n) i (leB_at h i h1)
  · unfold withT at hi ⊢
    split
    · rename_i hn
      rw [if_pos hn] at hi
      simp only [List.getD_eq_getElem?_getD, List.getElem?_set, h2, if_true] at hi ⊢
      rw [if_pos (by omega)]; rfl
    · rename_i hn
      rw [if_neg hn] at hi
      exact leB_at h i hi
theorem orL_mono {a b c d : List Bool} (h1 : leB a c) (h2 : leB b d) (e : a.length = b.length) : leB (orL a b) (orL c d) := by
  have e1 := leB_len h1
  have e2 := leB_len h2
  refine leB_of (by simp [orL, ← e1, ← e2]) (fun i hi => ?_)
  rw [orL_at e] at hi
  rw [orL_at (by omega)]
  simp only [Bool.or_eq_true] at hi ⊢
  rcases hi with hi | hi
  · exact .inl (leB_at h1 i hi)
  · exact .inr (leB_at h2 i hi)
/-- what begins grows with the sets -/
theorem begF_mono {hs hs' : List Hd} (hok : ∀ x ∈ hs, x.ok) (hok' : ∀ x ∈ hs', x.ok) (hu : Up hs hs') : ∀ (l : List Sy) (acc acc' : List Bool), acc.length = 9 → leB acc acc' →
    leB (begF hs l acc).1 (begF hs' l acc').1 ∧ ((begF hs l acc).2 = true → (begF hs' l acc').2 = true)
  | [], _, _, _, h => ⟨h, fun e => e⟩
  | s :: l, acc, acc', ha, h => by
    have ha' : acc'.length = 9 := by rw [← leB_len h]; exact ha
    obtain ⟨p1, _, _, p4, _⟩ := (hu s.num).parts (getH_ok hok _) (getH_ok hok' _)
    have o1 := (getH_ok hok s.num).fi
    have o2 := (getH_ok hok' s.num).fi
    have hor := orL_mono h p4 (by rw [ha, o1])
    have hol : (orL acc (getH hs s.num).fi).length = 9 := orL_len ha o1
    unfold begF
    cases hs1 : s.isH
    · rw [if_pos rfl, if_pos rfl]; exact ⟨withT_mono ha ha' h _, fun e => e⟩
    · simp only [Bool.true_eq_false, if_false]
      cases hn : (getH hs s.num).nul
      · simp only [if_true]
        refine ⟨?_, fun e => by cases e⟩
        split
        · exact hor
        · have h3 : ∀ (l : List Sy) (acc : List Bool), acc.length = 9 → leB acc (begF hs' l acc).1 := by
            intro l
            induction l with
            | nil => intro acc _; exact leB_refl _
            | cons s l ih =>
              intro acc ha
              unfold begF
              split
              · exact withT_up ha _
              · split
                · exact leB_orL (by rw [ha, (getH_ok hok' _).fi])
                · exact leB_trans (leB_orL (by rw [ha, (getH_ok hok' _).fi])) (ih _ (orL_len ha (getH_ok hok' _).fi))
          exact leB_trans hor (h3 l _ (orL_len ha' o2))
      · simp only [Bool.true_eq_false, if_false]
        rw [p1 hn]
        simp only [Bool.true_eq_false, if_false]
        exact begF_mono hok hok' hu l _ _ hol hor
theorem allFru_mono {hs hs' : List Hd} (hok : ∀ x ∈ hs, x.ok) (hok' : ∀ x ∈ hs', x.ok) (hu : Up hs hs') (l : List Sy) (h : allFru hs l = true) : allFru hs' l = true := by
  unfold allFru at h ⊢
  rw [List.all_eq_true] at h ⊢
  intro s hs1
  have := h s hs1
  unfold fruB at this ⊢
  simp only [Bool.or_eq_true] at this ⊢
  rcases this with h1 | h1
  · exact .inl h1
  · exact .inr (((hu s.num).parts (getH_ok hok _) (getH_ok hok' _)).2.2.1 h1)
end Go.Proofs.YteneagnhihcljaaGreatDoor
namespace Go.Proofs.YteneagnhihcljaaGreatDoor
open Go.RowKit
set_option linter.unusedVariables false
set_option linter.unusedSimpArgs false

structure TabOk (ps : List Pr) (R H : Nat) : Prop where
  hd : ∀ p ∈ ps, 0 ≤ p.head ∧ p.head < H
  sy : ∀ p ∈ ps, ∀ s ∈ p.syms, 0 ≤ s.num ∧ s.num < (if s.isH then (H : Int) else R)
/-- no rule beyond the last in a First -/
def BFi (R : Nat) (hs : List Hd) : Prop := ∀ n t, (getH hs n).fi.getD t false = true → t < R
def BFo (R : Nat) (hs : List Hd) : Prop := ∀ n t, (getH hs n).fo.getD t false = true → t ≤ R
theorem begF_bd {R H : Nat} {hs : List Hd} (hok : ∀ x ∈ hs, x.ok) (hb : BFi R hs) : ∀ (l : List Sy) (acc : List Bool), acc.length = 9 → (∀ s ∈ l, 0 ≤ s.num ∧ s.num < (if s.isH then (H : Int) else R)) → (∀ t, acc.getD t false = true → t < R) → ∀ t, (begF hs l acc).1.getD t false = true → t < R
  | [], _, _, _, h, t, ht => h t ht
  | s :: l, acc, ha, hv, h, t, ht => by
    have hor : ∀ t, (orL acc (getH hs s.num).fi).getD t false = true → t < R := fun t ht => by
      rw [orL_at (by rw [ha, (getH_ok hok _).fi])] at ht
      simp only [Bool.or_eq_true] at ht
      rcases ht with ht | ht
      · exact h t ht
      · exact hb _ t ht
    unfold begF at ht
    cases hs1 : s.isH
    · rw [if_pos hs1] at ht
      have h1 := hv s (by simp)
      rw [hs1] at h1
      simp only [Bool.false_eq_true, if_false] at h1
      rcases withT_at ht with h2 | ⟨h2, h3⟩
      · exact h t h2
      · omega
    · rw [if_neg (by simp [hs1])] at ht
      split at ht
      · exact hor t ht
      · exact begF_bd hok hb l _ (orL_len ha (getH_ok hok _).fi) (fun s hs => hv s (by simp [hs])) hor t ht
theorem zero9_at (t : Nat) : zero9.getD t false = false := by
  rcases t with _ | _ | _ | _ | _ | _ | _ | _ | _ | t <;> simp [zero9]

def SupN (ps : List Pr) (hs : List Hd) : Prop := ∀ n, (getH hs n).nul = true → ∃ p ∈ ps, p.head = n ∧ (begF hs p.syms zero9).2 = true
def SupF (ps : List Pr) (hs : List Hd) : Prop := ∀ n t, (getH hs n).fi.getD t false = true → ∃ p ∈ ps, p.head = n ∧ (begF hs p.syms zero9).1.getD t false = true
def SupU (ps : List Pr) (hs : List Hd) : Prop := ∀ n, (getH hs n).fru = true → ∃ p ∈ ps, p.head = n ∧ allFru hs p.syms = true

structure IB (ps : List Pr) (R : Nat) (hs0 hs : List Hd) : Prop where
  ok : ∀ x ∈ hs, x.ok
  bfi : BFi R hs
  sn : SupN ps hs
  sf : SupF ps hs
  up : Up hs0 hs
theorem IB.step {ps : List Pr} {R H : Nat} (hT : TabOk ps R H) {hs0 hs : List Hd} (h : IB ps R hs0 hs) {p : Pr} (hp : p ∈ ps) : IB ps R hs0 (growB1 hs p).1 := by
  have hok := h.ok
  have hok' : ∀ x ∈ (growB1 hs p).1, x.ok := (growB1_grows hok p false).ok
  have hu := growB1_up hok p
  have hbl := begF_len hok p.syms zero9 rfl
  have mono := fun (q : Pr) => begF_mono hok hok' hu q.syms zero9 zero9 rfl (leB_refl _)
  refine ⟨hok', ?_, ?_, ?_, h.up.trans hu⟩
  · intro n t ht
    unfold growB1 at ht
    rw [getH_put] at ht
    split at ht
    · dsimp only at ht
      rw [orL_at (by rw [(getH_ok hok _).fi, hbl])] at ht
      simp only [Bool.or_eq_true] at ht
      rcases ht with ht | ht
      · exact h.bfi _ t ht
      · exact begF_bd hok h.bfi p.syms zero9 rfl (hT.sy p hp) (fun t h => by rw [zero9_at] at h; cases h) t ht
    · exact h.bfi n t ht
  · intro n hn
    have hn2 := hn
    unfold growB1 at hn2
    rw [getH_put] at hn2
    split at hn2
    · rename_i e
      dsimp only at hn2
      simp only [Bool.or_eq_true] at hn2
      rcases hn2 with h1 | h1
      · obtain ⟨q, hq1, hq2, hq3⟩ := h.sn _ h1
        exact ⟨q, hq1, hq2.trans e.1.symm, (mono q).2 hq3⟩
      · exact ⟨p, hp, e.1.symm, (mono p).2 h1⟩
    · obtain ⟨q, hq1, hq2, hq3⟩ := h.sn n hn2
      exact ⟨q, hq1, hq2, (mono q).2 hq3⟩
  · intro n t hn
    have hn2 := hn
    unfold growB1 at hn2
    rw [getH_put] at hn2
    split at hn2
    · rename_i e
      dsimp only at hn2
      rw [orL_at (by rw [(getH_ok hok _).fi, hbl])] at hn2
      simp only [Bool.or_eq_true] at hn2
      rcases hn2 with h1 | h1
      · obtain ⟨q, hq1, hq2, hq3⟩ := h.sf _ t h1
        exact ⟨q, hq1, hq2.trans e.1.symm, leB_at (mono q).1 t hq3⟩
      · exact ⟨p, hp, e.1.symm, leB_at (mono p).1 t h1⟩
    · obtain ⟨q, hq1, hq2, hq3⟩ := h.sf n t hn2
      exact ⟨q, hq1, hq2, leB_at (mono q).1 t hq3⟩
theorem IB.list {ps : List Pr} {R H : Nat} (hT : TabOk ps R H) {hs0 : List Hd} : ∀ (l : List Pr) (hs : List Hd) (g : Bool), (∀ p ∈ l, p ∈ ps) → IB ps R hs0 hs → IB ps R hs0 (growBL l hs g).1
  | [], _, _, _, h => h
  | p :: l, hs, g, hl, h => IB.list hT l _ _ (fun q hq => hl q (by simp [hq])) (h.step hT (hl p (by simp)))

structure IU (ps : List Pr) (hs0 hs : List Hd) : Prop where
  ok : ∀ x ∈ hs, x.ok
  su : SupU ps hs
  up : Up hs0 hs
theorem IU.step {ps : List Pr} {hs0 hs : List Hd} (h : IU ps hs0 hs) {p : Pr} (hp : p ∈ ps) : IU ps hs0 (growF1 hs p).1 := by
  have hok := h.ok
  have hok' : ∀ x ∈ (growF1 hs p).1, x.ok := (growF1_grows hok p false).ok
  have hu := growF1_up hs p
  refine ⟨hok', ?_, h.up.trans hu⟩
  intro n hn
  have hn2 := hn
  unfold growF1 at hn2
  rw [getH_put] at hn2
  split at hn2
  · rename_i e
    dsimp only at hn2
    simp only [Bool.or_eq_true] at hn2
    rcases hn2 with h1 | h1
    · obtain ⟨q, hq1, hq2, hq3⟩ := h.su _ h1
      exact ⟨q, hq1, hq2.trans e.1.symm, allFru_mono hok hok' hu _ hq3⟩
    · exact ⟨p, hp, e.1.symm, allFru_mono hok hok' hu _ h1⟩
  · obtain ⟨q, hq1, hq2, hq3⟩ := h.su n hn2
    exact ⟨q, hq1, hq2, allFru_mono hok hok' hu _ hq3⟩
theorem IU.list {ps : List Pr} {hs0 : List Hd} : ∀ (l : List Pr) (hs : List Hd) (g : Bool), (∀ p ∈ l, p ∈ ps) → IU ps hs0 hs → IU ps hs0 (growFL l hs g).1
  | [], _, _, _, h => h
  | p :: l, hs, g, hl, h => IU.list l _ _ (fun q hq => hl q (by simp [hq])) (h.step (hl p (by simp)))

/-- Follow: nothing beyond the END -/
structure IS (R : Nat) (hs0 hs : List Hd) : Prop where
  ok : ∀ x ∈ hs, x.ok
  bfi : BFi R hs
  bfo : BFo R hs
  up : Up hs0 hs
theorem IS.syms {R H : Nat} {hs0 : List Hd} (ph : Int) : ∀ (l : List Sy) (hs : List Hd) (g : Bool), (∀ s ∈ l, 0 ≤ s.num ∧ s.num < (if s.isH then (H : Int) else R)) → IS R hs0 hs → IS R hs0 (growSS ph l hs g).1
  | [], _, _, _, h => h
  | s :: l, hs, g, hv, h => by
    have hv' : ∀ s ∈ l, 0 ≤ s.num ∧ s.num < (if s.isH then (H : Int) else R) := fun s hs => hv s (by simp [hs])
    unfold growSS
    split
    · exact IS.syms ph l hs g hv' h
    · refine IS.syms ph l _ _ hv' ?_
      have hok := h.ok
      have hfl := folB_len hok ph l
      refine ⟨putF_ok hok _ ⟨(getH_ok hok s.num).fi, orL_len (getH_ok hok s.num).fo hfl⟩, ?_, ?_, h.up.trans (Up.put (le_fo (getH_ok hok _) hfl))⟩
      · intro n t ht
        rw [getH_put] at ht
        split at ht
        · exact h.bfi _ t ht
        · exact h.bfi n t ht
      · intro n t ht
        rw [getH_put] at ht
        split at ht
        · unfold growS1 at ht
          dsimp only at ht
          rw [orL_at (by rw [(getH_ok hok _).fo, hfl])] at ht
          simp only [Bool.or_eq_true] at ht
          rcases ht with ht | ht
          · exact h.bfo _ t ht
          · have hbb := begF_bd hok h.bfi l zero9 rfl hv' (fun t h => by rw [zero9_at] at h; cases h)
            unfold folB at ht
            split at ht
            · rw [orL_at (by rw [begF_len hok _ _ rfl, (getH_ok hok _).fo])] at ht
              simp only [Bool.or_eq_true] at ht
              rcases ht with ht | ht
              · have := hbb t ht; omega
              · exact h.bfo _ t ht
            · have := hbb t ht; omega
        · exact h.bfo n t ht
theorem IS.list {ps : List Pr} {R H : Nat} (hT : TabOk ps R H) {hs0 : List Hd} : ∀ (l : List Pr) (hs : List Hd) (g : Bool), (∀ p ∈ l, p ∈ ps) → IS R hs0 hs → IS R hs0 (growSL l hs g).1
  | [], _, _, _, h => h
  | p :: l, hs, g, hl, h => IS.list hT l _ _ (fun q hq => hl q (by simp [hq])) (IS.syms p.head p.syms hs g (hT.sy p (hl p (by simp))) h)
end Go.Proofs.YteneagnhihcljaaGreatDoor
