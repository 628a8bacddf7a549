import Derived.Test.YtakkooidejdfkaaGreatKc6
import Derived.Test.YtakkooidejdfkaaGreatSm3
namespace Go.Proofs.YtakkooidejdfkaaGreat
open Go.RowKit
set_option linter.unusedVariables false
set_option linter.unusedSimpArgs false

def sInt (s : Sy) : Int := if s.isH then -1 - s.num else s.num
def EqB (a b : List Bool) : Prop := ∀ t, a.getD t false = b.getD t false
theorem listL_any (a : List Bool) (t : Nat) : ∀ k, (listL a k).any (· == (t : Int)) = (decide (t < k) && a.getD t false)
  | 0 => by simp [listL]
  | k + 1 => by
    have ih := listL_any a t k
    unfold listL
    by_cases e : t = k
    · subst e
      cases hq : a.getD t false
      · simp only [Bool.false_eq_true, if_false, ih, hq, Bool.and_false]
      · simp only [if_true, List.any_append, List.any_cons, List.any_nil, ih, hq]
        simp
    · have h1 : (((k : Nat) : Int) == (t : Int)) = false := by simp; omega
      have h2 : decide (t < k + 1) = decide (t < k) := by simp only [decide_eq_decide]; omega
      rw [h2]
      split
      · rw [List.any_append, ih]; simp [h1]
      · exact ih
theorem listT_any {a : List Bool} (ha : a.length = 9) (t : Nat) : (listT a).any (· == (t : Int)) = a.getD t false := by
  unfold listT
  rw [listL_any]
  by_cases h : t < 9
  · simp [h]
  · have : a.getD t false = false := by simp [List.getElem?_eq_none (show a.length ≤ t by omega)]
    rw [this]; simp
theorem listL_mem (a : List Bool) : ∀ k, (listL a k).Pairwise (· < ·) ∧ ∀ x ∈ listL a k, 0 ≤ x ∧ x < k ∧ a.getD x.toNat false = true
  | 0 => by simp [listL]
  | k + 1 => by
    obtain ⟨h1, h2⟩ := listL_mem a k
    unfold listL
    split
    · rename_i hq
      refine ⟨?_, ?_⟩
      · rw [List.pairwise_append]
        refine ⟨h1, by simp, fun x hx y hy => ?_⟩
        simp only [List.mem_singleton] at hy
        have := (h2 x hx).2.1; omega
      · intro x hx
        simp only [List.mem_append, List.mem_singleton] at hx
        rcases hx with hx | rfl
        · have := h2 x hx; exact ⟨this.1, by omega, this.2.2⟩
        · exact ⟨by omega, by omega, by simpa using hq⟩
    · refine ⟨h1, fun x hx => ?_⟩
      have := h2 x hx; exact ⟨this.1, by omega, this.2.2⟩
theorem listT_rises {a : List Bool} {n : Nat} (hb : ∀ t, a.getD t false = true → t < n) : Rises (listT a) n := by
  obtain ⟨h1, h2⟩ := listL_mem a 9
  intro i hi
  have h3 := h2 (listT a)[i] (List.getElem_mem hi)
  have h4 := hb _ h3.2.2
  refine ⟨h3.1, by omega, fun h0 => ?_⟩
  exact (List.pairwise_iff_getElem.1 h1) (i - 1) i (by show i - 1 < (listT a).length; omega) hi (by omega)
theorem listL_cnt (a : List Bool) : ∀ k, (listL a k).length = cntT (a.take k) + (if a.length < k then 0 else 0)
  | 0 => by simp [listL, cntT]
  | k + 1 => by
    have ih := listL_cnt a k
    unfold listL
    simp only [ite_self, Nat.add_zero] at ih ⊢
    by_cases hk : k < a.length
    · rw [takeS hk]
      unfold cntT at ih ⊢
      rw [List.filter_append, List.length_append]
      have e : a.getD k false = a[k] := by simp [hk]
      rw [e]
      cases a[k] <;> simp [ih]
    · have e : a.getD k false = false := by simp [List.getElem?_eq_none (show a.length ≤ k by omega)]
      rw [e, List.take_of_length_le (by omega)]
      rw [List.take_of_length_le (by omega)] at ih
      simpa using ih
theorem listT_cnt {a : List Bool} (ha : a.length = 9) : (listT a).length = cntT a := by
  have := listL_cnt a 9
  rw [List.take_of_length_le (by omega)] at this
  simpa [listT] using this
theorem cntT_nil {b : List Bool} (h : ∀ t, b.getD t false = false) : cntT b = 0 := by
  unfold cntT
  rw [List.length_eq_zero_iff, List.filter_eq_nil_iff]
  intro x hx
  obtain ⟨i, hi, rfl⟩ := List.getElem_of_mem hx
  have := h i
  simpa [hi] using this
theorem cntT_eq : ∀ {a b : List Bool}, EqB a b → cntT a = cntT b
  | [], b, h => by have e : cntT b = 0 := cntT_nil (fun t => (h t).symm.trans (by simp)); rw [e]; rfl
  | x :: xs, [], h => by have e : cntT (x :: xs) = 0 := cntT_nil (fun t => (h t).trans (by simp)); rw [e]; rfl
  | x :: xs, y :: ys, h => by
    have h0 : x = y := by have := h 0; simpa using this
    have h1 : EqB xs ys := fun t => by have := h (t + 1); simpa using this
    have ih := cntT_eq h1
    subst h0
    unfold cntT at ih ⊢
    cases x <;> simp [List.filter_cons, ih]
theorem set_at (a : List Bool) (n t : Nat) (hn : n < a.length) : (a.set n true).getD t false = (a.getD t false || decide (t = n)) := by
  simp only [List.getD_eq_getElem?_getD, List.getElem?_set]
  by_cases e : n = t
  · subst e; simp [hn]
  · rw [if_neg e]; simp [show ¬ t = n from fun h => e h.symm]
theorem setAll_at : ∀ (l : List Int) (out : List Bool), (∀ k ∈ l, 0 ≤ k ∧ k < out.length) → ∀ t : Nat, (setAll out l).getD t false = (out.getD t false || l.any (· == (t : Int)))
  | [], _, _, t => by simp [setAll]
  | k :: l, out, h, t => by
    have h1 := h k (by simp)
    have ih := setAll_at l (out.set k.toNat true) (fun j hj => by have := h j (by simp [hj]); simpa using this) t
    unfold setAll at ih ⊢
    rw [List.foldl_cons, ih, set_at _ _ _ (by omega), List.any_cons]
    have : decide (t = k.toNat) = (k == (t : Int)) := by
      rw [Bool.eq_iff_iff]; simp; omega
    rw [this, Bool.or_assoc]

section
variable {ps : List Pr} {R H : Nat} {hs : List Hd} {svs : List SV}
theorem sv_at (hsv : svs.map SV.hd = hs) (hl : hs.length = H) (n : Int) (h0 : 0 ≤ n) (hn : n < H) : ∃ h : n.toNat < svs.length, svs[n.toNat].hd = getH hs n := by
  have e : svs.length = H := by rw [← hl, ← hsv]; simp
  refine ⟨by omega, ?_⟩
  unfold getH
  rw [if_pos h0, ← hsv]
  simp [show n.toNat < svs.length by omega]
theorem hdAt_eq (hsv : svs.map SV.hd = hs) (hl : hs.length = H) {s : Sy} (hs1 : s.isH = true) (h0 : 0 ≤ s.num) (hn : s.num < H) : hdAt svs (sInt s) = getH hs s.num := by
  obtain ⟨h1, h2⟩ := sv_at hsv hl s.num h0 hn
  unfold hdAt sInt
  rw [hs1]
  simp only [if_true]
  have : (-1 - (-1 - s.num)).toNat = s.num.toNat := by congr 1; omega
  rw [this, List.getElem?_eq_getElem h1]
  exact h2
theorem ka_beg (hR : R ≤ 8) (hS : SetsOk ps R H hs) (hsv : svs.map SV.hd = hs) : ∀ (l : List Sy) (acc out : List Bool), (∀ s ∈ l, 0 ≤ s.num ∧ s.num < (if s.isH then (H : Int) else R)) → out.length = R + 1 → acc.length = 9 → EqB out acc →
    EqB (kaF svs (l.map sInt) out).1 (begF hs l acc).1 ∧ (kaF svs (l.map sInt) out).2 = (begF hs l acc).2
  | [], _, _, _, _, _, h => ⟨h, rfl⟩
  | s :: l, acc, out, hv, ho, ha, h => by
    have hv1 := hv s (by simp)
    rw [List.map_cons]
    unfold kaF begF
    cases hs1 : s.isH
    · rw [hs1] at hv1
      simp only [Bool.false_eq_true, if_false] at hv1
      have e1 : sInt s = s.num := by unfold sInt; rw [hs1]; rfl
      rw [e1, if_pos hv1.1, if_pos rfl]
      refine ⟨fun t => ?_, rfl⟩
      dsimp only
      unfold withT
      rw [if_pos ⟨hv1.1, by omega⟩, set_at _ _ _ (by omega), set_at _ _ _ (by omega), h t]
    · rw [hs1] at hv1
      simp only [if_true] at hv1
      have e1 : ¬ 0 ≤ sInt s := by unfold sInt; rw [hs1]; simp only [if_true]; omega
      have e2 := hdAt_eq hsv hS.len hs1 hv1.1 hv1.2
      rw [if_neg e1, e2]
      simp only [Bool.true_eq_false, if_false]
      have hfl := (getH_ok hS.ok s.num).fi
      have hbd := fun t => hS.bfi s.num t
      have hmem : ∀ k ∈ listT (getH hs s.num).fi, 0 ≤ k ∧ k < out.length := fun k hk => by
        obtain ⟨q1, q2, q3⟩ := (listL_mem _ 9).2 k hk
        have := hbd _ q3
        exact ⟨q1, by omega⟩
      have heq : EqB (setAll out (listT (getH hs s.num).fi)) (orL acc (getH hs s.num).fi) := fun t => by
        rw [setAll_at _ _ hmem, orL_at (by rw [ha, hfl]), listT_any hfl, h t]
      split
      · exact ⟨heq, rfl⟩
      · exact ka_beg hR hS hsv l _ _ (fun s hs => hv s (by simp [hs])) (by rw [setAll_len]; exact ho) (orL_len ha hfl) heq
theorem unL_at (svs : List SV) (nR : Nat) (hd : Int) : ∀ (l : List (Int × List Int)) (out : List Bool) (em fr : Bool), out.length = nR + 1 →
    (∀ t, (unL svs nR hd l out em fr).1.getD t false = true ↔ out.getD t false = true ∨ ∃ p ∈ l, p.1 = hd ∧ (kaF svs p.2 (List.replicate (nR + 1) false)).1.getD t false = true) ∧
    ((unL svs nR hd l out em fr).2.1 = true ↔ em = true ∨ ∃ p ∈ l, p.1 = hd ∧ (kaF svs p.2 (List.replicate (nR + 1) false)).2 = true) ∧
    ((unL svs nR hd l out em fr).2.2 = true ↔ fr = true ∨ ∃ p ∈ l, p.1 = hd ∧ p.2.all (alB svs) = true)
  | [], _, _, _, _ => by simp [unL]
  | p :: l, out, em, fr, h => by
    unfold unL
    by_cases e : p.1 = hd
    · rw [if_pos e]
      have hkl : (kaF svs p.2 (List.replicate (nR + 1) false)).1.length = nR + 1 := by rw [kaF_len]; simp
      obtain ⟨h1, h2, h3⟩ := unL_at svs nR hd l (orL out (kaF svs p.2 (List.replicate (nR + 1) false)).1) (em || (kaF svs p.2 (List.replicate (nR + 1) false)).2) (fr || p.2.all (alB svs)) (by simp [orL, h, hkl])
      refine ⟨fun t => ?_, ?_, ?_⟩
      · rw [h1 t, orL_at (by rw [h, hkl])]
        simp only [Bool.or_eq_true, List.mem_cons, exists_eq_or_imp, e, true_and]
        exact or_assoc
      · rw [h2]
        simp only [Bool.or_eq_true, List.mem_cons, exists_eq_or_imp, e, true_and]
        exact or_assoc
      · rw [h3]
        simp only [Bool.or_eq_true, List.mem_cons, exists_eq_or_imp, e, true_and]
        exact or_assoc
    · rw [if_neg e]
      obtain ⟨h1, h2, h3⟩ := unL_at svs nR hd l out em fr h
      refine ⟨fun t => ?_, ?_, ?_⟩
      · rw [h1 t]; simp [e]
      · rw [h2]; simp [e]
      · rw [h3]; simp [e]

theorem closedOk (hT : TabOk ps R H) (hR : R ≤ 8) (hH0 : 0 < H) (hH : H ≤ 1000) (hS : SetsOk ps R H hs) (hsv : svs.map SV.hd = hs) (hp0 : 0 < ps.length) (hp : ps.length ≤ 1000) (hsl : ∀ p ∈ ps, p.syms.length ≤ 1000) :
    ClosedOk svs R (ps.map Pr.head) (ps.map fun p => p.syms.map sInt) := by
  have hlen : svs.length = H := by rw [← hS.len, ← hsv]; simp
  have hmem : ∀ s ∈ svs, ∃ n : Int, 0 ≤ n ∧ n < H ∧ s.hd = getH hs n := fun s hs1 => by
    obtain ⟨i, hi, rfl⟩ := List.getElem_of_mem hs1
    obtain ⟨h1, h2⟩ := sv_at hsv hS.len (i : Int) (by omega) (by omega)
    exact ⟨i, by omega, by omega, by simpa using h2⟩
  have hat : ∀ h (hh : h < svs.length), svs[h].hd = getH hs (h : Int) := fun h hh => by
    obtain ⟨h1, h2⟩ := sv_at hsv hS.len (h : Int) (by omega) (by omega)
    simpa using h2
  have hrep : EqB (List.replicate (R + 1) false) zero9 := fun t => by
    rw [zero9_at]
    by_cases h : t < R + 1 <;> simp [h, List.getElem?_replicate]
  have hka : ∀ l : List Sy, (∀ s ∈ l, 0 ≤ s.num ∧ s.num < (if s.isH then (H : Int) else R)) → EqB (kaF svs (l.map sInt) (List.replicate (R + 1) false)).1 (begF hs l zero9).1 ∧ (kaF svs (l.map sInt) (List.replicate (R + 1) false)).2 = (begF hs l zero9).2 :=
    fun l hl => ka_beg hR hS hsv l zero9 _ hl (by simp) rfl hrep
  have hzip : (ps.map Pr.head).zip (ps.map fun p => p.syms.map sInt) = ps.map fun p => (p.head, p.syms.map sInt) := by
    rw [List.zip_map']
  have hun := fun h : Int => unL_at svs R h (ps.map fun p => (p.head, p.syms.map sInt)) (List.replicate (R + 1) false) false false (by simp)
  have hall : ∀ p ∈ ps, (p.syms.map sInt).all (alB svs) = allFru hs p.syms := fun p hp1 => by
    have hpt : ∀ s ∈ p.syms, alB svs (sInt s) = fruB hs s := fun s hs1 => by
      have hv := hT.sy p hp1 s hs1
      unfold fruB alB
      cases hs2 : s.isH
      · rw [hs2] at hv
        simp only [Bool.false_eq_true, if_false] at hv
        have e1 : sInt s = s.num := by unfold sInt; rw [hs2]; rfl
        simp [e1, hv.1]
      · rw [hs2] at hv
        simp only [if_true] at hv
        have e1 : ¬ 0 ≤ sInt s := by unfold sInt; rw [hs2]; simp only [if_true]; omega
        have e2 := hdAt_eq hsv hS.len hs2 hv.1 hv.2
        rw [e2]
        simp [e1]
    unfold allFru
    rw [Bool.eq_iff_iff, List.all_eq_true, List.all_eq_true]
    constructor
    · intro h s hs1; rw [← hpt s hs1]; exact h _ (List.mem_map.2 ⟨s, hs1, rfl⟩)
    · intro h x hx
      obtain ⟨s, hs1, rfl⟩ := List.mem_map.1 hx
      rw [hpt s hs1]; exact h s hs1
  have hbits : ∀ h (hh : h < svs.length), EqB (unL svs R h ((ps.map Pr.head).zip (ps.map fun p => p.syms.map sInt)) (List.replicate (R + 1) false) false false).1 svs[h].hd.fi := fun h hh t => by
    rw [hzip, hat h hh, Bool.eq_iff_iff, (hun (h : Int)).1 t, hrep t, zero9_at]
    constructor
    · rintro (e | ⟨q, hq, hq1, hq2⟩)
      · cases e
      · obtain ⟨p, hp1, rfl⟩ := List.mem_map.1 hq
        dsimp only at hq1 hq2
        rw [(hka p.syms (hT.sy p hp1)).1 t] at hq2
        rw [← hq1]; exact hS.clF p hp1 t hq2
    · intro e
      obtain ⟨p, hp1, hp2, hp3⟩ := hS.sf _ t e
      refine .inr ⟨_, List.mem_map.2 ⟨p, hp1, rfl⟩, hp2, ?_⟩
      dsimp only
      rw [(hka p.syms (hT.sy p hp1)).1 t]; exact hp3
  refine ⟨by omega, by omega, by simpa using hp, by omega, by simp, by simpa using hp0, ?_, ?_, ?_, ?_, ?_, ?_, ?_, ?_, ?_, ?_, ?_⟩
  · intro s hs1
    obtain ⟨n, h0, hn, e⟩ := hmem s hs1
    rw [e]
    exact ⟨listT_rises (fun t ht => hS.bfi n t ht), listT_rises (n := R + 1) (fun t ht => by have := hS.bfo n t ht; omega)⟩
  · intro l hl
    obtain ⟨p, hp1, rfl⟩ := List.mem_map.1 hl
    simpa using hsl p hp1
  · intro l hl s hs1
    obtain ⟨p, hp1, rfl⟩ := List.mem_map.1 hl
    obtain ⟨y, hy, rfl⟩ := List.mem_map.1 hs1
    have hv := hT.sy p hp1 y hy
    unfold SymOk sInt
    rw [hlen]
    cases hy1 : y.isH
    · rw [hy1] at hv; simp only [Bool.false_eq_true, if_false] at hv ⊢; omega
    · rw [hy1] at hv; simp only [if_true] at hv ⊢; omega
  · intro p hp1
    simp only [List.length_map] at hp1
    have hv := hT.hd ps[p] (by simp)
    exact ⟨ps[p].head.toNat, by omega, by simp; omega⟩
  · intro s hs1
    have h0 : 0 < svs.length := by omega
    rw [List.getElem?_eq_getElem h0] at hs1
    have e : s = svs[0] := by simpa using hs1.symm
    subst e
    have e2 := hat 0 h0
    rw [e2]
    exact ⟨hS.st1 hH0, by rw [listT_any (getH_ok hS.ok _).fo]; exact hS.st2 hH0⟩
  · intro h hh t ht ht2
    have h1 := hbits h hh t
    rw [listT_any (by rw [hat h hh]; exact (getH_ok hS.ok _).fi), ← h1]
    simpa [ht] using ht2
  · intro h hh
    rw [listT_cnt (by rw [hat h hh]; exact (getH_ok hS.ok _).fi)]
    exact cntT_eq (hbits h hh)
  · intro h hh
    rw [hzip, hat h hh, Bool.eq_iff_iff, (hun (h : Int)).2.1]
    constructor
    · rintro (e | ⟨q, hq, hq1, hq2⟩)
      · cases e
      · obtain ⟨p, hp1, rfl⟩ := List.mem_map.1 hq
        dsimp only at hq1 hq2
        rw [(hka p.syms (hT.sy p hp1)).2] at hq2
        rw [← hq1]; exact hS.clN p hp1 hq2
    · intro e
      obtain ⟨p, hp1, hp2, hp3⟩ := hS.sn _ e
      refine .inr ⟨_, List.mem_map.2 ⟨p, hp1, rfl⟩, hp2, ?_⟩
      dsimp only
      rw [(hka p.syms (hT.sy p hp1)).2]; exact hp3
  · intro h hh
    rw [hzip, hat h hh, Bool.eq_iff_iff, (hun (h : Int)).2.2]
    constructor
    · rintro (e | ⟨q, hq, hq1, hq2⟩)
      · cases e
      · obtain ⟨p, hp1, rfl⟩ := List.mem_map.1 hq
        dsimp only at hq1 hq2
        rw [hall p hp1] at hq2
        rw [← hq1]; exact hS.clU p hp1 hq2
    · intro e
      obtain ⟨p, hp1, hp2, hp3⟩ := hS.su _ e
      refine .inr ⟨_, List.mem_map.2 ⟨p, hp1, rfl⟩, hp2, ?_⟩
      dsimp only
      rw [hall p hp1]; exact hp3
  · intro p hp1 q hq
    simp only [List.length_map] at hp1
    have hq2 : ps[p].head = (q : Int) := by simpa [hp1] using hq
    have hpm : ps[p] ∈ ps := by simp
    have e0 : (ps.map fun p => p.syms.map sInt)[p]'(by simpa using hp1) = ps[p].syms.map sInt := by simp
    intro j hj hneg
    simp only [e0] at hj hneg ⊢
    simp only [List.length_map] at hj
    simp only [List.getElem_map] at hneg ⊢
    generalize hP : ps[p] = P at *
    have hv := hT.sy P hpm P.syms[j] (by simp)
    have hs1 : P.syms[j].isH = true := by
      cases hq3 : P.syms[j].isH
      · rw [hq3] at hv
        simp only [Bool.false_eq_true, if_false] at hv
        unfold sInt at hneg
        rw [hq3] at hneg
        simp at hneg; omega
      · rfl
    rw [hs1] at hv
    simp only [if_true] at hv
    have ehd := hdAt_eq hsv hS.len hs1 hv.1 hv.2
    have hsplit : P.syms = P.syms.take j ++ P.syms[j] :: P.syms.drop (j + 1) := by
      rw [← List.drop_eq_getElem_cons hj, List.take_append_drop]
    have hcl := hS.clS P hpm _ _ _ hsplit hs1
    have hdv : ∀ s ∈ P.syms.drop (j + 1), 0 ≤ s.num ∧ s.num < (if s.isH then (H : Int) else R) := fun s hs => hT.sy P hpm s (List.mem_of_mem_drop hs)
    obtain ⟨k1, k2⟩ := hka (P.syms.drop (j + 1)) hdv
    have e3 : (P.syms.map sInt).drop (j + 1) = (P.syms.drop (j + 1)).map sInt := by rw [List.map_drop]
    simp only [e3, ehd]
    have hfo := (getH_ok hS.ok P.syms[j].num).fo
    refine ⟨fun t ht ht2 => ?_, fun he s hs k hk => ?_⟩
    · rw [listT_any hfo]
      refine hcl t ?_
      have h3 : (begF hs (P.syms.drop (j + 1)) zero9).1.getD t false = true := by
        rw [← k1 t, List.getD_eq_getElem?_getD, List.getElem?_eq_getElem ht]; exact ht2
      unfold folB
      split
      · rw [orL_at (by rw [begF_len hS.ok _ _ rfl, (getH_ok hS.ok _).fo]), h3]; rfl
      · exact h3
    · rw [k2] at he
      have hq4 : q < svs.length := by have := (hT.hd P hpm).2; omega
      rw [List.getElem?_eq_getElem hq4] at hs
      have es : s = svs[q] := by simpa using hs.symm
      subst es
      rw [hat q hq4] at hk
      obtain ⟨q1, q2, q3⟩ := (listL_mem _ 9).2 k hk
      have hkk : k = ((k.toNat : Nat) : Int) := by omega
      rw [hkk, listT_any hfo]
      refine hcl _ ?_
      unfold folB
      rw [if_pos he, orL_at (by rw [begF_len hS.ok _ _ rfl, (getH_ok hS.ok _).fo]), hq2, q3]; simp
  · intro p hp1 q hq x hx hr s hs1 hneg
    simp only [List.length_map] at hp1
    have hq2 : ps[p].head = (q : Int) := by simpa [hp1] using hq
    have hpm : ps[p] ∈ ps := by simp
    have e0 : (ps.map fun p => p.syms.map sInt)[p]'(by simpa using hp1) = ps[p].syms.map sInt := by simp
    rw [e0] at hs1
    obtain ⟨y, hy, rfl⟩ := List.mem_map.1 hs1
    have hv := hT.sy ps[p] hpm y hy
    have hy1 : y.isH = true := by
      cases hq3 : y.isH
      · rw [hq3] at hv
        simp only [Bool.false_eq_true, if_false] at hv
        unfold sInt at hneg
        rw [hq3] at hneg
        simp at hneg; omega
      · rfl
    rw [hy1] at hv
    simp only [if_true] at hv
    rw [hdAt_eq hsv hS.len hy1 hv.1 hv.2]
    have hq4 : q < svs.length := by have := (hT.hd ps[p] hpm).2; omega
    rw [List.getElem?_eq_getElem hq4] at hx
    have es : x = svs[q] := by simpa using hx.symm
    subst es
    rw [hat q hq4, ← hq2] at hr
    exact hS.clR ps[p] hpm hr y hy hy1
end
end Go.Proofs.YtakkooidejdfkaaGreat
namespace Go.Proofs.YtakkooidejdfkaaGreat
open Go.RowKit
set_option linter.unusedVariables false
set_option linter.unusedSimpArgs false

def All2 {α β : Type} (R : α → β → Prop) : List α → List β → Prop
  | [], [] => True
  | a :: us, b :: zs => R a b ∧ All2 R us zs
  | _, _ => False
theorem All2.len {α β : Type} {R : α → β → Prop} : ∀ {us : List α} {zs : List β}, All2 R us zs → us.length = zs.length
  | [], [], _ => rfl
  | _ :: us, _ :: zs, h => by simp [All2.len h.2]
theorem All2.snoc {α β : Type} {R : α → β → Prop} : ∀ {us : List α} {zs : List β} {a : α} {b : β}, All2 R us zs → R a b → All2 R (us ++ [a]) (zs ++ [b])
  | [], [], _, _, _, h => ⟨h, trivial⟩
  | _ :: us, _ :: zs, _, _, h, k => ⟨h.1, All2.snoc h.2 k⟩
def Tw (s : ByteArray) (d : Wd) (y : ByteArray) : Prop := ∃ i m : Nat, WordAt s i m d ∧ y = s.extract i (i + m)
theorem word_same' {s : ByteArray} {a b m n : Nat} {d d' : Wd} (h : WordAt s a m d) (h' : WordAt s b n d') (ha : a + m ≤ s.size) (hb : b + n ≤ s.size) (hl : (s.extract a (a + m)).toList = (s.extract b (b + n)).toList) : d.ls = d'.ls := by
  have hA : (s.extract a (a + m)).size = m := by rw [ByteArray.size_extract]; omega
  have hB : (s.extract b (b + n)).size = n := by rw [ByteArray.size_extract]; omega
  have hmn : m = n := by
    have := congrArg List.length hl
    rw [btl, btl, Array.length_toList, Array.length_toList] at this
    have e1 : (s.extract a (a + m)).data.size = m := hA
    have e2 : (s.extract b (b + n)).data.size = n := hB
    omega
  subst hmn
  rw [h.ls, h'.ls]
  apply List.map_congr_left
  intro k hk
  by_cases hkm : k < m
  · rw [if_pos hkm, if_pos hkm]
    have e1 := atB_ext s a (a + m) k ha (by omega)
    have e2 := atB_ext s b (b + m) k hb (by omega)
    have e3 : s.extract a (a + m) = s.extract b (b + m) := by
      apply ByteArray.ext
      apply Array.toList_inj.1
      rw [← btl, ← btl]; exact hl
    rw [e3] at e1
    rw [← e1, ← e2]
  · rw [if_neg hkm, if_neg hkm]
theorem tw_eq {s : ByteArray} {d d' : Wd} {y y' : ByteArray} (h : Tw s d y) (h' : Tw s d' y') : (d.ls == d'.ls) = (y.toList == y'.toList) := by
  obtain ⟨i, m, hw, rfl⟩ := h
  obtain ⟨j, n, hw', rfl⟩ := h'
  have h1 := hw.in'
  have h2 := hw'.in'
  rw [Bool.eq_iff_iff, beq_iff_eq, beq_iff_eq]
  exact ⟨fun e => word_same hw hw' (by omega) (by omega) e, fun e => word_same' hw hw' (by omega) (by omega) e⟩
theorem idx_eq {s : ByteArray} {d : Wd} {y : ByteArray} (hd : Tw s d y) : ∀ {ds : List Wd} {ys : List ByteArray}, All2 (Tw s) ds ys → ds.findIdx (fun x => x.ls == d.ls) = ys.findIdx (fun x => x.toList == y.toList)
  | [], [], _ => rfl
  | a :: us, b :: zs, h => by
    rw [List.findIdx_cons, List.findIdx_cons, tw_eq h.1 hd, idx_eq hd h.2]
theorem findF_eq {s : ByteArray} {d : Wd} {y : ByteArray} (hd : Tw s d y) {ds : List Wd} {ys : List ByteArray} (h : All2 (Tw s) ds ys) : findF ys y = if wordF ds d.ls < ds.length then (wordF ds d.ls : Int) else -1 := by
  unfold findF wordF
  rw [← idx_eq hd h, ← h.len]
theorem headsL_snoc : ∀ (l : List Ln) (acc : List Wd) (y : Ln), headsL (l ++ [y]) acc = if ruleB y then headsL l acc else if wordF (headsL l acc) y.front.ls < (headsL l acc).length then headsL l acc else headsL l acc ++ [y.front]
  | [], acc, y => by
    simp only [List.nil_append, headsL]; rfl
  | x :: l, acc, y => by
    rw [List.cons_append]
    unfold headsL
    split
    · exact headsL_snoc l acc y
    · split
      · exact headsL_snoc l acc y
      · exact headsL_snoc l _ y
theorem wordF_snoc {ds : List Wd} {ls : List Int} (h : wordF ds ls < ds.length) (t : List Wd) : wordF (ds ++ t) ls = wordF ds ls := by
  unfold wordF at h ⊢
  rw [List.findIdx_append, if_pos h]

structure Inv2 (s : ByteArray) (lns : List Ln) (x : LO) : Prop where
  ru : All2 (Tw s) (frontsOf lns) x.rules
  he : All2 (Tw s) (headsOf lns) x.heads
  hd : x.head = (prodsOf lns).map (fun y => (wordF (headsOf lns) y.front.ls : Int))
  na : All2 (fun (y : Ln) (ns : List ByteArray) => All2 (Tw s) y.syms ns) (prodsOf lns) x.names
  mem : ∀ y ∈ prodsOf lns, wordF (headsOf lns) y.front.ls < (headsOf lns).length
  cap : ∀ d ∈ headsOf lns, headB d = true

theorem pn_tw {s : ByteArray} {p q : Nat} {ds : List Wd} {ns : List ByteArray} (h : PN s p ds ns q) : All2 (Tw s) ds ns := by
  refine PN.ind (M := fun _ ds ns => All2 (Tw s) ds ns) trivial ?_ ds p ns h
  intro p m d ds ns h32 hw hle h ih
  exact ⟨⟨p + 1, m, hw, rfl⟩, ih⟩
theorem inv2_line {s : ByteArray} {lns : List Ln} {x : LO} {y : Ln} {i e : Nat} (h : Inv2 s lns x) (he : e ≤ s.size) (hl : LineAt s i y e) : Inv2 s (lns ++ [y]) (takeF (s.extract i e) x) := by
  rcases hl with ⟨m, hw, hs, hr, hle, hc, hm, hk, hsy⟩ | ⟨m, ns, hw, hs, hr, hc, hm, hp⟩
  · rw [take_rule_at s i e m _ x he hw hs hle hm]
    have e1 : headsOf (lns ++ [y]) = headsOf lns := by unfold headsOf; rw [headsL_snoc, if_pos hr]
    have e2 : prodsOf (lns ++ [y]) = prodsOf lns := by unfold prodsOf; rw [List.filter_append]; simp [List.filter_cons, hr]
    have e3 : frontsOf (lns ++ [y]) = frontsOf lns ++ [y.front] := by unfold frontsOf; rw [List.filter_append, List.map_append]; simp [List.filter_cons, hr]
    refine ⟨?_, ?_, ?_, ?_, ?_, ?_⟩
    · rw [e3]; exact h.ru.snoc ⟨i, m, hw, rfl⟩
    · rw [e1]; exact h.he
    · rw [e1, e2]; exact h.hd
    · rw [e2]; exact h.na
    · rw [e1, e2]; exact h.mem
    · rw [e1]; exact h.cap
  · rw [take_prod_at s i e m _ _ ns x he hw hs hm hp]
    have hcap : headB y.front = true := by
      unfold ruleB at hr
      simpa using hr
    have hT : Tw s y.front (s.extract i (i + m)) := ⟨i, m, hw, rfl⟩
    have e2 : prodsOf (lns ++ [y]) = prodsOf lns ++ [y] := by unfold prodsOf; rw [List.filter_append]; simp [List.filter_cons, hr]
    have e3 : frontsOf (lns ++ [y]) = frontsOf lns := by unfold frontsOf; rw [List.filter_append, List.map_append]; simp [List.filter_cons, hr]
    have hf := findF_eq hT h.he
    by_cases hlt : wordF (headsOf lns) y.front.ls < (headsOf lns).length
    · rw [if_pos hlt] at hf
      have e1 : headsOf (lns ++ [y]) = headsOf lns := by
        unfold headsOf at hlt ⊢; rw [headsL_snoc, if_neg (by simp [hr]), if_pos hlt]
      have hnn : ¬ findF x.heads (s.extract i (i + m)) < 0 := by rw [hf]; omega
      simp only [hnn, if_false]
      refine ⟨?_, ?_, ?_, ?_, ?_, ?_⟩
      · rw [e3]; exact h.ru
      · rw [e1]; exact h.he
      · rw [e1, e2, List.map_append, h.hd, hf]; rfl
      · rw [e2]; exact h.na.snoc (pn_tw hp)
      · rw [e1, e2]
        intro z hz
        simp only [List.mem_append, List.mem_singleton] at hz
        rcases hz with hz | rfl
        · exact h.mem z hz
        · exact hlt
      · rw [e1]; exact h.cap
    · rw [if_neg hlt] at hf
      have e1 : headsOf (lns ++ [y]) = headsOf lns ++ [y.front] := by
        unfold headsOf at hlt ⊢; rw [headsL_snoc, if_neg (by simp [hr]), if_neg hlt]
      have hnn : findF x.heads (s.extract i (i + m)) < 0 := by rw [hf]; omega
      simp only [hnn, if_true]
      have hself : wordF (headsOf lns ++ [y.front]) y.front.ls = (headsOf lns).length := by
        have hle := wordF_le (headsOf lns) y.front.ls
        have hge : (headsOf lns).findIdx (fun x => x.ls == y.front.ls) = (headsOf lns).length := by unfold wordF at hle hlt; omega
        unfold wordF
        rw [List.findIdx_append, hge, if_neg (by omega), List.findIdx_cons]; simp
      refine ⟨?_, ?_, ?_, ?_, ?_, ?_⟩
      · rw [e3]; exact h.ru
      · rw [e1]; exact h.he.snoc hT
      · rw [e1, e2, List.map_append, List.map_singleton, hself, h.hd, h.he.len]
        dsimp only
        congr 1
        apply List.map_congr_left
        intro z hz
        rw [wordF_snoc (h.mem z hz)]
      · rw [e2]; exact h.na.snoc (pn_tw hp)
      · rw [e1, e2]
        intro z hz
        simp only [List.mem_append, List.mem_singleton] at hz
        rw [List.length_append, List.length_singleton]
        rcases hz with hz | rfl
        · rw [wordF_snoc (h.mem z hz)]; have := h.mem z hz; omega
        · rw [hself]; omega
      · rw [e1]
        intro d hd
        simp only [List.mem_append, List.mem_singleton] at hd
        rcases hd with hd | rfl
        · exact h.cap d hd
        · exact hcap
theorem inv2_lines (s : ByteArray) : ∀ (f i : Nat) (acc : List Ln) (g : Nat) (x : LO), (rLinesL s f i acc).2.2 = true → i ≤ s.size → s.size + 1 ≤ g + i → Inv2 s acc x → Inv2 s (rLinesL s f i acc).1 (lineL s g i x)
  | 0, i, acc, g, x, h, hi, hg, hI => by simp [rLinesL] at h
  | f + 1, i, acc, g, x, h, hi, hg, hI => by
    obtain ⟨g, rfl⟩ : ∃ k, g = k + 1 := ⟨g - 1, by omega⟩
    unfold rLinesL at h ⊢
    unfold lineL
    by_cases hlt : i < s.size
    · rw [if_pos (by omega)] at h ⊢
      rw [if_pos hlt]
      cases hok : (rLine s i).2.2
      · rw [if_pos hok] at h; cases h
      · rw [if_neg (by simp [hok])] at h ⊢
        obtain ⟨e, he1, he2, he3, he4, he5⟩ := rLine_at s i hok
        rw [he4] at h ⊢
        have hcl : Clean s i e := he5.clean
        have hup : upToF (s.extract i s.size) 10 10 = e - i := by
          refine upTo_at s i s.size (e - i) 10 10 (by omega) (by omega) ?_ ?_
          · intro k hk
            have := hcl ((i : Int) + k) (by omega) (by omega)
            exact ⟨by omega, by omega⟩
          · right; left
            have e1 : (i : Int) + ((e - i : Nat) : Int) = (e : Nat) := by omega
            rw [e1]; exact he3
        rw [hup, show i + (e - i) = e by omega, if_pos he1]
        exact inv2_lines s f (e + 1) _ g _ h (by omega) (by omega) (inv2_line hI (by omega) he5)
    · rw [if_neg (by omega)] at h ⊢
      rw [if_neg hlt]
      exact hI
theorem linesInv2 {s : ByteArray} (h : checkF s = (0, 0)) : Inv2 s (rLines s).1 (linesX s) := by
  obtain ⟨h1, h2, h3, h4, h5⟩ := check_parts h
  have h2' : (rLinesL s (s.size + 5) ((0 : Nat) : Int) []).2.2 = true := h2
  exact inv2_lines s (s.size + 5) 0 [] (s.size + 1) zeroLO h2' (by omega) (by omega) ⟨trivial, trivial, rfl, trivial, (by intro y hy; cases hy), (by intro d hd; cases hd)⟩
end Go.Proofs.YtakkooidejdfkaaGreat
namespace Go.Proofs.YtakkooidejdfkaaGreat
open Go.RowKit
set_option linter.unusedVariables false
set_option linter.unusedSimpArgs false

theorem many_rules {lns : List Ln} (hp : ∀ y ∈ lns, 0 ≤ y.front.place) : ∀ (f i : Nat), tooManyL lns f i = -1 → lns.length + 1 ≤ f + i → ∀ k (hk : k < lns.length), i ≤ k → overB lns k lns[k] = false
  | 0, i, _, hf, k, hk, hi => by omega
  | f + 1, i, h, hf, k, hk, hi => by
    unfold tooManyL at h
    have hil : i < lns.length := by omega
    rw [List.getElem?_eq_getElem hil] at h
    simp only [] at h
    cases ho : overB lns i lns[i]
    · rw [ho] at h
      simp only [Bool.false_eq_true, if_false] at h
      by_cases e : i = k
      · subst e; exact ho
      · exact many_rules hp f (i + 1) h (by omega) k hk (by omega)
    · rw [ho] at h
      simp only [if_true] at h
      have := hp lns[i] (by simp)
      omega
theorem rules_le {lns : List Ln} (hp : ∀ y ∈ lns, 0 ≤ y.front.place) (h : tooMany lns = -1) : (frontsOf lns).length ≤ 8 := by
  have e : (frontsOf lns).length = cntRules lns lns.length := by unfold frontsOf cntRules; rw [List.take_length, List.length_map]
  rw [e]
  by_cases h0 : lns.length = 0
  · rw [h0]; simp [cntRules]
  · have := many_rules hp _ 0 h (by omega) (lns.length - 1) (by omega) (by omega)
    unfold overB at this
    simp only [Bool.or_eq_false_iff, decide_eq_false_iff_not] at this
    have h1 := this.1.1.1
    rw [show lns.length - 1 + 1 = lns.length by omega] at h1
    omega
theorem headB_ls {d d' : Wd} (h : d.ls = d'.ls) : headB d = headB d' := by unfold headB; rw [h]
/-- each symbol has its number -/
theorem sym_num {lns : List Ln} (hw : wrongName lns = -1) (hpl : ∀ y ∈ lns, 0 ≤ y.front.place ∧ ∀ d ∈ y.syms, 0 ≤ d.place) (hmem : ∀ y ∈ prodsOf lns, wordF (headsOf lns) y.front.ls < (headsOf lns).length) {y : Ln} (hy : y ∈ lns) {d : Wd} (hd : d ∈ y.syms) :
    (headB d = true → wordF (headsOf lns) d.ls < (headsOf lns).length) ∧ (headB d = false → wordF (frontsOf lns) d.ls < (frontsOf lns).length) := by
  obtain ⟨k, hk, rfl⟩ := List.getElem_of_mem hy
  have h1 := wrong_none hpl _ 0 hw (by omega) k hk (by omega)
  obtain ⟨q, hq, rfl⟩ := List.getElem_of_mem hd
  have h2 := syms_none (hpl _ hy).2 _ 0 h1 (by omega) q hq (by omega)
  unfold symB at h2
  by_cases hf : frontF lns (lns[k].syms[q]).ls < lns.length
  · have h3 : (lns[frontF lns (lns[k].syms[q]).ls]).front.ls = (lns[k].syms[q]).ls := by
      have := List.findIdx_getElem (xs := lns) (p := fun x : Ln => x.front.ls == (lns[k].syms[q]).ls) (w := hf)
      exact beq_iff_eq.1 this
    have h4 := headB_ls h3
    have hz := List.getElem_mem hf
    generalize lns[frontF lns (lns[k].syms[q]).ls] = z at h3 h4 hz
    refine ⟨fun e => ?_, fun e => ?_⟩
    · rw [← h3]
      refine hmem z ?_
      unfold prodsOf ruleB
      rw [List.mem_filter]
      exact ⟨hz, by rw [h4, e]; rfl⟩
    · unfold wordF
      refine List.findIdx_lt_length_of_exists ⟨z.front, ?_, by rw [h3]; simp⟩
      unfold frontsOf ruleB
      rw [List.mem_map]
      exact ⟨z, List.mem_filter.2 ⟨hz, by rw [h4, e]; rfl⟩, rfl⟩
  · rw [List.getElem?_eq_none (by omega)] at h2; cases h2

theorem tabOk {lns : List Ln} (hw : wrongName lns = -1) (hpl : ∀ y ∈ lns, 0 ≤ y.front.place ∧ ∀ d ∈ y.syms, 0 ≤ d.place) (hmem : ∀ y ∈ prodsOf lns, wordF (headsOf lns) y.front.ls < (headsOf lns).length) :
    TabOk (tableOf lns) (frontsOf lns).length (headsOf lns).length := by
  refine ⟨fun p hp => ?_, fun p hp s hs => ?_⟩
  · obtain ⟨y, hy, rfl⟩ := List.mem_map.1 hp
    have := hmem y hy
    simp only [prOf]; omega
  · obtain ⟨y, hy, rfl⟩ := List.mem_map.1 hp
    obtain ⟨d, hd, rfl⟩ := List.mem_map.1 hs
    have hyl : y ∈ lns := (List.mem_filter.1 hy).1
    obtain ⟨h1, h2⟩ := sym_num hw hpl hmem hyl hd
    simp only [symF]
    by_cases hq : headB d = true
    · have := h1 hq
      simp only [hq, if_true]; omega
    · have hq' : headB d = false := by simpa using hq
      have := h2 hq'
      simp only [hq', Bool.false_eq_true, if_false]; omega

theorem sym_is {s : ByteArray} {lns : List Ln} {x : LO} (hI : Inv2 s lns x) (hw : wrongName lns = -1) (hpl : ∀ y ∈ lns, 0 ≤ y.front.place ∧ ∀ d ∈ y.syms, 0 ≤ d.place) {y : Ln} (hy : y ∈ lns) {d : Wd} (hd : d ∈ y.syms) {t : ByteArray} (ht : Tw s d t) :
    symOf x t = some (sInt (symF (frontsOf lns) (headsOf lns) d)) := by
  obtain ⟨h1, h2⟩ := sym_num hw hpl hI.mem hy hd
  have f1 := findF_eq ht hI.he
  have f2 := findF_eq ht hI.ru
  unfold symOf
  cases hq : headB d
  · have h3 := h2 hq
    have h4 : ¬ wordF (headsOf lns) d.ls < (headsOf lns).length := by
      intro hlt
      have := List.findIdx_getElem (xs := headsOf lns) (p := fun x : Wd => x.ls == d.ls) (w := hlt)
      have e := headB_ls (beq_iff_eq.1 this)
      rw [hq] at e
      have h5 := hI.cap _ (List.getElem_mem hlt)
      exact Bool.noConfusion (e.symm.trans h5)
    rw [if_neg h4] at f1
    rw [if_pos h3] at f2
    rw [f1, f2, if_neg (by omega), if_neg (by omega)]
    simp [symF, sInt, hq]
  · have h3 := h1 hq
    rw [if_pos h3] at f1
    rw [f1, if_neg (by omega), if_pos (by omega)]
    simp [symF, sInt, hq]
theorem ksyms_is {s : ByteArray} {lns : List Ln} {x : LO} (hI : Inv2 s lns x) (hw : wrongName lns = -1) (hpl : ∀ y ∈ lns, 0 ≤ y.front.place ∧ ∀ d ∈ y.syms, 0 ≤ d.place) {y : Ln} (hy : y ∈ lns) : ∀ (ds : List Wd) (ts : List ByteArray) (acc : List Int), (∀ d ∈ ds, d ∈ y.syms) → All2 (Tw s) ds ts →
    ksyms x ts acc = some (acc ++ ds.map fun d => sInt (symF (frontsOf lns) (headsOf lns) d))
  | [], [], acc, _, _ => by simp [ksyms]
  | d :: ds, t :: ts, acc, hm, h => by
    unfold ksyms
    rw [sym_is hI hw hpl hy (hm d (by simp)) h.1]
    simp only []
    rw [ksyms_is hI hw hpl hy ds ts _ (fun e he => hm e (by simp [he])) h.2]
    simp
theorem allS_is {s : ByteArray} {lns : List Ln} {x : LO} (hI : Inv2 s lns x) (hw : wrongName lns = -1) (hpl : ∀ y ∈ lns, 0 ≤ y.front.place ∧ ∀ d ∈ y.syms, 0 ≤ d.place) : ∀ (yl : List Ln) (nl : List (List ByteArray)) (acc : List (List Int)), (∀ y ∈ yl, y ∈ lns) → All2 (fun (y : Ln) (ns : List ByteArray) => All2 (Tw s) y.syms ns) yl nl →
    (allS x nl acc).1 = { x with syms := acc ++ yl.map fun y => (y.syms.map (symF (frontsOf lns) (headsOf lns))).map sInt }
  | [], [], acc, _, _ => by simp [allS]
  | y :: yl, n :: nl, acc, hm, h => by
    unfold allS
    rw [ksyms_is hI hw hpl (hm y (by simp)) y.syms n [] (fun d hd => hd) h.1]
    simp only []
    rw [allS_is hI hw hpl yl nl _ (fun z hz => hm z (by simp [hz])) h.2]
    simp

/-- The lines and the table say the same. -/
theorem lines_table {s : ByteArray} (h : checkF s = (0, 0)) :
    (linesF s).1.rules.length = (frontsOf (rLines s).1).length ∧ (linesF s).1.heads.length = (headsOf (rLines s).1).length ∧ (linesF s).1.head = (tableOf (rLines s).1).map Pr.head ∧ (linesF s).1.syms = (tableOf (rLines s).1).map (fun p => p.syms.map sInt) := by
  obtain ⟨h1, h2, h3, h4, h5⟩ := check_parts h
  have hI := linesInv h
  have hI2 := linesInv2 h
  have hA := allS_is hI2 h3 hI.places (prodsOf (rLines s).1) (linesX s).names [] (fun y hy => (List.mem_filter.1 hy).1) hI2.na
  unfold linesF
  rw [hA]
  refine ⟨hI2.ru.len.symm, hI2.he.len.symm, ?_, ?_⟩
  · show (linesX s).head = _
    rw [hI2.hd]; unfold tableOf; rw [List.map_map]; rfl
  · show [] ++ _ = _
    rw [List.nil_append]; unfold tableOf; rw [List.map_map]; rfl

theorem check_zero {s : ByteArray} (hc : (checkF s).1 = 0) : checkF s = (0, 0) := by
  unfold checkF at hc ⊢
  repeat' split at hc
  all_goals first
    | (simp at hc; done)
    | skip
  rename_i a b c d e f
  rw [if_neg a, if_neg b, if_neg c, if_neg d, if_neg e, if_neg f]
end Go.Proofs.YtakkooidejdfkaaGreat
