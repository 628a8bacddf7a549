import Derived.Test.YtcpgklcimacngaaGreatSg3
import Derived.Test.YtcpgklcimacngaaGreatPd7
namespace Go.Proofs.YtcpgklcimacngaaGreat
open Go.RowKit
set_option linter.unusedVariables false
set_option linter.unusedSimpArgs false

theorem leB_split : ∀ {a c b d : List Bool}, a.length = c.length → leB (a ++ b) (c ++ d) → leB a c ∧ leB b d
  | [], [], _, _, _, h => ⟨trivial, h⟩
  | x :: xs, y :: ys, _, _, e, h => by
    have := leB_split (a := xs) (c := ys) (by simpa using e) h.2
    exact ⟨⟨h.1, this.1⟩, this.2⟩
theorem Hd.le.parts {a b : Hd} (ha : a.ok) (hb : b.ok) (h : a.le b) : (a.nul = true → b.nul = true) ∧ (a.rch = true → b.rch = true) ∧ (a.fru = true → b.fru = true) ∧ leB a.fi b.fi ∧ leB a.fo b.fo := by
  obtain ⟨h1, h2, h3, h4⟩ := h
  have := leB_split (by rw [ha.fi, hb.fi]) h4
  exact ⟨h1, h2, h3, this.1, this.2⟩
def Up (hs hs' : List Hd) : Prop := ∀ n, (getH hs n).le (getH hs' n)
theorem Up.refl (hs : List Hd) : Up hs hs := fun _ => Hd.le_refl _
theorem Up.trans {a b c : List Hd} (h : Up a b) (k : Up b c) : Up a c := fun n => Hd.le_trans (h n) (k n)
theorem Up.put {hs : List Hd} {n : Int} {x : Hd} (h : (getH hs n).le x) : Up hs (putF hs n x) := fun m => by
  rw [getH_put]
  split
  · rename_i e; rw [e.1]; exact h
  · exact Hd.le_refl _
theorem growB1_up {hs : List Hd} (hok : ∀ x ∈ hs, x.ok) (p : Pr) : Up hs (growB1 hs p).1 := Up.put (le_nf (getH_ok hok _) _ (begF_len hok _ _ rfl))
theorem growF1_up (hs : List Hd) (p : Pr) : Up hs (growF1 hs p).1 := Up.put (le_fru _ _)
theorem growRS_up : ∀ (l : List Sy) (hs : List Hd) (g : Bool), Up hs (growRS l hs g).1
  | [], hs, _ => Up.refl hs
  | s :: l, hs, g => by
    unfold growRS
    split
    · exact growRS_up l hs g
    · exact Up.trans (Up.put (le_rch _)) (growRS_up l _ _)
theorem growRL_up : ∀ (l : List Pr) (hs : List Hd) (g : Bool), Up hs (growRL l hs g).1
  | [], hs, _ => Up.refl hs
  | p :: l, hs, g => by
    unfold growRL
    split
    · exact growRL_up l hs g
    · exact Up.trans (growRS_up p.syms hs g) (growRL_up l _ _)
theorem withT_at {a : List Bool} {n : Int} {t : Nat} (h : (withT a n).getD t false = true) : a.getD t false = true ∨ (0 ≤ n ∧ n.toNat = t) := by
  unfold withT at h
  split at h
  · rename_i hn
    simp only [List.getD_eq_getElem?_getD, List.getElem?_set] at h ⊢
    by_cases e : n.toNat = t
    · exact .inr ⟨hn.1, e⟩
    · rw [if_neg e] at h; exact .inl h
  · exact .inl h
theorem withT_up {a : List Bool} (ha : a.length = 9) (n : Int) : leB a (withT a n) := by
  refine leB_of (by rw [withT_len ha, ha]) (fun i hi => ?_)
  unfold withT
  split
  · simp only [List.getD_eq_getElem?_getD, List.getElem?_set] at hi ⊢
    split
    · split
      · rfl
      · rename_i h1 h2; rw [List.getElem?_eq_none (by omega)] at hi; simp at hi
    · exact hi
  · exact hi
theorem withT_mono {a b : List Bool} (ha : a.length = 9) (hb : b.length = 9) (h : leB a b) (n : Int) : leB (withT a n) (withT b n) := by
  refine leB_of (by rw [withT_len ha, withT_len hb]) (fun i hi => ?_)
  rcases withT_at hi with h1 | ⟨h1, h2⟩
  · exact leB_at (withT_up hb n) i (leB_at h i h1)
  · unfold withT at hi ⊢
    split
    · rename_i hn
      rw [if_pos hn] at hi
      simp only [List.getD_eq_getElem?_getD, List.getElem?_set, h2, if_true] at hi ⊢
      rw [if_pos (by omega)]; rfl
    · rename_i hn
      rw [if_neg hn] at hi
      exact leB_at h i hi
theorem orL_mono {a b c d : List Bool} (h1 : leB a c) (h2 : leB b d) (e : a.length = b.length) : leB (orL a b) (orL c d) := by
  have e1 := leB_len h1
  have e2 := leB_len h2
  refine leB_of (by simp [orL, ← e1, ← e2]) (fun i hi => ?_)
  rw [orL_at e] at hi
  rw [orL_at (by omega)]
  simp only [Bool.or_eq_true] at hi ⊢
  rcases hi with hi | hi
  · exact .inl (leB_at h1 i hi)
  · exact .inr (leB_at h2 i hi)
/-- what begins grows with the sets -/
theorem begF_mono {hs hs' : List Hd} (hok : ∀ x ∈ hs, x.ok) (hok' : ∀ x ∈ hs', x.ok) (hu : Up hs hs') : ∀ (l : List Sy) (acc acc' : List Bool), acc.length = 9 → leB acc acc' →
    leB (begF hs l acc).1 (begF hs' l acc').1 ∧ ((begF hs l acc).2 = true → (begF hs' l acc').2 = true)
  | [], _, _, _, h => ⟨h, fun e => e⟩
  | s :: l, acc, acc', ha, h => by
    have ha' : acc'.length = 9 := by rw [← leB_len h]; exact ha
    obtain ⟨p1, _, _, p4, _⟩ := (hu s.num).parts (getH_ok hok _) (getH_ok hok' _)
    have o1 := (getH_ok hok s.num).fi
    have o2 := (getH_ok hok' s.num).fi
    have hor := orL_mono h p4 (by rw [ha, o1])
    have hol : (orL acc (getH hs s.num).fi).length = 9 := orL_len ha o1
    unfold begF
    cases hs1 : s.isH
    · rw [if_pos rfl, if_pos rfl]; exact ⟨withT_mono ha ha' h _, fun e => e⟩
    · simp only [Bool.true_eq_false, if_false]
      cases hn : (getH hs s.num).nul
      · simp only [if_true]
        refine ⟨?_, fun e => by cases e⟩
        split
        · exact hor
        · have h3 : ∀ (l : List Sy) (acc : List Bool), acc.length = 9 → leB acc (begF hs' l acc).1 := by
            intro l
            induction l with
            | nil => intro acc _; exact leB_refl _
            | cons s l ih =>
              intro acc ha
              unfold begF
              split
              · exact withT_up ha _
              · split
                · exact leB_orL (by rw [ha, (getH_ok hok' _).fi])
                · exact leB_trans (leB_orL (by rw [ha, (getH_ok hok' _).fi])) (ih _ (orL_len ha (getH_ok hok' _).fi))
          exact leB_trans hor (h3 l _ (orL_len ha' o2))
      · simp only [Bool.true_eq_false, if_false]
        rw [p1 hn]
        simp only [Bool.true_eq_false, if_false]
        exact begF_mono hok hok' hu l _ _ hol hor
theorem allFru_mono {hs hs' : List Hd} (hok : ∀ x ∈ hs, x.ok) (hok' : ∀ x ∈ hs', x.ok) (hu : Up hs hs') (l : List Sy) (h : allFru hs l = true) : allFru hs' l = true := by
  unfold allFru at h ⊢
  rw [List.all_eq_true] at h ⊢
  intro s hs1
  have := h s hs1
  unfold fruB at this ⊢
  simp only [Bool.or_eq_true] at this ⊢
  rcases this with h1 | h1
  · exact .inl h1
  · exact .inr (((hu s.num).parts (getH_ok hok _) (getH_ok hok' _)).2.2.1 h1)
end Go.Proofs.YtcpgklcimacngaaGreat
namespace Go.Proofs.YtcpgklcimacngaaGreat
open Go.RowKit
set_option linter.unusedVariables false
set_option linter.unusedSimpArgs false

structure TabOk (ps : List Pr) (R H : Nat) : Prop where
  hd : ∀ p ∈ ps, 0 ≤ p.head ∧ p.head < H
  sy : ∀ p ∈ ps, ∀ s ∈ p.syms, 0 ≤ s.num ∧ s.num < (if s.isH then (H : Int) else R)
/-- no rule beyond the last in a First -/
def BFi (R : Nat) (hs : List Hd) : Prop := ∀ n t, (getH hs n).fi.getD t false = true → t < R
def BFo (R : Nat) (hs : List Hd) : Prop := ∀ n t, (getH hs n).fo.getD t false = true → t ≤ R
theorem begF_bd {R H : Nat} {hs : List Hd} (hok : ∀ x ∈ hs, x.ok) (hb : BFi R hs) : ∀ (l : List Sy) (acc : List Bool), acc.length = 9 → (∀ s ∈ l, 0 ≤ s.num ∧ s.num < (if s.isH then (H : Int) else R)) → (∀ t, acc.getD t false = true → t < R) → ∀ t, (begF hs l acc).1.getD t false = true → t < R
  | [], _, _, _, h, t, ht => h t ht
  | s :: l, acc, ha, hv, h, t, ht => by
    have hor : ∀ t, (orL acc (getH hs s.num).fi).getD t false = true → t < R := fun t ht => by
      rw [orL_at (by rw [ha, (getH_ok hok _).fi])] at ht
      simp only [Bool.or_eq_true] at ht
      rcases ht with ht | ht
      · exact h t ht
      · exact hb _ t ht
    unfold begF at ht
    cases hs1 : s.isH
    · rw [if_pos hs1] at ht
      have h1 := hv s (by simp)
      rw [hs1] at h1
      simp only [Bool.false_eq_true, if_false] at h1
      rcases withT_at ht with h2 | ⟨h2, h3⟩
      · exact h t h2
      · omega
    · rw [if_neg (by simp [hs1])] at ht
      split at ht
      · exact hor t ht
      · exact begF_bd hok hb l _ (orL_len ha (getH_ok hok _).fi) (fun s hs => hv s (by simp [hs])) hor t ht
theorem zero9_at (t : Nat) : zero9.getD t false = false := by
  rcases t with _ | _ | _ | _ | _ | _ | _ | _ | _ | t <;> simp [zero9]

def SupN (ps : List Pr) (hs : List Hd) : Prop := ∀ n, (getH hs n).nul = true → ∃ p ∈ ps, p.head = n ∧ (begF hs p.syms zero9).2 = true
def SupF (ps : List Pr) (hs : List Hd) : Prop := ∀ n t, (getH hs n).fi.getD t false = true → ∃ p ∈ ps, p.head = n ∧ (begF hs p.syms zero9).1.getD t false = true
def SupU (ps : List Pr) (hs : List Hd) : Prop := ∀ n, (getH hs n).fru = true → ∃ p ∈ ps, p.head = n ∧ allFru hs p.syms = true

structure IB (ps : List Pr) (R : Nat) (hs0 hs : List Hd) : Prop where
  ok : ∀ x ∈ hs, x.ok
  bfi : BFi R hs
  sn : SupN ps hs
  sf : SupF ps hs
  up : Up hs0 hs
theorem IB.step {ps : List Pr} {R H : Nat} (hT : TabOk ps R H) {hs0 hs : List Hd} (h : IB ps R hs0 hs) {p : Pr} (hp : p ∈ ps) : IB ps R hs0 (growB1 hs p).1 := by
  have hok := h.ok
  have hok' : ∀ x ∈ (growB1 hs p).1, x.ok := (growB1_grows hok p false).ok
  have hu := growB1_up hok p
  have hbl := begF_len hok p.syms zero9 rfl
  have mono := fun (q : Pr) => begF_mono hok hok' hu q.syms zero9 zero9 rfl (leB_refl _)
  refine ⟨hok', ?_, ?_, ?_, h.up.trans hu⟩
  · intro n t ht
    unfold growB1 at ht
    rw [getH_put] at ht
    split at ht
    · dsimp only at ht
      rw [orL_at (by rw [(getH_ok hok _).fi, hbl])] at ht
      simp only [Bool.or_eq_true] at ht
      rcases ht with ht | ht
      · exact h.bfi _ t ht
      · exact begF_bd hok h.bfi p.syms zero9 rfl (hT.sy p hp) (fun t h => by rw [zero9_at] at h; cases h) t ht
    · exact h.bfi n t ht
  · intro n hn
    have hn2 := hn
    unfold growB1 at hn2
    rw [getH_put] at hn2
    split at hn2
    · rename_i e
      dsimp only at hn2
      simp only [Bool.or_eq_true] at hn2
      rcases hn2 with h1 | h1
      · obtain ⟨q, hq1, hq2, hq3⟩ := h.sn _ h1
        exact ⟨q, hq1, hq2.trans e.1.symm, (mono q).2 hq3⟩
      · exact ⟨p, hp, e.1.symm, (mono p).2 h1⟩
    · obtain ⟨q, hq1, hq2, hq3⟩ := h.sn n hn2
      exact ⟨q, hq1, hq2, (mono q).2 hq3⟩
  · intro n t hn
    have hn2 := hn
    unfold growB1 at hn2
    rw [getH_put] at hn2
    split at hn2
    · rename_i e
      dsimp only at hn2
      rw [orL_at (by rw [(getH_ok hok _).fi, hbl])] at hn2
      simp only [Bool.or_eq_true] at hn2
      rcases hn2 with h1 | h1
      · obtain ⟨q, hq1, hq2, hq3⟩ := h.sf _ t h1
        exact ⟨q, hq1, hq2.trans e.1.symm, leB_at (mono q).1 t hq3⟩
      · exact ⟨p, hp, e.1.symm, leB_at (mono p).1 t h1⟩
    · obtain ⟨q, hq1, hq2, hq3⟩ := h.sf n t hn2
      exact ⟨q, hq1, hq2, leB_at (mono q).1 t hq3⟩
theorem IB.list {ps : List Pr} {R H : Nat} (hT : TabOk ps R H) {hs0 : List Hd} : ∀ (l : List Pr) (hs : List Hd) (g : Bool), (∀ p ∈ l, p ∈ ps) → IB ps R hs0 hs → IB ps R hs0 (growBL l hs g).1
  | [], _, _, _, h => h
  | p :: l, hs, g, hl, h => IB.list hT l _ _ (fun q hq => hl q (by simp [hq])) (h.step hT (hl p (by simp)))

structure IU (ps : List Pr) (hs0 hs : List Hd) : Prop where
  ok : ∀ x ∈ hs, x.ok
  su : SupU ps hs
  up : Up hs0 hs
theorem IU.step {ps : List Pr} {hs0 hs : List Hd} (h : IU ps hs0 hs) {p : Pr} (hp : p ∈ ps) : IU ps hs0 (growF1 hs p).1 := by
  have hok := h.ok
  have hok' : ∀ x ∈ (growF1 hs p).1, x.ok := (growF1_grows hok p false).ok
  have hu := growF1_up hs p
  refine ⟨hok', ?_, h.up.trans hu⟩
  intro n hn
  have hn2 := hn
  unfold growF1 at hn2
  rw [getH_put] at hn2
  split at hn2
  · rename_i e
    dsimp only at hn2
    simp only [Bool.or_eq_true] at hn2
    rcases hn2 with h1 | h1
    · obtain ⟨q, hq1, hq2, hq3⟩ := h.su _ h1
      exact ⟨q, hq1, hq2.trans e.1.symm, allFru_mono hok hok' hu _ hq3⟩
    · exact ⟨p, hp, e.1.symm, allFru_mono hok hok' hu _ h1⟩
  · obtain ⟨q, hq1, hq2, hq3⟩ := h.su n hn2
    exact ⟨q, hq1, hq2, allFru_mono hok hok' hu _ hq3⟩
theorem IU.list {ps : List Pr} {hs0 : List Hd} : ∀ (l : List Pr) (hs : List Hd) (g : Bool), (∀ p ∈ l, p ∈ ps) → IU ps hs0 hs → IU ps hs0 (growFL l hs g).1
  | [], _, _, _, h => h
  | p :: l, hs, g, hl, h => IU.list l _ _ (fun q hq => hl q (by simp [hq])) (h.step (hl p (by simp)))

/-- Follow: nothing beyond the END -/
structure IS (R : Nat) (hs0 hs : List Hd) : Prop where
  ok : ∀ x ∈ hs, x.ok
  bfi : BFi R hs
  bfo : BFo R hs
  up : Up hs0 hs
theorem IS.syms {R H : Nat} {hs0 : List Hd} (ph : Int) : ∀ (l : List Sy) (hs : List Hd) (g : Bool), (∀ s ∈ l, 0 ≤ s.num ∧ s.num < (if s.isH then (H : Int) else R)) → IS R hs0 hs → IS R hs0 (growSS ph l hs g).1
  | [], _, _, _, h => h
  | s :: l, hs, g, hv, h => by
    have hv' : ∀ s ∈ l, 0 ≤ s.num ∧ s.num < (if s.isH then (H : Int) else R) := fun s hs => hv s (by simp [hs])
    unfold growSS
    split
    · exact IS.syms ph l hs g hv' h
    · refine IS.syms ph l _ _ hv' ?_
      have hok := h.ok
      have hfl := folB_len hok ph l
      refine ⟨putF_ok hok _ ⟨(getH_ok hok s.num).fi, orL_len (getH_ok hok s.num).fo hfl⟩, ?_, ?_, h.up.trans (Up.put (le_fo (getH_ok hok _) hfl))⟩
      · intro n t ht
        rw [getH_put] at ht
        split at ht
        · exact h.bfi _ t ht
        · exact h.bfi n t ht
      · intro n t ht
        rw [getH_put] at ht
        split at ht
        · unfold growS1 at ht
          dsimp only at ht
          rw [orL_at (by rw [(getH_ok hok _).fo, hfl])] at ht
          simp only [Bool.or_eq_true] at ht
          rcases ht with ht | ht
          · exact h.bfo _ t ht
          · have hbb := begF_bd hok h.bfi l zero9 rfl hv' (fun t h => by rw [zero9_at] at h; cases h)
            unfold folB at ht
            split at ht
            · rw [orL_at (by rw [begF_len hok _ _ rfl, (getH_ok hok _).fo])] at ht
              simp only [Bool.or_eq_true] at ht
              rcases ht with ht | ht
              · have := hbb t ht; omega
              · exact h.bfo _ t ht
            · have := hbb t ht; omega
        · exact h.bfo n t ht
theorem IS.list {ps : List Pr} {R H : Nat} (hT : TabOk ps R H) {hs0 : List Hd} : ∀ (l : List Pr) (hs : List Hd) (g : Bool), (∀ p ∈ l, p ∈ ps) → IS R hs0 hs → IS R hs0 (growSL l hs g).1
  | [], _, _, _, h => h
  | p :: l, hs, g, hl, h => IS.list hT l _ _ (fun q hq => hl q (by simp [hq])) (IS.syms p.head p.syms hs g (hT.sy p (hl p (by simp))) h)
end Go.Proofs.YtcpgklcimacngaaGreat
namespace Go.Proofs.YtcpgklcimacngaaGreat
open Go.RowKit
set_option linter.unusedVariables false
set_option linter.unusedSimpArgs false

structure SetsOk (ps : List Pr) (R H : Nat) (hs : List Hd) : Prop where
  ok : ∀ x ∈ hs, x.ok
  len : hs.length = H
  bfi : BFi R hs
  bfo : BFo R hs
  clN : ∀ p ∈ ps, (begF hs p.syms zero9).2 = true → (getH hs p.head).nul = true
  clF : ∀ p ∈ ps, ∀ t, (begF hs p.syms zero9).1.getD t false = true → (getH hs p.head).fi.getD t false = true
  sn : SupN ps hs
  sf : SupF ps hs
  clU : ∀ p ∈ ps, allFru hs p.syms = true → (getH hs p.head).fru = true
  su : SupU ps hs
  clS : ∀ p ∈ ps, ∀ a s b, p.syms = a ++ s :: b → s.isH = true → ∀ t, (folB hs p.head b).getD t false = true → (getH hs s.num).fo.getD t false = true
  clR : ∀ p ∈ ps, (getH hs p.head).rch = true → ∀ s ∈ p.syms, s.isH = true → (getH hs s.num).rch = true
  st1 : 0 < H → (getH hs 0).rch = true
  st2 : 0 < H → (getH hs 0).fo.getD R false = true

theorem initH_ok (R : Int) : ∀ n, ∀ x ∈ initH R n, x.ok
  | 0, x, hx => by simp [initH] at hx
  | n + 1, x, hx => by
    simp only [initH, List.mem_append, List.mem_singleton] at hx
    rcases hx with hx | rfl
    · exact initH_ok R n x hx
    · exact headI_ok _ _
theorem initH_at (R : Int) : ∀ (n i : Nat), i < n → (initH R n)[i]? = some (headI R i)
  | n + 1, i, hi => by
    unfold initH
    by_cases h : i < n
    · rw [List.getElem?_append_left (by rw [initH_len]; exact h)]; exact initH_at R n i h
    · have : i = n := by omega
      subst this
      rw [List.getElem?_append_right (by rw [initH_len]; omega), initH_len]; simp
theorem getH_init (R : Int) (H : Nat) (n : Int) : getH (initH R H) n = if 0 ≤ n ∧ n < H then headI R n.toNat else zeroHd := by
  unfold getH
  by_cases h0 : 0 ≤ n
  · rw [if_pos h0]
    by_cases hl : n < H
    · rw [initH_at R H n.toNat (by omega), if_pos ⟨h0, hl⟩]; rfl
    · rw [List.getElem?_eq_none (by rw [initH_len]; omega), if_neg (by omega)]; rfl
  · rw [if_neg h0, if_neg (by omega)]
theorem Keeps.beg {hs hs' : List Hd} (h1 : Keeps Hd.nul hs hs') (h2 : Keeps Hd.fi hs hs') (l : List Sy) (acc : List Bool) : begF hs' l acc = begF hs l acc := begF_congr h1 h2 l acc

theorem allF_ok {ps : List Pr} {R H : Nat} (hT : TabOk ps R H) (hR : R ≤ 8) : SetsOk ps R H (allF ps (initH R H)) := by
  have ok0 := initH_ok (R : Int) H
  have hz : ∀ n, (getH (initH (R : Int) H) n).fi = zero9 ∧ (getH (initH (R : Int) H) n).nul = false ∧ (getH (initH (R : Int) H) n).fru = false := fun n => by
    rw [getH_init]; split
    · unfold headI; split <;> exact ⟨rfl, rfl, rfl⟩
    · exact ⟨rfl, rfl, rfl⟩
  have i0 : IB ps R (initH (R : Int) H) (initH (R : Int) H) := by
    refine ⟨ok0, ?_, ?_, ?_, Up.refl _⟩
    · intro n t h; rw [(hz n).1, zero9_at] at h; cases h
    · intro n h; rw [(hz n).2.1] at h; cases h
    · intro n t h; rw [(hz n).1, zero9_at] at h; cases h
  obtain ⟨⟨i1, kr1, ku1, ko1⟩, ok1, l1, f1⟩ := fixG_end (stepB_grows ps) (I := fun hs => IB ps R (initH (R : Int) H) hs ∧ Keeps Hd.rch (initH (R : Int) H) hs ∧ Keeps Hd.fru (initH (R : Int) H) hs ∧ Keeps Hd.fo (initH (R : Int) H) hs)
    (fun hs _ h => ⟨IB.list hT ps hs false (fun _ hp => hp) h.1, h.2.1.trans (growBL_keeps (fun _ _ _ => rfl) ps hs false), h.2.2.1.trans (growBL_keeps (fun _ _ _ => rfl) ps hs false), h.2.2.2.trans (growBL_keeps (fun _ _ _ => rfl) ps hs false)⟩) ok0 ⟨i0, Keeps.refl _ _, Keeps.refl _ _, Keeps.refl _ _⟩
  generalize hq1 : fixG (stepB ps) (initH (R : Int) H) = hs1 at i1 kr1 ku1 ko1 ok1 l1 f1
  rw [initH_len] at l1
  have c1 : ∀ p ∈ ps, getH hs1 p.head = { getH hs1 p.head with nul := (getH hs1 p.head).nul || (begF hs1 p.syms zero9).2, fi := orL (getH hs1 p.head).fi (begF hs1 p.syms zero9).1 } := fun p hp => by
    have := growBL_same ps hs1 false ok1 (by show (stepB ps hs1).2 = false; rw [f1]) p hp
    exact putB_false this (hT.hd p hp).1 (by rw [l1]; exact (hT.hd p hp).2)
  have cN1 : ∀ p ∈ ps, (begF hs1 p.syms zero9).2 = true → (getH hs1 p.head).nul = true := fun p hp e => by
    rw [c1 p hp]; simp [e]
  have cF1 : ∀ p ∈ ps, ∀ t, (begF hs1 p.syms zero9).1.getD t false = true → (getH hs1 p.head).fi.getD t false = true := fun p hp t e => by
    rw [c1 p hp]; dsimp only
    rw [orL_at (by rw [(getH_ok ok1 _).fi, begF_len ok1 _ _ rfl]), e]; simp
  have bo1 : BFo R hs1 := fun n t h => by
    rw [ko1 n, getH_init] at h
    split at h
    · unfold headI at h
      split at h
      · rcases withT_at h with h2 | ⟨h2, h3⟩
        · rw [zero9_at] at h2; cases h2
        · omega
      · have : zeroHd.fo = zero9 := rfl
        rw [this, zero9_at] at h; cases h
    · have : zeroHd.fo = zero9 := rfl
      rw [this, zero9_at] at h; cases h
  obtain ⟨⟨i2, kn2, kf2, kr2, ku2⟩, ok2, l2, f2⟩ := fixG_end (stepS_grows ps) (I := fun hs => IS R hs1 hs ∧ Keeps Hd.nul hs1 hs ∧ Keeps Hd.fi hs1 hs ∧ Keeps Hd.rch hs1 hs ∧ Keeps Hd.fru hs1 hs)
    (fun hs _ h => ⟨IS.list hT ps hs false (fun _ hp => hp) h.1, h.2.1.trans (growSL_keeps (fun _ _ => rfl) ps hs false), h.2.2.1.trans (growSL_keeps (fun _ _ => rfl) ps hs false), h.2.2.2.1.trans (growSL_keeps (fun _ _ => rfl) ps hs false), h.2.2.2.2.trans (growSL_keeps (fun _ _ => rfl) ps hs false)⟩) ok1 ⟨⟨ok1, i1.bfi, bo1, Up.refl _⟩, Keeps.refl _ _, Keeps.refl _ _, Keeps.refl _ _, Keeps.refl _ _⟩
  generalize hq2 : fixG (stepS ps) hs1 = hs2 at i2 kn2 kf2 kr2 ku2 ok2 l2 f2
  have cS2 : ∀ p ∈ ps, ∀ a s b, p.syms = a ++ s :: b → s.isH = true → ∀ t, (folB hs2 p.head b).getD t false = true → (getH hs2 s.num).fo.getD t false = true := fun p hp a s b e hs1' t ht => by
    have h1 := growSL_same ps hs2 false ok2 (by show (stepS ps hs2).2 = false; rw [f2]) p hp
    have h2 := growSS_same p.head p.syms hs2 false ok2 h1 a s b e hs1'
    have hv := hT.sy p hp s (by rw [e]; simp)
    rw [hs1'] at hv
    simp only [if_true] at hv
    have h3 := putB_false h2 hv.1 (by rw [l2, l1]; exact hv.2)
    rw [h3]; unfold growS1; dsimp only
    rw [orL_at (by rw [(getH_ok ok2 _).fo, folB_len ok2]), ht]; simp
  obtain ⟨⟨up3, kn3, kf3, ko3, ku3⟩, ok3, l3, f3⟩ := fixG_end (stepR_grows ps) (I := fun hs => Up hs2 hs ∧ Keeps Hd.nul hs2 hs ∧ Keeps Hd.fi hs2 hs ∧ Keeps Hd.fo hs2 hs ∧ Keeps Hd.fru hs2 hs)
    (fun hs _ h => ⟨h.1.trans (growRL_up ps hs false), h.2.1.trans (growRL_keeps (fun _ _ => rfl) ps hs false), h.2.2.1.trans (growRL_keeps (fun _ _ => rfl) ps hs false), h.2.2.2.1.trans (growRL_keeps (fun _ _ => rfl) ps hs false), h.2.2.2.2.trans (growRL_keeps (fun _ _ => rfl) ps hs false)⟩) ok2 ⟨Up.refl _, Keeps.refl _ _, Keeps.refl _ _, Keeps.refl _ _, Keeps.refl _ _⟩
  generalize hq3 : fixG (stepR ps) hs2 = hs3 at up3 kn3 kf3 ko3 ku3 ok3 l3 f3
  have cR3 : ∀ p ∈ ps, (getH hs3 p.head).rch = true → ∀ s ∈ p.syms, s.isH = true → (getH hs3 s.num).rch = true := fun p hp hr s hs hs1' => by
    have h1 := growRL_same ps hs3 false ok3 (by show (stepR ps hs3).2 = false; rw [f3]) p hp hr
    have h2 := growRS_same p.syms hs3 false ok3 h1 s hs hs1'
    have hv := hT.sy p hp s hs
    rw [hs1'] at hv
    simp only [if_true] at hv
    have h3 := putB_false h2 hv.1 (by rw [l3, l2, l1]; exact hv.2)
    rw [h3]
  have u3 : IU ps hs3 hs3 := ⟨ok3, fun n h => (by rw [ku3 n, ku2 n, ku1 n, (hz n).2.2] at h; cases h), Up.refl _⟩
  obtain ⟨⟨i4, kn4, kf4, ko4, kr4⟩, ok4, l4, f4⟩ := fixG_end (stepU_grows ps) (I := fun hs => IU ps hs3 hs ∧ Keeps Hd.nul hs3 hs ∧ Keeps Hd.fi hs3 hs ∧ Keeps Hd.fo hs3 hs ∧ Keeps Hd.rch hs3 hs)
    (fun hs _ h => ⟨IU.list ps hs false (fun _ hp => hp) h.1, h.2.1.trans (growFL_keeps (fun _ _ => rfl) ps hs false), h.2.2.1.trans (growFL_keeps (fun _ _ => rfl) ps hs false), h.2.2.2.1.trans (growFL_keeps (fun _ _ => rfl) ps hs false), h.2.2.2.2.trans (growFL_keeps (fun _ _ => rfl) ps hs false)⟩) ok3 ⟨u3, Keeps.refl _ _, Keeps.refl _ _, Keeps.refl _ _, Keeps.refl _ _⟩
  have hall : allF ps (initH (R : Int) H) = fixG (stepU ps) hs3 := by unfold allF; rw [hq1, hq2, hq3]
  rw [hall]
  generalize fixG (stepU ps) hs3 = hs4 at i4 kn4 kf4 ko4 kr4 ok4 l4 f4
  have cU4 : ∀ p ∈ ps, allFru hs4 p.syms = true → (getH hs4 p.head).fru = true := fun p hp e => by
    have h1 := growFL_same ps hs4 false ok4 (by show (stepU ps hs4).2 = false; rw [f4]) p hp
    have h3 := putB_false h1 (hT.hd p hp).1 (by rw [l4, l3, l2, l1]; exact (hT.hd p hp).2)
    rw [h3]; simp [e]
  have kn : Keeps Hd.nul hs1 hs4 := (kn2.trans kn3).trans kn4
  have kf : Keeps Hd.fi hs1 hs4 := (kf2.trans kf3).trans kf4
  have ko : Keeps Hd.fo hs2 hs4 := ko3.trans ko4
  have hb := fun l acc => Keeps.beg kn kf l acc
  have hb2 := fun l acc => Keeps.beg kn2 kf2 l acc
  have hfol : ∀ ph l, folB hs4 ph l = folB hs2 ph l := fun ph l => by
    unfold folB; rw [hb, hb2, ko ph]
  refine ⟨ok4, by rw [l4, l3, l2, l1], ?_, ?_, ?_, ?_, ?_, ?_, cU4, i4.su, ?_, ?_, ?_, ?_⟩
  · intro n t h; rw [kf n] at h; exact i1.bfi n t h
  · intro n t h; rw [ko n] at h; exact i2.bfo n t h
  · intro p hp e; rw [hb] at e; rw [kn]; exact cN1 p hp e
  · intro p hp t e; rw [hb] at e; rw [kf]; exact cF1 p hp t e
  · intro n h; rw [kn n] at h
    obtain ⟨p, h1, h2, h3⟩ := i1.sn n h
    exact ⟨p, h1, h2, by rw [hb]; exact h3⟩
  · intro n t h; rw [kf n] at h
    obtain ⟨p, h1, h2, h3⟩ := i1.sf n t h
    exact ⟨p, h1, h2, by rw [hb]; exact h3⟩
  · intro p hp a s b e hs1' t ht
    rw [hfol] at ht; rw [ko]; exact cS2 p hp a s b e hs1' t ht
  · intro p hp hr s hs hs1'
    rw [kr4] at hr ⊢; exact cR3 p hp hr s hs hs1'
  · intro hH
    have h1 : (getH (initH (R : Int) H) 0).rch = true := by rw [getH_init, if_pos ⟨by omega, by omega⟩]; rfl
    have h2 : (getH hs2 0).rch = true := by rw [kr2, kr1]; exact h1
    rw [kr4]
    exact ((up3 0).parts (getH_ok ok2 _) (getH_ok ok3 _)).2.1 h2
  · intro hH
    have h1 : (getH (initH (R : Int) H) 0).fo.getD R false = true := by
      rw [getH_init, if_pos ⟨by omega, by omega⟩]
      show (withT zero9 (R : Int)).getD R false = true
      unfold withT
      rw [if_pos ⟨by omega, by omega⟩]
      simp only [List.getD_eq_getElem?_getD, Int.toNat_natCast, List.getElem?_set]
      simp only [if_true]
      rw [if_pos (by show R < 9; omega)]; rfl
    rw [ko]
    have h2 : (getH hs1 0).fo.getD R false = true := by rw [ko1]; exact h1
    exact leB_at ((i2.up 0).parts (getH_ok ok1 _) (getH_ok ok2 _)).2.2.2.2 R h2
end Go.Proofs.YtcpgklcimacngaaGreat
namespace Go.Proofs.YtcpgklcimacngaaGreat
open Go.RowKit
set_option linter.unusedVariables false
set_option linter.unusedSimpArgs false

/-- the heads that derive the empty string by trees of at most this height -/
def NS (ps : List Pr) : Nat → Int → Bool
  | 0, _ => false
  | n + 1, X => ps.any fun p => p.head == X && p.syms.all fun s => s.isH && NS ps n s.num
/-- does a string of symbols begin with t -/
def begX (N : Int → Bool) (F : Int → Bool) (t : Nat) : List Sy → Bool
  | [] => false
  | s :: l => (if s.isH then F s.num else s.num == (t : Int)) || (s.isH && N s.num && begX N F t l)
def FS (ps : List Pr) (N : Int → Bool) (t : Nat) : Nat → Int → Bool
  | 0, _ => false
  | n + 1, X => ps.any fun p => p.head == X && begX N (FS ps N t n) t p.syms
def nulS (N : Int → Bool) (s : Sy) : Bool := s.isH && N s.num

theorem begX_mono {N F F' : Int → Bool} {t : Nat} (h : ∀ X, F X = true → F' X = true) : ∀ l : List Sy, begX N F t l = true → begX N F' t l = true
  | [], e => e
  | s :: l, e => by
    unfold begX at e ⊢
    cases hs : s.isH
    · rw [hs] at e; simpa using e
    · rw [hs] at e
      simp only [if_true, Bool.true_and, Bool.or_eq_true, Bool.and_eq_true] at e ⊢
      rcases e with e | ⟨e1, e2⟩
      · exact .inl (h _ e)
      · exact .inr ⟨e1, begX_mono h l e2⟩
theorem begX_split {N F : Int → Bool} {t : Nat} : ∀ {l : List Sy}, begX N F t l = true → ∃ a s b, l = a ++ s :: b ∧ a.all (nulS N) = true ∧ (if s.isH then F s.num else s.num == (t : Int)) = true
  | [], e => by cases e
  | s :: l, e => by
    unfold begX at e
    simp only [Bool.or_eq_true, Bool.and_eq_true] at e
    rcases e with e | ⟨e1, e2⟩
    · exact ⟨[], s, l, rfl, rfl, e⟩
    · obtain ⟨a, s', b, h1, h2, h3⟩ := begX_split e2
      refine ⟨s :: a, s', b, by rw [h1]; rfl, ?_, h3⟩
      simp [nulS, e1.1, e1.2, h2]
theorem begX_join {N F : Int → Bool} {t : Nat} (s : Sy) (b : List Sy) (h : (if s.isH then F s.num else s.num == (t : Int)) = true) : ∀ a : List Sy, a.all (nulS N) = true → begX N F t (a ++ s :: b) = true
  | [], _ => by simp only [List.nil_append, begX, Bool.or_eq_true]; exact .inl h
  | x :: a, e => by
    simp only [List.all_cons, Bool.and_eq_true] at e
    simp only [List.cons_append, begX, Bool.or_eq_true, Bool.and_eq_true]
    have e1 := e.1
    simp only [nulS, Bool.and_eq_true] at e1
    exact .inr ⟨e1, begX_join s b h a e.2⟩
theorem NS_mono (ps : List Pr) : ∀ (n : Nat) (X : Int), NS ps n X = true → NS ps (n + 1) X = true
  | 0, _, h => by cases h
  | n + 1, X, h => by
    unfold NS at h ⊢
    rw [List.any_eq_true] at h ⊢
    obtain ⟨p, hp, h⟩ := h
    refine ⟨p, hp, ?_⟩
    simp only [Bool.and_eq_true, List.all_eq_true] at h ⊢
    exact ⟨h.1, fun s hs => ⟨(h.2 s hs).1, NS_mono ps n _ (h.2 s hs).2⟩⟩
theorem FS_mono (ps : List Pr) (N : Int → Bool) (t : Nat) : ∀ (n : Nat) (X : Int), FS ps N t n X = true → FS ps N t (n + 1) X = true
  | 0, _, h => by cases h
  | n + 1, X, h => by
    unfold FS at h ⊢
    rw [List.any_eq_true] at h ⊢
    obtain ⟨p, hp, h⟩ := h
    refine ⟨p, hp, ?_⟩
    simp only [Bool.and_eq_true] at h ⊢
    exact ⟨h.1, begX_mono (FS_mono ps N t n) _ h.2⟩

theorem cntF_len (l : List Bool) : cntF l ≤ l.length := by unfold cntF; exact List.length_filter_le _ _
/-- a chain of sets of H things that stays once it stays comes to its end in H steps -/
theorem chain_end {H : Nat} {a : Nat → List Bool} (hl : ∀ n, (a n).length = H) (hm : ∀ n, leB (a n) (a (n + 1))) (hs : ∀ n, a n = a (n + 1) → a (n + 1) = a (n + 2)) : ∀ m, leB (a m) (a H) := by
  have h1 : ∀ n, a n = a (n + 1) ∨ cntF (a n) + n ≤ H := by
    intro n
    induction n with
    | zero => right; have := cntF_len (a 0); rw [hl 0] at this; omega
    | succ n ih =>
      by_cases e : a n = a (n + 1)
      · exact .inl (hs n e)
      · right
        have := (cntF_le (hm n)).2 e
        rcases ih with ih | ih
        · exact absurd ih e
        · omega
  have h2 : a H = a (H + 1) := by
    by_cases e : a H = a (H + 1)
    · exact e
    · have := (cntF_le (hm H)).2 e
      rcases h1 H with h | h
      · exact absurd h e
      · omega
  have h3 : ∀ k, a (H + k) = a (H + k + 1) := by
    intro k
    induction k with
    | zero => exact h2
    | succ k ih => exact hs _ ih
  have h4 : ∀ k, a (H + k) = a H := by
    intro k
    induction k with
    | zero => rfl
    | succ k ih => rw [← ih]; exact (h3 k).symm
  have h5 : ∀ k m, m + k = H → leB (a m) (a H) := by
    intro k
    induction k with
    | zero => intro m e; have : m = H := by omega
              subst this; exact leB_refl _
    | succ k ih => intro m e; exact leB_trans (hm m) (ih (m + 1) (by omega))
  intro m
  by_cases e : m ≤ H
  · exact h5 (H - m) m (by omega)
  · have := h4 (m - H)
    rw [show H + (m - H) = m by omega] at this
    rw [this]; exact leB_refl _

/-- the heads' numbers as bits -/
def bitsOf (H : Nat) (f : Int → Bool) : List Bool := (List.range H).map fun i => f (i : Nat)
theorem bitsOf_at {H : Nat} {f : Int → Bool} {X : Int} (h0 : 0 ≤ X) (h1 : X < H) : (bitsOf H f).getD X.toNat false = f X := by
  have e : ((X.toNat : Nat) : Int) = X := by omega
  unfold bitsOf
  rw [List.getD_eq_getElem?_getD, List.getElem?_map, List.getElem?_range (by omega)]
  simp [e]
theorem bitsOf_le {H : Nat} {f g : Int → Bool} (h : ∀ X, f X = true → g X = true) : leB (bitsOf H f) (bitsOf H g) := by
  unfold bitsOf
  generalize List.range H = l
  induction l with
  | nil => trivial
  | cons x l ih => exact ⟨h _, ih⟩
theorem bitsOf_eq {H : Nat} {f g : Int → Bool} (h : bitsOf H f = bitsOf H g) {X : Int} (h0 : 0 ≤ X) (h1 : X < H) : f X = g X := by
  rw [← bitsOf_at h0 h1 (f := f), h, bitsOf_at h0 h1]
theorem bitsOf_same {H : Nat} {f g : Int → Bool} (h : ∀ X, 0 ≤ X → X < H → f X = g X) : bitsOf H f = bitsOf H g := by
  unfold bitsOf
  apply List.map_congr_left
  intro i hi
  have := List.mem_range.1 hi
  exact h _ (by omega) (by omega)

theorem any_congr' {α : Type} {l : List α} {f g : α → Bool} (h : ∀ x ∈ l, f x = g x) : l.any f = l.any g := by
  induction l with
  | nil => rfl
  | cons x l ih => simp only [List.any_cons, h x (by simp), ih (fun y hy => h y (by simp [hy]))]
theorem all_congr' {α : Type} {l : List α} {f g : α → Bool} (h : ∀ x ∈ l, f x = g x) : l.all f = l.all g := by
  induction l with
  | nil => rfl
  | cons x l ih => simp only [List.all_cons, h x (by simp), ih (fun y hy => h y (by simp [hy]))]
theorem begX_congr {N F F' : Int → Bool} {t : Nat} : ∀ (l : List Sy), (∀ s ∈ l, s.isH = true → F s.num = F' s.num) → begX N F t l = begX N F' t l
  | [], _ => rfl
  | s :: l, h => by
    unfold begX
    rw [begX_congr l (fun x hx => h x (by simp [hx]))]
    cases hs : s.isH
    · rfl
    · rw [h s (by simp) hs]
variable {ps : List Pr} {R H : Nat}
theorem NS_end (hT : TabOk ps R H) (n : Nat) (X : Int) (h0 : 0 ≤ X) (h1 : X < H) (h : NS ps n X = true) : NS ps H X = true := by
  have hc := chain_end (a := fun n => bitsOf H (NS ps n)) (H := H) (fun n => by simp [bitsOf]) (fun n => bitsOf_le (NS_mono ps n)) (by
    intro n e
    refine bitsOf_same (fun X _ _ => ?_)
    show NS ps (n + 1) X = NS ps (n + 2) X
    unfold NS
    refine any_congr' (fun p hp => ?_)
    congr 1
    refine all_congr' (fun s hs => ?_)
    cases hsh : s.isH
    · rfl
    · have := hT.sy p hp s hs
      rw [hsh] at this
      simp only [if_true] at this
      rw [bitsOf_eq e this.1 this.2]) n
  have := leB_at hc X.toNat (by rw [bitsOf_at h0 h1]; exact h)
  rwa [bitsOf_at h0 h1] at this
theorem FS_end (hT : TabOk ps R H) (N : Int → Bool) (t : Nat) (n : Nat) (X : Int) (h0 : 0 ≤ X) (h1 : X < H) (h : FS ps N t n X = true) : FS ps N t H X = true := by
  have hc := chain_end (a := fun n => bitsOf H (FS ps N t n)) (H := H) (fun n => by simp [bitsOf]) (fun n => bitsOf_le (FS_mono ps N t n)) (by
    intro n e
    refine bitsOf_same (fun X _ _ => ?_)
    show FS ps N t (n + 1) X = FS ps N t (n + 2) X
    unfold FS
    refine any_congr' (fun p hp => ?_)
    congr 1
    refine begX_congr _ (fun s hs hsh => ?_)
    have := hT.sy p hp s hs
    rw [hsh] at this
    simp only [if_true] at this
    exact bitsOf_eq e this.1 this.2) n
  have := leB_at hc X.toNat (by rw [bitsOf_at h0 h1]; exact h)
  rwa [bitsOf_at h0 h1] at this
end Go.Proofs.YtcpgklcimacngaaGreat
namespace Go.Proofs.YtcpgklcimacngaaGreat
open Go.RowKit
set_option linter.unusedVariables false
set_option linter.unusedSimpArgs false

section
variable {ps : List Pr} {R H : Nat} {N : Int → Bool} {F O : Int → Nat → Bool} {ch : Int → Nat → Int}

end
end Go.Proofs.YtcpgklcimacngaaGreat
