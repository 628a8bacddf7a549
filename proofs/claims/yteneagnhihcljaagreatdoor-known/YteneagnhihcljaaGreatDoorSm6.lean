import Derived.Test.YteneagnhihcljaaGreatDoorSm3
import Derived.Test.YteneagnhihcljaaGreatDoorSg2
namespace Go.Proofs.YteneagnhihcljaaGreatDoor
open Go.RowKit
set_option linter.unusedVariables false
set_option linter.unusedSimpArgs false

structure SetsOk (ps : List Pr) (R H : Nat) (hs : List Hd) : Prop where
  ok : ∀ x ∈ hs, x.ok
  len : hs.length = H
  bfi : BFi R hs
  bfo : BFo R hs
  clN : ∀ p ∈ ps, (begF hs p.syms zero9).2 = true → (getH hs p.head).nul = true
  clF : ∀ p ∈ ps, ∀ t, (begF hs p.syms zero9).1.getD t false = true → (getH hs p.head).fi.getD t false = true
  sn : SupN ps hs
  sf : SupF ps hs
  clU : ∀ p ∈ ps, allFru hs p.syms = true → (getH hs p.head).fru = true
  su : SupU ps hs
  clS : ∀ p ∈ ps, ∀ a s b, p.syms = a ++ s :: b → s.isH = true → ∀ t, (folB hs p.head b).getD t false = true → (getH hs s.num).fo.getD t false = true
  clR : ∀ p ∈ ps, (getH hs p.head).rch = true → ∀ s ∈ p.syms, s.isH = true → (getH hs s.num).rch = true
  st1 : 0 < H → (getH hs 0).rch = true
  st2 : 0 < H → (getH hs 0).fo.getD R false = true

theorem initH_ok (R : Int) : ∀ n, ∀ x ∈ initH R n, x.ok
  | 0, x, hx => by simp [initH] at hx
  | n + 1, x, hx => by
    simp only [initH, List.mem_append, List.mem_singleton] at hx
    rcases hx with hx | rfl
    · exact initH_ok R n x hx
    · exact headI_ok _ _
theorem initH_at (R : Int) : ∀ (n i : Nat), i < n → (initH R n)[i]? = some (headI R i)
  | n + 1, i, hi => by
    unfold initH
    by_cases h : i < n
    · rw [List.getElem?_append_left (by rw [initH_len]; exact h)]; exact initH_at R n i h
    · have : i = n := by omega
      subst this
      rw [List.getElem?_append_right (by rw [initH_len]; omega), initH_len]; simp
theorem getH_init (R : Int) (H : Nat) (n : Int) : getH (initH R H) n = if 0 ≤ n ∧ n < H then headI R n.toNat else zeroHd := by
  unfold getH
  by_cases h0 : 0 ≤ n
  · rw [if_pos h0]
    by_cases hl : n < H
    · rw [initH_at R H n.toNat (by omega), if_pos ⟨h0, hl⟩]; rfl
    · rw [List.getElem?_eq_none (by rw [initH_len]; omega), if_neg (by omega)]; rfl
  · rw [if_neg h0, if_neg (by omega)]
theorem Keeps.beg {hs hs' : List Hd} (h1 : Keeps Hd.nul hs hs') (h2 : Keeps Hd.fi hs hs') (l : List Sy) (acc : List Bool) : begF hs' l acc = begF hs l acc := begF_congr h1 h2 l acc

theorem allF_ok {ps : List Pr} {R H : Nat} (hT : TabOk ps R H) (hR : R ≤ 8) : SetsOk ps R H (allF ps (initH R H)) := by
  have ok0 := initH_ok (R : Int) H
  have hz : ∀ n, (getH (initH (R : Int) H) n).fi = zero9 ∧ (getH (initH (R : Int) H) n).nul = false ∧ (getH (initH (R : Int) H) n).fru = false := fun n => by
    rw [getH_init]; split
    · unfold headI; split <;> exact ⟨rfl, rfl, rfl⟩
    · exact ⟨rfl, rfl, rfl⟩
  have i0 : IB ps R (initH (R : Int) H) (initH (R : Int) H) := by
    refine ⟨ok0, ?_, ?_, ?_, Up.refl _⟩
    · intro n t h; rw [(hz n).1, zero9_at] at h; cases h
    · intro n h; rw [(hz n).2.1] at h; cases h
    · intro n t h; rw [(hz n).1, zero9_at] at h; cases h
  obtain ⟨⟨i1, kr1, ku1, ko1⟩, ok1, l1, f1⟩ := fixG_end (stepB_grows ps) (I := fun hs => IB ps R (initH (R : Int) H) hs ∧ Keeps Hd.rch (initH (R : Int) H) hs ∧ Keeps Hd.fru (initH (R : Int) H) hs ∧ Keeps Hd.fo (initH (R : Int) H) hs)
    (fun hs _ h => ⟨IB.list hT ps hs false (fun _ hp => hp) h.1, h.2.1.trans (growBL_keeps (fun _ _ _ => rfl) ps hs false), h.2.2.1.trans (growBL_keeps (fun _ _ _ => rfl) ps hs false), h.2.2.2.trans (growBL_keeps (fun _ _ _ => rfl) ps hs false)⟩) ok0 ⟨i0, Keeps.refl _ _, Keeps.refl _ _, Keeps.refl _ _⟩
  generalize hq1 : fixG (stepB ps) (initH (R : Int) H) = hs1 at i1 kr1 ku1 ko1 ok1 l1 f1
  rw [initH_len] at l1
  have c1 : ∀ p ∈ ps, getH hs1 p.head = { getH hs1 p.head with nul := (getH hs1 p.head).nul || (begF hs1 p.syms zero9).2, fi := orL (getH hs1 p.head).fi (begF hs1 p.syms zero9).1 } := fun p hp => by
    have := growBL_same ps hs1 false ok1 (by show (stepB ps hs1).2 = false; rw [f1]) p hp
    exact putB_false this (hT.hd p hp).1 (by rw [l1]; exact (hT.hd p hp).2)
  have cN1 : ∀ p ∈ ps, (begF hs1 p.syms zero9).2 = true → (getH hs1 p.head).nul = true := fun p hp e => by
    rw [c1 p hp]; simp [e]
  have cF1 : ∀ p ∈ ps, ∀ t, (begF hs1 p.syms zero9).1.getD t false = true → (getH hs1 p.head).fi.getD t false = true := fun p hp t e => by
    rw [c1 p hp]; dsimp only
    rw [orL_at (by rw [(getH_ok ok1 _).fi, begF_len ok1 _ _ rfl]), e]; simp
  have bo1 : BFo R hs1 := fun n t h => by
    rw [ko1 n, getH_init] at h
    split at h
    · unfold headI at h
      split at h
      · rcases withT_at h with h2 | ⟨h2, h3⟩
        · rw [zero9_at] at h2; cases h2
        · omega
      · have : zeroHd.fo = zero9 := rfl
        rw [this, zero9_at] at h; cases h
    · have : zeroHd.fo = zero9 := rfl
      rw [this, zero9_at] at h; cases h
  obtain ⟨⟨i2, kn2, kf2, kr2, ku2⟩, ok2, l2, f2⟩ := fixG_end (stepS_grows ps) (I := fun hs => IS R hs1 hs ∧ Keeps Hd.nul hs1 hs ∧ Keeps Hd.fi hs1 hs ∧ Keeps Hd.rch hs1 hs ∧ Keeps Hd.fru hs1 hs)
    (fun hs _ h => ⟨IS.list hT ps hs false (fun _ hp => hp) h.1, h.2.1.trans (growSL_keeps (fun _ _ => rfl) ps hs false), h.2.2.1.trans (growSL_keeps (fun _ _ => rfl) ps hs false), h.2.2.2.1.trans (growSL_keeps (fun _ _ => rfl) ps hs false), h.2.2.2.2.trans (growSL_keeps (fun _ _ => rfl) ps hs false)⟩) ok1 ⟨⟨ok1, i1.bfi, bo1, Up.refl _⟩, Keeps.refl _ _, Keeps.refl _ _, Keeps.refl _ _, Keeps.refl _ _⟩
  generalize hq2 : fixG (stepS ps) hs1 = hs2 at i2 kn2 kf2 kr2 ku2 ok2 l2 f2
  have cS2 : ∀ p ∈ ps, ∀ a s b, p.syms = a ++ s :: b → s.isH = true → ∀ t, (folB hs2 p.head b).getD t false = true → (getH hs2 s.num).fo.getD t false = true := fun p hp a s b e hs1' t ht => by
    have h1 := growSL_same ps hs2 false ok2 (by show (stepS ps hs2).2 = false; rw [f2]) p hp
    have h2 := growSS_same p.head p.syms hs2 false ok2 h1 a s b e hs1'
    have hv := hT.sy p hp s (by rw [e]; simp)
    rw [hs1'] at hv
    simp only [if_true] at hv
    have h3 := putB_false h2 hv.1 (by rw [l2, l1]; exact hv.2)
    rw [h3]; unfold growS1; dsimp only
    rw [orL_at (by rw [(getH_ok ok2 _).fo, folB_len ok2]), ht]; simp
  obtain ⟨⟨up3, kn3, kf3, ko3, ku3⟩, ok3, l3, f3⟩ := fixG_end (stepR_grows ps) (I := fun hs => Up hs2 hs ∧ Keeps Hd.nul hs2 hs ∧ Keeps Hd.fi hs2 hs ∧ Keeps Hd.fo hs2 hs ∧ Keeps Hd.fru hs2 hs)
    (fun hs _ h => ⟨h.1.trans (growRL_up ps hs false), h.2.1.trans (growRL_keeps (fun _ _ => rfl) ps hs false), h.2.2.1.trans (growRL_keeps (fun _ _ => rfl) ps hs false), h.2.2.2.1.trans (growRL_keeps (fun _ _ => rfl) ps hs false), h.2.2.2.2.trans (growRL_keeps (fun _ _ => rfl) ps hs false)⟩) ok2 ⟨Up.refl _, Keeps.refl _ _, Keeps.refl _ _, Keeps.refl _ _, Keeps.refl _ _⟩
  generalize hq3 : fixG (stepR ps) hs2 = hs3 at up3 kn3 kf3 ko3 ku3 ok3 l3 f3
  have cR3 : ∀ p ∈ ps, (getH hs3 p.head).rch = true → ∀ s ∈ p.syms, s.isH = true → (getH hs3 s.num).rch = true := fun p hp hr s hs hs1' => by
    have h1 := growRL_same ps hs3 false ok3 (by show (stepR ps hs3).2 = false; rw [f3]) p hp hr
    have h2 := growRS_same p.syms hs3 false ok3 h1 s hs hs1'
    have hv := hT.sy p hp s hs
    rw [hs1'] at hv
    simp only [if_true] at hv
    have h3 := putB_false h2 hv.1 (by rw [l3, l2, l1]; exact hv.2)
    rw [h3]
  have u3 : IU ps hs3 hs3 := ⟨ok3, fun n h => (by rw [ku3 n, ku2 n, ku1 n, (hz n).2.2] at h; cases h), Up.refl _⟩
  obtain ⟨⟨i4, kn4, kf4, ko4, kr4⟩, ok4, l4, f4⟩ := fixG_end (stepU_grows ps) (I := fun hs => IU ps hs3 hs ∧ Keeps Hd.nul hs3 hs ∧ Keeps Hd.fi hs3 hs ∧ Keeps Hd.fo hs3 hs ∧ Keeps Hd.rch hs3 hs)
    (fun hs _ h => ⟨IU.list ps hs false (fun _ hp => hp) h.1, h.2.1.trans (growFL_keeps (fun _ _ => rfl) ps hs false), h.2.2.1.trans (growFL_keeps (fun _ _ => rfl) ps hs false), h.2.2.2.1.trans (growFL_keeps (fun _ _ => rfl) ps hs false), h.2.2.2.2.trans (growFL_keeps (fun _ _ => rfl) ps hs false)⟩) ok3 ⟨u3, Keeps.refl _ _, Keeps.refl _ _, Keeps.refl _ _, Keeps.refl _ _⟩
  have hall : allF ps (initH (R : Int) H) = fixG (stepU ps) hs3 := by unfold allF; rw [hq1, hq2, hq3]
  rw [hall]
  generalize fixG (stepU ps) hs3 = hs4 at i4 kn4 kf4 ko4 kr4 ok4 l4 f4
  have cU4 : ∀ p ∈ ps, allFru hs4 p.syms = true → (getH hs4 p.head).fru = true := fun p hp e => by
    have h1 := growFL_same ps hs4 false ok4 (by show (stepU ps hs4).2 = false; rw [f4]) p hp
    have h3 := putB_false h1 (hT.hd p hp).1 (by rw [l4, l3, l2, l1]; exact (hT.hd p hp).2)
    rw [h3]; simp [e]
  have kn : Keeps Hd.nul hs1 hs4 := (kn2.trans kn3).trans kn4
  have kf : Keeps Hd.fi hs1 hs4 := (kf2.trans kf3).trans kf4
  have ko : Keeps Hd.fo hs2 hs4 := ko3.trans ko4
  have hb := fun l acc => Keeps.beg kn kf l acc
  have hb2 := fun l acc => Keeps.beg kn2 kf2 l acc
  have hfol : ∀ ph l, folB hs4 ph l = folB hs2 ph l := fun ph l => by
    unfold folB; rw [hb, hb2, ko ph]
  refine ⟨ok4, by rw [l4, l3, l2, l1], ?_, ?_, ?_, ?_, ?_, ?_, cU4, i4.su, ?_, ?_, ?_, ?_⟩
  · intro n t h; rw [kf n] at h; exact i1.bfi n t h
  · intro n t h; rw [ko n] at h; exact i2.bfo n t h
  · intro p hp e; rw [hb] at e; rw [kn]; exact cN1 p hp e
  · intro p hp t e; rw [hb] at e; rw [kf]; exact cF1 p hp t e
  · intro n h; rw [kn n] at h
    obtain ⟨p, h1, h2, h3⟩ := i1.sn n h
    exact ⟨p, h1, h2, by rw [hb]; exact h3⟩
  · intro n t h; rw [kf n] at h
    obtain ⟨p, h1, h2, h3⟩ := i1.sf n t h
    exact ⟨p, h1, h2, by rw [hb]; exact h3⟩
  · intro p hp a s b e hs1' t ht
    rw [hfol] at ht; rw [ko]; exact cS2 p hp a s b e hs1' t ht
  · intro p hp hr s hs hs1'
    rw [kr4] at hr ⊢; exact cR3 p hp hr s hs hs1'
  · intro hH
    have h1 : (getH (initH (R : Int) H) 0).rch = true := by rw [getH_init, if_pos ⟨by omega, by omega⟩]; rfl
    have h2 : (getH hs2 0).rch = true := by rw [kr2, kr1]; exact h1
    rw [kr4]
    exact ((up3 0).parts (getH_ok ok2 _) (getH_ok ok3 _)).2.1 h2
  · intro hH
    have h1 : (getH (initH (R : Int) H) 0).fo.getD R false = true := by
      rw [getH_init, if_pos ⟨by omega, by omega⟩]
      show (withT zero9 (R : Int)).getD R false = true
      unfold withT
      rw [if_pos ⟨by omega, by omega⟩]
      simp only [List.getD_eq_getElem?_getD, Int.toNat_natCast, List.getElem?_set]
      simp only [if_true]
      rw [if_pos (by show R < 9; omega)]; rfl
    rw [ko]
    have h2 : (getH hs1 0).fo.getD R false = true := by rw [ko1]; exact h1
    exact leB_at ((i2.up 0).parts (getH_ok ok1 _) (getH_ok ok2 _)).2.2.2.2 R h2
end Go.Proofs.YteneagnhihcljaaGreatDoor
namespace Go.Proofs.YteneagnhihcljaaGreatDoor
open Go.RowKit
set_option linter.unusedVariables false
set_option linter.unusedSimpArgs false

/-- the heads that derive the empty string by trees of at most this height -/
def NS (ps : List Pr) : Nat → Int → Bool
  | 0, _ => false
  | n + 1, X => ps.any fun p => p.head == X && p.syms.all fun s => s.isH && NS ps n s.num
/-- does a string of symbols begin with t -/
def begX (N : Int → Bool) (F : Int → Bool) (t : Nat) : List Sy → Bool
  | [] => false
  | s :: l => (if s.isH then F s.num else s.num == (t : Int)) || (s.isH && N s.num && begX N F t l)
def FS (ps : List Pr) (N : Int → Bool) (t : Nat) : Nat → Int → Bool
  | 0, _ => false
  | n + 1, X => ps.any fun p => p.head == X && begX N (FS ps N t n) t p.syms
def nulS (N : Int → Bool) (s : Sy) : Bool := s.isH && N s.num

theorem begX_mono {N F F' : Int → Bool} {t : Nat} (h : ∀ X, F X = true → F' X = true) : ∀ l : List Sy, begX N F t l = true → begX N F' t l = true
  | [], e => e
  | s :: l, e => by
    unfold begX at e ⊢
    cases hs : s.isH
    · rw [hs] at e; simpa using e
    · rw [hs] at e
      simp only [if_true, Bool.true_and, Bool.or_eq_true, Bool.and_eq_true] at e ⊢
      rcases e with e | ⟨e1, e2⟩
      · exact .inl (h _ e)
      · exact .inr ⟨e1, begX_mono h l e2⟩
theorem begX_split {N F : Int → Bool} {t : Nat} : ∀ {l : List Sy}, begX N F t l = true → ∃ a s b, l = a ++ s :: b ∧ a.all (nulS N) = true ∧ (if s.isH then F s.num else s.num == (t : Int)) = true
  | [], e => by cases e
  | s :: l, e => by
    unfold begX at e
    simp only [Bool.or_eq_true, Bool.and_eq_true] at e
    rcases e with e | ⟨e1, e2⟩
    · exact ⟨[], s, l, rfl, rfl, e⟩
    · obtain ⟨a, s', b, h1, h2, h3⟩ := begX_split e2
      refine ⟨s :: a, s', b, by rw [h1]; rfl, ?_, h3⟩
      simp [nulS, e1.1, e1.2, h2]
theorem begX_join {N F : Int → Bool} {t : Nat} (s : Sy) (b : List Sy) (h : (if s.isH then F s.num else s.num == (t : Int)) = true) : ∀ a : List Sy, a.all (nulS N) = true → begX N F t (a ++ s :: b) = true
  | [], _ => by simp only [List.nil_append, begX, Bool.or_eq_true]; exact .inl h
  | x :: a, e => by
    simp only [List.all_cons, Bool.and_eq_true] at e
    simp only [List.cons_append, begX, Bool.or_eq_true, Bool.and_eq_true]
    have e1 := e.1
    simp only [nulS, Bool.and_eq_true] at e1
    exact .inr ⟨e1, begX_join s b h a e.2⟩
theorem begX_append {N F : Int → Bool} {t : Nat} : ∀ (a b : List Sy), begX N F t (a ++ b) = (begX N F t a || (a.all (nulS N) && begX N F t b))
  | [], b => by simp [begX]
  | x :: a, b => by
    simp only [List.cons_append, begX, begX_append a b, List.all_cons, nulS]
    cases x.isH <;> cases N x.num <;> simp [Bool.or_assoc]

theorem NS_mono (ps : List Pr) : ∀ (n : Nat) (X : Int), NS ps n X = true → NS ps (n + 1) X = true
  | 0, _, h => by cases h
  | n + 1, X, h => by
    unfold NS at h ⊢
    rw [List.any_eq_true] at h ⊢
    obtain ⟨p, hp, h⟩ := h
    refine ⟨p, hp, ?_⟩
    simp only [Bool.and_eq_true, List.all_eq_true] at h ⊢
    exact ⟨h.1, fun s hs => ⟨(h.2 s hs).1, NS_mono ps n _ (h.2 s hs).2⟩⟩
theorem FS_mono (ps : List Pr) (N : Int → Bool) (t : Nat) : ∀ (n : Nat) (X : Int), FS ps N t n X = true → FS ps N t (n + 1) X = true
  | 0, _, h => by cases h
  | n + 1, X, h => by
    unfold FS at h ⊢
    rw [List.any_eq_true] at h ⊢
    obtain ⟨p, hp, h⟩ := h
    refine ⟨p, hp, ?_⟩
    simp only [Bool.and_eq_true] at h ⊢
    exact ⟨h.1, begX_mono (FS_mono ps N t n) _ h.2⟩

theorem cntF_len (l : List Bool) : cntF l ≤ l.length := by unfold cntF; exact List.length_filter_le _ _
/-- a chain of sets of H things that stays once it stays comes to its end in H steps -/
theorem chain_end {H : Nat} {a : Nat → List Bool} (hl : ∀ n, (a n).length = H) (hm : ∀ n, leB (a n) (a (n + 1))) (hs : ∀ n, a n = a (n + 1) → a (n + 1) = a (n + 2)) : ∀ m, leB (a m) (a H) := by
  have h1 : ∀ n, a n = a (n + 1) ∨ cntF (a n) + n ≤ H := by
    intro n
    induction n with
    | zero => right; have := cntF_len (a 0); rw [hl 0] at this; omega
    | succ n ih =>
      by_cases e : a n = a (n + 1)
      · exact .inl (hs n e)
      · right
        have := (cntF_le (hm n)).2 e
        rcases ih with ih | ih
        · exact absurd ih e
        · omega
  have h2 : a H = a (H + 1) := by
    by_cases e : a H = a (H + 1)
    · exact e
    · have := (cntF_le (hm H)).2 e
      rcases h1 H with h | h
      · exact absurd h e
      · omega
  have h3 : ∀ k, a (H + k) = a (H + k + 1) := by
    intro k
    induction k with
    | zero => exact h2
    | succ k ih => exact hs _ ih
  have h4 : ∀ k, a (H + k) = a H := by
    intro k
    induction k with
    | zero => rfl
    | succ k ih => rw [← ih]; exact (h3 k).symm
  have h5 : ∀ k m, m + k = H → leB (a m) (a H) := by
    intro k
    induction k with
    | zero => intro m e; have : m = H := by omega
              subst this; exact leB_refl _
    | succ k ih => intro m e; exact leB_trans (hm m) (ih (m + 1) (by omega))
  intro m
  by_cases e : m ≤ H
  · exact h5 (H - m) m (by omega)
  · have := h4 (m - H)
    rw [show H + (m - H) = m by omega] at this
    rw [this]; exact leB_refl _

/-- the heads' numbers as bits -/
def bitsOf (H : Nat) (f : Int → Bool) : List Bool := (List.range H).map fun i => f (i : Nat)
theorem bitsOf_at {H : Nat} {f : Int → Bool} {X : Int} (h0 : 0 ≤ X) (h1 : X < H) : (bitsOf H f).getD X.toNat false = f X := by
  have e : ((X.toNat : Nat) : Int) = X := by omega
  unfold bitsOf
  rw [List.getD_eq_getElem?_getD, List.getElem?_map, List.getElem?_range (by omega)]
  simp [e]
theorem bitsOf_le {H : Nat} {f g : Int → Bool} (h : ∀ X, f X = true → g X = true) : leB (bitsOf H f) (bitsOf H g) := by
  unfold bitsOf
  generalize List.range H = l
  induction l with
  | nil => trivial
  | cons x l ih => exact ⟨h _, ih⟩
theorem bitsOf_eq {H : Nat} {f g : Int → Bool} (h : bitsOf H f = bitsOf H g) {X : Int} (h0 : 0 ≤ X) (h1 : X < H) : f X = g X := by
  rw [← bitsOf_at h0 h1 (f := f), h, bitsOf_at h0 h1]
theorem bitsOf_same {H : Nat} {f g : Int → Bool} (h : ∀ X, 0 ≤ X → X < H → f X = g X) : bitsOf H f = bitsOf H g := by
  unfold bitsOf
  apply List.map_congr_left
  intro i hi
  have := List.mem_range.1 hi
  exact h _ (by omega) (by omega)

theorem any_congr' {α : Type} {l : List α} {f g : α → Bool} (h : ∀ x ∈ l, f x = g x) : l.any f = l.any g := by
  induction l with
  | nil => rfl
  | cons x l ih => simp only [List.any_cons, h x (by simp), ih (fun y hy => h y (by simp [hy]))]
theorem all_congr' {α : Type} {l : List α} {f g : α → Bool} (h : ∀ x ∈ l, f x = g x) : l.all f = l.all g := by
  induction l with
  | nil => rfl
  | cons x l ih => simp only [List.all_cons, h x (by simp), ih (fun y hy => h y (by simp [hy]))]
theorem begX_congr {N F F' : Int → Bool} {t : Nat} : ∀ (l : List Sy), (∀ s ∈ l, s.isH = true → F s.num = F' s.num) → begX N F t l = begX N F' t l
  | [], _ => rfl
  | s :: l, h => by
    unfold begX
    rw [begX_congr l (fun x hx => h x (by simp [hx]))]
    cases hs : s.isH
    · rfl
    · rw [h s (by simp) hs]
variable {ps : List Pr} {R H : Nat}
theorem NS_end (hT : TabOk ps R H) (n : Nat) (X : Int) (h0 : 0 ≤ X) (h1 : X < H) (h : NS ps n X = true) : NS ps H X = true := by
  have hc := chain_end (a := fun n => bitsOf H (NS ps n)) (H := H) (fun n => by simp [bitsOf]) (fun n => bitsOf_le (NS_mono ps n)) (by
    intro n e
    refine bitsOf_same (fun X _ _ => ?_)
    show NS ps (n + 1) X = NS ps (n + 2) X
    unfold NS
    refine any_congr' (fun p hp => ?_)
    congr 1
    refine all_congr' (fun s hs => ?_)
    cases hsh : s.isH
    · rfl
    · have := hT.sy p hp s hs
      rw [hsh] at this
      simp only [if_true] at this
      rw [bitsOf_eq e this.1 this.2]) n
  have := leB_at hc X.toNat (by rw [bitsOf_at h0 h1]; exact h)
  rwa [bitsOf_at h0 h1] at this
theorem FS_end (hT : TabOk ps R H) (N : Int → Bool) (t : Nat) (n : Nat) (X : Int) (h0 : 0 ≤ X) (h1 : X < H) (h : FS ps N t n X = true) : FS ps N t H X = true := by
  have hc := chain_end (a := fun n => bitsOf H (FS ps N t n)) (H := H) (fun n => by simp [bitsOf]) (fun n => bitsOf_le (FS_mono ps N t n)) (by
    intro n e
    refine bitsOf_same (fun X _ _ => ?_)
    show FS ps N t (n + 1) X = FS ps N t (n + 2) X
    unfold FS
    refine any_congr' (fun p hp => ?_)
    congr 1
    refine begX_congr _ (fun s hs hsh => ?_)
    have := hT.sy p hp s hs
    rw [hsh] at this
    simp only [if_true] at this
    exact bitsOf_eq e this.1 this.2) n
  have := leB_at hc X.toNat (by rw [bitsOf_at h0 h1]; exact h)
  rwa [bitsOf_at h0 h1] at this
end Go.Proofs.YteneagnhihcljaaGreatDoor
