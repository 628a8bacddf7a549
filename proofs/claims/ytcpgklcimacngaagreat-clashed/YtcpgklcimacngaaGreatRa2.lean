import Derived.Test.YtcpgklcimacngaaGreatKc9
namespace Go.Proofs.YtcpgklcimacngaaGreat
open Go.RowKit
set_option linter.unusedVariables false
set_option linter.unusedSimpArgs false

/-- what is found lies below whatever is closed -/
structure FoI (hs1 : List Hd) (QO : Int → Nat → Prop) (hs : List Hd) : Prop where
  ok : ∀ x ∈ hs, x.ok
  kn : Keeps Hd.nul hs1 hs
  kf : Keeps Hd.fi hs1 hs
  kr : Keeps Hd.rch hs1 hs
  ku : Keeps Hd.fru hs1 hs
  o : ∀ X t, hO hs X t = true → QO X t
theorem hN_fun {hs hs' : List Hd} (h : Keeps Hd.nul hs hs') : hN hs' = hN hs := funext fun X => h X
theorem hF_fun {hs hs' : List Hd} (h : Keeps Hd.fi hs hs') : hF hs' = hF hs := funext fun X => funext fun t => by unfold hF; rw [h X]
theorem foSS {QO : Int → Nat → Prop} {R H : Nat} (hR : R ≤ 8) {hs1 : List Hd} (ph : Int) (syms : List Sy) (hv : ∀ s ∈ syms, 0 ≤ s.num ∧ s.num < (if s.isH then (H : Int) else R))
    (hq : ∀ a s b, syms = a ++ s :: b → s.isH = true → ∀ t, (begX (hN hs1) (fun X => hF hs1 X t) t b = true ∨ (b.all (nulS (hN hs1)) = true ∧ QO ph t)) → QO s.num t) :
    ∀ (l a : List Sy) (hs : List Hd) (g : Bool), syms = a ++ l → FoI hs1 QO hs → FoI hs1 QO (growSS ph l hs g).1
  | [], a, hs, g, e, h => h
  | s :: l, a, hs, g, e, h => by
    unfold growSS
    split
    · exact foSS hR ph syms hv hq l (a ++ [s]) hs g (by rw [e]; simp) h
    · rename_i c
      have c' : s.isH = true := by simpa using c
      refine foSS hR ph syms hv hq l (a ++ [s]) _ _ (by rw [e]; simp) ?_
      have hok := h.ok
      have hfl := folB_len hok ph l
      refine ⟨putF_ok hok _ ⟨(getH_ok hok s.num).fi, orL_len (getH_ok hok s.num).fo hfl⟩, ?_, ?_, ?_, ?_, ?_⟩
      · intro n; rw [getH_put]; split
        · rename_i q; rw [q.1]; exact h.kn s.num
        · exact h.kn n
      · intro n; rw [getH_put]; split
        · rename_i q; rw [q.1]; exact h.kf s.num
        · exact h.kf n
      · intro n; rw [getH_put]; split
        · rename_i q; rw [q.1]; exact h.kr s.num
        · exact h.kr n
      · intro n; rw [getH_put]; split
        · rename_i q; rw [q.1]; exact h.ku s.num
        · exact h.ku n
      · intro X t ht
        unfold hO at ht
        rw [getH_put] at ht
        split at ht
        · rename_i q
          rw [q.1]
          unfold growS1 at ht
          dsimp only at ht
          rw [orL_at (by rw [(getH_ok hok _).fo, hfl])] at ht
          simp only [Bool.or_eq_true] at ht
          rcases ht with ht | ht
          · exact h.o _ t ht
          · rw [folB_at hok hR t ph l (fun x hx => hv x (by rw [e]; simp [hx])), hN_fun h.kn, hF_fun h.kf] at ht
            simp only [Bool.or_eq_true, Bool.and_eq_true] at ht
            refine hq a s l e c' t ?_
            rcases ht with ht | ht
            · exact .inl ht
            · exact .inr ⟨ht.1, h.o _ t ht.2⟩
        · exact h.o X t ht
theorem foSL {ps : List Pr} {R H : Nat} (hT : TabOk ps R H) (hR : R ≤ 8) {QO : Int → Nat → Prop} {hs1 : List Hd}
    (hq : ∀ p ∈ ps, ∀ a s b, p.syms = a ++ s :: b → s.isH = true → ∀ t, (begX (hN hs1) (fun X => hF hs1 X t) t b = true ∨ (b.all (nulS (hN hs1)) = true ∧ QO p.head t)) → QO s.num t) :
    ∀ (l : List Pr) (hs : List Hd) (g : Bool), (∀ p ∈ l, p ∈ ps) → FoI hs1 QO hs → FoI hs1 QO (growSL l hs g).1
  | [], _, _, _, h => h
  | p :: l, hs, g, hl, h => foSL hT hR hq l _ _ (fun q hq => hl q (by simp [hq])) (foSS hR p.head p.syms (hT.sy p (hl p (by simp))) (hq p (hl p (by simp))) p.syms [] hs g rfl h)
theorem rcRS {QR : Int → Prop} : ∀ (l : List Sy) (hs : List Hd) (g : Bool), (∀ s ∈ l, s.isH = true → QR s.num) → (∀ X, (getH hs X).rch = true → QR X) → ∀ X, (getH (growRS l hs g).1 X).rch = true → QR X
  | [], hs, g, _, h => h
  | s :: l, hs, g, hq, h => by
    unfold growRS
    split
    · exact rcRS l hs g (fun x hx => hq x (by simp [hx])) h
    · rename_i c
      refine rcRS l _ _ (fun x hx => hq x (by simp [hx])) ?_
      intro X hX
      rw [getH_put] at hX
      split at hX
      · rename_i e; rw [e.1]; exact hq s (by simp) (by simpa using c)
      · exact h X hX
theorem rcRL {ps : List Pr} {QR : Int → Prop} (hq : ∀ p ∈ ps, QR p.head → ∀ s ∈ p.syms, s.isH = true → QR s.num) : ∀ (l : List Pr) (hs : List Hd) (g : Bool), (∀ p ∈ l, p ∈ ps) → (∀ X, (getH hs X).rch = true → QR X) → ∀ X, (getH (growRL l hs g).1 X).rch = true → QR X
  | [], _, _, _, h => h
  | p :: l, hs, g, hl, h => by
    unfold growRL
    split
    · exact rcRL hq l hs g (fun q hq => hl q (by simp [hq])) h
    · rename_i c
      exact rcRL hq l _ _ (fun q hq => hl q (by simp [hq])) (rcRS p.syms hs g (hq p (hl p (by simp)) (h _ (by simpa using c))) h)
theorem fuFL {ps : List Pr} {QU : Int → Prop} (hq : ∀ p ∈ ps, (∀ s ∈ p.syms, s.isH = true → QU s.num) → QU p.head) : ∀ (l : List Pr) (hs : List Hd) (g : Bool), (∀ p ∈ l, p ∈ ps) → (∀ X, (getH hs X).fru = true → QU X) → ∀ X, (getH (growFL l hs g).1 X).fru = true → QU X
  | [], _, _, _, h => h
  | p :: l, hs, g, hl, h => by
    unfold growFL
    refine fuFL hq l _ _ (fun q hq => hl q (by simp [hq])) ?_
    intro X hX
    unfold growF1 at hX
    rw [getH_put] at hX
    split at hX
    · rename_i e
      dsimp only at hX
      rw [Bool.or_eq_true] at hX
      rw [e.1]
      rcases hX with hX | hX
      · exact h _ hX
      · refine hq p (hl p (by simp)) (fun s hs1 hs2 => h _ ?_)
        unfold allFru at hX
        rw [List.all_eq_true] at hX
        have := hX s hs1
        unfold fruB at this
        rw [hs2] at this
        simpa using this
    · exact h X hX
/-- the finder finds no more than whatever is closed -/
theorem allF_low {ps : List Pr} {R H : Nat} (hT : TabOk ps R H) (hR : R ≤ 8) {QO : Int → Nat → Prop} {QR QU : Int → Prop}
    (q0 : QO 0 R) (qo : ∀ p ∈ ps, ∀ a s b, p.syms = a ++ s :: b → s.isH = true → ∀ t, (begX (hN (allF ps (initH R H))) (fun X => hF (allF ps (initH R H)) X t) t b = true ∨ (b.all (nulS (hN (allF ps (initH R H)))) = true ∧ QO p.head t)) → QO s.num t)
    (qr0 : QR 0) (qr : ∀ p ∈ ps, QR p.head → ∀ s ∈ p.syms, s.isH = true → QR s.num) (qu : ∀ p ∈ ps, (∀ s ∈ p.syms, s.isH = true → QU s.num) → QU p.head) :
    (∀ X t, hO (allF ps (initH R H)) X t = true → QO X t) ∧ (∀ X, (getH (allF ps (initH R H)) X).rch = true → QR X) ∧ (∀ X, (getH (allF ps (initH R H)) X).fru = true → QU X) := by
  have ok0 := initH_ok (R : Int) H
  have hz : ∀ n, (getH (initH (R : Int) H) n).fru = false ∧ ((getH (initH (R : Int) H) n).rch = true → n = 0) ∧ (∀ t, (getH (initH (R : Int) H) n).fo.getD t false = true → n = 0 ∧ t = R) := fun n => by
    rw [getH_init]; split
    · rename_i e
      unfold headI; split
      · rename_i e0
        refine ⟨rfl, fun _ => by omega, fun t ht => ?_⟩
        dsimp only at ht
        rw [withT_hit rfl (by omega) (by omega), zero9_f] at ht
        simp at ht
        omega
      · refine ⟨rfl, fun q => (by cases q), fun t ht => ?_⟩
        have : zeroHd.fo = zero9 := rfl
        rw [this, zero9_f] at ht; cases ht
    · refine ⟨rfl, fun q => (by cases q), fun t ht => ?_⟩
      have : zeroHd.fo = zero9 := rfl
      rw [this, zero9_f] at ht; cases ht
  obtain ⟨⟨kr1, ku1, ko1⟩, ok1, _, _⟩ := fixG_end (stepB_grows ps) (I := fun hs => Keeps Hd.rch (initH (R : Int) H) hs ∧ Keeps Hd.fru (initH (R : Int) H) hs ∧ Keeps Hd.fo (initH (R : Int) H) hs)
    (fun hs _ h => ⟨h.1.trans (growBL_keeps (fun _ _ _ => rfl) ps hs false), h.2.1.trans (growBL_keeps (fun _ _ _ => rfl) ps hs false), h.2.2.trans (growBL_keeps (fun _ _ _ => rfl) ps hs false)⟩) ok0 ⟨Keeps.refl _ _, Keeps.refl _ _, Keeps.refl _ _⟩
  have hall : allF ps (initH (R : Int) H) = fixG (stepU ps) (fixG (stepR ps) (fixG (stepS ps) (fixG (stepB ps) (initH (R : Int) H)))) := rfl
  generalize hq1 : fixG (stepB ps) (initH (R : Int) H) = hs1 at kr1 ku1 ko1 ok1 hall
  -- what later steps keep
  have k2 := fixG_end (stepS_grows ps) (I := fun hs => Keeps Hd.nul hs1 hs ∧ Keeps Hd.fi hs1 hs) (fun hs _ h => ⟨h.1.trans (growSL_keeps (fun _ _ => rfl) ps hs false), h.2.trans (growSL_keeps (fun _ _ => rfl) ps hs false)⟩) ok1 ⟨Keeps.refl _ _, Keeps.refl _ _⟩
  obtain ⟨⟨kn2, kf2⟩, ok2, _, _⟩ := k2
  obtain ⟨⟨kn3, kf3, ko3, ku3⟩, ok3, _, _⟩ := fixG_end (stepR_grows ps) (I := fun hs => Keeps Hd.nul (fixG (stepS ps) hs1) hs ∧ Keeps Hd.fi (fixG (stepS ps) hs1) hs ∧ Keeps Hd.fo (fixG (stepS ps) hs1) hs ∧ Keeps Hd.fru (fixG (stepS ps) hs1) hs) (fun hs _ h => ⟨h.1.trans (growRL_keeps (fun _ _ => rfl) ps hs false), h.2.1.trans (growRL_keeps (fun _ _ => rfl) ps hs false), h.2.2.1.trans (growRL_keeps (fun _ _ => rfl) ps hs false), h.2.2.2.trans (growRL_keeps (fun _ _ => rfl) ps hs false)⟩) ok2 ⟨Keeps.refl _ _, Keeps.refl _ _, Keeps.refl _ _, Keeps.refl _ _⟩
  obtain ⟨⟨kn4, kf4, ko4, kr4⟩, ok4, _, _⟩ := fixG_end (stepU_grows ps) (I := fun hs => Keeps Hd.nul (fixG (stepR ps) (fixG (stepS ps) hs1)) hs ∧ Keeps Hd.fi (fixG (stepR ps) (fixG (stepS ps) hs1)) hs ∧ Keeps Hd.fo (fixG (stepR ps) (fixG (stepS ps) hs1)) hs ∧ Keeps Hd.rch (fixG (stepR ps) (fixG (stepS ps) hs1)) hs) (fun hs _ h => ⟨h.1.trans (growFL_keeps (fun _ _ => rfl) ps hs false), h.2.1.trans (growFL_keeps (fun _ _ => rfl) ps hs false), h.2.2.1.trans (growFL_keeps (fun _ _ => rfl) ps hs false), h.2.2.2.trans (growFL_keeps (fun _ _ => rfl) ps hs false)⟩) ok3 ⟨Keeps.refl _ _, Keeps.refl _ _, Keeps.refl _ _, Keeps.refl _ _⟩
  rw [← hall] at kn4 kf4 ko4 kr4 ok4
  have eN : hN (allF ps (initH (R : Int) H)) = hN hs1 := hN_fun ((kn2.trans kn3).trans kn4)
  have eF : hF (allF ps (initH (R : Int) H)) = hF hs1 := hF_fun ((kf2.trans kf3).trans kf4)
  rw [eN, eF] at qo
  have i1 : FoI hs1 QO hs1 := ⟨ok1, Keeps.refl _ _, Keeps.refl _ _, Keeps.refl _ _, Keeps.refl _ _, fun X t h => by
    unfold hO at h
    rw [ko1 X] at h
    obtain ⟨e1, e2⟩ := (hz X).2.2 t h
    rw [e1, e2]; exact q0⟩
  obtain ⟨i2, _, _, _⟩ := fixG_end (stepS_grows ps) (I := FoI hs1 QO) (fun hs _ h => foSL hT hR qo ps hs false (fun _ hp => hp) h) ok1 i1
  have r2 : ∀ X, (getH (fixG (stepS ps) hs1) X).rch = true → QR X := fun X h => by
    rw [i2.kr X, kr1 X] at h
    rw [(hz X).2.1 h]; exact qr0
  obtain ⟨r3, _, _, _⟩ := fixG_end (stepR_grows ps) (I := fun hs => ∀ X, (getH hs X).rch = true → QR X) (fun hs _ h => rcRL qr ps hs false (fun _ hp => hp) h) ok2 r2
  have u3 : ∀ X, (getH (fixG (stepR ps) (fixG (stepS ps) hs1)) X).fru = true → QU X := fun X h => by
    rw [ku3 X, i2.ku X, ku1 X, (hz X).1] at h; cases h
  obtain ⟨u4, _, _, _⟩ := fixG_end (stepU_grows ps) (I := fun hs => ∀ X, (getH hs X).fru = true → QU X) (fun hs _ h => fuFL qu ps hs false (fun _ hp => hp) h) ok3 u3
  rw [← hall] at u4
  refine ⟨fun X t h => i2.o X t ?_, fun X h => r3 X ?_, u4⟩
  · unfold hO at h ⊢; rw [ko4 X, ko3 X] at h; exact h
  · rw [kr4 X] at h; exact h
end Go.Proofs.YtcpgklcimacngaaGreat
namespace Go.Proofs.YtcpgklcimacngaaGreat
open Go.RowKit
set_option linter.unusedVariables false
set_option linter.unusedSimpArgs false

/-- a symbol's number in the reference -/
def codeS (R : Nat) (s : Sy) : Int := if s.isH then (R : Int) + 1 + s.num else s.num
/-- by n + 1 steps -/
def Pth (r : Int → Int → Prop) : Nat → Int → Int → Prop
  | 0, i, j => r i j
  | n + 1, i, j => ∃ k, r i k ∧ Pth r n k j
def TC (r : Int → Int → Prop) (i j : Int) : Prop := ∃ n, Pth r n i j
section
variable {r : Int → Int → Prop}
theorem TC.one {i j : Int} (h : r i j) : TC r i j := ⟨0, h⟩
theorem TC.cons {i k j : Int} (h : r i k) (h2 : TC r k j) : TC r i j := by
  obtain ⟨n, h2⟩ := h2
  exact ⟨n + 1, k, h, h2⟩
theorem pth_trans : ∀ (n m : Nat) (i k j : Int), Pth r n i k → Pth r m k j → Pth r (n + m + 1) i j
  | 0, m, i, k, j, h, h2 => by
    rw [Nat.zero_add]; exact ⟨k, h, h2⟩
  | n + 1, m, i, k, j, ⟨x, h1, h2⟩, h3 => by
    have := pth_trans n m x k j h2 h3
    rw [show n + 1 + m + 1 = (n + m + 1) + 1 by omega]
    exact ⟨x, h1, this⟩
theorem TC.trans {i k j : Int} (h : TC r i k) (h2 : TC r k j) : TC r i j := by
  obtain ⟨n, h⟩ := h
  obtain ⟨m, h2⟩ := h2
  exact ⟨_, pth_trans n m i k j h h2⟩
theorem TC.snoc {i k j : Int} (h : TC r i k) (h2 : r k j) : TC r i j := h.trans (TC.one h2)
/-- what is closed under the steps is closed under the paths -/
theorem TC.ind {Q : Int → Prop} (hq : ∀ i j, Q i → r i j → Q j) {i j : Int} (h : TC r i j) (hi : Q i) : Q j := by
  obtain ⟨n, h⟩ := h
  induction n generalizing i with
  | zero => exact hq i j hi h
  | succ n ih =>
    obtain ⟨k, h1, h2⟩ := h
    exact ih (hq i k hi h1) h2
end
section
variable (ps : List Pr) (R : Nat) (N : Int → Bool) (F : Int → Nat → Bool)
/-- a production of the one has the other behind symbols that may be empty -/
def Ld (c e : Int) : Prop := ∃ p ∈ ps, c = (R : Int) + 1 + p.head ∧ ∃ a s b, p.syms = a ++ s :: b ∧ a.all (nulS N) = true ∧ e = codeS R s
/-- ahead of symbols that may be empty -/
def Ls (A B : Int) : Prop := ∃ p ∈ ps, p.head = A ∧ ∃ a s b, p.syms = a ++ s :: b ∧ s.isH = true ∧ s.num = B ∧ b.all (nulS N) = true
def Rc (A B : Int) : Prop := ∃ p ∈ ps, p.head = A ∧ ∃ s ∈ p.syms, s.isH = true ∧ s.num = B
def Nx (A : Int) (t : Nat) : Prop := (A = 0 ∧ t = R) ∨ ∃ p ∈ ps, ∃ a s b, p.syms = a ++ s :: b ∧ s.isH = true ∧ s.num = A ∧ begX N (fun X => F X t) t b = true
def Fo (A : Int) (t : Nat) : Prop := Nx ps R N F A t ∨ ∃ h, TC (Ls ps N) h A ∧ Nx ps R N F h t
/-- the heads that derive strings of rules, by trees of at most this height -/
def US : Nat → Int → Bool
  | 0, _ => false
  | n + 1, X => ps.any fun p => p.head == X && p.syms.all fun s => !s.isH || US n s.num
end
section
variable {ps : List Pr} {R H : Nat} {N : Int → Bool} {F : Int → Nat → Bool}
theorem fs_tc (t : Nat) : ∀ (n : Nat) (X : Int), FS ps N t n X = true → TC (Ld ps R N) ((R : Int) + 1 + X) t
  | 0, X, h => by cases h
  | n + 1, X, h => by
    unfold FS at h
    rw [List.any_eq_true] at h
    obtain ⟨p, hp, h⟩ := h
    rw [Bool.and_eq_true, beq_iff_eq] at h
    obtain ⟨h1, h2⟩ := h
    obtain ⟨a, s, b, e, ha, hs⟩ := begX_split h2
    have st : Ld ps R N ((R : Int) + 1 + X) (codeS R s) := ⟨p, hp, by rw [h1], a, s, b, e, ha, rfl⟩
    cases hb : s.isH
    · rw [hb, if_neg (by simp), beq_iff_eq] at hs
      refine TC.one ?_
      have : codeS R s = t := by unfold codeS; rw [hb, if_neg (by simp)]; exact hs
      rw [this] at st; exact st
    · rw [hb, if_pos rfl] at hs
      have : codeS R s = (R : Int) + 1 + s.num := by unfold codeS; rw [hb, if_pos rfl]
      rw [this] at st
      exact TC.cons st (fs_tc t n s.num hs)
theorem tc_fs (hT : TabOk ps R H) {t : Nat} (ht : t < R) : ∀ (n : Nat) (X : Int), Pth (Ld ps R N) n ((R : Int) + 1 + X) t → FS ps N t (n + 1) X = true
  | 0, X, h => by
    obtain ⟨p, hp, e1, a, s, b, e2, ha, e3⟩ := h
    have hv := hT.sy p hp s (by rw [e2]; simp)
    unfold codeS at e3
    cases hb : s.isH
    · rw [hb, if_neg (by simp)] at e3
      unfold FS
      rw [List.any_eq_true]
      refine ⟨p, hp, ?_⟩
      rw [Bool.and_eq_true, beq_iff_eq]
      refine ⟨by omega, ?_⟩
      rw [e2]
      exact begX_join s b (by rw [hb, if_neg (by simp), beq_iff_eq]; exact e3.symm) a ha
    · rw [hb, if_pos rfl] at e3
      omega
  | n + 1, X, ⟨k, h1, h2⟩ => by
    obtain ⟨p, hp, e1, a, s, b, e2, ha, e3⟩ := h1
    have hv := hT.sy p hp s (by rw [e2]; simp)
    unfold codeS at e3
    cases hb : s.isH
    · exfalso
      rw [hb, if_neg (by simp)] at e3 hv
      have hq : ∃ q ∈ ps, k = (R : Int) + 1 + q.head := by
        cases n with
        | zero => obtain ⟨q, hq, e, _⟩ := h2; exact ⟨q, hq, e⟩
        | succ n => obtain ⟨_, ⟨q, hq, e, _⟩, _⟩ := h2; exact ⟨q, hq, e⟩
      obtain ⟨q, hq, e⟩ := hq
      have := hT.hd q hq
      omega
    · rw [hb, if_pos rfl] at e3
      rw [e3] at h2
      have ih := tc_fs hT ht n s.num h2
      unfold FS
      rw [List.any_eq_true]
      refine ⟨p, hp, ?_⟩
      rw [Bool.and_eq_true, beq_iff_eq]
      refine ⟨by omega, ?_⟩
      rw [e2]
      exact begX_join s b (by rw [hb, if_pos rfl]; exact ih) a ha
theorem fs_iff (hT : TabOk ps R H) {t : Nat} (ht : t < R) {X : Int} (h0 : 0 ≤ X) (h1 : X < H) : FS ps N t H X = true ↔ TC (Ld ps R N) ((R : Int) + 1 + X) t :=
  ⟨fs_tc t H X, fun ⟨n, h⟩ => FS_end hT N t (n + 1) X h0 h1 (tc_fs hT ht n X h)⟩
/-- what begins these symbols, by the chain -/
theorem beg_iff (hT : TabOk ps R H) {t : Nat} (ht : t < R) {l : List Sy} (hv : ∀ s ∈ l, 0 ≤ s.num ∧ s.num < (if s.isH then (H : Int) else R)) :
    begX N (fun X => FS ps N t H X) t l = true ↔ ∃ a s b, l = a ++ s :: b ∧ a.all (nulS N) = true ∧ (codeS R s = t ∨ TC (Ld ps R N) (codeS R s) t) := by
  constructor
  · intro h
    obtain ⟨a, s, b, e, ha, hs⟩ := begX_split h
    have hvs := hv s (by rw [e]; simp)
    refine ⟨a, s, b, e, ha, ?_⟩
    unfold codeS
    cases hb : s.isH
    · rw [hb, if_neg (by simp), beq_iff_eq] at hs
      left; rw [if_neg (by simp)]; exact hs
    · rw [hb, if_pos rfl] at hs hvs
      right; rw [if_pos rfl]; exact (fs_iff hT ht hvs.1 hvs.2).1 hs
  · rintro ⟨a, s, b, e, ha, hs⟩
    have hvs := hv s (by rw [e]; simp)
    rw [e]
    refine begX_join s b ?_ a ha
    unfold codeS at hs
    cases hb : s.isH
    · rw [hb, if_neg (by simp)] at hs hvs
      rw [if_neg (by simp), beq_iff_eq]
      rcases hs with hs | ⟨n, hs⟩
      · exact hs
      · exfalso
        have hq : ∃ q ∈ ps, s.num = (R : Int) + 1 + q.head := by
          cases n with
          | zero => obtain ⟨q, hq, e, _⟩ := hs; exact ⟨q, hq, e⟩
          | succ n => obtain ⟨_, ⟨q, hq, e, _⟩, _⟩ := hs; exact ⟨q, hq, e⟩
        obtain ⟨q, hq, e⟩ := hq
        have := hT.hd q hq
        omega
    · rw [hb, if_pos rfl] at hs hvs
      rw [if_pos rfl]
      rcases hs with hs | hs
      · omega
      · exact (fs_iff hT ht hvs.1 hvs.2).2 hs
/-- the finder's sets, as the reference says them -/
structure SetsAre (ps : List Pr) (R H : Nat) (hs : List Hd) : Prop where
  n : ∀ X, hN hs X = NS ps H X
  f : ∀ X t, hF hs X t = FS ps (NS ps H) t H X
  o : ∀ X t, hO hs X t = true ↔ Fo ps R (NS ps H) (fun X t => FS ps (NS ps H) t H X) X t
  r : ∀ X, (getH hs X).rch = true ↔ X = 0 ∨ TC (Rc ps) 0 X
  u : ∀ X, (getH hs X).fru = true ↔ ∃ n, US ps n X = true
theorem ns_in (hs : List Hd) (hS : SetsOk ps R H hs) : ∀ (n : Nat) (X : Int), NS ps n X = true → hN hs X = true
  | 0, X, h => by cases h
  | n + 1, X, h => by
    unfold NS at h
    rw [List.any_eq_true] at h
    obtain ⟨p, hp, h⟩ := h
    rw [Bool.and_eq_true, beq_iff_eq] at h
    obtain ⟨h1, h2⟩ := h
    rw [← h1]
    refine hS.clN p hp ?_
    rw [begF_nul, List.all_eq_true]
    rw [List.all_eq_true] at h2
    intro s hs1
    have := h2 s hs1
    rw [Bool.and_eq_true] at this
    unfold nulS
    rw [Bool.and_eq_true]
    exact ⟨this.1, ns_in hs hS n _ this.2⟩
theorem fs_in (hT : TabOk ps R H) (hR : R ≤ 8) (hs : List Hd) (hS : SetsOk ps R H hs) (hn : hN hs = N) (t : Nat) : ∀ (n : Nat) (X : Int), FS ps N t n X = true → hF hs X t = true
  | 0, X, h => by cases h
  | n + 1, X, h => by
    unfold FS at h
    rw [List.any_eq_true] at h
    obtain ⟨p, hp, h⟩ := h
    rw [Bool.and_eq_true, beq_iff_eq] at h
    obtain ⟨h1, h2⟩ := h
    rw [← h1]
    refine hS.clF p hp t ?_
    rw [begF_at hS.ok hR t p.syms zero9 rfl (hT.sy p hp), zero9_f, Bool.false_or, hn]
    exact begX_mono (fun Y hY => fs_in hT hR hs hS hn t n Y hY) _ h2
theorem us_mono : ∀ (n : Nat) (X : Int), US ps n X = true → US ps (n + 1) X = true
  | 0, X, h => by cases h
  | n + 1, X, h => by
    unfold US at h ⊢
    rw [List.any_eq_true] at h ⊢
    obtain ⟨p, hp, h⟩ := h
    refine ⟨p, hp, ?_⟩
    rw [Bool.and_eq_true, List.all_eq_true] at h ⊢
    refine ⟨h.1, fun s hs => ?_⟩
    have := h.2 s hs
    rw [Bool.or_eq_true] at this ⊢
    rcases this with q | q
    · exact .inl q
    · exact .inr (us_mono n _ q)
theorem us_le {n m : Nat} (h : n ≤ m) {X : Int} (hx : US ps n X = true) : US ps m X = true := by
  obtain ⟨k, rfl⟩ : ∃ k, m = n + k := ⟨m - n, by omega⟩
  clear h
  induction k with
  | zero => exact hx
  | succ k ih => exact us_mono _ _ ih
theorem us_all (l : List Sy) (h : ∀ s ∈ l, s.isH = true → ∃ n, US ps n s.num = true) : ∃ n, (l.all fun s => !s.isH || US ps n s.num) = true := by
  induction l with
  | nil => exact ⟨0, rfl⟩
  | cons s l ih =>
    obtain ⟨n, hn⟩ := ih (fun x hx => h x (by simp [hx]))
    rw [List.all_eq_true] at hn
    cases hb : s.isH
    · refine ⟨n, ?_⟩
      rw [List.all_cons, hb]
      simp only [Bool.not_false, Bool.true_or, Bool.true_and]
      rw [List.all_eq_true]; exact hn
    · obtain ⟨m, hm⟩ := h s (by simp) hb
      refine ⟨max n m, ?_⟩
      rw [List.all_cons, Bool.and_eq_true, List.all_eq_true]
      refine ⟨by rw [us_le (Nat.le_max_right n m) hm]; simp, fun x hx => ?_⟩
      have := hn x hx
      rw [Bool.or_eq_true] at this ⊢
      rcases this with q | q
      · exact .inl q
      · exact .inr (us_le (Nat.le_max_left n m) q)
theorem us_in (hs : List Hd) (hS : SetsOk ps R H hs) : ∀ (n : Nat) (X : Int), US ps n X = true → (getH hs X).fru = true
  | 0, X, h => by cases h
  | n + 1, X, h => by
    unfold US at h
    rw [List.any_eq_true] at h
    obtain ⟨p, hp, h⟩ := h
    rw [Bool.and_eq_true, beq_iff_eq] at h
    obtain ⟨h1, h2⟩ := h
    rw [← h1]
    refine hS.clU p hp ?_
    unfold allFru
    rw [List.all_eq_true] at h2 ⊢
    intro s hs1
    have := h2 s hs1
    unfold fruB
    rw [Bool.or_eq_true] at this ⊢
    rcases this with q | q
    · exact .inl q
    · exact .inr (us_in hs hS n _ q)
theorem sets_are (hT : TabOk ps R H) (hR : R ≤ 8) (hH : 0 < H) : SetsAre ps R H (allF ps (initH R H)) := by
  have hS := allF_ok hT hR
  have hD := allF_fd hT hR
  have en : ∀ X, hN (allF ps (initH R H)) X = NS ps H X := fun X => by
    rw [Bool.eq_iff_iff]
    exact ⟨hD.n X, ns_in _ hS H X⟩
  have en' : hN (allF ps (initH R H)) = NS ps H := funext en
  have ef : ∀ X t, hF (allF ps (initH R H)) X t = FS ps (NS ps H) t H X := fun X t => by
    rw [Bool.eq_iff_iff]
    exact ⟨hD.f X t, fs_in hT hR _ hS en' t H X⟩
  have ef' : hF (allF ps (initH R H)) = fun X t => FS ps (NS ps H) t H X := funext fun X => funext fun t => ef X t
  have low := allF_low hT hR (QO := Fo ps R (NS ps H) (fun X t => FS ps (NS ps H) t H X)) (QR := fun X => X = 0 ∨ TC (Rc ps) 0 X) (QU := fun X => ∃ n, US ps n X = true)
    (.inl (.inl ⟨rfl, rfl⟩)) (by
      intro p hp a s b e hs t h
      rw [en', ef'] at h
      rcases h with h | ⟨hb, h⟩
      · exact .inl (.inr ⟨p, hp, a, s, b, e, hs, rfl, h⟩)
      · have st : Ls ps (NS ps H) p.head s.num := ⟨p, hp, rfl, a, s, b, e, hs, rfl, hb⟩
        rcases h with h | ⟨k, h1, h2⟩
        · exact .inr ⟨p.head, TC.one st, h⟩
        · exact .inr ⟨k, h1.snoc st, h2⟩) (.inl rfl) (by
      intro p hp h s hs hb
      have st : Rc ps p.head s.num := ⟨p, hp, rfl, s, hs, hb, rfl⟩
      right
      rcases h with h | h
      · rw [h] at st; exact TC.one st
      · exact h.snoc st) (by
      intro p hp h
      obtain ⟨n, hn⟩ := us_all p.syms h
      refine ⟨n + 1, ?_⟩
      unfold US
      rw [List.any_eq_true]
      exact ⟨p, hp, by rw [Bool.and_eq_true, beq_iff_eq]; exact ⟨rfl, hn⟩⟩)
  have foc : ∀ p ∈ ps, ∀ a s b, p.syms = a ++ s :: b → s.isH = true → ∀ t : Nat, (begX (NS ps H) (fun X => FS ps (NS ps H) t H X) t b = true ∨ (b.all (nulS (NS ps H)) = true ∧ hO (allF ps (initH R H)) p.head t = true)) → hO (allF ps (initH R H)) s.num t = true := by
    intro p hp a s b e hs t h
    refine hS.clS p hp a s b e hs t ?_
    rw [folB_at hS.ok hR t p.head b (fun x hx => hT.sy p hp x (by rw [e]; simp [hx])), en', ef', Bool.or_eq_true, Bool.and_eq_true]
    exact h
  have nxi : ∀ X t, Nx ps R (NS ps H) (fun X t => FS ps (NS ps H) t H X) X t → hO (allF ps (initH R H)) X t = true := by
    rintro X t (⟨rfl, rfl⟩ | ⟨p, hp, a, s, b, e, hs, rfl, hb⟩)
    · exact hS.st2 hH
    · exact foc p hp a s b e hs t (.inl hb)
  refine ⟨en, ef, fun X t => ⟨low.1 X t, ?_⟩, fun X => ⟨low.2.1 X, ?_⟩, fun X => ⟨low.2.2 X, fun ⟨n, h⟩ => us_in _ hS n X h⟩⟩
  · rintro (h | ⟨k, h1, h2⟩)
    · exact nxi X t h
    · refine TC.ind (Q := fun A => hO (allF ps (initH R H)) A t = true) (fun i j hi hij => ?_) h1 (nxi k t h2)
      obtain ⟨p, hp, e1, a, s, b, e2, hs, e3, hb⟩ := hij
      rw [← e3]
      exact foc p hp a s b e2 hs t (.inr ⟨hb, by rw [e1]; exact hi⟩)
  · rintro (rfl | h)
    · exact hS.st1 hH
    · refine TC.ind (Q := fun A => (getH (allF ps (initH R H)) A).rch = true) (fun i j hi hij => ?_) h (hS.st1 hH)
      obtain ⟨p, hp, e1, s, hs, hb, e2⟩ := hij
      rw [← e2]
      exact hS.clR p hp (by rw [e1]; exact hi) s hs hb
end
end Go.Proofs.YtcpgklcimacngaaGreat
namespace Go.Proofs.YtcpgklcimacngaaGreat
open Go.RowKit
set_option linter.unusedVariables false
set_option linter.unusedSimpArgs false

/-- rows of yes and no -/
abbrev Mat := List (List Bool)
def atM (M : Mat) (i j : Nat) : Bool := (M.getD i []).getD j false
def setM (M : Mat) (i j : Nat) (b : Bool) : Mat := M.set i ((M.getD i []).set j b)
structure Sq (n : Nat) (M : Mat) : Prop where
  len : M.length = n
  row : ∀ i, i < n → (M.getD i []).length = n
theorem Sq.atM_lt {n : Nat} {M : Mat} (h : Sq n M) {i j : Nat} (e : atM M i j = true) : i < n ∧ j < n := by
  by_cases hi : i < n
  · refine ⟨hi, ?_⟩
    by_cases hj : j < n
    · exact hj
    · exfalso
      unfold atM at e
      rw [List.getD_eq_getElem?_getD (i := j), List.getElem?_eq_none (by rw [h.row i hi]; omega)] at e
      cases e
  · exfalso
    unfold atM at e
    rw [List.getD_eq_getElem?_getD (i := i), List.getElem?_eq_none (by rw [h.len]; omega)] at e
    cases e
theorem getD_set {α : Type} (l : List α) (i x : Nat) (a d : α) (hi : i < l.length) : (l.set i a).getD x d = if x = i then a else l.getD x d := by
  rw [List.getD_eq_getElem?_getD, List.getD_eq_getElem?_getD, List.getElem?_set]
  by_cases e : i = x
  · rw [if_pos e, if_pos (by omega), if_pos e.symm]; rfl
  · rw [if_neg e, if_neg (fun q => e q.symm)]
theorem setM_at {n : Nat} {M : Mat} (h : Sq n M) {i j : Nat} (hi : i < n) (hj : j < n) (b : Bool) (x y : Nat) : atM (setM M i j b) x y = if x = i ∧ y = j then b else atM M x y := by
  unfold atM setM
  rw [getD_set _ _ _ _ _ (by rw [h.len]; exact hi)]
  by_cases e : x = i
  · rw [if_pos e, getD_set _ _ _ _ _ (by rw [h.row i hi]; exact hj)]
    by_cases e2 : y = j
    · rw [if_pos e2, if_pos ⟨e, e2⟩]
    · rw [if_neg e2, if_neg (fun q => e2 q.2), e]
  · rw [if_neg e, if_neg (fun q => e q.1)]
theorem setM_sq {n : Nat} {M : Mat} (h : Sq n M) {i j : Nat} (hi : i < n) (b : Bool) : Sq n (setM M i j b) := by
  refine ⟨by unfold setM; rw [List.length_set]; exact h.len, fun x hx => ?_⟩
  unfold setM
  rw [getD_set _ _ _ _ _ (by rw [h.len]; exact hi)]
  split
  · rw [List.length_set]; exact h.row i hi
  · exact h.row x hx
/-- the chain, as it is found -/
def wJ (k i : Nat) : Nat → Nat → Mat → Mat
  | 0, _, M => M
  | f + 1, j, M => wJ k i f (j + 1) (setM M i j (atM M i j || (atM M i k && atM M k j)))
def wI (k n : Nat) : Nat → Nat → Mat → Mat
  | 0, _, M => M
  | f + 1, i, M => wI k n f (i + 1) (wJ k i n 0 M)
def wK (n : Nat) : Nat → Nat → Mat → Mat
  | 0, _, M => M
  | f + 1, k, M => wK n f (k + 1) (wI k n n 0 M)
def chainF (M : Mat) : Mat := wK M.length M.length 0 M
section
variable {n : Nat} {Q : Nat → Nat → Prop}
/-- one step keeps what is there, and adds no more than what is closed -/
theorem wJ_all (hq : ∀ x k y, Q x k → Q k y → Q x y) {k i : Nat} (hk : k < n) (hi : i < n) : ∀ (f j : Nat) (M : Mat), j + f ≤ n → Sq n M → (∀ x y, atM M x y = true → Q x y) →
    Sq n (wJ k i f j M) ∧ (∀ x y, atM M x y = true → atM (wJ k i f j M) x y = true) ∧ (∀ x y, atM (wJ k i f j M) x y = true → Q x y) ∧ (∀ y, j ≤ y → y < j + f → atM M i k = true → atM M k y = true → atM (wJ k i f j M) i y = true)
  | 0, j, M, hf, hs, h => ⟨hs, fun _ _ e => e, h, fun y h1 h2 => by omega⟩
  | f + 1, j, M, hf, hs, h => by
    have hs' := setM_sq hs (j := j) hi (atM M i j || (atM M i k && atM M k j))
    have ha := setM_at hs hi (show j < n by omega) (atM M i j || (atM M i k && atM M k j))
    have mono : ∀ x y, atM M x y = true → atM (setM M i j (atM M i j || (atM M i k && atM M k j))) x y = true := fun x y e => by
      rw [ha x y]
      split
      · rename_i q; rw [q.1, q.2] at e; rw [e]; rfl
      · exact e
    have snd : ∀ x y, atM (setM M i j (atM M i j || (atM M i k && atM M k j))) x y = true → Q x y := fun x y e => by
      rw [ha x y] at e
      split at e
      · rename_i q
        rw [q.1, q.2]
        rw [Bool.or_eq_true, Bool.and_eq_true] at e
        rcases e with e | e
        · exact h _ _ e
        · exact hq i k j (h _ _ e.1) (h _ _ e.2)
      · exact h x y e
    obtain ⟨r1, r2, r3, r4⟩ := wJ_all hq hk hi f (j + 1) _ (by omega) hs' snd
    unfold wJ
    refine ⟨r1, fun x y e => r2 x y (mono x y e), r3, fun y h1 h2 e1 e2 => ?_⟩
    by_cases c : y = j
    · subst c
      refine r2 i y ?_
      rw [ha i y, if_pos ⟨rfl, rfl⟩, e1, e2]; simp
    · exact r4 y (by omega) (by omega) (mono _ _ e1) (mono _ _ e2)
theorem wI_all (hq : ∀ x k y, Q x k → Q k y → Q x y) {k : Nat} (hk : k < n) : ∀ (f i : Nat) (M : Mat), i + f ≤ n → Sq n M → (∀ x y, atM M x y = true → Q x y) →
    Sq n (wI k n f i M) ∧ (∀ x y, atM M x y = true → atM (wI k n f i M) x y = true) ∧ (∀ x y, atM (wI k n f i M) x y = true → Q x y) ∧ (∀ x y, i ≤ x → x < i + f → y < n → atM M x k = true → atM M k y = true → atM (wI k n f i M) x y = true)
  | 0, i, M, hf, hs, h => ⟨hs, fun _ _ e => e, h, fun x y h1 h2 => by omega⟩
  | f + 1, i, M, hf, hs, h => by
    obtain ⟨q1, q2, q3, q4⟩ := wJ_all hq hk (show i < n by omega) n 0 M (by omega) hs h
    obtain ⟨r1, r2, r3, r4⟩ := wI_all hq hk f (i + 1) _ (by omega) q1 q3
    unfold wI
    refine ⟨r1, fun x y e => r2 x y (q2 x y e), r3, fun x y h1 h2 hy e1 e2 => ?_⟩
    by_cases c : x = i
    · subst c
      exact r2 x y (q4 y (by omega) (by omega) e1 e2)
    · exact r4 x y (by omega) (by omega) hy (q2 _ _ e1) (q2 _ _ e2)
/-- by way of the first k -/
def Via (r : Nat → Nat → Prop) : Nat → Nat → Nat → Prop
  | 0, i, j => r i j
  | k + 1, i, j => Via r k i j ∨ (Via r k i k ∧ Via r k k j)
theorem via_trans {r : Nat → Nat → Prop} : ∀ (k i x j : Nat), x < k → Via r k i x → Via r k x j → Via r k i j
  | 0, i, x, j, hx, _, _ => by omega
  | k + 1, i, x, j, hx, h1, h2 => by
    by_cases c : x = k
    · subst c
      refine .inr ⟨?_, ?_⟩
      · rcases h1 with h | h
        · exact h
        · exact h.1
      · rcases h2 with h | h
        · exact h
        · exact h.2
    · have hx' : x < k := by omega
      rcases h1 with h1 | ⟨a1, a2⟩
      · rcases h2 with h2 | ⟨b1, b2⟩
        · exact .inl (via_trans k i x j hx' h1 h2)
        · exact .inr ⟨via_trans k i x k hx' h1 b1, b2⟩
      · rcases h2 with h2 | ⟨b1, b2⟩
        · exact .inr ⟨a1, via_trans k k x j hx' a2 h2⟩
        · exact .inr ⟨a1, b2⟩
theorem wK_all (hq : ∀ x k y, Q x k → Q k y → Q x y) {r : Nat → Nat → Prop} (hr : ∀ i j, r i j → i < n ∧ j < n) : ∀ (f k : Nat) (M : Mat), k + f = n → Sq n M → (∀ x y, atM M x y = true → Q x y) → (∀ x y, x < n → y < n → Via r k x y → atM M x y = true) →
    Sq n (wK n f k M) ∧ (∀ x y, atM (wK n f k M) x y = true → Q x y) ∧ (∀ x y, x < n → y < n → Via r n x y → atM (wK n f k M) x y = true)
  | 0, k, M, hf, hs, h, hv => by
    have e : k = n := by omega
    subst e
    exact ⟨hs, h, hv⟩
  | f + 1, k, M, hf, hs, h, hv => by
    obtain ⟨q1, q2, q3, q4⟩ := wI_all hq (show k < n by omega) n 0 M (by omega) hs h
    unfold wK
    refine wK_all hq hr f (k + 1) _ (by omega) q1 q3 (fun x y hx hy hxy => ?_)
    rcases hxy with hxy | ⟨a1, a2⟩
    · exact q2 x y (hv x y hx hy hxy)
    · exact q4 x y (by omega) (by omega) hy (hv x k hx (by omega) a1) (hv k y (by omega) hy a2)
end
def relM (M : Mat) (i j : Int) : Prop := 0 ≤ i ∧ 0 ≤ j ∧ atM M i.toNat j.toNat = true
/-- the chain is every path -/
theorem chain_iff {n : Nat} {M : Mat} (h : Sq n M) : Sq n (chainF M) ∧ ∀ i j : Nat, atM (chainF M) i j = true ↔ TC (relM M) i j := by
  have hr : ∀ i j, (fun i j => atM M i j = true) i j → i < n ∧ j < n := fun i j e => h.atM_lt e
  obtain ⟨q1, q2, q3⟩ := wK_all (n := n) (Q := fun x y : Nat => TC (relM M) x y) (fun x k y h1 h2 => h1.trans h2) (r := fun i j => atM M i j = true) hr n 0 M (by omega) h
    (fun x y e => TC.one ⟨by omega, by omega, by simpa using e⟩) (fun x y _ _ e => e)
  have e : chainF M = wK n n 0 M := by unfold chainF; rw [h.len]
  rw [e]
  refine ⟨q1, fun i j => ⟨q2 i j, fun ht => ?_⟩⟩
  have vz : ∀ (k i j : Nat), atM M i j = true → Via (fun i j => atM M i j = true) k i j := fun k => by
    induction k with
    | zero => exact fun i j e => e
    | succ k ih => exact fun i j e => .inl (ih i j e)
  have key : ∀ (m : Nat) (a b : Int), Pth (relM M) m a b → 0 ≤ a ∧ 0 ≤ b ∧ a.toNat < n ∧ b.toNat < n ∧ Via (fun i j => atM M i j = true) n a.toNat b.toNat := fun m => by
    induction m with
    | zero =>
      rintro a b ⟨h1, h2, h3⟩
      have := h.atM_lt h3
      exact ⟨h1, h2, this.1, this.2, vz n _ _ h3⟩
    | succ m ih =>
      rintro a b ⟨c, ⟨h1, h2, h3⟩, h4⟩
      obtain ⟨g1, g2, g3, g4, g5⟩ := ih c b h4
      have := h.atM_lt h3
      exact ⟨h1, g2, this.1, g4, via_trans n _ _ _ g3 (vz n _ _ h3) g5⟩
  obtain ⟨m, hm⟩ := ht
  obtain ⟨g1, g2, g3, g4, g5⟩ := key m i j hm
  simp only [Int.toNat_natCast] at g3 g4 g5
  exact q3 i j g3 g4 g5
end Go.Proofs.YtcpgklcimacngaaGreat
