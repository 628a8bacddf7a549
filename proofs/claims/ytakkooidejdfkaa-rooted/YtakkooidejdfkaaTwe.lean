import Derived.Test.YtakkooidejdfkaaTwb
import Derived.Test.YtakkooidejdfkaaKp8
import Derived.Test.YtakkooidejdfkaaGm2
import Derived.Test.YtakkooidejdfkaaTw5
import Derived.Deep.DeepCutAuto
import Derived.Deep.RegionWith
namespace Go.Proofs.Ytakkooidejdfkaa
open Go.RowKit
set_option linter.unusedVariables false
set_option linter.unusedSimpArgs false

end Go.Proofs.Ytakkooidejdfkaa
namespace Go.Proofs.Ytakkooidejdfkaa
open Go.RowKit
set_option linter.unusedVariables false
set_option linter.unusedSimpArgs false

end Go.Proofs.Ytakkooidejdfkaa
namespace Go.Proofs.Ytakkooidejdfkaa
open Go.RowKit
set_option linter.unusedVariables false
set_option linter.unusedSimpArgs false

theorem grwF_mono {ps : List Pr} {R H : Nat} {hs : List Hd} (h : Tab ps R H hs) : ∀ (l : List Int) (a : Nat) (k : List Sy) (st : List St), StkOk (hN hs) (hF hs) (hO hs) R k → StkIn R H k → (∀ s ∈ st, 0 ≤ s.num ∧ s.num ≤ 127) → kindsOk R l = true →
    (grwF ps hs R H l a k st).err = 0 → st.length ≤ (grwF ps hs R H l a k st).st.length
  | [], a, k, st, h1, h2, h3, _, he => by
    unfold grwF at he ⊢
    split
    · rename_i hw
      exact (h.step (Nat.le_refl _) h1 h2 h3 hw).2.2.2.2.2.2
    · rename_i hw; rw [if_neg hw] at he; cases he
  | t :: l, a, k, st, h1, h2, h3, h4, he => by
    have h5 : (0 ≤ t ∧ t < R) ∧ kindsOk R l = true := by
      unfold kindsOk at h4 ⊢
      simpa using h4
    unfold grwF at he ⊢
    split
    · rename_i hw
      rw [if_pos hw] at he
      obtain ⟨_, _, _, s4, s5, s6, s7⟩ := h.step (t := t.toNat) (by omega) h1 h2 h3 hw
      exact Nat.le_trans s7 (grwF_mono h l _ _ _ s4 s5 s6 h5.2 he)
    · rename_i hw; rw [if_neg hw] at he; cases he
theorem first_pos {ps : List Pr} {R H : Nat} {hs : List Hd} (h : Tab ps R H hs) {t : Nat} (ht : t ≤ R) (hw : (wanB hs R [⟨true, 0⟩]).getD t false = true) : 1 ≤ (gToF ps hs H t [⟨true, 0⟩] []).2.length := by
  obtain ⟨s1, _⟩ := h.step ht h.start.1 h.start.2 (st := []) (by simp) hw
  obtain ⟨f, hf⟩ : ∃ f, enough H ([⟨true, 0⟩] : List Sy).length = f + 1 := ⟨_, rfl⟩
  rw [hf, gTo, if_neg (by simp)] at s1
  split at s1
  · split at s1
    · have := gTo_len _ _ _ _ s1
      simpa using this
    · cases s1
  · cases s1
theorem grow_pos {ps : List Pr} {R H : Nat} {hs : List Hd} (h : Tab ps R H hs) (l : List Int) (hl : kindsOk R l = true) (he : (grwF ps hs R H l 0 [⟨true, 0⟩] []).err = 0) : 1 ≤ (grwF ps hs R H l 0 [⟨true, 0⟩] []).st.length := by
  cases l with
  | nil =>
    unfold grwF at he ⊢
    split
    · rename_i hw; exact first_pos h (Nat.le_refl _) hw
    · rename_i hw; rw [if_neg hw] at he; cases he
  | cons t l =>
    have h5 : (0 ≤ t ∧ t < R) ∧ kindsOk R l = true := by
      unfold kindsOk at hl ⊢
      simpa using hl
    unfold grwF at he ⊢
    split
    · rename_i hw
      rw [if_pos hw] at he
      obtain ⟨_, _, _, s4, s5, s6, s7⟩ := h.step (t := t.toNat) (by omega) h.start.1 h.start.2 (st := []) (by simp) hw
      exact Nat.le_trans (first_pos h (by omega) hw) (grwF_mono h l _ _ _ s4 s5 s6 h5.2 he)
    · rename_i hw; rw [if_neg hw] at he; cases he

theorem grwF_bd {ps : List Pr} {R H : Nat} {hs : List Hd} (h : Tab ps R H hs) : ∀ (l : List Int) (a : Nat) (k : List Sy) (st : List St), StkOk (hN hs) (hF hs) (hO hs) R k → StkIn R H k → (∀ s ∈ st, 0 ≤ s.num ∧ s.num ≤ 127) → kindsOk R l = true →
    a + l.length ≤ 60 → k.length ≤ 1 + 48 * a → st.length ≤ a * 2000000000 → (grwF ps hs R H l a k st).st.length ≤ 61 * 2000000000 ∧ (grwF ps hs R H l a k st).wanted.length ≤ 9
  | [], a, k, st, h1, h2, h3, _, h5, h6, h7 => by
    unfold grwF
    split
    · rename_i hw
      obtain ⟨_, s2, s3, _, _, _, s7⟩ := h.step (Nat.le_refl _) h1 h2 h3 hw
      simp only [List.length_nil, Nat.add_zero] at h5
      obtain ⟨_, _, q3, _⟩ := gbound h5 h6 h7 s3 s2 s7
      refine ⟨Nat.le_trans q3 (Nat.mul_le_mul_right _ (by omega)), by simp⟩
    · exact ⟨by simp, listT_len _⟩
  | t :: l, a, k, st, h1, h2, h3, h4, h5, h6, h7 => by
    have h8 : (0 ≤ t ∧ t < R) ∧ kindsOk R l = true := by
      unfold kindsOk at h4 ⊢
      simpa using h4
    simp only [List.length_cons] at h5
    unfold grwF
    split
    · rename_i hw
      obtain ⟨_, s2, s3, s4, s5, s6, s7⟩ := h.step (t := t.toNat) (by omega) h1 h2 h3 hw
      obtain ⟨_, _, q3, q4⟩ := gbound (show a ≤ 60 by omega) h6 h7 s3 s2 s7
      exact grwF_bd h l (a + 1) _ _ s4 s5 s6 h8.2 (by omega) q4 q3
    · exact ⟨by simp, listT_len _⟩
theorem grow_bd {s : ByteArray} (hc : (checkF s).1 = 0) (hcl : clashF s = []) (l : List Int) (hk : kindsOk (nR s) l = true) (hl : l.length ≤ 60) : (growS s l).st.length ≤ 61 * 2000000000 ∧ (growS s l).wanted.length ≤ 9 := by
  have hT := tab_of hc hcl
  exact grwF_bd hT l 0 _ _ hT.start.1 hT.start.2 (by simp) hk (by omega) (by simp) (by simp)
theorem grow_pos' {s : ByteArray} (hc : (checkF s).1 = 0) (hcl : clashF s = []) (l : List Int) (hk : kindsOk (nR s) l = true) (he : (growS s l).err = 0) : 1 ≤ (growS s l).st.length := grow_pos (tab_of hc hcl) l hk he
theorem parse_grow {s : ByteArray} (hc : (checkF s).1 = 0) (hcl : clashF s = []) (l : List Int) (hk : kindsOk (nR s) l = true) (hl : l.length ≤ 60) : parseF s l = growS s l := by
  unfold parseF
  rw [if_neg (by omega), if_neg (by simp [hc]), if_neg (by simp [hk]), if_neg (by simp [hcl])]

end Go.Proofs.Ytakkooidejdfkaa
namespace Go.Proofs.Ytakkooidejdfkaa
open Go.RowKit
set_option linter.unusedVariables false
set_option linter.unusedSimpArgs false

/-- the steps of a tree, laid against the symbols that wait -/
def runS (ps : List Pr) : List St → List Sy → Option (List Sy)
  | [], k => some k
  | _ :: _, [] => none
  | s :: l, y :: k => if s.leaf then (if y.isH = false ∧ y.num = s.num then runS ps l k else none)
      else if y.isH = true ∧ 0 ≤ s.num then (match ps[s.num.toNat]? with
        | some p => if p.head = y.num then runS ps l (p.syms ++ k) else none
        | none => none) else none
def leavesS (l : List St) : List Int := (l.filter St.leaf).map St.num
theorem leavesS_app (a b : List St) : leavesS (a ++ b) = leavesS a ++ leavesS b := by simp [leavesS]
theorem leavesS_none {a : List St} (h : ∀ x ∈ a, x.leaf = false) : leavesS a = [] := by
  unfold leavesS
  rw [List.filter_eq_nil_iff.2 (fun x hx => by simp [h x hx])]; rfl
theorem runS_app (ps : List Pr) : ∀ (a b : List St) (k : List Sy), runS ps (a ++ b) k = (runS ps a k).bind (runS ps b)
  | [], b, k => rfl
  | s :: a, b, [] => rfl
  | s :: a, b, y :: k => by
    simp only [List.cons_append, runS]
    split
    · split
      · exact runS_app ps a b k
      · rfl
    · split
      · split
        · split
          · exact runS_app ps a b _
          · rfl
        · rfl
      · rfl
/-- what grows is the steps of a tree -/
theorem gTo_run {ps : List Pr} {ch : Int → Nat → Int} {t : Nat} (hch : ∀ X, 0 ≤ ch X t → ∃ p, ps[(ch X t).toNat]? = some p ∧ p.head = X) : ∀ (f : Nat) (k : List Sy) (st : List St) (r : List Sy × List St), gTo ps ch t f k st = some r → ∃ ns, r.2 = st ++ ns ∧ runS ps ns k = some r.1
  | 0, _, _, _, h => by cases h
  | f + 1, [], st, r, h => by cases h; exact ⟨[], by simp, rfl⟩
  | f + 1, s :: k, st, r, h => by
    unfold gTo at h
    split at h
    · rename_i hs
      cases h
      exact ⟨[⟨true, s.num⟩], rfl, by simp [runS, hs]⟩
    · rename_i hs
      split at h
      · rename_i h0
        obtain ⟨p, hp, hh⟩ := hch _ h0
        rw [hp] at h
        obtain ⟨ns, h1, h2⟩ := gTo_run hch f _ _ r h
        refine ⟨⟨false, ch s.num t⟩ :: ns, by rw [h1]; simp, ?_⟩
        have hs' : s.isH = true := by simpa using hs
        simp only [runS, Bool.false_eq_true, if_false]
        rw [if_pos ⟨hs', h0⟩, hp]
        simp only []
        rw [if_pos hh]; exact h2
      · cases h
section
variable {ps : List Pr} {R H : Nat} {N : Int → Bool} {F O : Int → Nat → Bool} {ch : Int → Nat → Int}
theorem gTo_listN {t : Nat} : ∀ (l : List Sy), (∀ s ∈ l, ∃ (c : Nat) (ns : List St), (∀ x ∈ ns, x.leaf = false) ∧ ∀ f k st, gTo ps ch t (c + f) (s :: k) st = gTo ps ch t f k (st ++ ns)) →
    ∃ (c : Nat) (ns : List St), (∀ x ∈ ns, x.leaf = false) ∧ ∀ f k st, gTo ps ch t (c + f) (l ++ k) st = gTo ps ch t f k (st ++ ns)
  | [], _ => ⟨0, [], by simp, fun f k st => by simp⟩
  | s :: l, h => by
    obtain ⟨c1, n1, h1, h3⟩ := h s (by simp)
    obtain ⟨c2, n2, h4, h6⟩ := gTo_listN l (fun x hx => h x (by simp [hx]))
    refine ⟨c1 + c2, n1 ++ n2, ?_, fun f k st => ?_⟩
    · intro x hx
      rcases List.mem_append.1 hx with hx | hx
      · exact h1 x hx
      · exact h4 x hx
    · rw [Nat.add_assoc, List.cons_append, h3, h6, List.append_assoc]
theorem LLG.nullN (g : LLG ps R H N F O ch) {t : Nat} (ht : t ≤ R) : ∀ (n : Nat) (s : Sy), s.isH = true → NS ps n s.num = true → O s.num t = true →
    ∃ (c : Nat) (ns : List St), (∀ x ∈ ns, x.leaf = false) ∧ ∀ f k st, gTo ps ch t (c + f) (s :: k) st = gTo ps ch t f k (st ++ ns)
  | 0, _, _, h, _ => by cases h
  | n + 1, s, hs, h, ho => by
    obtain ⟨i, p, hi, hp, hc, hl, hall⟩ := g.nul1 h ht ho
    obtain ⟨c, ns, h1, h3⟩ := gTo_listN (ps := ps) (ch := ch) (t := t) p.syms (fun x hx => g.nullN ht n x (hall x hx).1 (hall x hx).2.1 (hall x hx).2.2)
    refine ⟨c + 1, ⟨false, i⟩ :: ns, ?_, fun f k st => ?_⟩
    · intro x hx
      simp only [List.mem_cons] at hx
      rcases hx with rfl | hx
      · rfl
      · exact h1 x hx
    · rw [show c + 1 + f = c + f + 1 by omega, gTo_open hi hs hc, h3, List.append_assoc]; rfl
theorem LLG.firstN (g : LLG ps R H N F O ch) {t : Nat} (ht : t ≤ R) : ∀ (n : Nat) (s : Sy), s.isH = true → FS ps N t n s.num = true →
    ∃ (c : Nat) (ns : List St) (k' : List Sy), (∀ x ∈ ns, x.leaf = false) ∧ ∀ f k st, gTo ps ch t (c + f + 1) (s :: k) st = some (k' ++ k, st ++ ns ++ [⟨true, t⟩])
  | 0, _, _, h => by cases h
  | n + 1, s, hs, h => by
    unfold FS at h
    rw [List.any_eq_true] at h
    obtain ⟨p, hp, h⟩ := h
    simp only [Bool.and_eq_true, beq_iff_eq] at h
    obtain ⟨i, hi⟩ := at_of hp
    have hb := begX_mono (g.fsF t n) _ h.2
    have ha : ahd N F O p t = true := by unfold ahd; rw [hb]; rfl
    have hc := g.one i p hi t ht ha
    rw [h.1] at hc
    obtain ⟨a, x, b, e, h1, h2⟩ := begX_split h.2
    have hxF : (if x.isH then F x.num t else x.num == (t : Int)) = true := by
      cases hx : x.isH
      · rw [hx] at h2; exact h2
      · rw [hx] at h2; exact g.fsF t n _ h2
    obtain ⟨c, ns, k1, k3⟩ := gTo_listN (ps := ps) (ch := ch) (t := t) a (fun y hy => by
      have hy1 := (List.all_eq_true.1 h1) y hy
      simp only [nulS, Bool.and_eq_true] at hy1
      refine g.nullN ht H y hy1.1 (g.leN _ hy1.2) ?_
      obtain ⟨a1, a2, ea⟩ := List.append_of_mem hy
      refine g.clO p hp a1 y (a2 ++ x :: b) (by rw [e, ea]; simp) hy1.1 t ?_
      have : begX N (fun X => F X t) t (a2 ++ x :: b) = true := begX_join x b hxF a2 (by
        rw [List.all_eq_true] at h1 ⊢; intro z hz; exact h1 z (by rw [ea]; simp [hz]))
      rw [this]; rfl)
    have hnl : ∀ y ∈ (⟨false, i⟩ : St) :: ns, y.leaf = false := fun y hy => by
      simp only [List.mem_cons] at hy
      rcases hy with rfl | hy
      · rfl
      · exact k1 y hy
    cases hx : x.isH
    · rw [hx] at h2
      simp only [Bool.false_eq_true, if_false, beq_iff_eq] at h2
      refine ⟨c + 1, ⟨false, i⟩ :: ns, b, hnl, fun f k st => ?_⟩
      rw [show c + 1 + f + 1 = c + (f + 1) + 1 by omega, gTo_open hi hs hc, e, List.append_assoc, k3, List.cons_append, gTo, if_pos hx, h2]
      simp
    · rw [hx] at h2
      simp only [if_true] at h2
      obtain ⟨c', ns', k', m1, m4⟩ := g.firstN ht n x hx h2
      refine ⟨c + 1 + c', ⟨false, i⟩ :: (ns ++ ns'), k' ++ b, ?_, fun f k st => ?_⟩
      · intro y hy
        rw [← List.cons_append] at hy
        rcases List.mem_append.1 hy with hy | hy
        · exact hnl y hy
        · exact m1 y hy
      · rw [show c + 1 + c' + f + 1 = c + (c' + f + 1) + 1 by omega, gTo_open hi hs hc, e, List.append_assoc, k3, List.cons_append, m4]
        simp
/-- what grows has just the leaf of the kind, and none for the END -/
theorem LLG.leaf (g : LLG ps R H N F O ch) {t : Nat} (ht : t ≤ R) (k : List Sy) (hk : StkOk N F O R k) (hin : StkIn R H k) (hw : wanT N F R k t = true) (st : List St) {f : Nat} {r : List Sy × List St} (hr : gTo ps ch t f k st = some r) :
    ∃ ns, r.2 = st ++ ns ∧ ((t < R ∧ leavesS ns = [(t : Int)]) ∨ (t = R ∧ leavesS ns = [] ∧ r.1 = [])) := by
  have key : ∀ (a : List Sy) (x : List Sy), k = a ++ x → a.all (nulS N) = true → wanT N F R x t = true → ∃ (c : Nat) (ns : List St), (∀ x ∈ ns, x.leaf = false) ∧ ∀ f k st, gTo ps ch t (c + f) (a ++ k) st = gTo ps ch t f k (st ++ ns) := by
    intro a x e ha hx
    refine gTo_listN a (fun y hy => ?_)
    have hy1 := (List.all_eq_true.1 ha) y hy
    simp only [nulS, Bool.and_eq_true] at hy1
    refine g.nullN ht H y hy1.1 (g.leN _ hy1.2) ?_
    obtain ⟨a1, a2, ea⟩ := List.append_of_mem hy
    refine hk a1 y (a2 ++ x) (by rw [e, ea]; simp) hy1.1 t ?_
    have ha2 : a2.all (nulS N) = true := by
      rw [List.all_eq_true] at ha ⊢; intro z hz; exact ha z (by rw [ea]; simp [hz])
    unfold wanT at hx ⊢
    rw [begX_append, List.all_append, ha2]
    simp only [Bool.true_and]
    rw [Bool.or_assoc, hx]; simp
  have uniq : ∀ {f' : Nat} {r' : List Sy × List St}, gTo ps ch t f' k st = some r' → r = r' := fun {f' r'} h' => by
    have h1 := gTo_mono _ _ _ _ hr (f + f') (by omega)
    have h2 := gTo_mono _ _ _ _ h' (f + f') (by omega)
    rw [h1] at h2
    simpa using h2
  unfold wanT at hw
  cases hb : begX N (fun X => F X t) t k
  · rw [hb] at hw
    simp only [Bool.false_or, Bool.and_eq_true, beq_iff_eq] at hw
    obtain ⟨hw1, rfl⟩ := hw
    obtain ⟨c, ns, h1, h3⟩ := key k [] (by simp) hw1 (by simp [wanT, begX])
    have h4 := h3 1 [] st
    rw [List.append_nil] at h4
    have e := uniq (f' := c + 1) (r' := ([], st ++ ns)) (by rw [h4]; rfl)
    rw [e]
    exact ⟨ns, rfl, .inr ⟨rfl, leavesS_none h1, rfl⟩⟩
  · obtain ⟨a, s, b, rfl, ha, hs⟩ := begX_split hb
    have htR : t < R := by
      cases hx : s.isH
      · rw [hx] at hs
        simp only [Bool.false_eq_true, if_false, beq_iff_eq] at hs
        have := hin s (by simp)
        rw [hx] at this
        simp only [Bool.false_eq_true, if_false] at this
        omega
      · rw [hx] at hs
        exact g.bF _ _ hs
    obtain ⟨c, ns, h1, h3⟩ := key a (s :: b) rfl ha (by
      unfold wanT
      have : begX N (fun X => F X t) t ([] ++ s :: b) = true := begX_join s b hs [] rfl
      rw [List.nil_append] at this
      rw [this]; rfl)
    cases hx : s.isH
    · rw [hx] at hs
      simp only [Bool.false_eq_true, if_false, beq_iff_eq] at hs
      have e := uniq (f' := c + 1) (r' := (b, st ++ ns ++ [⟨true, s.num⟩])) (by rw [h3, gTo, if_pos hx])
      rw [e]
      refine ⟨ns ++ [⟨true, s.num⟩], by simp, .inl ⟨htR, ?_⟩⟩
      rw [leavesS_app, leavesS_none h1, hs]; rfl
    · rw [hx] at hs
      simp only [if_true] at hs
      obtain ⟨c', ns', k', m1, m4⟩ := g.firstN ht H s hx (g.leF _ _ hs)
      have e := uniq (f' := c + (c' + 0 + 1)) (r' := (k' ++ b, st ++ ns ++ ns' ++ [⟨true, t⟩])) (by rw [h3]; exact m4 0 b (st ++ ns))
      rw [e]
      refine ⟨ns ++ ns' ++ [⟨true, t⟩], by simp, .inl ⟨htR, ?_⟩⟩
      rw [leavesS_app, leavesS_app, leavesS_none h1, leavesS_none m1]; rfl
end
/-- a tree comes out whose leaves are the kinds -/
theorem grwF_run {ps : List Pr} {R H : Nat} {hs : List Hd} (h : Tab ps R H hs) : ∀ (l : List Int) (a : Nat) (k : List Sy) (st : List St), StkOk (hN hs) (hF hs) (hO hs) R k → StkIn R H k → (∀ s ∈ st, 0 ≤ s.num ∧ s.num ≤ 127) → kindsOk R l = true → runS ps st [⟨true, 0⟩] = some k →
    (grwF ps hs R H l a k st).err = 0 → runS ps (grwF ps hs R H l a k st).st [⟨true, 0⟩] = some [] ∧ leavesS (grwF ps hs R H l a k st).st = leavesS st ++ l
  | [], a, k, st, h1, h2, h3, _, hru, he => by
    unfold grwF at he ⊢
    split
    · rename_i hw
      obtain ⟨s1, _⟩ := h.step (Nat.le_refl _) h1 h2 h3 hw
      have s1' := s1
      rw [gTo_congr (R := R) (H := H) (t := R) (ch := chL (tabL (ps.zip (aheadsF hs ps)) 72)) (ch' := chF hs ps) (fun X x0 x1 => chL_eq x0 (by have := h.hH; omega) (by have := h.hR; omega)) (fun p hp => (h.syms p hp).2) _ _ _ h2] at s1'
      have hw2 := hw
      rw [wanB_at h.ok h.hR k h2 R] at hw2
      obtain ⟨ns, e1, e2⟩ := h.g.leaf (Nat.le_refl _) k h1 h2 hw2 st s1'
      obtain ⟨ns', e3, e4⟩ := gTo_run (t := R) (fun X hX => by obtain ⟨p, q1, q2, _⟩ := h.g.chr X R hX; exact ⟨p, q1, q2⟩) _ _ _ _ s1'
      have en : ns' = ns := by rw [e1] at e3; exact (List.append_cancel_left e3).symm
      subst en
      rcases e2 with ⟨q, _⟩ | ⟨_, q1, q2⟩
      · omega
      · show runS ps (gToF ps hs H R k st).2 _ = _ ∧ leavesS (gToF ps hs H R k st).2 = _
        rw [e1, runS_app, hru, leavesS_app, q1]
        simp only [Option.bind_some, List.append_nil]
        rw [e4, q2]
        exact ⟨rfl, by first | rfl | trivial⟩
    · rename_i hw; rw [if_neg hw] at he; cases he
  | t :: l, a, k, st, h1, h2, h3, h4, hru, he => by
    have h5 : (0 ≤ t ∧ t < R) ∧ kindsOk R l = true := by
      unfold kindsOk at h4 ⊢
      simpa using h4
    unfold grwF at he ⊢
    split
    · rename_i hw
      rw [if_pos hw] at he
      have htR : t.toNat ≤ R := by omega
      obtain ⟨s1, _, _, s4, s5, s6, _⟩ := h.step htR h1 h2 h3 hw
      have s1' := s1
      rw [gTo_congr (R := R) (H := H) (t := t.toNat) (ch := chL (tabL (ps.zip (aheadsF hs ps)) 72)) (ch' := chF hs ps) (fun X x0 x1 => chL_eq x0 (by have := h.hH; omega) (by have := h.hR; omega)) (fun p hp => (h.syms p hp).2) _ _ _ h2] at s1'
      have hw2 := hw
      rw [wanB_at h.ok h.hR k h2] at hw2
      obtain ⟨ns, e1, e2⟩ := h.g.leaf htR k h1 h2 hw2 st s1'
      obtain ⟨ns', e3, e4⟩ := gTo_run (t := t.toNat) (fun X hX => by obtain ⟨p, q1, q2, _⟩ := h.g.chr X t.toNat hX; exact ⟨p, q1, q2⟩) _ _ _ _ s1'
      have en : ns' = ns := by rw [e1] at e3; exact (List.append_cancel_left e3).symm
      subst en
      rcases e2 with ⟨_, q1⟩ | ⟨q, _⟩
      · obtain ⟨z1, z2⟩ := grwF_run h l (a + 1) _ _ s4 s5 s6 h5.2 (by rw [e1, runS_app, hru]; exact e4) he
        refine ⟨z1, ?_⟩
        rw [z2, e1, leavesS_app, q1, show ((t.toNat : Nat) : Int) = t by omega]
        simp
      · omega
    · rename_i hw; rw [if_neg hw] at he; cases he
end Go.Proofs.Ytakkooidejdfkaa
namespace Go.Proofs.Ytakkooidejdfkaa
open Go.RowKit
set_option linter.unusedVariables false
set_option linter.unusedSimpArgs false

/-- the steps for some symbols part into those for the first of them and those for the rest -/
theorem runS_split (ps : List Pr) : ∀ (L : List St) (ys k : List Sy), runS ps L (ys ++ k) = some [] → ∃ A B, L = A ++ B ∧ runS ps A ys = some [] ∧ runS ps B k = some []
  | L, [], k, h => ⟨[], L, rfl, rfl, h⟩
  | [], y :: ys, k, h => by simp [runS] at h
  | s :: L, y :: ys, k, h => by
    simp only [List.cons_append, runS] at h
    cases hl : s.leaf
    · rw [hl] at h
      simp only [Bool.false_eq_true, if_false] at h
      split at h
      · rename_i hy
        cases hp : ps[s.num.toNat]? with
        | none => rw [hp] at h; cases h
        | some p =>
          rw [hp] at h
          simp only [] at h
          split at h
          · rename_i hh
            rw [← List.append_assoc] at h
            obtain ⟨A, B, h1, h2, h3⟩ := runS_split ps L (p.syms ++ ys) k h
            refine ⟨s :: A, B, by rw [h1]; rfl, ?_, h3⟩
            simp only [runS, hl, Bool.false_eq_true, if_false]
            rw [if_pos hy, hp]
            simp only []
            rw [if_pos hh]; exact h2
          · cases h
      · cases h
    · rw [hl] at h
      simp only [if_true] at h
      split at h
      · rename_i hy
        obtain ⟨A, B, h1, h2, h3⟩ := runS_split ps L ys k h
        refine ⟨s :: A, B, by rw [h1]; rfl, ?_, h3⟩
        simp only [runS, hl, if_true]
        rw [if_pos hy]; exact h2
      · cases h
theorem runS_nil {ps : List Pr} : ∀ {A : List St}, runS ps A [] = some [] → A = []
  | [], _ => rfl
  | _ :: _, h => by simp [runS] at h
theorem ndL_app : ∀ (a b : List St) (c : Nat), ndL (a ++ b) c = ndL a c ++ ndL b (c + (leavesS a).length)
  | [], b, c => by simp [ndL, leavesS]
  | s :: a, b, c => by
    cases hl : s.leaf
    · have e : leavesS (s :: a) = leavesS a := by simp [leavesS, hl]
      simp only [List.cons_append, ndL, hl, Bool.false_eq_true, if_false, e, ndL_app a b c]
    · have e : leavesS (s :: a) = s.num :: leavesS a := by simp [leavesS, hl]
      simp only [List.cons_append, ndL, hl, if_true, e, ndL_app a b (c + 1), List.length_cons]
      rw [show c + 1 + (leavesS a).length = c + ((leavesS a).length + 1) by omega]
/-- a node's size is the number of the steps of its tree -/
theorem size_tree (ps : List Pr) : ∀ (n : Nat) (A B : List St) (y : Sy) (c : Nat), A.length ≤ n → runS ps A [y] = some [] → (sizesF ps (ndL (A ++ B) c))[0]? = some A.length := by
  intro n
  induction n with
  | zero =>
    intro A B y c hn h
    have : A = [] := List.eq_nil_of_length_eq_zero (by omega)
    subst this
    simp [runS] at h
  | succ n ih =>
    have chain : ∀ (ys : List Sy) (A' pre B : List St) (c : Nat), A'.length ≤ n → runS ps A' ys = some [] → szL (sizesF ps (ndL (pre ++ (A' ++ B)) c)) ys.length (1 + pre.length) = 1 + pre.length + A'.length := by
      intro ys
      induction ys with
      | nil =>
        intro A' pre B c hn h
        have := runS_nil h
        subst this
        rfl
      | cons y ys ih2 =>
        intro A' pre B c hn h
        obtain ⟨A1, A2, e, h1, h2⟩ := runS_split ps A' [y] ys h
        subst e
        simp only [List.length_append] at hn
        have hs : (sizesF ps (ndL (pre ++ (A1 ++ A2 ++ B)) c))[1 + pre.length - 1]? = some A1.length := by
          have e1 : (sizesF ps (ndL (pre ++ (A1 ++ A2 ++ B)) c))[1 + pre.length - 1]? = ((sizesF ps (ndL (pre ++ (A1 ++ A2 ++ B)) c)).drop pre.length)[0]? := by
            rw [List.getElem?_drop]; congr 1; omega
          rw [e1, sizesF_drop, ndL_app, List.drop_left' (by rw [ndL_len]), List.append_assoc]
          exact ih A1 (A2 ++ B) y _ (by omega) h1
        rw [List.length_cons, szL, hs]
        simp only []
        have h3 := ih2 A2 (pre ++ A1) B c (by omega) h2
        rw [List.append_assoc, ← List.append_assoc A1 A2 B, List.length_append] at h3
        rw [show 1 + pre.length + A1.length = 1 + (pre.length + A1.length) by omega, h3]
        simp only [List.length_append]; omega
    intro A B y c hn h
    cases A with
    | nil => simp [runS] at h
    | cons s A' =>
      simp only [runS] at h
      simp only [List.length_cons] at hn
      cases hl : s.leaf
      · rw [hl] at h
        simp only [Bool.false_eq_true, if_false] at h
        split at h
        · rename_i hy
          cases hp : ps[s.num.toNat]? with
          | none => rw [hp] at h; cases h
          | some p =>
            rw [hp] at h
            simp only [List.append_nil] at h
            split at h
            · have hc := chain p.syms A' [] B c (by omega) h
              simp only [List.nil_append, List.length_nil, Nat.add_zero] at hc
              simp only [List.cons_append, ndL, hl, Bool.false_eq_true, if_false, sizesF, List.getElem?_cons_zero, Option.some.injEq, List.length_cons]
              have ha : arF ps ⟨s.num, -1, c, 0⟩ = p.syms.length := by
                unfold arF
                dsimp only
                rw [if_neg (by omega), hp]
              rw [ha, hc]; omega
            · cases h
        · cases h
      · rw [hl] at h
        simp only [if_true] at h
        split at h
        · have := runS_nil h
          subst this
          simp only [List.cons_append, List.nil_append, ndL, hl, if_true, sizesF, List.getElem?_cons_zero, Option.some.injEq, List.length_cons, List.length_nil]
          have ha : arF ps ⟨-1, s.num, c, 0⟩ = 0 := by unfold arF; rw [if_pos (by dsimp only; omega)]
          rw [ha]; rfl
        · cases h
end Go.Proofs.Ytakkooidejdfkaa
namespace Go.Proofs.Ytakkooidejdfkaa
open Go.RowKit
set_option linter.unusedVariables false
set_option linter.unusedSimpArgs false

/-- only this block is turned -/
abbrev MB (b : Nat) : World → World → Prop := Mod (fun k => k = b)
/-- the walk in memory -/
def WkAt (w : World) (b : Nat) (vx vn vk : Value) (i j : Nat) : Prop := w.heap[b]? = some (.cells #[vx, vn, vk, .int .i64 i, .int .i64 j] 42 (0, 0))
attribute [local go_sem ↓] ldN_rule
set_option maxRecDepth 20000 in
set_option maxHeartbeats 2000000 in
theorem wleaf_any (w : World) (b : Nat) (vx vn vk : Value) (i j : Nat) (NL : List Nd) (kinds : List Int) (c : Int) (h : WkAt w b vx vn vk i j) (hn : NdsAt w vn NL) (hk : IntAt w vk kinds) (hi : i < NL.length) (hj : j < kinds.length) (hil : NL.length ≤ 1000000000000) (hjl : kinds.length ≤ 1000)
    (hN : NL[i] = ⟨-1, c, j, 1⟩) (hK : kinds[j] = c) :
    Calls Try.prog 15 #[bptr b, .int .i64 c] w fun e w' => e = .returned (.bool true) ∧ WkAt w' b vx vn vk (i + 1) (j + 1) ∧ MB b w w' := by
  obtain ⟨aa, ca, hva⟩ := own_form hn.own
  subst hva
  obtain ⟨g, c', hg⟩ := Joins.ownsRow_form hn.own (by omega)
  rw [Value.slice.injEq] at hg
  obtain ⟨rfl, _, rfl⟩ := hg
  obtain ⟨ka, kc, rfl, hkc, hkcell⟩ := hk
  obtain ⟨kg, ko, rfl, ck⟩ := hkcell j hj
  rw [hK] at ck
  have rN := hn.range i hi
  rw [hN] at rN
  have H := hid h
  have z3 := cellOf h 3
  have z4 := cellOf h 4
  have z1 := cellOf h 1
  have z2 := cellOf h 2
  simp at z1 z2 z3 z4
  have hbl := heap_lt h
  have hi1 : (i : Int) < (NL.length : Int) := by omega
  have hj1 : (j : Int) < (kinds.length : Int) := by omega
  have b1 : decide ((NL.length : Int) ≤ (i : Int)) = false := by simp; omega
  have b2 : decide ((kinds.length : Int) ≤ (j : Int)) = false := by simp; omega
  have b3 : decide (NL.length ≤ i) = false := by simp; omega
  have b4 : decide (kinds.length ≤ j) = false := by simp; omega
  have l1 : ∀ m, (ldN (.pointer (some ⟨g, i * 4, none⟩))).run Try.prog (w.drewN m) = .ok (.agg (ndA (-1) c j 1)) (w.drewN m) := fun m => ldN_mid (w := w.drewN m) (rangeAt_block rN rfl)
  have hgl := (hn.own.lt g rfl).2
  have RNG : Hid (∀ m, (w.drewN m).rangeAt g (i * 4) [.int .i64 (-1), .int .i64 c, .int .i64 j, .int .i64 1]) := fun m => rangeAt_block rN rfl
  clear h hn hkcell hN hK rN
  go_enter Try.func15, Try.ntmps15
  go_wp2_with fail
  go_quiet (fail)
  have HW0 : Hid (Fresh w (w.drewN nq)) := fdrewN' w nq
  have l2 := l1 nq
  have l3 : (ldN (.pointer (some ⟨g, i * 4, none⟩))).run Try.prog (w.drewN nq).drew = .ok (.agg (ndA (-1) c j 1)) (w.drewN nq).drew := l1 (nq + 1)
  have y1 : (w.drewN nq).cell? ⟨b, 1, none⟩ = _ := z1
  have y3 : (w.drewN nq).cell? ⟨b, 3, none⟩ = _ := z3
  have hbl' : b < (w.drewN nq).heap.size := hbl
  have hgl' : g < (w.drewN nq).heap.size := hgl
  have l4 : (ldN (.pointer (some ⟨g, i * 4, none⟩))).run Try.prog ((w.drewN nq).alloc (.cells #[.int .i64 0, .int .i64 0, .int .i64 0, .int .i64 0] 60 (0, 0))).drew = .ok (.agg (ndA (-1) c j 1)) ((w.drewN nq).alloc (.cells #[.int .i64 0, .int .i64 0, .int .i64 0, .int .i64 0] 60 (0, 0))).drew := ldN_mid (rangeAt_block (RNG.out nq) (heap_alloc_old' hgl'))
  generalize w.drewN nq = W at HW0 l2 l3 l4 y1 y3 hbl' hgl' ⊢
  clear l1
  go_upto_region 3 with fail
  go_cut [5] (fun s5 wx => ∃ p, s5 = .pointer (some ⟨p, 0, none⟩) ∧ Fresh W wx ∧ wx.heap[p]? = some (.cells (ndA (-1) c j 1) 60 (0, 0)))
  case first =>
    go_region
    all_goals
      go_wp2_with fail
      go_meet
      exact ⟨W.heap.size, rfl, ((Mod.refl _ W).alloc _).drew, heap_alloc_at _ _⟩
  case rest =>
    obtain ⟨p, rfl, hfx, hbx⟩ := hcut
    have HFX : Hid (Fresh w wc) := HW0.out.trans hfx
    have HX := hid (HFX.out.at H.out (fun x => x))
    have hpl := heap_lt hbx
    have l5 : ∀ m, (ldN (.pointer (some ⟨p, 0, none⟩))).run Try.prog (wc.drewN m) = .ok (.agg (ndA (-1) c j 1)) (wc.drewN m) := fun m => ldN_mid (w := wc.drewN m) (fun q v hq => by
      have e : (wc.drewN m).cell? ⟨p, 0 + q, none⟩ = wc.cell? ⟨p, 0 + q, none⟩ := rfl
      rw [e, cellOf hbx, Nat.zero_add]; simpa using hq)
    have x4 := cellOf HX.out 4
    simp at x4
    have q1 : ∀ w, (Op.equalIn 10000 60 (.agg (ndA (-1) c j 1)) (.agg (ndA (-1) c j 1))).run Try.prog w = .ok true w := fun w => eqNd 9996 (-1) c j 1 w
    have g1 := guardNd
    clear hfx hbx l2 l3 l4 y1 y3 z1 z2 z3 z4
    go_wp2_with fail
    go_quiet (fail)
    have HX2 : Hid ((wc.drewN nq).heap[b]? = some (.cells #[vx, .slice (some ⟨g, 0, none⟩) NL.length ca, .slice (some ⟨kg, ko, none⟩) kinds.length kc, .int .i64 i, .int .i64 j] 42 (0, 0))) := HX.out
    have HF2 : Hid (Fresh w (wc.drewN nq)) := HFX.out.trans (fdrewN' wc nq)
    generalize wc.drewN nq = W2 at HX2 HF2 ⊢
    have n3 := cellOf HX2.out 3
    have n4 := cellOf HX2.out 4
    simp at n3 n4
    have m3 := frozenOf HX2.out 3
    have m4 := frozenOf HX2.out 4
    clear l5 x4 q1 g1
    go_wp2
    go_ret
    refine ⟨rfl, ?_, ?_⟩
    · unfold WkAt
      rw [Proofs.Ytakkooidejdfkaa.heap_setCell_same (Proofs.Ytakkooidejdfkaa.heap_setCell_same HX2.out 3 _) 4 _]
      simp
    · have m0 : MB b w W2 := HF2.out.mono (fun _ _ x => x.elim)
      have m1 := Mod.setCell m0 (p := ⟨b, 3, none⟩) (fun _ => rfl) (.int .i64 ((i : Int) + 1))
      exact Mod.setCell m1 (p := ⟨b, 4, none⟩) (fun _ => rfl) _
end Go.Proofs.Ytakkooidejdfkaa
