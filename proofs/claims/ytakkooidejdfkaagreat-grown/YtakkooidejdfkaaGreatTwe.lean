import Derived.Test.YtakkooidejdfkaaGreatTwb
import Derived.Test.YtakkooidejdfkaaGreatKp8
import Derived.Test.YtakkooidejdfkaaGreatGm2
import Derived.Test.YtakkooidejdfkaaGreatTw5
import Derived.Deep.DeepCutAuto
import Derived.Deep.RegionWith
import Derived.Test.YtakkooidejdfkaaGreatKc8
namespace Go.Proofs.YtakkooidejdfkaaGreat
open Go.RowKit
set_option linter.unusedVariables false
set_option linter.unusedSimpArgs false

end Go.Proofs.YtakkooidejdfkaaGreat
namespace Go.Proofs.YtakkooidejdfkaaGreat
open Go.RowKit
set_option linter.unusedVariables false
set_option linter.unusedSimpArgs false

end Go.Proofs.YtakkooidejdfkaaGreat
namespace Go.Proofs.YtakkooidejdfkaaGreat
open Go.RowKit
set_option linter.unusedVariables false
set_option linter.unusedSimpArgs false

theorem grwF_mono {ps : List Pr} {R H : Nat} {hs : List Hd} (h : Tab ps R H hs) : ∀ (l : List Int) (a : Nat) (k : List Sy) (st : List St), StkOk (hN hs) (hF hs) (hO hs) R k → StkIn R H k → (∀ s ∈ st, 0 ≤ s.num ∧ s.num ≤ 127) → kindsOk R l = true →
    (grwF ps hs R H l a k st).err = 0 → st.length ≤ (grwF ps hs R H l a k st).st.length
  | [], a, k, st, h1, h2, h3, _, he => by
    unfold grwF at he ⊢
    split
    · rename_i hw
      exact (h.step (Nat.le_refl _) h1 h2 h3 hw).2.2.2.2.2.2
    · rename_i hw; rw [if_neg hw] at he; cases he
  | t :: l, a, k, st, h1, h2, h3, h4, he => by
    have h5 : (0 ≤ t ∧ t < R) ∧ kindsOk R l = true := by
      unfold kindsOk at h4 ⊢
      simpa using h4
    unfold grwF at he ⊢
    split
    · rename_i hw
      rw [if_pos hw] at he
      obtain ⟨_, _, _, s4, s5, s6, s7⟩ := h.step (t := t.toNat) (by omega) h1 h2 h3 hw
      exact Nat.le_trans s7 (grwF_mono h l _ _ _ s4 s5 s6 h5.2 he)
    · rename_i hw; rw [if_neg hw] at he; cases he
theorem first_pos {ps : List Pr} {R H : Nat} {hs : List Hd} (h : Tab ps R H hs) {t : Nat} (ht : t ≤ R) (hw : (wanB hs R [⟨true, 0⟩]).getD t false = true) : 1 ≤ (gToF ps hs H t [⟨true, 0⟩] []).2.length := by
  obtain ⟨s1, _⟩ := h.step ht h.start.1 h.start.2 (st := []) (by simp) hw
  obtain ⟨f, hf⟩ : ∃ f, enough H ([⟨true, 0⟩] : List Sy).length = f + 1 := ⟨_, rfl⟩
  rw [hf, gTo, if_neg (by simp)] at s1
  split at s1
  · split at s1
    · have := gTo_len _ _ _ _ s1
      simpa using this
    · cases s1
  · cases s1
theorem grow_pos {ps : List Pr} {R H : Nat} {hs : List Hd} (h : Tab ps R H hs) (l : List Int) (hl : kindsOk R l = true) (he : (grwF ps hs R H l 0 [⟨true, 0⟩] []).err = 0) : 1 ≤ (grwF ps hs R H l 0 [⟨true, 0⟩] []).st.length := by
  cases l with
  | nil =>
    unfold grwF at he ⊢
    split
    · rename_i hw; exact first_pos h (Nat.le_refl _) hw
    · rename_i hw; rw [if_neg hw] at he; cases he
  | cons t l =>
    have h5 : (0 ≤ t ∧ t < R) ∧ kindsOk R l = true := by
      unfold kindsOk at hl ⊢
      simpa using hl
    unfold grwF at he ⊢
    split
    · rename_i hw
      rw [if_pos hw] at he
      obtain ⟨_, _, _, s4, s5, s6, s7⟩ := h.step (t := t.toNat) (by omega) h.start.1 h.start.2 (st := []) (by simp) hw
      exact Nat.le_trans (first_pos h (by omega) hw) (grwF_mono h l _ _ _ s4 s5 s6 h5.2 he)
    · rename_i hw; rw [if_neg hw] at he; cases he

theorem grwF_bd {ps : List Pr} {R H : Nat} {hs : List Hd} (h : Tab ps R H hs) : ∀ (l : List Int) (a : Nat) (k : List Sy) (st : List St), StkOk (hN hs) (hF hs) (hO hs) R k → StkIn R H k → (∀ s ∈ st, 0 ≤ s.num ∧ s.num ≤ 127) → kindsOk R l = true →
    a + l.length ≤ 60 → k.length ≤ 1 + 48 * a → st.length ≤ a * 2000000000 → (grwF ps hs R H l a k st).st.length ≤ 61 * 2000000000 ∧ (grwF ps hs R H l a k st).wanted.length ≤ 9
  | [], a, k, st, h1, h2, h3, _, h5, h6, h7 => by
    unfold grwF
    split
    · rename_i hw
      obtain ⟨_, s2, s3, _, _, _, s7⟩ := h.step (Nat.le_refl _) h1 h2 h3 hw
      simp only [List.length_nil, Nat.add_zero] at h5
      obtain ⟨_, _, q3, _⟩ := gbound h5 h6 h7 s3 s2 s7
      refine ⟨Nat.le_trans q3 (Nat.mul_le_mul_right _ (by omega)), by simp⟩
    · exact ⟨by simp, listT_len _⟩
  | t :: l, a, k, st, h1, h2, h3, h4, h5, h6, h7 => by
    have h8 : (0 ≤ t ∧ t < R) ∧ kindsOk R l = true := by
      unfold kindsOk at h4 ⊢
      simpa using h4
    simp only [List.length_cons] at h5
    unfold grwF
    split
    · rename_i hw
      obtain ⟨_, s2, s3, s4, s5, s6, s7⟩ := h.step (t := t.toNat) (by omega) h1 h2 h3 hw
      obtain ⟨_, _, q3, q4⟩ := gbound (show a ≤ 60 by omega) h6 h7 s3 s2 s7
      exact grwF_bd h l (a + 1) _ _ s4 s5 s6 h8.2 (by omega) q4 q3
    · exact ⟨by simp, listT_len _⟩
theorem grow_bd {s : ByteArray} (hc : (checkF s).1 = 0) (hcl : clashF s = []) (l : List Int) (hk : kindsOk (nR s) l = true) (hl : l.length ≤ 60) : (growS s l).st.length ≤ 61 * 2000000000 ∧ (growS s l).wanted.length ≤ 9 := by
  have hT := tab_of hc hcl
  exact grwF_bd hT l 0 _ _ hT.start.1 hT.start.2 (by simp) hk (by omega) (by simp) (by simp)
theorem grow_pos' {s : ByteArray} (hc : (checkF s).1 = 0) (hcl : clashF s = []) (l : List Int) (hk : kindsOk (nR s) l = true) (he : (growS s l).err = 0) : 1 ≤ (growS s l).st.length := grow_pos (tab_of hc hcl) l hk he
theorem parse_grow {s : ByteArray} (hc : (checkF s).1 = 0) (hcl : clashF s = []) (l : List Int) (hk : kindsOk (nR s) l = true) (hl : l.length ≤ 60) : parseF s l = growS s l := by
  unfold parseF
  rw [if_neg (by omega), if_neg (by simp [hc]), if_neg (by simp [hk]), if_neg (by simp [hcl])]

end Go.Proofs.YtakkooidejdfkaaGreat
namespace Go.Proofs.YtakkooidejdfkaaGreat
open Go.RowKit
set_option linter.unusedVariables false
set_option linter.unusedSimpArgs false

/-- the steps of a tree, laid against the symbols that wait -/
def runS (ps : List Pr) : List St → List Sy → Option (List Sy)
  | [], k => some k
  | _ :: _, [] => none
  | s :: l, y :: k => if s.leaf then (if y.isH = false ∧ y.num = s.num then runS ps l k else none)
      else if y.isH = true ∧ 0 ≤ s.num then (match ps[s.num.toNat]? with
        | some p => if p.head = y.num then runS ps l (p.syms ++ k) else none
        | none => none) else none
def leavesS (l : List St) : List Int := (l.filter St.leaf).map St.num
theorem leavesS_app (a b : List St) : leavesS (a ++ b) = leavesS a ++ leavesS b := by simp [leavesS]
theorem leavesS_none {a : List St} (h : ∀ x ∈ a, x.leaf = false) : leavesS a = [] := by
  unfold leavesS
  rw [List.filter_eq_nil_iff.2 (fun x hx => by simp [h x hx])]; rfl
theorem runS_app (ps : List Pr) : ∀ (a b : List St) (k : List Sy), runS ps (a ++ b) k = (runS ps a k).bind (runS ps b)
  | [], b, k => rfl
  | s :: a, b, [] => rfl
  | s :: a, b, y :: k => by
    simp only [List.cons_append, runS]
    split
    · split
      · exact runS_app ps a b k
      · rfl
    · split
      · split
        · split
          · exact runS_app ps a b _
          · rfl
        · rfl
      · rfl
/-- what grows is the steps of a tree -/
theorem gTo_run {ps : List Pr} {ch : Int → Nat → Int} {t : Nat} (hch : ∀ X, 0 ≤ ch X t → ∃ p, ps[(ch X t).toNat]? = some p ∧ p.head = X) : ∀ (f : Nat) (k : List Sy) (st : List St) (r : List Sy × List St), gTo ps ch t f k st = some r → ∃ ns, r.2 = st ++ ns ∧ runS ps ns k = some r.1
  | 0, _, _, _, h => by cases h
  | f + 1, [], st, r, h => by cases h; exact ⟨[], by simp, rfl⟩
  | f + 1, s :: k, st, r, h => by
    unfold gTo at h
    split at h
    · rename_i hs
      cases h
      exact ⟨[⟨true, s.num⟩], rfl, by simp [runS, hs]⟩
    · rename_i hs
      split at h
      · rename_i h0
        obtain ⟨p, hp, hh⟩ := hch _ h0
        rw [hp] at h
        obtain ⟨ns, h1, h2⟩ := gTo_run hch f _ _ r h
        refine ⟨⟨false, ch s.num t⟩ :: ns, by rw [h1]; simp, ?_⟩
        have hs' : s.isH = true := by simpa using hs
        simp only [runS, Bool.false_eq_true, if_false]
        rw [if_pos ⟨hs', h0⟩, hp]
        simp only []
        rw [if_pos hh]; exact h2
      · cases h
section
variable {ps : List Pr} {R H : Nat} {N : Int → Bool} {F O : Int → Nat → Bool} {ch : Int → Nat → Int}
theorem gTo_listN {t : Nat} : ∀ (l : List Sy), (∀ s ∈ l, ∃ (c : Nat) (ns : List St), (∀ x ∈ ns, x.leaf = false) ∧ ∀ f k st, gTo ps ch t (c + f) (s :: k) st = gTo ps ch t f k (st ++ ns)) →
    ∃ (c : Nat) (ns : List St), (∀ x ∈ ns, x.leaf = false) ∧ ∀ f k st, gTo ps ch t (c + f) (l ++ k) st = gTo ps ch t f k (st ++ ns)
  | [], _ => ⟨0, [], by simp, fun f k st => by simp⟩
  | s :: l, h => by
    obtain ⟨c1, n1, h1, h3⟩ := h s (by simp)
    obtain ⟨c2, n2, h4, h6⟩ := gTo_listN l (fun x hx => h x (by simp [hx]))
    refine ⟨c1 + c2, n1 ++ n2, ?_, fun f k st => ?_⟩
    · intro x hx
      rcases List.mem_append.1 hx with hx | hx
      · exact h1 x hx
      · exact h4 x hx
    · rw [Nat.add_assoc, List.cons_append, h3, h6, List.append_assoc]
theorem LLG.nullN (g : LLG ps R H N F O ch) {t : Nat} (ht : t ≤ R) : ∀ (n : Nat) (s : Sy), s.isH = true → NS ps n s.num = true → O s.num t = true →
    ∃ (c : Nat) (ns : List St), (∀ x ∈ ns, x.leaf = false) ∧ ∀ f k st, gTo ps ch t (c + f) (s :: k) st = gTo ps ch t f k (st ++ ns)
  | 0, _, _, h, _ => by cases h
  | n + 1, s, hs, h, ho => by
    obtain ⟨i, p, hi, hp, hc, hl, hall⟩ := g.nul1 h ht ho
    obtain ⟨c, ns, h1, h3⟩ := gTo_listN (ps := ps) (ch := ch) (t := t) p.syms (fun x hx => g.nullN ht n x (hall x hx).1 (hall x hx).2.1 (hall x hx).2.2)
    refine ⟨c + 1, ⟨false, i⟩ :: ns, ?_, fun f k st => ?_⟩
    · intro x hx
      simp only [List.mem_cons] at hx
      rcases hx with rfl | hx
      · rfl
      · exact h1 x hx
    · rw [show c + 1 + f = c + f + 1 by omega, gTo_open hi hs hc, h3, List.append_assoc]; rfl
theorem LLG.firstN (g : LLG ps R H N F O ch) {t : Nat} (ht : t ≤ R) : ∀ (n : Nat) (s : Sy), s.isH = true → FS ps N t n s.num = true →
    ∃ (c : Nat) (ns : List St) (k' : List Sy), (∀ x ∈ ns, x.leaf = false) ∧ ∀ f k st, gTo ps ch t (c + f + 1) (s :: k) st = some (k' ++ k, st ++ ns ++ [⟨true, t⟩])
  | 0, _, _, h => by cases h
  | n + 1, s, hs, h => by
    unfold FS at h
    rw [List.any_eq_true] at h
    obtain ⟨p, hp, h⟩ := h
    simp only [Bool.and_eq_true, beq_iff_eq] at h
    obtain ⟨i, hi⟩ := at_of hp
    have hb := begX_mono (g.fsF t n) _ h.2
    have ha : ahd N F O p t = true := by unfold ahd; rw [hb]; rfl
    have hc := g.one i p hi t ht ha
    rw [h.1] at hc
    obtain ⟨a, x, b, e, h1, h2⟩ := begX_split h.2
    have hxF : (if x.isH then F x.num t else x.num == (t : Int)) = true := by
      cases hx : x.isH
      · rw [hx] at h2; exact h2
      · rw [hx] at h2; exact g.fsF t n _ h2
    obtain ⟨c, ns, k1, k3⟩ := gTo_listN (ps := ps) (ch := ch) (t := t) a (fun y hy => by
      have hy1 := (List.all_eq_true.1 h1) y hy
      simp only [nulS, Bool.and_eq_true] at hy1
      refine g.nullN ht H y hy1.1 (g.leN _ hy1.2) ?_
      obtain ⟨a1, a2, ea⟩ := List.append_of_mem hy
      refine g.clO p hp a1 y (a2 ++ x :: b) (by rw [e, ea]; simp) hy1.1 t ?_
      have : begX N (fun X => F X t) t (a2 ++ x :: b) = true := begX_join x b hxF a2 (by
        rw [List.all_eq_true] at h1 ⊢; intro z hz; exact h1 z (by rw [ea]; simp [hz]))
      rw [this]; rfl)
    have hnl : ∀ y ∈ (⟨false, i⟩ : St) :: ns, y.leaf = false := fun y hy => by
      simp only [List.mem_cons] at hy
      rcases hy with rfl | hy
      · rfl
      · exact k1 y hy
    cases hx : x.isH
    · rw [hx] at h2
      simp only [Bool.false_eq_true, if_false, beq_iff_eq] at h2
      refine ⟨c + 1, ⟨false, i⟩ :: ns, b, hnl, fun f k st => ?_⟩
      rw [show c + 1 + f + 1 = c + (f + 1) + 1 by omega, gTo_open hi hs hc, e, List.append_assoc, k3, List.cons_append, gTo, if_pos hx, h2]
      simp
    · rw [hx] at h2
      simp only [if_true] at h2
      obtain ⟨c', ns', k', m1, m4⟩ := g.firstN ht n x hx h2
      refine ⟨c + 1 + c', ⟨false, i⟩ :: (ns ++ ns'), k' ++ b, ?_, fun f k st => ?_⟩
      · intro y hy
        rw [← List.cons_append] at hy
        rcases List.mem_append.1 hy with hy | hy
        · exact hnl y hy
        · exact m1 y hy
      · rw [show c + 1 + c' + f + 1 = c + (c' + f + 1) + 1 by omega, gTo_open hi hs hc, e, List.append_assoc, k3, List.cons_append, m4]
        simp
/-- what grows has just the leaf of the kind, and none for the END -/
theorem LLG.leaf (g : LLG ps R H N F O ch) {t : Nat} (ht : t ≤ R) (k : List Sy) (hk : StkOk N F O R k) (hin : StkIn R H k) (hw : wanT N F R k t = true) (st : List St) {f : Nat} {r : List Sy × List St} (hr : gTo ps ch t f k st = some r) :
    ∃ ns, r.2 = st ++ ns ∧ ((t < R ∧ leavesS ns = [(t : Int)]) ∨ (t = R ∧ leavesS ns = [] ∧ r.1 = [])) := by
  have key : ∀ (a : List Sy) (x : List Sy), k = a ++ x → a.all (nulS N) = true → wanT N F R x t = true → ∃ (c : Nat) (ns : List St), (∀ x ∈ ns, x.leaf = false) ∧ ∀ f k st, gTo ps ch t (c + f) (a ++ k) st = gTo ps ch t f k (st ++ ns) := by
    intro a x e ha hx
    refine gTo_listN a (fun y hy => ?_)
    have hy1 := (List.all_eq_true.1 ha) y hy
    simp only [nulS, Bool.and_eq_true] at hy1
    refine g.nullN ht H y hy1.1 (g.leN _ hy1.2) ?_
    obtain ⟨a1, a2, ea⟩ := List.append_of_mem hy
    refine hk a1 y (a2 ++ x) (by rw [e, ea]; simp) hy1.1 t ?_
    have ha2 : a2.all (nulS N) = true := by
      rw [List.all_eq_true] at ha ⊢; intro z hz; exact ha z (by rw [ea]; simp [hz])
    unfold wanT at hx ⊢
    rw [begX_append, List.all_append, ha2]
    simp only [Bool.true_and]
    rw [Bool.or_assoc, hx]; simp
  have uniq : ∀ {f' : Nat} {r' : List Sy × List St}, gTo ps ch t f' k st = some r' → r = r' := fun {f' r'} h' => by
    have h1 := gTo_mono _ _ _ _ hr (f + f') (by omega)
    have h2 := gTo_mono _ _ _ _ h' (f + f') (by omega)
    rw [h1] at h2
    simpa using h2
  unfold wanT at hw
  cases hb : begX N (fun X => F X t) t k
  · rw [hb] at hw
    simp only [Bool.false_or, Bool.and_eq_true, beq_iff_eq] at hw
    obtain ⟨hw1, rfl⟩ := hw
    obtain ⟨c, ns, h1, h3⟩ := key k [] (by simp) hw1 (by simp [wanT, begX])
    have h4 := h3 1 [] st
    rw [List.append_nil] at h4
    have e := uniq (f' := c + 1) (r' := ([], st ++ ns)) (by rw [h4]; rfl)
    rw [e]
    exact ⟨ns, rfl, .inr ⟨rfl, leavesS_none h1, rfl⟩⟩
  · obtain ⟨a, s, b, rfl, ha, hs⟩ := begX_split hb
    have htR : t < R := by
      cases hx : s.isH
      · rw [hx] at hs
        simp only [Bool.false_eq_true, if_false, beq_iff_eq] at hs
        have := hin s (by simp)
        rw [hx] at this
        simp only [Bool.false_eq_true, if_false] at this
        omega
      · rw [hx] at hs
        exact g.bF _ _ hs
    obtain ⟨c, ns, h1, h3⟩ := key a (s :: b) rfl ha (by
      unfold wanT
      have : begX N (fun X => F X t) t ([] ++ s :: b) = true := begX_join s b hs [] rfl
      rw [List.nil_append] at this
      rw [this]; rfl)
    cases hx : s.isH
    · rw [hx] at hs
      simp only [Bool.false_eq_true, if_false, beq_iff_eq] at hs
      have e := uniq (f' := c + 1) (r' := (b, st ++ ns ++ [⟨true, s.num⟩])) (by rw [h3, gTo, if_pos hx])
      rw [e]
      refine ⟨ns ++ [⟨true, s.num⟩], by simp, .inl ⟨htR, ?_⟩⟩
      rw [leavesS_app, leavesS_none h1, hs]; rfl
    · rw [hx] at hs
      simp only [if_true] at hs
      obtain ⟨c', ns', k', m1, m4⟩ := g.firstN ht H s hx (g.leF _ _ hs)
      have e := uniq (f' := c + (c' + 0 + 1)) (r' := (k' ++ b, st ++ ns ++ ns' ++ [⟨true, t⟩])) (by rw [h3]; exact m4 0 b (st ++ ns))
      rw [e]
      refine ⟨ns ++ ns' ++ [⟨true, t⟩], by simp, .inl ⟨htR, ?_⟩⟩
      rw [leavesS_app, leavesS_app, leavesS_none h1, leavesS_none m1]; rfl
end
/-- a tree comes out whose leaves are the kinds -/
theorem grwF_run {ps : List Pr} {R H : Nat} {hs : List Hd} (h : Tab ps R H hs) : ∀ (l : List Int) (a : Nat) (k : List Sy) (st : List St), StkOk (hN hs) (hF hs) (hO hs) R k → StkIn R H k → (∀ s ∈ st, 0 ≤ s.num ∧ s.num ≤ 127) → kindsOk R l = true → runS ps st [⟨true, 0⟩] = some k →
    (grwF ps hs R H l a k st).err = 0 → runS ps (grwF ps hs R H l a k st).st [⟨true, 0⟩] = some [] ∧ leavesS (grwF ps hs R H l a k st).st = leavesS st ++ l
  | [], a, k, st, h1, h2, h3, _, hru, he => by
    unfold grwF at he ⊢
    split
    · rename_i hw
      obtain ⟨s1, _⟩ := h.step (Nat.le_refl _) h1 h2 h3 hw
      have s1' := s1
      rw [gTo_congr (R := R) (H := H) (t := R) (ch := chL (tabL (ps.zip (aheadsF hs ps)) 72)) (ch' := chF hs ps) (fun X x0 x1 => chL_eq x0 (by have := h.hH; omega) (by have := h.hR; omega)) (fun p hp => (h.syms p hp).2) _ _ _ h2] at s1'
      have hw2 := hw
      rw [wanB_at h.ok h.hR k h2 R] at hw2
      obtain ⟨ns, e1, e2⟩ := h.g.leaf (Nat.le_refl _) k h1 h2 hw2 st s1'
      obtain ⟨ns', e3, e4⟩ := gTo_run (t := R) (fun X hX => by obtain ⟨p, q1, q2, _⟩ := h.g.chr X R hX; exact ⟨p, q1, q2⟩) _ _ _ _ s1'
      have en : ns' = ns := by rw [e1] at e3; exact (List.append_cancel_left e3).symm
      subst en
      rcases e2 with ⟨q, _⟩ | ⟨_, q1, q2⟩
      · omega
      · show runS ps (gToF ps hs H R k st).2 _ = _ ∧ leavesS (gToF ps hs H R k st).2 = _
        rw [e1, runS_app, hru, leavesS_app, q1]
        simp only [Option.bind_some, List.append_nil]
        rw [e4, q2]
        exact ⟨rfl, by first | rfl | trivial⟩
    · rename_i hw; rw [if_neg hw] at he; cases he
  | t :: l, a, k, st, h1, h2, h3, h4, hru, he => by
    have h5 : (0 ≤ t ∧ t < R) ∧ kindsOk R l = true := by
      unfold kindsOk at h4 ⊢
      simpa using h4
    unfold grwF at he ⊢
    split
    · rename_i hw
      rw [if_pos hw] at he
      have htR : t.toNat ≤ R := by omega
      obtain ⟨s1, _, _, s4, s5, s6, _⟩ := h.step htR h1 h2 h3 hw
      have s1' := s1
      rw [gTo_congr (R := R) (H := H) (t := t.toNat) (ch := chL (tabL (ps.zip (aheadsF hs ps)) 72)) (ch' := chF hs ps) (fun X x0 x1 => chL_eq x0 (by have := h.hH; omega) (by have := h.hR; omega)) (fun p hp => (h.syms p hp).2) _ _ _ h2] at s1'
      have hw2 := hw
      rw [wanB_at h.ok h.hR k h2] at hw2
      obtain ⟨ns, e1, e2⟩ := h.g.leaf htR k h1 h2 hw2 st s1'
      obtain ⟨ns', e3, e4⟩ := gTo_run (t := t.toNat) (fun X hX => by obtain ⟨p, q1, q2, _⟩ := h.g.chr X t.toNat hX; exact ⟨p, q1, q2⟩) _ _ _ _ s1'
      have en : ns' = ns := by rw [e1] at e3; exact (List.append_cancel_left e3).symm
      subst en
      rcases e2 with ⟨_, q1⟩ | ⟨q, _⟩
      · obtain ⟨z1, z2⟩ := grwF_run h l (a + 1) _ _ s4 s5 s6 h5.2 (by rw [e1, runS_app, hru]; exact e4) he
        refine ⟨z1, ?_⟩
        rw [z2, e1, leavesS_app, q1, show ((t.toNat : Nat) : Int) = t by omega]
        simp
      · omega
    · rename_i hw; rw [if_neg hw] at he; cases he
end Go.Proofs.YtakkooidejdfkaaGreat
namespace Go.Proofs.YtakkooidejdfkaaGreat
open Go.RowKit
set_option linter.unusedVariables false
set_option linter.unusedSimpArgs false

/-- the steps for some symbols part into those for the first of them and those for the rest -/
theorem runS_split (ps : List Pr) : ∀ (L : List St) (ys k : List Sy), runS ps L (ys ++ k) = some [] → ∃ A B, L = A ++ B ∧ runS ps A ys = some [] ∧ runS ps B k = some []
  | L, [], k, h => ⟨[], L, rfl, rfl, h⟩
  | [], y :: ys, k, h => by simp [runS] at h
  | s :: L, y :: ys, k, h => by
    simp only [List.cons_append, runS] at h
    cases hl : s.leaf
    · rw [hl] at h
      simp only [Bool.false_eq_true, if_false] at h
      split at h
      · rename_i hy
        cases hp : ps[s.num.toNat]? with
        | none => rw [hp] at h; cases h
        | some p =>
          rw [hp] at h
          simp only [] at h
          split at h
          · rename_i hh
            rw [← List.append_assoc] at h
            obtain ⟨A, B, h1, h2, h3⟩ := runS_split ps L (p.syms ++ ys) k h
            refine ⟨s :: A, B, by rw [h1]; rfl, ?_, h3⟩
            simp only [runS, hl, Bool.false_eq_true, if_false]
            rw [if_pos hy, hp]
            simp only []
            rw [if_pos hh]; exact h2
          · cases h
      · cases h
    · rw [hl] at h
      simp only [if_true] at h
      split at h
      · rename_i hy
        obtain ⟨A, B, h1, h2, h3⟩ := runS_split ps L ys k h
        refine ⟨s :: A, B, by rw [h1]; rfl, ?_, h3⟩
        simp only [runS, hl, if_true]
        rw [if_pos hy]; exact h2
      · cases h
theorem runS_nil {ps : List Pr} : ∀ {A : List St}, runS ps A [] = some [] → A = []
  | [], _ => rfl
  | _ :: _, h => by simp [runS] at h
theorem ndL_app : ∀ (a b : List St) (c : Nat), ndL (a ++ b) c = ndL a c ++ ndL b (c + (leavesS a).length)
  | [], b, c => by simp [ndL, leavesS]
  | s :: a, b, c => by
    cases hl : s.leaf
    · have e : leavesS (s :: a) = leavesS a := by simp [leavesS, hl]
      simp only [List.cons_append, ndL, hl, Bool.false_eq_true, if_false, e, ndL_app a b c]
    · have e : leavesS (s :: a) = s.num :: leavesS a := by simp [leavesS, hl]
      simp only [List.cons_append, ndL, hl, if_true, e, ndL_app a b (c + 1), List.length_cons]
      rw [show c + 1 + (leavesS a).length = c + ((leavesS a).length + 1) by omega]
/-- a node's size is the number of the steps of its tree -/
theorem size_tree (ps : List Pr) : ∀ (n : Nat) (A B : List St) (y : Sy) (c : Nat), A.length ≤ n → runS ps A [y] = some [] → (sizesF ps (ndL (A ++ B) c))[0]? = some A.length := by
  intro n
  induction n with
  | zero =>
    intro A B y c hn h
    have : A = [] := List.eq_nil_of_length_eq_zero (by omega)
    subst this
    simp [runS] at h
  | succ n ih =>
    have chain : ∀ (ys : List Sy) (A' pre B : List St) (c : Nat), A'.length ≤ n → runS ps A' ys = some [] → szL (sizesF ps (ndL (pre ++ (A' ++ B)) c)) ys.length (1 + pre.length) = 1 + pre.length + A'.length := by
      intro ys
      induction ys with
      | nil =>
        intro A' pre B c hn h
        have := runS_nil h
        subst this
        rfl
      | cons y ys ih2 =>
        intro A' pre B c hn h
        obtain ⟨A1, A2, e, h1, h2⟩ := runS_split ps A' [y] ys h
        subst e
        simp only [List.length_append] at hn
        have hs : (sizesF ps (ndL (pre ++ (A1 ++ A2 ++ B)) c))[1 + pre.length - 1]? = some A1.length := by
          have e1 : (sizesF ps (ndL (pre ++ (A1 ++ A2 ++ B)) c))[1 + pre.length - 1]? = ((sizesF ps (ndL (pre ++ (A1 ++ A2 ++ B)) c)).drop pre.length)[0]? := by
            rw [List.getElem?_drop]; congr 1; omega
          rw [e1, sizesF_drop, ndL_app, List.drop_left' (by rw [ndL_len]), List.append_assoc]
          exact ih A1 (A2 ++ B) y _ (by omega) h1
        rw [List.length_cons, szL, hs]
        simp only []
        have h3 := ih2 A2 (pre ++ A1) B c (by omega) h2
        rw [List.append_assoc, ← List.append_assoc A1 A2 B, List.length_append] at h3
        rw [show 1 + pre.length + A1.length = 1 + (pre.length + A1.length) by omega, h3]
        simp only [List.length_append]; omega
    intro A B y c hn h
    cases A with
    | nil => simp [runS] at h
    | cons s A' =>
      simp only [runS] at h
      simp only [List.length_cons] at hn
      cases hl : s.leaf
      · rw [hl] at h
        simp only [Bool.false_eq_true, if_false] at h
        split at h
        · rename_i hy
          cases hp : ps[s.num.toNat]? with
          | none => rw [hp] at h; cases h
          | some p =>
            rw [hp] at h
            simp only [List.append_nil] at h
            split at h
            · have hc := chain p.syms A' [] B c (by omega) h
              simp only [List.nil_append, List.length_nil, Nat.add_zero] at hc
              simp only [List.cons_append, ndL, hl, Bool.false_eq_true, if_false, sizesF, List.getElem?_cons_zero, Option.some.injEq, List.length_cons]
              have ha : arF ps ⟨s.num, -1, c, 0⟩ = p.syms.length := by
                unfold arF
                dsimp only
                rw [if_neg (by omega), hp]
              rw [ha, hc]; omega
            · cases h
        · cases h
      · rw [hl] at h
        simp only [if_true] at h
        split at h
        · have := runS_nil h
          subst this
          simp only [List.cons_append, List.nil_append, ndL, hl, if_true, sizesF, List.getElem?_cons_zero, Option.some.injEq, List.length_cons, List.length_nil]
          have ha : arF ps ⟨-1, s.num, c, 0⟩ = 0 := by unfold arF; rw [if_pos (by dsimp only; omega)]
          rw [ha]; rfl
        · cases h
end Go.Proofs.YtakkooidejdfkaaGreat
namespace Go.Proofs.YtakkooidejdfkaaGreat
open Go.RowKit
set_option linter.unusedVariables false
set_option linter.unusedSimpArgs false

/-- only this block is turned -/
abbrev MB (b : Nat) : World → World → Prop := Mod (fun k => k = b)
attribute [local go_sem ↓] ldN_rule
end Go.Proofs.YtakkooidejdfkaaGreat
namespace Go.Proofs.YtakkooidejdfkaaGreat
open Go.RowKit
set_option linter.unusedVariables false
set_option linter.unusedSimpArgs false

theorem node_at (ps : List Pr) {st pre A B : List St} {y : Sy} (hst : st = pre ++ (A ++ B)) (hA : runS ps A [y] = some []) :
    ∃ s A', A = s :: A' ∧ (nodesF ps st)[pre.length]? = some (if s.leaf then ⟨-1, s.num, (leavesS pre).length, A.length⟩ else ⟨s.num, -1, (leavesS pre).length, A.length⟩) := by
  cases A with
  | nil => simp [runS] at hA
  | cons s A' =>
    refine ⟨s, A', rfl, ?_⟩
    have hsz := size_tree ps _ (s :: A') B y (0 + (leavesS pre).length) (Nat.le_refl _) hA
    have h1 : (sizesF ps (ndL st 0))[pre.length]? = some (s :: A').length := by
      have e : (sizesF ps (ndL st 0))[pre.length]? = ((sizesF ps (ndL st 0)).drop pre.length)[0]? := by rw [List.getElem?_drop]; rfl
      rw [e, sizesF_drop, hst, ndL_app, List.drop_left' (by rw [ndL_len])]
      exact hsz
    obtain ⟨x, hx1, hx2⟩ := nodesF_at ps st (by rw [hst]; simp) h1
    rw [hx2]
    have h2 : (ndL st 0)[pre.length]? = (ndL (s :: A' ++ B) (0 + (leavesS pre).length))[0]? := by
      have e : (ndL st 0)[pre.length]? = ((ndL st 0).drop pre.length)[0]? := by rw [List.getElem?_drop]; rfl
      rw [e, hst, ndL_app, List.drop_left' (by rw [ndL_len])]
    rw [h2] at hx1
    simp only [List.cons_append, ndL] at hx1
    split
    · rename_i hl
      rw [hl] at hx1
      simp only [if_true, List.getElem?_cons_zero, Option.some.injEq] at hx1
      rw [← hx1]; simp [setSz]
    · rename_i hl
      rw [if_neg hl] at hx1
      simp only [List.getElem?_cons_zero, Option.some.injEq] at hx1
      rw [← hx1]; simp [setSz]
theorem run_rule {ps : List Pr} {A : List St} {n : Int} (h : runS ps A [⟨false, n⟩] = some []) : A = [⟨true, n⟩] := by
  cases A with
  | nil => simp [runS] at h
  | cons s A' =>
    simp only [runS] at h
    split at h
    · rename_i hl
      split at h
      · rename_i hy
        have := runS_nil h
        subst this
        obtain ⟨sl, sn⟩ := s
        dsimp only at hl hy
        rw [hl, ← hy.2]
      · cases h
    · split at h
      · rename_i hy; simp at hy
      · cases h
/-- the keep's lines in memory, as far as a walk reads them -/
structure XV (w : World) (xb g3 c3 g5 c5 : Nat) (sv : Nat → Value) (ps : List Pr) : Prop where
  k3 : w.cell? ⟨xb, 3, none⟩ = some (.slice (some ⟨g3, 0, none⟩) ps.length c3)
  k5 : w.cell? ⟨xb, 5, none⟩ = some (.slice (some ⟨g5, 0, none⟩) ps.length c5)
  hd : ∀ p (h : p < ps.length), w.cell? ⟨g3, p, none⟩ = some (.int .i64 ps[p].head)
  sy : ∀ p (h : p < ps.length), w.cell? ⟨g5, p, none⟩ = some (sv p) ∧ IntAt w (sv p) (ps[p].syms.map sInt)
end Go.Proofs.YtakkooidejdfkaaGreat
namespace Go.Proofs.YtakkooidejdfkaaGreat
open Go.RowKit
set_option linter.unusedVariables false
set_option linter.unusedSimpArgs false

set_option maxRecDepth 20000 in
set_option maxHeartbeats 4000000 in
theorem free_good (s : ByteArray) (w : World) (hc : checkF s = (0, 0)) :
    Calls Tryz.prog 5 #[.string s] w fun e w' => ∃ b, e = .returned (.tuple #[bptr b, .bool (decide ((clashF s).length = 0)), .bool true]) ∧ LOX w' b (linesF s).1 ∧ Fresh w w' := by
  obtain ⟨h1, _, _, _, _⟩ := check_parts hc
  have hc0 : (checkF s).1 = 0 := by rw [hc]
  have RG := hid (fun w => right_good s w h1 hc)
  have hsm : s.size ≤ maxLen := by unfold maxLen; omega
  have CG := hid (fun w => clashes_good s w hsm hc0 (sets_ok hc0))
  unfold ClashRet at CG
  have hso : (linesF s).2 = true := (linesAs hc).sound
  rw [hso] at RG
  generalize clashF s = CF at CG
  generalize (linesF s).1 = LN at RG
  have hl : CF.length ≤ CF.length := Nat.le_refl _
  clear hso hc hc0
  by_cases h0 : CF.length = 0
  · have hd : decide (CF.length = 0) = true := by simpa using h0
    rw [hd]
    have HC0 := hid h0
    clear h0 hd
    go_enter Tryz.func5, Tryz.ntmps5
    go_wp2_with (first
      | (go_at_call 12; refine (RG.out _).mono ?_; rintro e w1 ⟨b, rfl, hx, hf1⟩; have HX := hid hx; have HF1 := hid hf1; clear hx hf1)
      | (go_at_call 13; have stage := HF1.out; refine (CG.out _).mono ?_; rintro e w2 ⟨v, rfl, hf2, ho⟩; obtain ⟨ca, cc, hv⟩ := own_form ho; rw [HC0.out] at hv; subst hv; have HF2 := hid hf2; clear ho hf2))
    go_ret3
    obtain ⟨v0, v1, v2, v3, v4, v5, nv, sv, hLA⟩ := HX.out
    exact ⟨b, rfl, ⟨v0, v1, v2, v3, v4, v5, nv, sv, hLA.fresh HF2.out⟩, HF1.out.trans HF2.out⟩
  · have hd : decide (CF.length = 0) = false := by simpa using h0
    rw [hd]
    have hp : (CF.length == 0) = false := by simpa using h0
    have hp1 : ((CF.length : Int) == 0) = false := by rw [beq_eq_false_iff_ne]; omega
    clear hd
    go_enter Tryz.func5, Tryz.ntmps5
    go_wp2_with (first
      | (go_at_call 12; refine (RG.out _).mono ?_; rintro e w1 ⟨b, rfl, hx, hf1⟩; have HX := hid hx; have HF1 := hid hf1; clear hx hf1)
      | (go_at_call 13; have stage := HF1.out; refine (CG.out _).mono ?_; rintro e w2 ⟨v, rfl, hf2, ho⟩; obtain ⟨ca, cc, hv⟩ := own_form ho; subst hv; have HF2 := hid hf2; clear ho hf2))
    go_ret3
    obtain ⟨v0, v1, v2, v3, v4, v5, nv, sv, hLA⟩ := HX.out
    exact ⟨b, rfl, ⟨v0, v1, v2, v3, v4, v5, nv, sv, hLA.fresh HF2.out⟩, HF1.out.trans HF2.out⟩

set_option maxRecDepth 20000 in
set_option maxHeartbeats 4000000 in
theorem free_bad (s : ByteArray) (w : World) (hs : s.size ≤ maxLen) (hc : (checkF s).1 ≠ 0) :
    Calls Tryz.prog 5 #[.string s] w fun e w' => e = .returned (.tuple #[.pointer none, .bool false, .bool true]) ∧ Fresh w w' := by
  have RB := hid (fun w => right_bad s w hs hc)
  clear hc
  go_enter Tryz.func5, Tryz.ntmps5
  go_wp2_with (first
    | (go_at_call 12; refine (RB.out _).mono ?_; rintro e w1 ⟨rfl, hf1⟩; have HF1 := hid hf1; clear hf1))
  go_ret3
  exact ⟨rfl, HF1.out⟩
end Go.Proofs.YtakkooidejdfkaaGreat
namespace Go.Proofs.YtakkooidejdfkaaGreat
open Go.RowKit
set_option linter.unusedVariables false
set_option linter.unusedSimpArgs false

theorem free_any (s : ByteArray) (w : World) (hs : s.size ≤ maxLen) :
    Calls Tryz.prog 5 #[.string s] w fun e w' => ∃ v b, e = .returned (.tuple #[v, .bool b, .bool true]) ∧ Fresh w w' := by
  by_cases hc : (checkF s).1 = 0
  · exact (free_good s w (check_zero hc)).mono fun e w' ⟨b, h1, _, h3⟩ => ⟨_, _, h1, h3⟩
  · exact (free_bad s w hs hc).mono fun e w' ⟨h1, h3⟩ => ⟨_, _, h1, h3⟩

end Go.Proofs.YtakkooidejdfkaaGreat
namespace Go.Proofs.YtakkooidejdfkaaGreat
open Go.RowKit
set_option linter.unusedVariables false
set_option linter.unusedSimpArgs false

theorem LOX.ru {w : World} {b : Nat} {x : LO} (h : LOX w b x) : ∃ a c, w.cell? ⟨b, 0, none⟩ = some (.slice a x.rules.length c) := by
  obtain ⟨v0, v1, v2, v3, v4, v5, nv, sv, h⟩ := h
  have o0 : w.ownsRow (b + 1) 9 1 v0 x.rules.length (strs x.rules) := by have := h.at'.own 0 _ rfl; simpa using this
  obtain ⟨a0, c0, e0⟩ := own_form o0
  subst e0
  exact ⟨a0, c0, by have := h.cell 0; simpa using this⟩
theorem LOX.fresh {w w' : World} {b : Nat} {x : LO} (h : LOX w b x) (hf : Fresh w w') : LOX w' b x := by
  obtain ⟨v0, v1, v2, v3, v4, v5, nv, sv, h⟩ := h
  exact ⟨v0, v1, v2, v3, v4, v5, nv, sv, h.fresh hf⟩

end Go.Proofs.YtakkooidejdfkaaGreat
namespace Go.Proofs.YtakkooidejdfkaaGreat
open Go.RowKit
set_option linter.unusedVariables false
set_option linter.unusedSimpArgs false

end Go.Proofs.YtakkooidejdfkaaGreat
namespace Go.Proofs.YtakkooidejdfkaaGreat
open Go.RowKit
set_option linter.unusedVariables false
set_option linter.unusedSimpArgs false

theorem fresh_new {w W : World} {x : Obj} (m : MB w.heap.size (w.alloc x) W) : Fresh w W := by
  have h : Fresh w (w.alloc x) := (Mod.refl _ w).alloc x
  refine ⟨m.1.trans h.1, m.2.trans h.2, m.3.trans h.3, Nat.le_trans h.4 m.4, fun k hk _ => ?_⟩
  rw [m.block k (by have := h.4; omega) (by omega)]
  exact h.block k hk (fun z => z)
theorem XV.fresh {w W : World} {xb g3 c3 g5 c5 : Nat} {sv : Nat → Value} {ps : List Pr} (h : XV w xb g3 c3 g5 c5 sv ps) (hf : Fresh w W) : XV W xb g3 c3 g5 c5 sv ps :=
  ⟨fcell' hf h.k3, fcell' hf h.k5, fun p hp => fcell' hf (h.hd p hp), fun p hp => ⟨fcell' hf (h.sy p hp).1, (h.sy p hp).2.fresh hf⟩⟩
theorem tab_len {s : ByteArray} (hc : (checkF s).1 = 0) : (tabF s).length ≤ 20 := by
  have hc2 := check_zero hc
  obtain ⟨h1, h2, h3, h4, h5⟩ := check_parts hc2
  have hI := linesInv hc2
  obtain ⟨c1, c2, c3⟩ := counts_le (fun y hy => (hI.places y hy).1) h5
  exact c2
theorem xv_of {s : ByteArray} {w : World} {b : Nat} (hc : (checkF s).1 = 0) (hx : LOX w b (linesF s).1) : ∃ g3 c3 g5 c5 sv, XV w b g3 c3 g5 c5 sv (tabF s) := by
  have hc2 := check_zero hc
  obtain ⟨_, _, hhd, hsy⟩ := lines_table hc2
  obtain ⟨h1, h2, h3, h4, h5⟩ := check_parts hc2
  have hpos : 0 < (tabF s).length := by
    unfold tabF tableOf
    unfold hasProd at h4
    rw [List.any_eq_true] at h4
    obtain ⟨y, hy, hq⟩ := h4
    have : y ∈ prodsOf (rLines s).1 := List.mem_filter.2 ⟨hy, hq⟩
    rw [List.length_map]; exact List.length_pos_of_mem this
  change _ = (tabF s).map _ at hhd
  change _ = (tabF s).map _ at hsy
  obtain ⟨v0, v1, v2, v3, v4, v5, nv, sv, h⟩ := hx
  have o3 : w.ownsRow (b + 1) 3 1 v3 (linesF s).1.head.length (ints (linesF s).1.head) := by have := h.at'.own 3 _ rfl; simpa using this
  have o5 := h.own5
  have hsl := h.slen
  have hcell3 := h.cell 3
  have hcell5 := h.cell 5
  have hss := h.syms.2
  rw [hhd] at o3
  rw [hsy] at hss hsl
  rw [List.length_map] at o3 hsl
  generalize tabF s = ps at o3 hss hsl hpos ⊢
  obtain ⟨g3, c3, e3⟩ := Joins.ownsRow_form o3 (by omega)
  obtain ⟨g5, c5, e5⟩ := Joins.ownsRow_form o5 (by omega)
  subst e3 e5
  refine ⟨g3, c3, g5, c5, fun p => sv.getD p (.slice none 0 0), by simpa using hcell3, by rw [← hsl]; simpa using hcell5, fun p hp => ?_, fun p hp => ?_⟩
  · have := o3.cells (g := g3) rfl p (.int .i64 ps[p].head) (by simp [hp])
    rwa [Addr.add_mid, Nat.zero_add] at this
  · have hp2 : p < sv.length := by omega
    obtain ⟨ai, ci, hvi, hci, hcl⟩ := hss p sv[p] (ints (ps[p].syms.map sInt)) (by simp [hp2]) (by simp [hp])
    have e : sv.getD p (.slice none 0 0) = sv[p] := by simp [hp2]
    rw [e]
    refine ⟨?_, ai, ci, by rw [hvi]; simp, by simpa using hci, fun j hj => ?_⟩
    · have := o5.cells (g := g5) rfl p sv[p] (by simp [hp2])
      rwa [Addr.add_mid, Nat.zero_add] at this
    · obtain ⟨g, o, h1, _, _, h2⟩ := hcl j (.int .i64 (ps[p].syms.map sInt)[j]) (by simp only [ints]; rw [List.getElem?_map, List.getElem?_eq_getElem hj]; rfl)
      exact ⟨g, o, h1, h2⟩
theorem tab_in {s : ByteArray} (hT : Tab (tabF s) (nR s) (nH s) (setsF s)) : ∀ p ∈ tabF s, ∀ y ∈ p.syms, 0 ≤ y.num ∧ y.num ≤ 100 := by
  intro p hp y hy
  have h := (hT.syms p hp).2 y hy
  have h1 := hT.hR
  have h2 := hT.hH
  split at h <;> omega
theorem tab_syms {s : ByteArray} (hc : (checkF s).1 = 0) : ∀ p ∈ tabF s, p.syms.length ≤ 6 := by
  have hc2 := check_zero hc
  obtain ⟨h1, h2, h3, h4, h5⟩ := check_parts hc2
  have hI := linesInv hc2
  obtain ⟨c1, c2, c3⟩ := counts_le (fun y hy => (hI.places y hy).1) h5
  exact c3

end Go.Proofs.YtakkooidejdfkaaGreat
