import Derived.Test.YtjcknghdgfcboaaRl3
namespace Go.Proofs.Ytjcknghdgfcboaa
open Go.RowKit
set_option linter.unusedVariables false
set_option linter.unusedSimpArgs false

def vNone : ByteArray := ⟨#[]⟩
def vA : ByteArray := ⟨#[97]⟩
def vBr : ByteArray := ⟨#[93]⟩
def vABr : ByteArray := ⟨#[97, 93]⟩
def vTBr : ByteArray := ⟨#[126, 93]⟩
def vT : ByteArray := ⟨#[126]⟩
def V6 : List ByteArray := [vNone, vA, vBr, vABr, vTBr, vT]
/-- v stands here -/
def Has (T : ByteArray) (x : Int) (v : ByteArray) : Prop := ∀ j : Nat, j < v.size → atB T (x + j) = atB v j
theorem has_br {T : ByteArray} {x : Int} (h : Has T x vBr) : atB T x = 93 := by have := h 0 (by decide); simp only [Int.natCast_zero, Int.add_zero] at this; rw [this]; decide
theorem has_abr {T : ByteArray} {x : Int} (h : Has T x vABr) : atB T x = 97 ∧ atB T (x + 1) = 93 := ⟨by have := h 0 (by decide); simp only [Int.natCast_zero, Int.add_zero] at this; rw [this]; decide, h 1 (by decide)⟩
theorem has_tbr {T : ByteArray} {x : Int} (h : Has T x vTBr) : atB T x = 126 ∧ atB T (x + 1) = 93 := ⟨by have := h 0 (by decide); simp only [Int.natCast_zero, Int.add_zero] at this; rw [this]; decide, h 1 (by decide)⟩
theorem has_a {T : ByteArray} {x : Int} (h : Has T x vA) : atB T x = 97 := by have := h 0 (by decide); simp only [Int.natCast_zero, Int.add_zero] at this; rw [this]; decide
theorem has_t {T : ByteArray} {x : Int} (h : Has T x vT) : atB T x = 126 := by have := h 0 (by decide); simp only [Int.natCast_zero, Int.add_zero] at this; rw [this]; decide
section
variable {T : ByteArray} {x : Int}
theorem rMark_tilde (h : atB T x = 126) : rMark T x = (126, x + 1, true) := by
  unfold rMark; rw [h, if_neg (by decide), if_neg (by decide), if_neg (by decide)]
theorem rEnd_tilde (h : atB T x = 126) : rEnd T x = (126, x + 1, true) := by
  unfold rEnd; rw [h, if_neg (by decide), if_neg (by decide), if_neg (by decide)]
theorem rEnd_a (h : atB T x = 97) : rEnd T x = (97, x + 1, true) := by
  unfold rEnd; rw [h, if_neg (by decide), if_neg (by decide), if_neg (by decide)]
theorem rEnd_bs (h : atB T x = 92) : rEnd T x = rMark T (x + 1) := by
  unfold rEnd; rw [if_pos h]
theorem rRange_one {lo e : Int} (h : rEnd T x = (lo, e, true)) (hd : atB T e ≠ 45) : rRange T x = (lo, lo, e, true) := by
  unfold rRange; rw [h, if_neg (by simp), if_pos hd]
theorem rRange_two {lo e hi e2 : Int} (h : rEnd T x = (lo, e, true)) (hd : atB T e = 45) (h2 : rEnd T (e + 1) = (hi, e2, true)) (hle : lo ≤ hi) : rRange T x = (lo, hi, e2, true) := by
  unfold rRange; rw [h, if_neg (by simp), if_neg (by simpa using hd)]
  dsimp only
  rw [h2, if_neg (by simp), if_neg (by dsimp only; omega)]
theorem mark_le {s : ByteArray} {i : Int} (h : (rMark s i).2.2 = true) : (rMark s i).1 ≤ 126 ∧ (rMark s i).2.1 = i + 1 := by
  unfold rMark at h ⊢
  split
  · dsimp only; omega
  · rename_i e1; rw [if_neg e1] at h
    split
    · dsimp only; omega
    · rename_i e2; rw [if_neg e2] at h
      split
      · rename_i e3; rw [if_pos e3] at h; cases h
      · rename_i e3
        refine ⟨?_, rfl⟩
        dsimp only
        have hp : isPrB (atB s i) = true := by
          cases z : isPrB (atB s i)
          · rw [z] at e3; simp at e3
          · rfl
        unfold isPrB at hp
        rw [Bool.and_eq_true, decide_eq_true_eq, decide_eq_true_eq] at hp
        omega
theorem mark_bad {s : ByteArray} {i : Int} (h : (rMark s i).2.2 = false) : (rMark s i).2.1 = i := by
  unfold rMark at h ⊢
  split
  · rename_i e; rw [if_pos e] at h; cases h
  · rename_i e; rw [if_neg e] at h
    split
    · rename_i e2; rw [if_pos e2] at h; cases h
    · rename_i e2; rw [if_neg e2] at h
      split
      · rfl
      · rename_i e3; rw [if_neg e3] at h; cases h
/-- an END, as it comes out -/
theorem end_cases (s : ByteArray) (i : Int) : (atB s i = 92 ∧ (rEnd s i).2.2 = false ∧ (rEnd s i).2.1 = i + 1) ∨ (atB s i = 92 ∧ (rEnd s i).2.2 = true ∧ (rEnd s i).2.1 = i + 2 ∧ (rEnd s i).1 ≤ 126) ∨
    (atB s i ≠ 92 ∧ (rEnd s i).2.2 = false ∧ (rEnd s i).2.1 = i) ∨ (atB s i ≠ 92 ∧ (rEnd s i).2.2 = true ∧ (rEnd s i).2.1 = i + 1 ∧ (rEnd s i).1 ≤ 126) := by
  by_cases c : atB s i = 92
  · have e := rEnd_bs c
    rw [e]
    cases h : (rMark s (i + 1)).2.2
    · exact .inl ⟨c, rfl, mark_bad h⟩
    · have := mark_le h
      exact .inr (.inl ⟨c, rfl, by omega, this.1⟩)
  · unfold rEnd
    rw [if_neg c]
    split
    · exact .inr (.inr (.inl ⟨c, rfl, rfl⟩))
    · split
      · exact .inr (.inr (.inl ⟨c, rfl, rfl⟩))
      · rename_i e3
        refine .inr (.inr (.inr ⟨c, rfl, rfl, ?_⟩))
        have hp : isPrB (atB s i) = true := by simpa using e3
        unfold isPrB at hp
        rw [Bool.and_eq_true, decide_eq_true_eq, decide_eq_true_eq] at hp
        dsimp only; omega
theorem trip {α β γ : Type} (t : α × β × γ) : t = (t.1, t.2.1, t.2.2) := rfl
end
/-- a range that is broken off can be ended, with the ] behind it -/
theorem comp_range {s : ByteArray} {x m : Int} (h1 : x < m) (h2 : m ≤ (rRange s x).2.2.1) : ∃ v, (v = vBr ∨ v = vTBr) ∧ ∀ (T : ByteArray) (x' : Int), Alike s x T x' (m - x).toNat → Has T (x' + (m - x)) v →
    (rRange T x').2.2.2 = true ∧ (rRange T x').2.2.1 = x' + (m - x) + (v.size : Int) - 1 ∧ atB T ((rRange T x').2.2.1) = 93 := by
  have key : ∀ e1 : Int, (rEnd s x).2.2 = true → (rEnd s x).2.1 = e1 → x < e1 → (rEnd s x).1 ≤ 126 → e1 ≤ m → ∃ v, (v = vBr ∨ v = vTBr) ∧ ∀ (T : ByteArray) (x' : Int), Alike s x T x' (m - x).toNat → Has T (x' + (m - x)) v →
      (rRange T x').2.2.2 = true ∧ (rRange T x').2.2.1 = x' + (m - x) + (v.size : Int) - 1 ∧ atB T ((rRange T x').2.2.1) = 93 := by
    intro e1 hok he hxe hlo hm
    by_cases q : m = e1
    · refine ⟨vBr, .inl rfl, fun T x' ha hv => ?_⟩
      have d := rEnd_det ha (.inr ⟨hok, by omega, by omega⟩)
      have hb := has_br hv
      have hz : (vBr.size : Int) = 1 := by decide
      have e : rEnd T x' = ((rEnd s x).1, x' + (m - x), true) := by rw [d, hok, he]; congr 2; omega
      have hr := rRange_one e (by rw [hb]; decide)
      rw [hr]
      exact ⟨rfl, by dsimp only; omega, hb⟩
    · -- behind the first END
      have hd : atB s e1 = 45 := by
        by_cases z : atB s e1 = 45
        · exact z
        · exfalso
          unfold rRange at h2
          rw [if_neg (by rw [hok]; simp), he, if_pos z] at h2
          dsimp only at h2; omega
      have hE : ∀ (T : ByteArray) (x' : Int), Alike s x T x' (m - x).toNat → rEnd T x' = ((rEnd s x).1, e1 - x + x', true) ∧ atB T (e1 - x + x') = 45 := fun T x' ha => by
        have d := rEnd_det ha (.inl (by omega))
        have a1 := ha.atK (x := e1) (by omega) (by omega)
        exact ⟨by rw [d, hok, he], by rw [a1]; exact hd⟩
      have hr2 : (rRange s x).2.2.1 = if (rEnd s (e1 + 1)).2.2 = false then (rEnd s (e1 + 1)).2.1 else if (rEnd s (e1 + 1)).1 < (rEnd s x).1 then (rEnd s (e1 + 1)).2.1 - 1 else (rEnd s (e1 + 1)).2.1 := by
        unfold rRange
        rw [if_neg (by rw [hok]; simp), he, if_neg (by simpa using hd)]
        split
        · rfl
        · split <;> rfl
      rw [hr2] at h2
      have hz : (vTBr.size : Int) = 2 := by decide
      have hz1 : (vBr.size : Int) = 1 := by decide
      by_cases q1 : m = e1 + 1
      · refine ⟨vTBr, .inr rfl, fun T x' ha hv => ?_⟩
        obtain ⟨f1, f2⟩ := hE T x' ha
        obtain ⟨b1, b2⟩ := has_tbr hv
        have e2 := rEnd_tilde (T := T) (x := e1 - x + x' + 1) (by rw [← b1]; congr 1; omega)
        rw [rRange_two f1 f2 e2 hlo]
        refine ⟨rfl, by dsimp only; omega, ?_⟩
        dsimp only
        rw [← b2]; congr 1; omega
      · have hsec : ∀ e2 : Int, (rEnd s (e1 + 1)).2.2 = true → (rEnd s (e1 + 1)).2.1 = e2 → e1 + 1 < e2 → ¬ (rEnd s (e1 + 1)).1 < (rEnd s x).1 → m = e2 → ∃ v, (v = vBr ∨ v = vTBr) ∧ ∀ (T : ByteArray) (x' : Int), Alike s x T x' (m - x).toNat → Has T (x' + (m - x)) v →
            (rRange T x').2.2.2 = true ∧ (rRange T x').2.2.1 = x' + (m - x) + (v.size : Int) - 1 ∧ atB T ((rRange T x').2.2.1) = 93 := by
          intro e2 g1 g2 g3 g4 g5
          refine ⟨vBr, .inl rfl, fun T x' ha hv => ?_⟩
          obtain ⟨f1, f2⟩ := hE T x' ha
          have ha2 := alike_on ha (x := e1 + 1) (by omega)
          have d2 := rEnd_det ha2 (.inr ⟨g1, by omega, by omega⟩)
          have e : rEnd T (e1 - x + x' + 1) = ((rEnd s (e1 + 1)).1, x' + (m - x), true) := by
            rw [show e1 - x + x' + 1 = e1 + 1 - x + x' by omega, d2, g1, g2]; congr 2; omega
          rw [rRange_two f1 f2 e (by omega)]
          exact ⟨rfl, by dsimp only; omega, has_br hv⟩
        rcases end_cases s (e1 + 1) with ⟨g1, g2, g3⟩ | ⟨g1, g2, g3, g4⟩ | ⟨g1, g2, g3⟩ | ⟨g1, g2, g3, g4⟩
        · rw [if_pos g2, g3] at h2
          refine ⟨vTBr, .inr rfl, fun T x' ha hv => ?_⟩
          obtain ⟨f1, f2⟩ := hE T x' ha
          obtain ⟨b1, b2⟩ := has_tbr hv
          have a1 := ha.atK (x := e1 + 1) (by omega) (by omega)
          have e2 : rEnd T (e1 - x + x' + 1) = (126, e1 - x + x' + 1 + 1 + 1, true) := by
            rw [rEnd_bs (by rw [show e1 - x + x' + 1 = e1 + 1 - x + x' by omega, a1]; exact g1)]
            exact rMark_tilde (by rw [← b1]; congr 1; omega)
          rw [rRange_two f1 f2 e2 hlo]
          refine ⟨rfl, by dsimp only; omega, ?_⟩
          dsimp only
          rw [← b2]; congr 1; omega
        · rw [if_neg (by rw [g2]; simp), g3] at h2
          by_cases q2 : m = e1 + 2
          · refine ⟨vTBr, .inr rfl, fun T x' ha hv => ?_⟩
            obtain ⟨f1, f2⟩ := hE T x' ha
            obtain ⟨b1, b2⟩ := has_tbr hv
            have a1 := ha.atK (x := e1 + 1) (by omega) (by omega)
            have e2 : rEnd T (e1 - x + x' + 1) = (126, e1 - x + x' + 1 + 1 + 1, true) := by
              rw [rEnd_bs (by rw [show e1 - x + x' + 1 = e1 + 1 - x + x' by omega, a1]; exact g1)]
              exact rMark_tilde (by rw [← b1]; congr 1; omega)
            rw [rRange_two f1 f2 e2 hlo]
            refine ⟨rfl, by dsimp only; omega, ?_⟩
            dsimp only
            rw [← b2]; congr 1; omega
          · have hnl : ¬ (rEnd s (e1 + 1)).1 < (rEnd s x).1 := fun z => by rw [if_pos z] at h2; omega
            rw [if_neg hnl] at h2
            exact hsec _ g2 rfl (by omega) hnl (by omega)
        · rw [if_pos g2, g3] at h2; omega
        · rw [if_neg (by rw [g2]; simp), g3] at h2
          have hnl : ¬ (rEnd s (e1 + 1)).1 < (rEnd s x).1 := fun z => by rw [if_pos z] at h2; omega
          rw [if_neg hnl] at h2
          exact hsec _ g2 rfl (by omega) hnl (by omega)
  have hz : (vTBr.size : Int) = 2 := by decide
  rcases end_cases s x with ⟨g1, g2, g3⟩ | ⟨g1, g2, g3, g4⟩ | ⟨g1, g2, g3⟩ | ⟨g1, g2, g3, g4⟩
  · have : (rRange s x).2.2.1 = x + 1 := by unfold rRange; rw [if_pos g2, g3]
    refine ⟨vTBr, .inr rfl, fun T x' ha hv => ?_⟩
    obtain ⟨b1, b2⟩ := has_tbr hv
    have a1 := ha.at0 (by omega)
    have e : rEnd T x' = (126, x' + 1 + 1, true) := by
      rw [rEnd_bs (by rw [a1]; exact g1)]
      exact rMark_tilde (by rw [← b1]; congr 1; omega)
    rw [rRange_one e (by rw [show x' + 1 + 1 = x' + (m - x) + 1 by omega, b2]; decide)]
    refine ⟨rfl, by dsimp only; omega, ?_⟩
    dsimp only
    rw [← b2]; congr 1; omega
  · by_cases q : m = x + 1
    · refine ⟨vTBr, .inr rfl, fun T x' ha hv => ?_⟩
      obtain ⟨b1, b2⟩ := has_tbr hv
      have a1 := ha.at0 (by omega)
      have e : rEnd T x' = (126, x' + 1 + 1, true) := by
        rw [rEnd_bs (by rw [a1]; exact g1)]
        exact rMark_tilde (by rw [← b1]; congr 1; omega)
      rw [rRange_one e (by rw [show x' + 1 + 1 = x' + (m - x) + 1 by omega, b2]; decide)]
      refine ⟨rfl, by dsimp only; omega, ?_⟩
      dsimp only
      rw [← b2]; congr 1; omega
    · exact key (x + 2) g2 g3 (by omega) g4 (by omega)
  · have : (rRange s x).2.2.1 = x := by unfold rRange; rw [if_pos g2, g3]
    omega
  · exact key (x + 1) g2 g3 (by omega) g4 (by omega)
/-- a class that is broken off can be ended -/
theorem comp_ends {s : ByteArray} {i : Int} (h0 : 0 ≤ i) {m : Int} (hms : m ≤ s.size) : ∀ (f : Nat) (x : Int) (ws : List Int), i ≤ x → x ≤ m → m ≤ (rEndsL s i f x ws).2.1 → ∃ v ∈ V6, ∀ (T : ByteArray) (i' : Int), 0 ≤ i' → Alike s i T i' (m - i).toNat → Has T (i' + (m - i)) v →
    ∀ (f' : Nat) (ws' : List Int), (T.size : Int) + 3 ≤ f' + (x - i + i') → (rEndsL T i' f' (x - i + i') ws').2.2 = true ∧ (rEndsL T i' f' (x - i + i') ws').2.1 = i' + (m - i) + v.size := by
  intro f
  induction f with
  | zero =>
    intro x ws hix hxm hm
    have hm' : m ≤ x := hm
    have e : x = m := by omega
    subst e
    by_cases q : x = i
    · refine ⟨vABr, by simp [V6], fun T i' h0' ha hv f' ws' hf' => ?_⟩
      have hz : (vABr.size : Int) = 2 := by decide
      obtain ⟨b1, b2⟩ := has_abr hv
      have l1 := atB_lt (s := T) (i := i' + (x - i)) (by omega)
      have l2 := atB_lt (s := T) (i := i' + (x - i) + 1) (by omega)
      obtain ⟨f', rfl⟩ : ∃ k, f' = k + 1 + 1 := ⟨f' - 2, by omega⟩
      have hr : rRange T (x - i + i') = (97, 97, x - i + i' + 1, true) := rRange_one (rEnd_a (by rw [← b1]; congr 1; omega)) (by rw [show x - i + i' + 1 = i' + (x - i) + 1 by omega, b2]; decide)
      rw [rEndsL_s, if_pos (.inl (by omega)), hr, if_neg (by simp), rEndsL_s]
      dsimp only
      rw [if_neg (by rw [show x - i + i' + 1 = i' + (x - i) + 1 by omega, b2]; omega)]
      exact ⟨rfl, by dsimp only; omega⟩
    · refine ⟨vBr, by simp [V6], fun T i' h0' ha hv f' ws' hf' => ?_⟩
      have hz : (vBr.size : Int) = 1 := by decide
      have b1 := has_br hv
      have l1 := atB_lt (s := T) (i := i' + (x - i)) (by omega)
      obtain ⟨f', rfl⟩ : ∃ k, f' = k + 1 := ⟨f' - 1, by omega⟩
      rw [rEndsL_s, if_neg (by rw [show x - i + i' = i' + (x - i) by omega, b1]; omega)]
      exact ⟨rfl, by dsimp only; omega⟩
  | succ f ih =>
    intro x ws hix hxm hm
    by_cases e : x = m
    · subst e
      by_cases q : x = i
      · refine ⟨vABr, by simp [V6], fun T i' h0' ha hv f' ws' hf' => ?_⟩
        have hz : (vABr.size : Int) = 2 := by decide
        obtain ⟨b1, b2⟩ := has_abr hv
        have l1 := atB_lt (s := T) (i := i' + (x - i)) (by omega)
        have l2 := atB_lt (s := T) (i := i' + (x - i) + 1) (by omega)
        obtain ⟨f', rfl⟩ : ∃ k, f' = k + 1 + 1 := ⟨f' - 2, by omega⟩
        have hr : rRange T (x - i + i') = (97, 97, x - i + i' + 1, true) := rRange_one (rEnd_a (by rw [← b1]; congr 1; omega)) (by rw [show x - i + i' + 1 = i' + (x - i) + 1 by omega, b2]; decide)
        rw [rEndsL_s, if_pos (.inl (by omega)), hr, if_neg (by simp), rEndsL_s]
        dsimp only
        rw [if_neg (by rw [show x - i + i' + 1 = i' + (x - i) + 1 by omega, b2]; omega)]
        exact ⟨rfl, by dsimp only; omega⟩
      · refine ⟨vBr, by simp [V6], fun T i' h0' ha hv f' ws' hf' => ?_⟩
        have hz : (vBr.size : Int) = 1 := by decide
        have b1 := has_br hv
        have l1 := atB_lt (s := T) (i := i' + (x - i)) (by omega)
        obtain ⟨f', rfl⟩ : ∃ k, f' = k + 1 := ⟨f' - 1, by omega⟩
        rw [rEndsL_s, if_neg (by rw [show x - i + i' = i' + (x - i) by omega, b1]; omega)]
        exact ⟨rfl, by dsimp only; omega⟩
    · have hxm2 : x < m := by omega
      have hin : ∀ (T : ByteArray) (i' : Int), Alike s i T i' (m - i).toNat → atB T (x - i + i') = atB s x ∧ x - i + i' < T.size := fun T i' ha => by
        have := in_text ha h0 (by omega) hix (by omega)
        exact ⟨this.1, this.2.1⟩
      rw [rEndsL_s] at hm
      by_cases c1 : x = i ∨ atB s x ≠ 93
      · rw [if_pos c1] at hm
        by_cases c2 : m ≤ (rRange s x).2.2.1
        · obtain ⟨v, hv6, hv⟩ := comp_range hxm2 c2
          refine ⟨v, by rcases hv6 with rfl | rfl <;> simp [V6], fun T i' h0' ha hh f' ws' hf' => ?_⟩
          obtain ⟨a1, a2⟩ := hin T i' ha
          have hx2 := alike_on ha (x := x) hix
          have hsub : (m - i).toNat - (x - i).toNat = (m - x).toNat := by omega
          rw [hsub] at hx2
          obtain ⟨y1, y2, y3⟩ := hv T (x - i + i') hx2 (by rw [show x - i + i' + (m - x) = i' + (m - i) by omega]; exact hh)
          have hvs : 1 ≤ (v.size : Int) := by rcases hv6 with rfl | rfl <;> decide
          have l3 := atB_lt (s := T) (i := (rRange T (x - i + i')).2.2.1) (by omega)
          obtain ⟨f', rfl⟩ : ∃ k, f' = k + 1 + 1 := ⟨f' - 2, by omega⟩
          have c1' : x - i + i' = i' ∨ atB T (x - i + i') ≠ 93 := by
            rcases c1 with q | q
            · left; omega
            · right; rw [a1]; exact q
          rw [rEndsL_s, if_pos c1', if_neg (by rw [y1]; simp), rEndsL_s, if_neg (by rw [y3]; omega)]
          exact ⟨rfl, by dsimp only; omega⟩
        · have hok : ¬ (rRange s x).2.2.2 = false := fun q => by rw [if_pos q] at hm; exact c2 hm
          rw [if_neg hok] at hm
          have hok' : (rRange s x).2.2.2 = true := by simpa using hok
          have hnx := rRange_nx s x
          obtain ⟨b1, b2, b3, b4, b5, b6, b7⟩ := rRange_bd s x (by omega)
          have b8 := b7 hok'
          obtain ⟨v, hv6, hv⟩ := ih (rRange s x).2.2.1 _ (by omega) (by omega) hm
          refine ⟨v, hv6, fun T i' h0' ha hh f' ws' hf' => ?_⟩
          obtain ⟨a1, a2⟩ := hin T i' ha
          have hx2 := alike_on ha (x := x) hix
          have d := rRange_det hx2 (by omega)
          obtain ⟨f', rfl⟩ : ∃ k, f' = k + 1 := ⟨f' - 1, by omega⟩
          have c1' : x - i + i' = i' ∨ atB T (x - i + i') ≠ 93 := by
            rcases c1 with q | q
            · left; omega
            · right; rw [a1]; exact q
          rw [rEndsL_s, if_pos c1', d, if_neg (by rw [hok']; simp)]
          dsimp only
          rw [show (rRange s x).2.2.1 - x + (x - i + i') = (rRange s x).2.2.1 - i + i' by omega]
          exact hv T i' h0' ha hh f' _ (by omega)
      · rw [if_neg c1] at hm
        dsimp only at hm
        refine ⟨vNone, by simp [V6], fun T i' h0' ha hh f' ws' hf' => ?_⟩
        have hz : (vNone.size : Int) = 0 := by decide
        obtain ⟨a1, a2⟩ := hin T i' ha
        obtain ⟨f', rfl⟩ : ∃ k, f' = k + 1 := ⟨f' - 1, by omega⟩
        have c1' : ¬ (x - i + i' = i' ∨ atB T (x - i + i') ≠ 93) := by
          rintro (q | q)
          · exact c1 (.inl (by omega))
          · rw [a1] at q; exact c1 (.inr q)
        rw [rEndsL_s, if_neg c1']
        exact ⟨rfl, by dsimp only; omega⟩
theorem comp_br {s : ByteArray} {i m : Int} (h0 : 0 ≤ i) (him : i ≤ m) (hms : m ≤ s.size) (hm : m ≤ (rBr s i).2.1) : ∃ v ∈ V6, ∀ (T : ByteArray) (i' : Int), 0 ≤ i' → Alike s i T i' (m - i).toNat → Has T (i' + (m - i)) v → (rBr T i').2.2 = true ∧ (rBr T i').2.1 = i' + (m - i) + v.size := by
  by_cases e : i = m
  · subst e
    refine ⟨vABr, by simp [V6], fun T i' h0' ha hv => ?_⟩
    have hz : (vABr.size : Int) = 2 := by decide
    obtain ⟨b1, b2⟩ := has_abr hv
    rw [Int.sub_self, Int.add_zero] at b1 b2
    unfold rBr
    rw [if_neg (by rw [b1]; decide)]
    unfold rEnds
    have hr : rRange T i' = (97, 97, i' + 1, true) := rRange_one (rEnd_a b1) (by rw [b2]; decide)
    show (rEndsL T i' (T.size + 3 + 1 + 1) i' zero4).2.2 = true ∧ _
    rw [rEndsL_s, if_pos (.inl rfl), hr, if_neg (by simp), rEndsL_s]
    dsimp only
    rw [if_neg (by rw [b2]; omega)]
    exact ⟨rfl, by dsimp only; omega⟩
  · unfold rBr at hm
    by_cases c : atB s i = 94
    · rw [if_pos c] at hm
      dsimp only at hm
      unfold rEnds at hm
      obtain ⟨v, hv6, hv⟩ := comp_ends (s := s) (i := i + 1) (by omega) hms (s.size + 5) (i + 1) zero4 (Int.le_refl _) (by omega) hm
      refine ⟨v, hv6, fun T i' h0' ha hh => ?_⟩
      have a1 := ha.at0 (by omega)
      have ht := ha.tail
      rw [show (m - i).toNat - 1 = (m - (i + 1)).toNat by omega] at ht
      obtain ⟨y1, y2⟩ := hv T (i' + 1) (by omega) ht (by rw [show i' + 1 + (m - (i + 1)) = i' + (m - i) by omega]; exact hh) (T.size + 5) zero4 (by omega)
      rw [show i + 1 - (i + 1) + (i' + 1) = i' + 1 by omega] at y1 y2
      unfold rBr
      rw [if_pos (by rw [a1]; exact c)]
      unfold rEnds
      exact ⟨y1, by dsimp only; rw [y2]; omega⟩
    · rw [if_neg c] at hm
      unfold rEnds at hm
      obtain ⟨v, hv6, hv⟩ := comp_ends (s := s) (i := i) h0 hms (s.size + 5) i zero4 (Int.le_refl _) (by omega) hm
      refine ⟨v, hv6, fun T i' h0' ha hh => ?_⟩
      have a1 := ha.at0 (by omega)
      obtain ⟨y1, y2⟩ := hv T i' h0' ha hh (T.size + 5) zero4 (by omega)
      rw [show i - i + i' = i' by omega] at y1 y2
      unfold rBr
      rw [if_neg (by rw [a1]; exact c)]
      exact ⟨y1, y2⟩
end Go.Proofs.Ytjcknghdgfcboaa
