import Derived.Test.YtnhhboikbbnklaaKp8
import Derived.Deep.RegionWith
namespace Go.Proofs.Ytnhhboikbbnklaa
open Go.RowKit
set_option linter.unusedVariables false
set_option linter.unusedSimpArgs false

set_option maxRecDepth 20000 in
set_option maxHeartbeats 2000000 in
theorem munched_long (s t : ByteArray) (w : World) (hs : s.size ≤ maxLen) (ht : t.size ≤ maxLen) (hl : 800 < s.size ∨ 200 < t.size) :
    Calls Try.prog 6 #[.string s, .string t] w fun e w' => e = .returned (.bool true) ∧ Fresh w w' := by
  have LX := hid (fun w => lex_any s t w hs ht)
  have e1 : errF s t = 1 := by
    unfold errF checkF
    by_cases h : 200 < t.size
    · rw [if_pos h]
    · rw [if_neg h, if_pos (by omega)]
  have e2 : lexF s t = ([], 1, 0) := by unfold lexF; rw [e1, if_pos (by decide)]
  rw [e2] at LX
  have hl' : (800 : Int) < (s.size : Int) ∨ ((¬ (800 : Int) < (s.size : Int)) ∧ (200 : Int) < (t.size : Int)) := by omega
  clear e1 e2 hl
  rcases hl' with h | ⟨h1, h⟩
  all_goals
    go_enter Try.func6, Try.ntmps6
    go_wp2_with (first
      | (go_at_call 13; refine (LX.out _).mono ?_; rintro e w1 ⟨v1, rfl, hf1, ht1⟩; obtain ⟨ao, cap, hv1⟩ := own_form ht1.own; subst hv1))
    go_ret
    exact ⟨by simp, hf1⟩

set_option maxRecDepth 20000 in
set_option maxHeartbeats 2000000 in
theorem munched_bad (s t : ByteArray) (w : World) (hs : s.size ≤ 800) (ht : t.size ≤ 200) (hc : (checkF s).1 ≠ 0) :
    Calls Try.prog 6 #[.string s, .string t] w fun e w' => e = .returned (.bool true) ∧ Fresh w w' := by
  have LX := hid (fun w => lex_any s t w (by unfold maxLen; omega) (by unfold maxLen; omega))
  have RI := hid (fun w => right_bad s w (by unfold maxLen; omega) hc)
  have CH := hid (fun w => check_any s w (by unfold maxLen; omega))
  have e1 : errF s t = (checkF s).1 := by unfold errF; rw [if_neg (by omega)]
  have e2 : lexF s t = ([], (checkF s).1, 0) := by unfold lexF; rw [e1, if_pos hc]
  rw [e2] at LX
  generalize checkF s = c at LX CH hc
  have h1 : ¬ (800 : Int) < (s.size : Int) := by omega
  have h2 : ¬ (200 : Int) < (t.size : Int) := by omega
  clear e1 e2
  go_enter Try.func6, Try.ntmps6
  go_wp2_with (first
    | (go_at_call 13; refine (LX.out _).mono ?_; rintro e w1 ⟨v1, rfl, hf1, ht1⟩; obtain ⟨ao, cap, hv1⟩ := own_form ht1.own; subst hv1)
    | (go_at_call 16; refine (RI.out _).mono ?_; rintro e w2 ⟨rfl, hf2⟩)
    | (go_at_call 8; refine (CH.out _).mono ?_; rintro e w3 ⟨rfl, hf3⟩))
  go_ret
  exact ⟨by simp, (hf1.trans hf2).trans hf3⟩

theorem cutL_pre (lns : List Ln) (t : ByteArray) (f : Nat) : ∀ (i : Nat) (toks : List Tk), (cutL lns t f i toks).2.1 = 0 → ∃ l, (cutL lns t f i toks).1 = toks ++ l := by
  induction f with
  | zero => intro i toks h; simp [cutL] at h
  | succ f ih =>
    intro i toks h
    unfold cutL at h ⊢
    split
    · rename_i h1
      rw [if_pos h1] at h
      split
      · rename_i h2; rw [if_pos h2] at h; simp at h
      · rename_i h2
        rw [if_neg h2] at h
        obtain ⟨l, hl⟩ := ih _ _ h
        rw [hl]
        split
        · exact ⟨l, rfl⟩
        · exact ⟨⟨(bestF lns t i).1, i, (bestF lns t i).2⟩ :: l, by simp⟩
    · exact ⟨[], by simp⟩
theorem ToksAt.tok {w : World} {g n cap : Nat} {xs : List Tk} (h : ToksAt w (.slice (some ⟨g, 0, none⟩) n cap) xs) (i : Nat) (hi : i < xs.length) :
    w.cell? ⟨g, i * 3, none⟩ = some (.int .i64 xs[i].r) ∧ w.cell? ⟨g, i * 3 + 1, none⟩ = some (.int .i64 xs[i].a) ∧ w.cell? ⟨g, i * 3 + 2, none⟩ = some (.int .i64 xs[i].b) := by
  have h0 := h.cell i 0 hi (by omega)
  have h1 := h.cell i 1 hi (by omega)
  have h2 := h.cell i 2 hi (by omega)
  simp [Tk.cells] at h0 h1 h2
  exact ⟨h0, h1, h2⟩
theorem LOAt.skip {w : World} {b : Nat} {x : LO} {v0 v1 v2 v3 v4 v5 : Value} {nv sv : List Value} (h : LOAt w b x v0 v1 v2 v3 v4 v5 nv sv) (r : Nat) (hr : r < x.skip.length) :
    ∃ g c, v1 = .slice (some ⟨g, 0, none⟩) x.skip.length c ∧ w.cell? ⟨g, r, none⟩ = some (.bool x.skip[r]) := by
  have ho : w.ownsRow (b + 1) 4 1 v1 x.skip.length (bools x.skip) := by
    have := h.at'.own 1 _ rfl
    simpa using this
  obtain ⟨g, c, hv⟩ := Joins.ownsRow_form ho (by omega)
  refine ⟨g, c, hv, ?_⟩
  subst hv
  have := ho.cells (g := g) rfl r (.bool x.skip[r]) (by simp [hr])
  rwa [Addr.add_mid, Nat.zero_add] at this
end Go.Proofs.Ytnhhboikbbnklaa
