import Derived.Test.YtnhhboikbbnklaaCrw1
import Derived.Deep.QuietTactic
import Derived.BigQuiet
namespace Go.Proofs.Ytnhhboikbbnklaa
open Go.RowKit
set_option linter.unusedVariables false
set_option linter.unusedSimpArgs false

abbrev cptr (cb : Nat) : Value := .pointer (some ⟨cb, 0, none⟩)

/-- The cells that the crowd's methods read. -/
theorem CrAt.facts {w : World} {cb lb ib n : Nat} {l : List Nat} (h : CrAt w cb lb ib n l) :
    (w.cell? ⟨cb, 0, none⟩ = some (.slice (some ⟨lb, 0, none⟩) n n) ∧ w.cell? ⟨cb, 1, none⟩ = some (.int .i64 l.length) ∧ w.cell? ⟨cb, 2, none⟩ = some (.slice (some ⟨ib, 0, none⟩) n n)) ∧
    (∀ j, j < n → w.cell? ⟨ib, j, none⟩ = some (.bool (decide (j ∈ l)))) ∧
    (∀ j (hj : j < l.length), w.cell? ⟨lb, j, none⟩ = some (.int .i64 l[j])) ∧
    (∀ j, j < n → ∃ x : Int, w.cell? ⟨lb, j, none⟩ = some (.int .i64 x)) ∧
    (∀ o, w.frozen? ⟨cb, o, none⟩ = false) ∧ (∀ o, w.frozen? ⟨lb, o, none⟩ = false) ∧ (∀ o, w.frozen? ⟨ib, o, none⟩ = false) := by
  obtain ⟨ls, h1, h2, h3⟩ := h.lst
  refine ⟨⟨by rw [cellOf h.blk]; rfl, by rw [cellOf h.blk]; rfl, by rw [cellOf h.blk]; rfl⟩, ?_, ?_, ?_, frozenOf h.blk, frozenOf h3, frozenOf h.ins⟩
  · intro j hj; rw [cellOf h.ins, boolsOf_at _ _ _ hj]
  · intro j hj
    have hl := nodup_len h.nodup h.lt
    rw [cellOf h3, i64s_at _ _ (by omega)]
    have : (ls.take l.length)[j]? = (l.map Int.ofNat)[j]? := by rw [h2]
    rw [List.getElem?_take_of_lt hj] at this
    simp [hj] at this
    simp [this]
  · intro j hj; exact ⟨_, by rw [cellOf h3, i64s_at _ _ (by omega)]⟩

theorem CrAt.of_heap {w w' : World} {cb lb ib n : Nat} {l : List Nat} (h : CrAt w cb lb ib n l) (e : w'.heap = w.heap) : CrAt w' cb lb ib n l := by
  obtain ⟨ls, h1, h2, h3⟩ := h.lst
  exact ⟨h.nodup, h.lt, by rw [e]; exact h.blk, ⟨ls, h1, h2, by rw [e]; exact h3⟩, by rw [e]; exact h.ins, h.d1, h.d2, h.d3⟩
theorem Mod.of_heap {S : Nat → Prop} {a w w' : World} (h : Mod S a w) (e : w'.heap = w.heap) (e1 : w'.os = w.os) (e2 : w'.tape = w.tape) (e3 : w'.output = w.output) : Mod S a w' :=
  ⟨e1.trans h.os, e2.trans h.tape, e3.trans h.output, by rw [e]; exact h.size, fun k hk hs => by rw [e]; exact h.block k hk hs⟩

set_option maxHeartbeats 2000000 in
theorem member_in (w : World) (cb lb ib n : Nat) (l : List Nat) (i : Nat) (h : CrAt w cb lb ib n l) (hn : n ≤ 100000) (hi : i < l.length) :
    Calls Try.prog 65 #[cptr cb, .int .i64 i] w fun e w' => e = .returned (.int .i64 l[i]) ∧ w' = w := by
  obtain ⟨⟨f1, f2, f3⟩, _, f5, _⟩ := h.facts
  have f6 := f5 i hi
  have hl := nodup_len h.nodup h.lt
  clear f5 h
  have hi' : (i : Int) < n := by omega
  go_enter Try.func65, Try.ntmps65
  go_wp2
  go_ret
  exact ⟨rfl, rfl⟩

set_option maxHeartbeats 2000000 in
theorem holds_any (w : World) (cb lb ib n : Nat) (l : List Nat) (m : Int) (h : CrAt w cb lb ib n l) (hn : n ≤ 100000) :
    Calls Try.prog 47 #[cptr cb, .int .i64 m] w fun e w' => e = .returned (.bool (decide (0 ≤ m ∧ m < n ∧ m.toNat ∈ l))) ∧ w' = w := by
  obtain ⟨⟨f1, f2, f3⟩, f4, _⟩ := h.facts
  by_cases h0 : 0 ≤ m
  · by_cases h1 : m < n
    · obtain ⟨k, rfl⟩ : ∃ k : Nat, m = k := ⟨m.toNat, by omega⟩
      have f6 := f4 k (by omega)
      clear f4 h
      go_enter Try.func47, Try.ntmps47
      go_wp2
      go_ret
      exact ⟨ret_bool (by simp; omega), rfl⟩
    · clear f4 h
      have h2 : (n : Int) ≤ m := by omega
      go_enter Try.func47, Try.ntmps47
      go_wp2
      go_ret
      exact ⟨ret_bool (by simp; omega), rfl⟩
  · clear f4 h
    have h2 : m < 0 := by omega
    go_enter Try.func47, Try.ntmps47
    go_wp2
    go_ret
    exact ⟨ret_bool (by simp; omega), rfl⟩

set_option maxHeartbeats 2000000 in
theorem enter_in (w : World) (cb lb ib n : Nat) (l : List Nat) (m : Nat) (h : CrAt w cb lb ib n l) (hn : n ≤ 100000) (hm : m < n) (hm2 : m ∉ l) :
    Calls Try.prog 45 #[cptr cb, .int .i64 m] w fun e w' => e = .returned (.tuple #[]) ∧ CrAt w' cb lb ib n (enterF n l m) ∧ Mod (cfoot cb lb ib) w w' := by
  obtain ⟨⟨f1, f2, f3⟩, f4, _, f5, z1, z2, z3⟩ := h.facts
  have hl := nodup_len_lt h.nodup h.lt hm hm2
  have f6 := f4 m hm
  obtain ⟨x, f7⟩ := f5 l.length hl
  have hd : decide (m ∈ l) = false := by simpa using hm2
  rw [hd] at f6
  have H := hid h
  have d1 := h.d1
  have d2 := h.d2
  have d3 := h.d3
  have b1 : (m : Int) < (n : Int) := by omega
  have b2 : ((l.length : Nat) : Int) < (n : Int) := by omega
  have b3 : decide ((m : Int) < 0) = false := by simp
  have b4 : decide ((n : Int) ≤ (m : Int)) = false := by simp; omega
  have b5 : decide (n ≤ m) = false := by simp; omega
  have HM := hid hm2
  clear f4 f5 h hd hm2
  go_enter Try.func45, Try.ntmps45
  go_wp2_with fail
  go_quiet (fail)
  go_wp2
  go_region
  all_goals
    go_wp2
    refine bodyPost_end (results_none rfl _ _ _) rfl ⟨rfl, ?_, ?_⟩
    · rw [enterF_yes hm HM.out]; exact CrAt.of_heap (H.out.entered hm HM.out) rfl
    · exact Mod.of_heap ((((Mod.refl _ w).setCell (p := ⟨ib, m, none⟩) (fun _ => .inr (.inr rfl)) (.bool true)).setCell (p := ⟨lb, l.length, none⟩) (fun _ => .inr (.inl rfl)) (.int .i64 m)).setCell (p := ⟨cb, 1, none⟩) (fun _ => .inl rfl) (.int .i64 (l.length + 1))) rfl rfl rfl rfl

set_option maxHeartbeats 2000000 in
theorem enter_neg (w : World) (cb lb ib n : Nat) (l : List Nat) (m : Int) (h : CrAt w cb lb ib n l) (hm : m < 0) :
    Calls Try.prog 45 #[cptr cb, .int .i64 m] w fun e w' => e = .returned (.tuple #[]) ∧ CrAt w' cb lb ib n (enterF n l m) ∧ Mod (cfoot cb lb ib) w w' := by
  have e1 : enterF n l m = l := enterF_no (by omega)
  rw [e1]
  have H := hid h
  have b3 : decide (m < 0) = true := by simpa using hm
  clear h e1
  go_enter Try.func45, Try.ntmps45
  go_wp2_with fail
  go_quiet (fail)
  go_wp2
  refine bodyPost_ret (results_none rfl _ _ _) rfl ⟨rfl, CrAt.of_heap H.out rfl, Mod.of_heap (Mod.refl _ w) rfl rfl rfl rfl⟩

set_option maxHeartbeats 2000000 in
theorem enter_great (w : World) (cb lb ib n : Nat) (l : List Nat) (m : Int) (h : CrAt w cb lb ib n l) (hn : n ≤ 100000) (h0 : 0 ≤ m) (hm : (n : Int) ≤ m) :
    Calls Try.prog 45 #[cptr cb, .int .i64 m] w fun e w' => e = .returned (.tuple #[]) ∧ CrAt w' cb lb ib n (enterF n l m) ∧ Mod (cfoot cb lb ib) w w' := by
  have e1 : enterF n l m = l := enterF_no (by omega)
  rw [e1]
  have H := hid h
  obtain ⟨⟨f1, f2, f3⟩, _⟩ := h.facts
  have b3 : decide (m < 0) = false := by simpa using h0
  have b4 : decide ((n : Int) ≤ m) = true := by simpa using hm
  clear h e1
  go_enter Try.func45, Try.ntmps45
  go_wp2_with fail
  go_quiet (fail)
  go_wp2
  refine bodyPost_ret (results_none rfl _ _ _) rfl ⟨rfl, CrAt.of_heap H.out rfl, Mod.of_heap (Mod.refl _ w) rfl rfl rfl rfl⟩

set_option maxHeartbeats 2000000 in
theorem enter_has (w : World) (cb lb ib n : Nat) (l : List Nat) (m : Nat) (h : CrAt w cb lb ib n l) (hn : n ≤ 100000) (hm : m < n) (hm2 : m ∈ l) :
    Calls Try.prog 45 #[cptr cb, .int .i64 m] w fun e w' => e = .returned (.tuple #[]) ∧ CrAt w' cb lb ib n (enterF n l m) ∧ Mod (cfoot cb lb ib) w w' := by
  have e1 : enterF n l m = l := enterF_no (by simp [hm2])
  rw [e1]
  have H := hid h
  obtain ⟨⟨f1, f2, f3⟩, f4, _⟩ := h.facts
  have f6 := f4 m hm
  have hd : decide (m ∈ l) = true := by simpa using hm2
  rw [hd] at f6
  have b1 : (m : Int) < (n : Int) := by omega
  have b3 : decide ((m : Int) < 0) = false := by simp
  have b4 : decide ((n : Int) ≤ (m : Int)) = false := by simp; omega
  have b5 : decide (n ≤ m) = false := by simp; omega
  clear h e1 f4 hm2 hd
  go_enter Try.func45, Try.ntmps45
  go_wp2_with fail
  go_quiet (fail)
  go_wp2
  refine bodyPost_ret (results_none rfl _ _ _) rfl ⟨rfl, CrAt.of_heap H.out rfl, Mod.of_heap (Mod.refl _ w) rfl rfl rfl rfl⟩

theorem enter_any (w : World) (cb lb ib n : Nat) (l : List Nat) (m : Int) (h : CrAt w cb lb ib n l) (hn : n ≤ 100000) :
    Calls Try.prog 45 #[cptr cb, .int .i64 m] w fun e w' => e = .returned (.tuple #[]) ∧ CrAt w' cb lb ib n (enterF n l m) ∧ Mod (cfoot cb lb ib) w w' := by
  by_cases h0 : m < 0
  · exact enter_neg w cb lb ib n l m h h0
  · by_cases h1 : (n : Int) ≤ m
    · exact enter_great w cb lb ib n l m h hn (by omega) h1
    · obtain ⟨k, rfl⟩ : ∃ k : Nat, m = k := ⟨m.toNat, by omega⟩
      by_cases h2 : k ∈ l
      · exact enter_has w cb lb ib n l k h hn (by omega) h2
      · exact enter_in w cb lb ib n l k h hn (by omega) h2
end Go.Proofs.Ytnhhboikbbnklaa
