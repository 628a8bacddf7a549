import Derived.Test.YtolpddkpfigidaaKp8
import Derived.Deep.RegionWith
namespace Go.Proofs.Ytolpddkpfigidaa
open Go.RowKit
set_option linter.unusedVariables false
set_option linter.unusedSimpArgs false

set_option maxRecDepth 20000 in
set_option maxHeartbeats 2000000 in
theorem munched_long (s t : ByteArray) (w : World) (hs : s.size ≤ maxLen) (ht : t.size ≤ maxLen) (hl : 800 < s.size ∨ 200 < t.size) :
    Calls Try.prog 6 #[.string s, .string t] w fun e w' => e = .returned (.bool true) ∧ Fresh w w' := by
  have LX := hid (fun w => lex_any s t w hs ht)
  have e1 : errF s t = 1 := by
    unfold errF checkF
    by_cases h : 200 < t.size
    · rw [if_pos h]
    · rw [if_neg h, if_pos (by omega)]
  have e2 : lexF s t = ([], 1, 0) := by unfold lexF; rw [e1, if_pos (by decide)]
  rw [e2] at LX
  have hl' : (800 : Int) < (s.size : Int) ∨ ((¬ (800 : Int) < (s.size : Int)) ∧ (200 : Int) < (t.size : Int)) := by omega
  clear e1 e2 hl
  rcases hl' with h | ⟨h1, h⟩
  all_goals
    go_enter Try.func6, Try.ntmps6
    go_wp2_with (first
      | (go_at_call 15; refine (LX.out _).mono ?_; rintro e w1 ⟨v1, rfl, hf1, ht1⟩; obtain ⟨ao, cap, hv1⟩ := own_form ht1.own; subst hv1))
    go_ret
    exact ⟨by simp, hf1⟩

set_option maxRecDepth 20000 in
set_option maxHeartbeats 2000000 in
theorem munched_bad (s t : ByteArray) (w : World) (hs : s.size ≤ 800) (ht : t.size ≤ 200) (hc : (checkF s).1 ≠ 0) :
    Calls Try.prog 6 #[.string s, .string t] w fun e w' => e = .returned (.bool true) ∧ Fresh w w' := by
  have LX := hid (fun w => lex_any s t w (by unfold maxLen; omega) (by unfold maxLen; omega))
  have RI := hid (fun w => right_bad s w (by unfold maxLen; omega) hc)
  have CH := hid (fun w => check_any s w (by unfold maxLen; omega))
  have e1 : errF s t = (checkF s).1 := by unfold errF; rw [if_neg (by omega)]
  have e2 : lexF s t = ([], (checkF s).1, 0) := by unfold lexF; rw [e1, if_pos hc]
  rw [e2] at LX
  generalize checkF s = c at LX CH hc
  have h1 : ¬ (800 : Int) < (s.size : Int) := by omega
  have h2 : ¬ (200 : Int) < (t.size : Int) := by omega
  clear e1 e2
  go_enter Try.func6, Try.ntmps6
  go_wp2_with (first
    | (go_at_call 15; refine (LX.out _).mono ?_; rintro e w1 ⟨v1, rfl, hf1, ht1⟩; obtain ⟨ao, cap, hv1⟩ := own_form ht1.own; subst hv1)
    | (go_at_call 18; refine (RI.out _).mono ?_; rintro e w2 ⟨rfl, hf2⟩)
    | (go_at_call 10; refine (CH.out _).mono ?_; rintro e w3 ⟨rfl, hf3⟩))
  go_ret
  exact ⟨by simp, (hf1.trans hf2).trans hf3⟩

theorem cutL_pre (lns : List Ln) (t : ByteArray) (f : Nat) : ∀ (i : Nat) (toks : List Tk), (cutL lns t f i toks).2.1 = 0 → ∃ l, (cutL lns t f i toks).1 = toks ++ l := by
  induction f with
  | zero => intro i toks h; simp [cutL] at h
  | succ f ih =>
    intro i toks h
    unfold cutL at h ⊢
    split
    · rename_i h1
      rw [if_pos h1] at h
      split
      · rename_i h2; rw [if_pos h2] at h; simp at h
      · rename_i h2
        rw [if_neg h2] at h
        obtain ⟨l, hl⟩ := ih _ _ h
        rw [hl]
        split
        · exact ⟨l, rfl⟩
        · exact ⟨⟨(bestF lns t i).1, i, (bestF lns t i).2⟩ :: l, by simp⟩
    · exact ⟨[], by simp⟩
theorem ToksAt.tok {w : World} {g n cap : Nat} {xs : List Tk} (h : ToksAt w (.slice (some ⟨g, 0, none⟩) n cap) xs) (i : Nat) (hi : i < xs.length) :
    w.cell? ⟨g, i * 3, none⟩ = some (.int .i64 xs[i].r) ∧ w.cell? ⟨g, i * 3 + 1, none⟩ = some (.int .i64 xs[i].a) ∧ w.cell? ⟨g, i * 3 + 2, none⟩ = some (.int .i64 xs[i].b) := by
  have h0 := h.cell i 0 hi (by omega)
  have h1 := h.cell i 1 hi (by omega)
  have h2 := h.cell i 2 hi (by omega)
  simp [Tk.cells] at h0 h1 h2
  exact ⟨h0, h1, h2⟩
theorem LOAt.skip {w : World} {b : Nat} {x : LO} {v0 v1 v2 v3 v4 v5 : Value} {nv sv : List Value} (h : LOAt w b x v0 v1 v2 v3 v4 v5 nv sv) (r : Nat) (hr : r < x.skip.length) :
    ∃ g c, v1 = .slice (some ⟨g, 0, none⟩) x.skip.length c ∧ w.cell? ⟨g, r, none⟩ = some (.bool x.skip[r]) := by
  have ho : w.ownsRow (b + 1) 4 1 v1 x.skip.length (bools x.skip) := by
    have := h.at'.own 1 _ rfl
    simpa using this
  obtain ⟨g, c, hv⟩ := Joins.ownsRow_form ho (by omega)
  refine ⟨g, c, hv, ?_⟩
  subst hv
  have := ho.cells (g := g) rfl r (.bool x.skip[r]) (by simp [hr])
  rwa [Addr.add_mid, Nat.zero_add] at this
end Go.Proofs.Ytolpddkpfigidaa
namespace Go.Proofs.Ytolpddkpfigidaa
open Go.RowKit
set_option linter.unusedVariables false
set_option linter.unusedSimpArgs false

/-- What the longest beginning by Match has to do with what Lex cuts off at i. -/
def BestAs (s t : ByteArray) (i : Nat) : Prop :=
  ∃ n r : Nat, longK s (rulesOf s).length (t.extract i t.size) (t.extract i t.size).size = ((n : Int), (r : Int)) ∧ i + n ≤ t.size ∧ (n = 0 → (bestF (rulesOf s) t i).2 ≤ i) ∧
    (0 < n → r < (rulesOf s).length ∧ bestF (rulesOf s) t i = ((r : Int), (i : Int) + n))
structure LinesAs (s : ByteArray) : Prop where
  sound : (linesF s).2 = true
  rules : (linesF s).1.rules.length = (rulesOf s).length
  skip : (linesF s).1.skip = (rulesOf s).map Ln.skip

set_option maxRecDepth 20000 in
set_option maxHeartbeats 4000000 in
theorem munched_good (s t : ByteArray) (w : World) (hs : s.size ≤ 800) (ht : t.size ≤ 200) (hc : checkF s = (0, 0)) (hn : (rulesOf s).length ≤ 1000) (hl : LinesAs s) (hb : ∀ i, i < t.size → BestAs s t i) :
    Calls Try.prog 6 #[.string s, .string t] w fun e w' => e = .returned (.bool true) ∧ Fresh w w' := by
  have LX := hid (fun w => lex_any s t w (by unfold maxLen; omega) (by unfold maxLen; omega))
  have RI := hid (fun w => right_good s w (by omega) hc)
  have e1 : errF s t = 0 := by unfold errF; rw [if_neg (by omega), hc]
  have e2 : lexF s t = cutF (rulesOf s) t := by unfold lexF; rw [e1, if_neg (by simp)]
  rw [e2] at LX
  rw [hl.sound] at RI
  have KL := hid (fun (i : Nat) (w : World) => klongest_any s (t.extract i t.size) (rulesOf s).length w hs (by rw [ByteArray.size_extract]; omega) hn (by
    intro r n hr hn
    unfold matchF
    have : errF s ((t.extract i t.size).extract 0 n) = 0 := by
      unfold errF; rw [if_neg (by simp only [ByteArray.size_extract]; omega), hc]
    rw [this, if_neg (by simp), if_neg (by omega)]
    simp [hr]))
  have HL := hid hl
  have HBE := hid hb
  generalize hX : (linesF s).1 = X at RI
  have hXr : X.rules.length = (rulesOf s).length := by rw [← hX]; exact hl.rules
  have hXs : X.skip = (rulesOf s).map Ln.skip := by rw [← hX]; exact hl.skip
  have HXR := hid hXr
  have HXS := hid hXs
  have HN := hid hn
  generalize hM : cutF (rulesOf s) t = M at LX
  have HM : Hid (cutL (rulesOf s) t (t.size + 1) 0 [] = M) := hid hM
  have h1 : ¬ (800 : Int) < (s.size : Int) := by omega
  have h2 : ¬ (200 : Int) < (t.size : Int) := by omega
  clear e1 e2 hl hb hX hXr hXs hM hc hn
  go_enter Try.func6, Try.ntmps6
  go_wp2_with (first
    | (go_at_call 15; refine (LX.out _).mono ?_; rintro e w1 ⟨v1, rfl, hf1, ht1⟩; obtain ⟨ao, cap, hv1⟩ := own_form ht1.own; subst hv1; have HT1 := hid ht1; clear ht1)
    | (go_at_call 18; refine (RI.out _).mono ?_; rintro e w2 ⟨b, rfl, hlo, hf2⟩; have HLO := hid hlo; have HT2 := hid (HT1.out.fresh hf2); clear hlo))
  have HF0 := hid (hf1.trans hf2)
  have HMS := hid (show M.1.length ≤ 1000 ∨ True from .inr trivial)
  clear hf1 hf2
  go_loopw [13, 14, 15, 16, 17] (fun x13 x14 x15 x16 x17 wr => ∃ (f i : Nat) (toks : List Tk), x13 = .int .i64 toks.length ∧ x14 = .int .i64 i ∧ cutL (rulesOf s) t f i toks = M ∧ t.size + 1 ≤ f + i ∧ i ≤ t.size ∧ toks.length ≤ i ∧ Fresh w2 wr)
      (fun _ x _ _ _ _ => 1001 - (intOf x).toNat)
  case atStart => exact ⟨_, 0, [], rfl, rfl, HM.out, by omega, by omega, by simp, Mod.refl _ _⟩
  case round =>
    obtain ⟨f, i, toks, rfl, rfl, hM, hfu, hi, htl, hfr⟩ := hrel
    obtain ⟨f, rfl⟩ : ∃ g, f = g + 1 := ⟨f - 1, by omega⟩
    obtain ⟨v0, v1, v2, v3, v4, v5, nv, sv, hA⟩ := HLO.out
    have hA2 := hA.fresh hfr
    obtain ⟨a0, c0, hv0⟩ := own_form (hA2.at'.own 0 _ rfl)
    have hv0' : v0 = .slice a0 X.rules.length c0 := by simpa using hv0
    subst hv0'
    have k0 := hA2.cell 0
    have k1 := hA2.cell 1
    simp at k0 k1
    have HT := hid (HT2.out.fresh hfr)
    have HA := hid hA2
    have HFR := hid hfr
    clear hA hA2 hv0 hfr
    have HPre := hid (cutL_pre (rulesOf s) t (f + 1) i toks)
    unfold cutL at hM
    by_cases hlt : i < t.size
    · rw [if_pos hlt] at hM
      obtain ⟨n, r, hk, hin, hz, hp⟩ := HBE.out i hlt
      have K1 := hid (fun w => KL.out i w)
      rw [hk, ← HXR.out] at K1
      have hi0 : (0 : Int) ≤ (i : Int) := by omega
      have hi1 : (i : Int) ≤ (t.size : Int) := by omega
      have hi2 : (i : Int) < (t.size : Int) := by omega
      clear hk
      by_cases hn0 : n = 0
      · subst hn0
        rw [if_pos (hz rfl)] at hM
        subst hM
        clear hz hp
        go_wp2
        go_region_with (first
          | (go_at_call 19; refine (K1.out _).mono ?_; rintro e w3 ⟨rfl, hf3⟩))
        all_goals
          go_wp2
          go_ret
          exact ⟨by simp, HF0.out.trans (HFR.out.trans ⟨hf3.os, hf3.tape, hf3.output, hf3.size, hf3.block⟩)⟩
      · obtain ⟨hr, hbest⟩ := hp (by omega)
        rw [hbest] at hM
        simp only [] at hM
        rw [if_neg (by omega), show ((i : Int) + (n : Int)).toNat = i + n by omega] at hM
        have hskl : r < X.skip.length := by rw [HXS.out]; simpa using hr
        have hsk : skipB (rulesOf s) r = X.skip[r] := by
          have hg : X.skip[r]? = ((rulesOf s).map Ln.skip)[r]? := by rw [HXS.out]
          rw [List.getElem?_eq_getElem hskl] at hg
          unfold skipB
          rw [if_neg (by omega), Int.toNat_natCast, List.getElem?_eq_getElem hr]
          simp [hr] at hg
          exact hg.symm
        rw [hsk] at hM
        obtain ⟨g1, c1, hv1, hcs⟩ := HA.out.skip r hskl
        generalize X.skip[r] = sk at hM hcs
        have hXl : X.skip.length = (rulesOf s).length := by rw [HXS.out]; simp
        have hr1 : (r : Int) < (X.skip.length : Int) := by omega
        have hr0 : (0 : Int) ≤ (r : Int) := by omega
        subst hv1
        have hnp : (0 : Int) < (n : Int) := by omega
        have hbd : (i : Int) + n ≤ 200 := by omega
        have HME : Hid (1001 - (i + n) < 1001 - i) := hid (by omega)
        clear hz hp hbest hsk hXl
        cases sk
        · simp only [Bool.false_eq_true, if_false] at hM
          have HPr := hid (cutL_pre (rulesOf s) t f (i + n) (toks ++ [⟨r, i, (i : Int) + n⟩]))
          rw [hM] at HPr
          have HRR := hid hM
          clear hM
          by_cases hM0 : M.2.1 = 0
          · obtain ⟨l, hl⟩ := HPr.out hM0
            have hml : toks.length < M.1.length := by rw [hl]; simp
            have hmk : M.1[toks.length] = ⟨r, i, (i : Int) + n⟩ := by
              have : M.1[toks.length]? = some ⟨r, i, (i : Int) + n⟩ := by rw [hl]; simp
              rw [List.getElem?_eq_getElem hml] at this; simpa using this
            obtain ⟨gt, ct, hvt⟩ := Joins.ownsRow_form HT.out.own (by omega)
            rw [Value.slice.injEq] at hvt
            obtain ⟨rfl, _, rfl⟩ := hvt
            obtain ⟨q0, q1, q2⟩ := ToksAt.tok HT.out toks.length hml
            rw [hmk] at q0 q1 q2
            simp only [] at q0 q1 q2
            have hml1 : (toks.length : Int) < (M.1.length : Int) := by omega
            have hm1b : (M.2.1 == 0) = true := by simpa using hM0
            clear hl hmk hml hM0
            go_wp2
            go_region_with (first
              | (go_at_call 19; refine (K1.out _).mono ?_; rintro e w3 ⟨rfl, hf3⟩))
            all_goals
              have hfx : Fresh wr w3 := ⟨hf3.os, hf3.tape, hf3.output, hf3.size, hf3.block⟩
              have p1 := fcell hfx k1
              have ps := fcell hfx hcs
              have p0 := fcell hfx q0
              have pa := fcell hfx q1
              have pb := fcell hfx q2
              clear q0 q1 q2
              have HFX := hid hfx
              clear k0 k1 hcs hf3 hfx HT HA
              go_wp2
              go_roundw
              case rel =>
                exact ⟨f, i + n, toks ++ [⟨r, i, (i : Int) + n⟩], by simp, by simp, HRR.out, by omega, by omega, by simp; omega, HFR.out.trans HFX.out⟩
              case measure => have := HME.out; simp [intOf]; omega
          · have HM0 := hid hM0
            generalize hm1 : M.2.1 = m1 at hM0
            have hm1b : (m1 == 0) = false := by simpa using hM0
            clear HM0
            go_wp2
            go_region_with (first
              | (go_at_call 19; refine (K1.out _).mono ?_; rintro e w3 ⟨rfl, hf3⟩))
            all_goals
              have hfx : Fresh wr w3 := ⟨hf3.os, hf3.tape, hf3.output, hf3.size, hf3.block⟩
              have p1 := fcell hfx k1
              have ps := fcell hfx hcs
              have HFX := hid hfx
              clear k0 k1 hcs hf3 hfx HT HA
              go_wp2
              go_roundw
              case rel =>
                exact ⟨f, i + n, toks ++ [⟨r, i, (i : Int) + n⟩], by simp, by simp, HRR.out, by omega, by omega, by simp; omega, HFR.out.trans HFX.out⟩
              case measure => have := HME.out; simp [intOf]; omega
        · simp only [if_true] at hM
          have HRR := hid hM
          clear hM
          go_wp2
          go_region_with (first
            | (go_at_call 19; refine (K1.out _).mono ?_; rintro e w3 ⟨rfl, hf3⟩))
          all_goals
            have hfx : Fresh wr w3 := ⟨hf3.os, hf3.tape, hf3.output, hf3.size, hf3.block⟩
            have p1 := fcell hfx k1
            have ps := fcell hfx hcs
            have HFX := hid hfx
            clear k0 k1 hcs hf3 hfx HT HA
            go_wp2
            go_roundw
            case rel =>
              exact ⟨f, i + n, toks, by simp, by simp, HRR.out, by omega, by omega, by omega, HFR.out.trans HFX.out⟩
            case measure => have := HME.out; simp [intOf]; omega
    · rw [if_neg hlt] at hM
      subst hM
      go_wp2
      go_ret
      exact ⟨by simp, HF0.out.trans HFR.out⟩
end Go.Proofs.Ytolpddkpfigidaa
