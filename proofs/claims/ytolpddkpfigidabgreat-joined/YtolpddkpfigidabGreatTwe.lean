import Derived.Test.YtolpddkpfigidabGreatTwb
import Derived.Test.YtolpddkpfigidabGreatKp8
import Derived.Test.YtolpddkpfigidabGreatRows
import Derived.ProofKit
namespace Go.Proofs.YtolpddkpfigidabGreat
open Go.RowKit
set_option linter.unusedVariables false
set_option linter.unusedSimpArgs false

set_option maxRecDepth 20000 in
set_option maxHeartbeats 8000000 in
theorem joined_err (s t : ByteArray) (w : World) (hs : s.size ≤ maxLen) (ht : t.size ≤ maxLen) (h0 : errF s t ≠ 0) (h9 : errF s t ≠ 9) :
    Calls Tryz.prog 4 #[.string s, .string t] w fun e w' => e = .returned (.bool true) ∧ Fresh w w' := by
  have AN := hid (fun w => answers_any w)
  have RN := hid (fun w => run_any s t w hs ht)
  have LX := hid (fun w => lex_any s t w hs ht)
  have hR : runF s t = badR (errF s t) 0 := by
    unfold runF errF at *
    by_cases hl : 200 < t.size
    · rw [if_pos hl, if_pos hl]
    · rw [if_neg hl] at h0 ⊢
      rw [if_neg hl, if_pos h0]
  have hL : lexF s t = ([], errF s t, 0) := by unfold lexF; rw [if_pos h0]
  rw [hR] at RN
  rw [hL] at LX
  unfold RunRet badR at RN
  dsimp only at RN LX
  have CL : Hid (∀ w : World, ∃ n : Nat, ∃ e : Int, Calls Tryz.prog 12 #[.string s] w fun x w' => ∃ a c, x = .returned (.tuple #[.slice a n c, .int .i64 e]) ∧ Fresh w w') := fun w => by
    by_cases hc : (checkF s).1 = 0
    · refine ⟨(clashF s).length, 0, (clashes_good s w hs hc (sets_ok hc)).mono ?_⟩
      rintro e w' ⟨v, rfl, hf, ho⟩
      obtain ⟨a, c, rfl⟩ := own_form ho
      exact ⟨a, c, rfl, hf⟩
    · refine ⟨0, (checkF s).1, (clashes_bad s w hs hc).mono ?_⟩
      rintro e w' ⟨rfl, hf⟩
      exact ⟨none, 0, rfl, hf⟩
  have b0 : (errF s t != 0) = true := by simpa using h0
  have b9 : (errF s t != 9) = true := by simpa using h9
  generalize errF s t = E at RN LX b0 b9
  clear hR hL h0 h9
  go_enter Tryz.func4, Tryz.ntmps4
  go_wp2_with (first
    | (go_at_call 9; refine (AN.out _).mono ?_; rintro e w1 ⟨rfl, hf1⟩; have HF1 := hid hf1; clear hf1)
    | (go_at_call 10; have stage := HF1.out; refine (RN.out _).mono ?_; rintro e w2 ⟨vt, vn, vw, rfl, hf2, hT, hN, hW⟩; obtain ⟨ta, tc, hvt⟩ := own_form hT.own; simp only [List.length_nil] at hvt; subst hvt; obtain ⟨na, nc, hvn⟩ := own_form hN; simp only [nodesF_len, List.length_nil] at hvn; subst hvn; obtain ⟨wa, wc, hvw⟩ := own_form hW; simp only [List.length_nil] at hvw; subst hvw; have HF2 := hid (HF1.out.trans hf2); clear hf2 hT hN hW)
    | (go_at_call 11; have stage := HF2.out; refine (LX.out _).mono ?_; rintro e w3 ⟨v3, rfl, hf3, _⟩; have HF3 : Hid (Fresh w w3) := Mod.trans (HF2.out.alloc _) hf3; clear hf3)
    | (go_at_call 12; have stage := HF3.out; obtain ⟨nn, ee, hcl⟩ := CL.out _; refine hcl.mono ?_; rintro e w4 ⟨ca, cc, rfl, hf4⟩; have HF4 := hid (HF3.out.trans hf4); clear hf4))
  go_ret
  exact ⟨by simp, HF4.out⟩
end Go.Proofs.YtolpddkpfigidabGreat
namespace Go.Proofs.YtolpddkpfigidabGreat
open Go.RowKit
set_option linter.unusedVariables false
set_option linter.unusedSimpArgs false

set_option maxRecDepth 20000 in
set_option maxHeartbeats 8000000 in
theorem joined_clash (s t : ByteArray) (w : World) (hs : s.size ≤ maxLen) (ht : t.size ≤ 200) (hc : (checkF s).1 = 0) (hcl : clashF s ≠ []) :
    Calls Tryz.prog 4 #[.string s, .string t] w fun e w' => e = .returned (.bool true) ∧ Fresh w w' := by
  have htm : t.size ≤ maxLen := by unfold maxLen; omega
  have AN := hid (fun w => answers_any w)
  have RN := hid (fun w => run_any s t w hs htm)
  have LX := hid (fun w => lex_any s t w hs htm)
  have CL := hid (fun w => clashes_good s w hs hc (sets_ok hc))
  have he0 : errF s t = 0 := by unfold errF; rw [if_neg (by omega), hc]
  have hL : lexF s t = cutF (rulesOf s) t := by unfold lexF; rw [if_neg (by simp [he0])]
  have hcut := cutL_err (rulesOf s) t (t.size + 1) 0 []
  change ((cutF (rulesOf s) t).2.1 = 9 ∧ (cutF (rulesOf s) t).1 = []) ∨ ((cutF (rulesOf s) t).2.1 = 0 ∧ (cutF (rulesOf s) t).2.2 = 0) at hcut
  have hCl := cut_len s t ht
  have hR1 : runF s t = if clashF s ≠ [] then badR 8 0 else runG s t (cutF (rulesOf s) t) := by
    unfold runF
    rw [if_neg (by omega), if_neg (by simp [hc])]
  rw [hL] at LX
  unfold ClashRet at CL
  rw [hR1, if_pos hcl] at RN
  unfold RunRet badR at RN
  dsimp only at RN
  have hcp : 0 < (clashF s).length := List.length_pos_iff.2 hcl
  have HCN : Hid ((clashF s).length = (clashF s).length) := rfl
  generalize cutF (rulesOf s) t = C at LX hcut hCl
  clear hR1 hL he0 hc
  generalize clashF s = CF at CL hcl hcp HCN
  have hcp1 : (0 : Int) < (CF.length : Int) := by omega
  obtain ⟨ct, cf, ca⟩ := C
  dsimp only at hcut LX hCl
  rcases hcut with ⟨rfl, rfl⟩ | ⟨rfl, rfl⟩
  all_goals
    go_enter Tryz.func4, Tryz.ntmps4
    go_wp2_with (first
      | (go_at_call 12; have stage := HF3.out; refine (CL.out _).mono ?_; rintro e w4 ⟨v4, rfl, hf4, ho4⟩; obtain ⟨ca, cc, hv4⟩ := own_form ho4; subst hv4; have HF4 := hid (HF3.out.trans hf4); have HO4 := hid (hf4.at HO3.out (fun x => x)); have HT4 := hid (HT3.out.fresh hf4); have HX4 := hid (HX3.out.trans hf4); have o0 := cellOf HO4.out 0; have o1 := cellOf HO4.out 1; have o2 := cellOf HO4.out 2; have o3 := cellOf HO4.out 3; simp at o0 o1 o2 o3; clear ho4 hf4)
      | (go_at_call 11; have stage := HF2.out; refine (LX.out _).mono ?_; rintro e w3 ⟨v3, rfl, hf3, hT3⟩; obtain ⟨la, lc, hv3⟩ := own_form hT3.own; subst hv3; have HT3 := hid hT3; have HF3 : Hid (Fresh w w3) := Mod.trans (HF2.out.alloc _) hf3; have HO3 : Hid (w3.heap[w2.heap.size]? = some (.cells (outA (.slice ta 0 tc) (.slice na 0 nc) (.slice wa 0 wc) 0) 44 (0, 0))) := hf3.at (heap_alloc_at w2 _) (fun x => x); have HX3 : Hid (Fresh w2 w3) := Mod.trans ((Mod.refl _ w2).alloc _) hf3; clear hT3 hf3)
      | (go_at_call 10; have stage := HF1.out; refine (RN.out _).mono ?_; rintro e w2 ⟨vt, vn, vw, rfl, hf2, hT, hN, hW⟩; obtain ⟨ta, tc, hvt⟩ := own_form hT.own; obtain ⟨na, nc, hvn⟩ := own_form hN; obtain ⟨wa, wc, hvw⟩ := own_form hW; simp only [List.length_nil] at hvt; simp only [nodesF_len, List.length_nil] at hvn; simp only [List.length_nil] at hvw; subst hvt hvn hvw; have HTr := hid hT; have HNr := hid hN; have HWr := hid hW; have HF2 := hid (HF1.out.trans hf2); clear hf2 hT hN hW)
      | (go_at_call 9; refine (AN.out _).mono ?_; rintro e w1 ⟨rfl, hf1⟩; have HF1 := hid hf1; clear hf1))
    go_ret
    exact ⟨by simp, HF4.out⟩

set_option maxRecDepth 20000 in
set_option maxHeartbeats 8000000 in
theorem joined_lex (s t : ByteArray) (w : World) (hs : s.size ≤ maxLen) (ht : t.size ≤ 200) (hc : (checkF s).1 = 0) (hcl : clashF s = []) (he : (cutF (rulesOf s) t).2.1 ≠ 0) :
    Calls Tryz.prog 4 #[.string s, .string t] w fun e w' => e = .returned (.bool true) ∧ Fresh w w' := by
  have htm : t.size ≤ maxLen := by unfold maxLen; omega
  have AN := hid (fun w => answers_any w)
  have RN := hid (fun w => run_any s t w hs htm)
  have LX := hid (fun w => lex_any s t w hs htm)
  have CL := hid (fun w => clashes_good s w hs hc (sets_ok hc))
  have he0 : errF s t = 0 := by unfold errF; rw [if_neg (by omega), hc]
  have hL : lexF s t = cutF (rulesOf s) t := by unfold lexF; rw [if_neg (by simp [he0])]
  have hcut := cutL_err (rulesOf s) t (t.size + 1) 0 []
  change ((cutF (rulesOf s) t).2.1 = 9 ∧ (cutF (rulesOf s) t).1 = []) ∨ ((cutF (rulesOf s) t).2.1 = 0 ∧ (cutF (rulesOf s) t).2.2 = 0) at hcut
  have hCl := cut_len s t ht
  have hR1 : runF s t = if clashF s ≠ [] then badR 8 0 else runG s t (cutF (rulesOf s) t) := by
    unfold runF
    rw [if_neg (by omega), if_neg (by simp [hc])]
  rw [hL] at LX
  unfold ClashRet at CL
  have hrg : runG s t (cutF (rulesOf s) t) = badR (cutF (rulesOf s) t).2.1 (cutF (rulesOf s) t).2.2 := by unfold runG; rw [if_pos he]
  rw [hR1, if_neg (by simp [hcl]), hrg] at RN
  unfold RunRet badR at RN
  dsimp only at RN
  have HCN : Hid ((clashF s).length = 0) := by unfold Hid; simp [hcl]
  generalize cutF (rulesOf s) t = C at LX hcut RN he
  clear hR1 hL he0 hc hCl hrg
  generalize clashF s = CF at CL HCN
  obtain ⟨ct, cf, ca⟩ := C
  dsimp only at hcut LX RN he
  rcases hcut with ⟨rfl, rfl⟩ | ⟨rfl, rfl⟩
  · go_enter Tryz.func4, Tryz.ntmps4
    go_wp2_with (first
      | (go_at_call 12; have stage := HF3.out; refine (CL.out _).mono ?_; rintro e w4 ⟨v4, rfl, hf4, ho4⟩; obtain ⟨ca, cc, hv4⟩ := own_form ho4; rw [HCN.out] at hv4; subst hv4; have HF4 := hid (HF3.out.trans hf4); have HO4 := hid (hf4.at HO3.out (fun x => x)); have HT4 := hid (HT3.out.fresh hf4); have HX4 := hid (HX3.out.trans hf4); have o0 := cellOf HO4.out 0; have o1 := cellOf HO4.out 1; have o2 := cellOf HO4.out 2; have o3 := cellOf HO4.out 3; simp at o0 o1 o2 o3; clear ho4 hf4)
      | (go_at_call 11; have stage := HF2.out; refine (LX.out _).mono ?_; rintro e w3 ⟨v3, rfl, hf3, hT3⟩; obtain ⟨la, lc, hv3⟩ := own_form hT3.own; subst hv3; have HT3 := hid hT3; have HF3 : Hid (Fresh w w3) := Mod.trans (HF2.out.alloc _) hf3; have HO3 : Hid (w3.heap[w2.heap.size]? = some (.cells (outA (.slice ta 0 tc) (.slice na 0 nc) (.slice wa 0 wc) ca) 44 (0, 0))) := hf3.at (heap_alloc_at w2 _) (fun x => x); have HX3 : Hid (Fresh w2 w3) := Mod.trans ((Mod.refl _ w2).alloc _) hf3; clear hT3 hf3)
      | (go_at_call 10; have stage := HF1.out; refine (RN.out _).mono ?_; rintro e w2 ⟨vt, vn, vw, rfl, hf2, hT, hN, hW⟩; obtain ⟨ta, tc, hvt⟩ := own_form hT.own; obtain ⟨na, nc, hvn⟩ := own_form hN; obtain ⟨wa, wc, hvw⟩ := own_form hW; simp only [List.length_nil] at hvt; simp only [nodesF_len, List.length_nil] at hvn; simp only [List.length_nil] at hvw; subst hvt hvn hvw; have HTr := hid hT; have HNr := hid hN; have HWr := hid hW; have HF2 := hid (HF1.out.trans hf2); clear hf2 hT hN hW)
      | (go_at_call 9; refine (AN.out _).mono ?_; rintro e w1 ⟨rfl, hf1⟩; have HF1 := hid hf1; clear hf1))
    go_ret
    exact ⟨by simp, HF4.out⟩
  · exact absurd rfl he
end Go.Proofs.YtolpddkpfigidabGreat
namespace Go.Proofs.YtolpddkpfigidabGreat
open Go.RowKit
set_option linter.unusedVariables false
set_option linter.unusedSimpArgs false

theorem grwF_mono {ps : List Pr} {R H : Nat} {hs : List Hd} (h : Tab ps R H hs) : ∀ (l : List Int) (a : Nat) (k : List Sy) (st : List St), StkOk (hN hs) (hF hs) (hO hs) R k → StkIn R H k → (∀ s ∈ st, 0 ≤ s.num ∧ s.num ≤ 127) → kindsOk R l = true →
    (grwF ps hs R H l a k st).err = 0 → st.length ≤ (grwF ps hs R H l a k st).st.length
  | [], a, k, st, h1, h2, h3, _, he => by
    unfold grwF at he ⊢
    split
    · rename_i hw
      exact (h.step (Nat.le_refl _) h1 h2 h3 hw).2.2.2.2.2.2
    · rename_i hw; rw [if_neg hw] at he; cases he
  | t :: l, a, k, st, h1, h2, h3, h4, he => by
    have h5 : (0 ≤ t ∧ t < R) ∧ kindsOk R l = true := by
      unfold kindsOk at h4 ⊢
      simpa using h4
    unfold grwF at he ⊢
    split
    · rename_i hw
      rw [if_pos hw] at he
      obtain ⟨_, _, _, s4, s5, s6, s7⟩ := h.step (t := t.toNat) (by omega) h1 h2 h3 hw
      exact Nat.le_trans s7 (grwF_mono h l _ _ _ s4 s5 s6 h5.2 he)
    · rename_i hw; rw [if_neg hw] at he; cases he
theorem first_pos {ps : List Pr} {R H : Nat} {hs : List Hd} (h : Tab ps R H hs) {t : Nat} (ht : t ≤ R) (hw : (wanB hs R [⟨true, 0⟩]).getD t false = true) : 1 ≤ (gToF ps hs H t [⟨true, 0⟩] []).2.length := by
  obtain ⟨s1, _⟩ := h.step ht h.start.1 h.start.2 (st := []) (by simp) hw
  obtain ⟨f, hf⟩ : ∃ f, enough H ([⟨true, 0⟩] : List Sy).length = f + 1 := ⟨_, rfl⟩
  rw [hf, gTo, if_neg (by simp)] at s1
  split at s1
  · split at s1
    · have := gTo_len _ _ _ _ s1
      simpa using this
    · cases s1
  · cases s1
theorem grow_pos {ps : List Pr} {R H : Nat} {hs : List Hd} (h : Tab ps R H hs) (l : List Int) (hl : kindsOk R l = true) (he : (grwF ps hs R H l 0 [⟨true, 0⟩] []).err = 0) : 1 ≤ (grwF ps hs R H l 0 [⟨true, 0⟩] []).st.length := by
  cases l with
  | nil =>
    unfold grwF at he ⊢
    split
    · rename_i hw; exact first_pos h (Nat.le_refl _) hw
    · rename_i hw; rw [if_neg hw] at he; cases he
  | cons t l =>
    have h5 : (0 ≤ t ∧ t < R) ∧ kindsOk R l = true := by
      unfold kindsOk at hl ⊢
      simpa using hl
    unfold grwF at he ⊢
    split
    · rename_i hw
      rw [if_pos hw] at he
      obtain ⟨_, _, _, s4, s5, s6, s7⟩ := h.step (t := t.toNat) (by omega) h.start.1 h.start.2 (st := []) (by simp) hw
      exact Nat.le_trans (first_pos h (by omega) hw) (grwF_mono h l _ _ _ s4 s5 s6 h5.2 he)
    · rename_i hw; rw [if_neg hw] at he; cases he

theorem grwF_bd {ps : List Pr} {R H : Nat} {hs : List Hd} (h : Tab ps R H hs) : ∀ (l : List Int) (a : Nat) (k : List Sy) (st : List St), StkOk (hN hs) (hF hs) (hO hs) R k → StkIn R H k → (∀ s ∈ st, 0 ≤ s.num ∧ s.num ≤ 127) → kindsOk R l = true →
    a + l.length ≤ 60 → k.length ≤ 1 + 48 * a → st.length ≤ a * 2000000000 → (grwF ps hs R H l a k st).st.length ≤ 61 * 2000000000 ∧ (grwF ps hs R H l a k st).wanted.length ≤ 9
  | [], a, k, st, h1, h2, h3, _, h5, h6, h7 => by
    unfold grwF
    split
    · rename_i hw
      obtain ⟨_, s2, s3, _, _, _, s7⟩ := h.step (Nat.le_refl _) h1 h2 h3 hw
      simp only [List.length_nil, Nat.add_zero] at h5
      obtain ⟨_, _, q3, _⟩ := gbound h5 h6 h7 s3 s2 s7
      refine ⟨Nat.le_trans q3 (Nat.mul_le_mul_right _ (by omega)), by simp⟩
    · exact ⟨by simp, listT_len _⟩
  | t :: l, a, k, st, h1, h2, h3, h4, h5, h6, h7 => by
    have h8 : (0 ≤ t ∧ t < R) ∧ kindsOk R l = true := by
      unfold kindsOk at h4 ⊢
      simpa using h4
    simp only [List.length_cons] at h5
    unfold grwF
    split
    · rename_i hw
      obtain ⟨_, s2, s3, s4, s5, s6, s7⟩ := h.step (t := t.toNat) (by omega) h1 h2 h3 hw
      obtain ⟨_, _, q3, q4⟩ := gbound (show a ≤ 60 by omega) h6 h7 s3 s2 s7
      exact grwF_bd h l (a + 1) _ _ s4 s5 s6 h8.2 (by omega) q4 q3
    · exact ⟨by simp, listT_len _⟩
theorem grow_bd {s : ByteArray} (hc : (checkF s).1 = 0) (hcl : clashF s = []) (l : List Int) (hk : kindsOk (nR s) l = true) (hl : l.length ≤ 60) : (growS s l).st.length ≤ 61 * 2000000000 ∧ (growS s l).wanted.length ≤ 9 := by
  have hT := tab_of hc hcl
  exact grwF_bd hT l 0 _ _ hT.start.1 hT.start.2 (by simp) hk (by omega) (by simp) (by simp)
theorem grow_pos' {s : ByteArray} (hc : (checkF s).1 = 0) (hcl : clashF s = []) (l : List Int) (hk : kindsOk (nR s) l = true) (he : (growS s l).err = 0) : 1 ≤ (growS s l).st.length := grow_pos (tab_of hc hcl) l hk he
theorem parse_grow {s : ByteArray} (hc : (checkF s).1 = 0) (hcl : clashF s = []) (l : List Int) (hk : kindsOk (nR s) l = true) (hl : l.length ≤ 60) : parseF s l = growS s l := by
  unfold parseF
  rw [if_neg (by omega), if_neg (by simp [hc]), if_neg (by simp [hk]), if_neg (by simp [hcl])]

set_option maxRecDepth 20000 in
set_option maxHeartbeats 8000000 in
theorem joined_many (s t : ByteArray) (w : World) (hs : s.size ≤ maxLen) (ht : t.size ≤ 200) (hc : (checkF s).1 = 0) (hcl : clashF s = []) (he : (cutF (rulesOf s) t).2.1 = 0) (hm : 60 < (cutF (rulesOf s) t).1.length) :
    Calls Tryz.prog 4 #[.string s, .string t] w fun e w' => e = .returned (.bool true) ∧ Fresh w w' := by
  have htm : t.size ≤ maxLen := by unfold maxLen; omega
  have AN := hid (fun w => answers_any w)
  have RN := hid (fun w => run_any s t w hs htm)
  have LX := hid (fun w => lex_any s t w hs htm)
  have CL := hid (fun w => clashes_good s w hs hc (sets_ok hc))
  have he0 : errF s t = 0 := by unfold errF; rw [if_neg (by omega), hc]
  have hL : lexF s t = cutF (rulesOf s) t := by unfold lexF; rw [if_neg (by simp [he0])]
  have hcut := cutL_err (rulesOf s) t (t.size + 1) 0 []
  change ((cutF (rulesOf s) t).2.1 = 9 ∧ (cutF (rulesOf s) t).1 = []) ∨ ((cutF (rulesOf s) t).2.1 = 0 ∧ (cutF (rulesOf s) t).2.2 = 0) at hcut
  have hCl := cut_len s t ht
  have hR1 : runF s t = if clashF s ≠ [] then badR 8 0 else runG s t (cutF (rulesOf s) t) := by
    unfold runF
    rw [if_neg (by omega), if_neg (by simp [hc])]
  rw [hL] at LX
  unfold ClashRet at CL
  rw [hR1, if_neg (by simp [hcl])] at RN
  have PA := hid (fun (W : World) (vk : Value) (hk : IntAt W vk ((cutF (rulesOf s) t).1.map Tk.r)) => parse_any s ((cutF (rulesOf s) t).1.map Tk.r) vk W hs hk (by rw [List.length_map]; unfold maxLen; omega))
  have HCN : Hid ((clashF s).length = 0) := by unfold Hid; simp [hcl]
  have hkk := cut_kinds s t
  obtain ⟨i0, hi0, iz0, iz1, iz2⟩ := infoI'
  have hrg : runG s t (cutF (rulesOf s) t) = badR 1 0 := by unfold runG; rw [if_neg (by simp [he]), if_pos hm]
  have hpf : parseF s ((cutF (rulesOf s) t).1.map Tk.r) = badG 1 := by unfold parseF; rw [if_pos (by simpa using hm)]
  rw [hrg] at RN
  rw [hpf] at PA
  unfold RunRet badR at RN
  unfold ParRet badG at PA
  dsimp only at RN PA
  have hNl : (nodesF (tabF s) []).length = 0 := by rw [nodesF_len]; rfl
  have hNL : (nodesF (tabF s) []).length ≤ 10000000000000 := by rw [hNl]; omega
  have hWL : ([] : List Int).length ≤ 100000 := by simp
  generalize cutF (rulesOf s) t = C at LX hcut he hm PA hCl hkk
  clear hR1 hL he0 hc hrg hpf hcut hkk hNl
  generalize clashF s = CF at CL HCN
  obtain ⟨CT, cf, ca⟩ := C
  dsimp only at LX he hm PA hCl
  subst he
  have hTok : ([] : List Tk) = CT ∨ ([] : List Tk).length ≠ CT.length := .inr (by simp; omega)
  have hTd : decide (([] : List Tk).length = CT.length) = false := by simp; omega
  have HTok := hid hTok
  go_enter Tryz.func4, Tryz.ntmps4
  go_wp2_with (first
    | (go_at_call 12; have stage := HF3.out; refine (CL.out _).mono ?_; rintro e w4 ⟨v4, rfl, hf4, ho4⟩; obtain ⟨ca, cc, hv4⟩ := own_form ho4; rw [HCN.out] at hv4; subst hv4; have HF4 := hid (HF3.out.trans hf4); have HO4 := hid (hf4.at HO3.out (fun x => x)); have HT4 := hid (HT3.out.fresh hf4); have HX4 := hid (HX3.out.trans hf4); have o0 := cellOf HO4.out 0; have o1 := cellOf HO4.out 1; have o2 := cellOf HO4.out 2; have o3 := cellOf HO4.out 3; simp at o0 o1 o2 o3; clear ho4 hf4)
    | (go_at_call 11; have stage := HF2.out; refine (LX.out _).mono ?_; rintro e w3 ⟨v3, rfl, hf3, hT3⟩; obtain ⟨la, lc, hv3⟩ := own_form hT3.own; subst hv3; have HT3 := hid hT3; have HF3 : Hid (Fresh w w3) := Mod.trans (HF2.out.alloc _) hf3; have HO3 : Hid (w3.heap[w2.heap.size]? = some (.cells (outA (.slice ta 0 tc) (.slice na 0 nc) (.slice wa 0 wc) 0) 44 (0, 0))) := hf3.at (heap_alloc_at w2 _) (fun x => x); have HX3 : Hid (Fresh w2 w3) := Mod.trans ((Mod.refl _ w2).alloc _) hf3; clear hT3 hf3)
    | (go_at_call 10; have stage := HF1.out; refine (RN.out _).mono ?_; rintro e w2 ⟨vt, vn, vw, rfl, hf2, hT, hN, hW⟩; obtain ⟨ta, tc, hvt⟩ := own_form hT.own; obtain ⟨na, nc, hvn⟩ := own_form hN; obtain ⟨wa, wc, hvw⟩ := own_form hW; simp only [List.length_nil] at hvt; simp only [nodesF_len, List.length_nil] at hvn; simp only [List.length_nil] at hvw; subst hvt hvn hvw; have HTr := hid hT; have HNr := hid hN; have HWr := hid hW; have HF2 := hid (HF1.out.trans hf2); clear hf2 hT hN hW)
    | (go_at_call 9; refine (AN.out _).mono ?_; rintro e w1 ⟨rfl, hf1⟩; have HF1 := hid hf1; clear hf1))
  go_loopw [13, 14] (fun x13 x14 wr => ∃ (i : Nat), x14 = .int .i64 i ∧ i ≤ CT.length ∧ Fresh w4 wr ∧ IntOwn wr w4.heap.size x13 ((CT.take i).map Tk.r))
      (fun _ x _ => 1001 - (intOf x).toNat)
  case atStart => exact ⟨0, rfl, by omega, Mod.refl _ _, World.ownsRow_nil _ _ _ _⟩
  case round =>
    obtain ⟨i, rfl, hi, hfr, hown⟩ := hrel
    have HFR := hid hfr
    have HME := hid (meas (B := 1001) i (by omega))
    have HTE : Hid (i = CT.length → CT.take i = CT) := fun e => by rw [e, List.take_length]
    have HTS : Hid (∀ hlt : i < CT.length, (CT.take (i + 1)).map Tk.r = (CT.take i).map Tk.r ++ [CT[i].r]) := fun hlt => by rw [takeS hlt, List.map_append]; rfl
    have hlen : ((CT.take i).map Tk.r).length ≤ 1000 := by simp; omega
    generalize hy : (CT.take i).map Tk.r = ys at *
    have HY := hid hy
    have HO := hid hown
    obtain ⟨ro, rc, hro⟩ := own_form hown
    subst hro
    clear hown hy
    by_cases hlt : i < CT.length
    · have hi1 : (i : Int) < (CT.length : Int) := by omega
      obtain ⟨g, c', hg⟩ := Joins.ownsRow_form HT4.out.own (by omega)
      rw [Value.slice.injEq] at hg
      obtain ⟨rfl, _, rfl⟩ := hg
      have c1 : wr.cell? ⟨g, i * 3, none⟩ = some (.int .i64 CT[i].r) := (HT4.out.fresh hfr).cell i 0 hlt (by omega)
      have hTS := HTS.out hlt
      generalize CT[i].r = tr at c1 hTS
      have HTSS := hid hTS
      clear hTS hfr o0 o1 o2 o3
      go_wp2_with (first
        | (at_builtin; refine wpList_append_mine _ rfl _ _ 22 rfl w4.heap.size 3 i0 _ 1 8 Tryz.underlying22 hi0 iz0 iz1 iz2 rfl (by decide) _ _ _ rfl (HO.out.alloc _) ⟨wr.heap.size, 0, none⟩ 1 1 [.int .i64 tr] rfl rfl (new_cells rfl) (by intro u hu; simp at hu; subst hu; rfl) (by unfold maxLen; omega) (by omega) (by have h3 := HFR.out.size; simp; omega) ?_))
      intro v' w5 hown2 hgrow hblk
      have HO2 := hid hown2
      have HF5 : Hid (Fresh w4 w5) := (HFR.out.alloc _).grown hgrow (fun k hk hlt => by have := (HO.out.lt k hk).1; omega)
      obtain ⟨ro2, rc2, hro2⟩ := own_form hown2
      subst hro2
      clear hown2 hgrow hblk
      go_wp2
      go_roundw
      case rel =>
        refine ⟨i + 1, by go_num, by omega, HF5.out, ?_⟩
        rw [HTSS.out]
        show World.ownsRow _ _ _ _ _ (ys ++ [tr]).length _
        rw [List.length_append, List.length_singleton]
        have := HO2.out
        simpa [nums] using this
      case measure => exact HME.out
    · have hie : i = CT.length := by omega
      have hi2 : ¬ (i : Int) < (CT.length : Int) := by omega
      have hE := HTE.out hie
      have hys : ys = CT.map Tk.r := by rw [← HY.out, hE]
      subst hys
      have hle : (CT.map Tk.r).length = CT.length := by simp
      have HK5 : Hid (IntAt wr (.slice ro CT.length rc) (CT.map Tk.r)) := by
        have h := IntOwn.at' HO.out
        rw [hle] at h; exact h
      have HFw : Hid (Fresh w wr) := HF4.out.trans hfr
      have HOw := hid (hfr.at HO4.out (fun x => x))
      have HTw := hid (HT4.out.fresh hfr)
      have HXw := hid (HX4.out.trans hfr)
      clear hfr hE hie hlen hle HO o0 o1 o2 o3
      have o0 := cellOf HOw.out 0
      have o1 := cellOf HOw.out 1
      have o2 := cellOf HOw.out 2
      have o3 := cellOf HOw.out 3
      simp at o0 o1 o2 o3
      clear hTok
      have hTok := HTok.out
      go_wp2_with (first
        | (go_at_call 15; have stage := HF8.out; refine (same_any _ _ _ [] [] (IntOwn.at' (ownsRow_other HWr.out (fun g hg => (HX6.out.trans HX8.out).block g (HWr.out.lt g hg).2 (fun x => x)))) (IntOwn.at' (ownsRow_other HW6.out (fun g hg => HX8.out.block g (HW6.out.lt g hg).2 (fun x => x)))) hWL hWL (.inl rfl)).mono ?_; rintro e w9 ⟨rfl, hf9⟩; have HF9 := hid (HF8.out.trans hf9); have HO9 := hid (hf9.at HO8.out (fun x => x)); have HP9 := hid (hf9.at HP8.out (fun x => x)); have HT9 := hid ((HT6.out.fresh HX8.out).fresh hf9); have v0 := cellOf HO9.out 0; have v1 := cellOf HO9.out 1; have v2 := cellOf HO9.out 2; have v3 := cellOf HO9.out 3; have y0 := cellOf HP9.out 0; have y1 := cellOf HP9.out 1; have y2 := cellOf HP9.out 2; simp at v0 v1 v2 v3 y0 y1 y2; clear hf9)
        | (go_at_call 14; have stage := HF7.out; refine (sameNodes_any _ _ _ (nodesF (tabF s) []) (nodesF (tabF s) []) ⟨ownsRow_base (ownsRow_other HNr.out (fun g hg => (HX6.out.trans HX7.out).block g (HNr.out.lt g hg).2 (fun x => x))) (Nat.zero_le _), fun _ _ => rfl⟩ ⟨ownsRow_base (ownsRow_other HN6.out (fun g hg => HX7.out.block g (HN6.out.lt g hg).2 (fun x => x))) (Nat.zero_le _), fun _ _ => rfl⟩ hNL hNL (.inl rfl)).mono ?_; rintro e w8 ⟨rfl, hf8⟩; have HF8 := hid (HF7.out.trans hf8); have HX8 := hid (HX7.out.trans hf8); have HO8 := hid (hf8.at HO7.out (fun x => x)); have HP8 := hid (hf8.at HP7.out (fun x => x)); have s0 := cellOf HO8.out 0; have s1 := cellOf HO8.out 1; have s2 := cellOf HO8.out 2; have s3 := cellOf HO8.out 3; have u0 := cellOf HP8.out 0; have u1 := cellOf HP8.out 1; have u2 := cellOf HP8.out 2; simp at s0 s1 s2 s3 u0 u1 u2; clear hf8)
        | (go_at_call 13; have stage := HF6.out; refine (sameTokens_any _ _ _ ([]) CT (HTr.out.fresh (Mod.trans HX6.out ((Mod.refl _ w6).alloc _))) (HT6.out.fresh ((Mod.refl _ w6).alloc _)) (by first | exact Nat.zero_le _ | omega) (by omega) hTok).mono ?_; rintro e w7 ⟨rfl, hf7⟩; have HF7 : Hid (Fresh w w7) := Mod.trans (HF6.out.alloc _) hf7; have HX7 : Hid (Fresh w6 w7) := Mod.trans ((Mod.refl _ w6).alloc _) hf7; have HO7 := hid (hf7.at HO6.out (fun x => x)); have HP7 := hid (hf7.at (heap_alloc_at w6 _) (fun x => x)); have q0 := cellOf HO7.out 0; have q1 := cellOf HO7.out 1; have q2 := cellOf HO7.out 2; have q3 := cellOf HO7.out 3; have r0 := cellOf HP7.out 0; have r1 := cellOf HP7.out 1; have r2 := cellOf HP7.out 2; simp at q0 q1 q2 q3 r0 r1 r2; clear hf7)
        | (go_at_call 6; refine (PA.out _ _ HK5.out).mono ?_; rintro e w6 ⟨vn6, vw6, rfl, hf6, hN6, hW6⟩; obtain ⟨na6, nc6, hvn6⟩ := own_form hN6; obtain ⟨wa6, wc6, hvw6⟩ := own_form hW6; simp only [nodesF_len, List.length_nil] at hvn6; simp only [List.length_nil] at hvw6; subst hvn6 hvw6; have HN6 := hid hN6; have HW6 := hid hW6; have HF6 := hid (HFw.out.trans hf6); have HX6 := hid (HXw.out.trans hf6); have HO6 : Hid ((w6.alloc (.cells (parA (.slice na6 0 nc6) (.slice wa6 0 wc6) 0) 34 (0, 0))).heap[w2.heap.size]? = some (.cells (outA (.slice ta 0 tc) (.slice na 0 nc) (.slice wa 0 wc) 0) 44 (0, 0))) := heap_alloc_prev (hf6.at HOw.out (fun x => x)); have HT6 := hid (HTw.out.fresh hf6); have p0 := cellOf HO6.out 0; have p1 := cellOf HO6.out 1; have p2 := cellOf HO6.out 2; have p3 := cellOf HO6.out 3; simp at p0 p1 p2 p3; have hs6 := heap_lt HO6.out; clear hf6 hN6 hW6))
      go_ret
      exact ⟨rfl, HF9.out⟩
end Go.Proofs.YtolpddkpfigidabGreat
namespace Go.Proofs.YtolpddkpfigidabGreat
open Go.RowKit
set_option linter.unusedVariables false
set_option linter.unusedSimpArgs false

set_option maxRecDepth 20000 in
set_option maxHeartbeats 8000000 in
theorem joined_ok (s t : ByteArray) (w : World) (hs : s.size ≤ maxLen) (ht : t.size ≤ 200) (hc : (checkF s).1 = 0) (hcl : clashF s = []) (he : (cutF (rulesOf s) t).2.1 = 0) (hm : (cutF (rulesOf s) t).1.length ≤ 60) (hge : (growS s ((cutF (rulesOf s) t).1.map Tk.r)).err = 0) :
    Calls Tryz.prog 4 #[.string s, .string t] w fun e w' => e = .returned (.bool true) ∧ Fresh w w' := by
  have htm : t.size ≤ maxLen := by unfold maxLen; omega
  have AN := hid (fun w => answers_any w)
  have RN := hid (fun w => run_any s t w hs htm)
  have LX := hid (fun w => lex_any s t w hs htm)
  have CL := hid (fun w => clashes_good s w hs hc (sets_ok hc))
  have he0 : errF s t = 0 := by unfold errF; rw [if_neg (by omega), hc]
  have hL : lexF s t = cutF (rulesOf s) t := by unfold lexF; rw [if_neg (by simp [he0])]
  have hcut := cutL_err (rulesOf s) t (t.size + 1) 0 []
  change ((cutF (rulesOf s) t).2.1 = 9 ∧ (cutF (rulesOf s) t).1 = []) ∨ ((cutF (rulesOf s) t).2.1 = 0 ∧ (cutF (rulesOf s) t).2.2 = 0) at hcut
  have hCl := cut_len s t ht
  have hR1 : runF s t = if clashF s ≠ [] then badR 8 0 else runG s t (cutF (rulesOf s) t) := by
    unfold runF
    rw [if_neg (by omega), if_neg (by simp [hc])]
  rw [hL] at LX
  unfold ClashRet at CL
  rw [hR1, if_neg (by simp [hcl])] at RN
  have PA := hid (fun (W : World) (vk : Value) (hk : IntAt W vk ((cutF (rulesOf s) t).1.map Tk.r)) => parse_any s ((cutF (rulesOf s) t).1.map Tk.r) vk W hs hk (by rw [List.length_map]; unfold maxLen; omega))
  have HCN : Hid ((clashF s).length = 0) := by unfold Hid; simp [hcl]
  have hkk := cut_kinds s t
  obtain ⟨i0, hi0, iz0, iz1, iz2⟩ := infoI'
  have hkl : ((cutF (rulesOf s) t).1.map Tk.r).length ≤ 60 := by rw [List.length_map]; exact hm
  have hpf := parse_grow hc hcl ((cutF (rulesOf s) t).1.map Tk.r) hkk hkl
  obtain ⟨hb1, hb2⟩ := grow_bd hc hcl ((cutF (rulesOf s) t).1.map Tk.r) hkk hkl
  have hge2 := grwF_err (tabF s) (setsF s) (nR s) (nH s) ((cutF (rulesOf s) t).1.map Tk.r) 0 [⟨true, 0⟩] []
  change ((growS s ((cutF (rulesOf s) t).1.map Tk.r)).err = 0 ∧ (growS s ((cutF (rulesOf s) t).1.map Tk.r)).wanted = [] ∧ (growS s ((cutF (rulesOf s) t).1.map Tk.r)).place = 0) ∨ ((growS s ((cutF (rulesOf s) t).1.map Tk.r)).err = 10 ∧ (growS s ((cutF (rulesOf s) t).1.map Tk.r)).st = []) at hge2
  have hps := grow_pos' hc hcl ((cutF (rulesOf s) t).1.map Tk.r) hkk hge
  have hrg : runG s t (cutF (rulesOf s) t) = ⟨0, (cutF (rulesOf s) t).1, (growS s ((cutF (rulesOf s) t).1.map Tk.r)).st, [], 0⟩ := by
    unfold runG; rw [if_neg (by simp [he]), if_neg (by omega), if_neg (by simp [hge])]
  rw [hrg] at RN
  rw [hpf] at PA
  unfold RunRet at RN
  unfold ParRet at PA
  dsimp only at RN PA
  obtain ⟨g1, g2, g3⟩ : (growS s ((cutF (rulesOf s) t).1.map Tk.r)).err = 0 ∧ (growS s ((cutF (rulesOf s) t).1.map Tk.r)).wanted = [] ∧ (growS s ((cutF (rulesOf s) t).1.map Tk.r)).place = 0 := by
    rcases hge2 with h | h
    · exact h
    · rw [h.1] at hge; cases hge
  have hNl := nodesF_len (tabF s) (growS s ((cutF (rulesOf s) t).1.map Tk.r)).st
  rw [g1, g2, g3] at PA
  generalize growS s ((cutF (rulesOf s) t).1.map Tk.r) = G at RN PA hNl hb1 hps
  have hNL : (nodesF (tabF s) G.st).length ≤ 10000000000000 := by omega
  have hNp : 0 < (nodesF (tabF s) G.st).length := by omega
  have hNp1 : (0 : Int) < ((nodesF (tabF s) G.st).length : Int) := by omega
  have hWL : ([] : List Int).length ≤ 100000 := by simp
  generalize cutF (rulesOf s) t = C at LX hcut he hm PA hCl RN
  clear hR1 hL he0 hc hrg hpf hcut hkk hNl hb1 hb2 hps g1 g2 g3 hge2 hge hkl
  generalize clashF s = CF at CL HCN
  obtain ⟨CT, cf, ca⟩ := C
  dsimp only at LX he hm PA hCl RN
  subst he
  have HTok : Hid (CT = CT ∨ CT.length ≠ CT.length) := .inl rfl
  go_enter Tryz.func4, Tryz.ntmps4
  go_wp2_with (first
    | (go_at_call 12; have stage := HF3.out; refine (CL.out _).mono ?_; rintro e w4 ⟨v4, rfl, hf4, ho4⟩; obtain ⟨ca, cc, hv4⟩ := own_form ho4; rw [HCN.out] at hv4; subst hv4; have HF4 := hid (HF3.out.trans hf4); have HO4 := hid (hf4.at HO3.out (fun x => x)); have HT4 := hid (HT3.out.fresh hf4); have HX4 := hid (HX3.out.trans hf4); have o0 := cellOf HO4.out 0; have o1 := cellOf HO4.out 1; have o2 := cellOf HO4.out 2; have o3 := cellOf HO4.out 3; simp at o0 o1 o2 o3; clear ho4 hf4)
    | (go_at_call 11; have stage := HF2.out; refine (LX.out _).mono ?_; rintro e w3 ⟨v3, rfl, hf3, hT3⟩; obtain ⟨la, lc, hv3⟩ := own_form hT3.own; subst hv3; have HT3 := hid hT3; have HF3 : Hid (Fresh w w3) := Mod.trans (HF2.out.alloc _) hf3; have HO3 : Hid (w3.heap[w2.heap.size]? = some (.cells (outA (.slice ta CT.length tc) (.slice na (nodesF (tabF s) G.st).length nc) (.slice wa 0 wc) 0) 44 (0, 0))) := hf3.at (heap_alloc_at w2 _) (fun x => x); have HX3 : Hid (Fresh w2 w3) := Mod.trans ((Mod.refl _ w2).alloc _) hf3; clear hT3 hf3)
    | (go_at_call 10; have stage := HF1.out; refine (RN.out _).mono ?_; rintro e w2 ⟨vt, vn, vw, rfl, hf2, hT, hN, hW⟩; obtain ⟨ta, tc, hvt⟩ := own_form hT.own; obtain ⟨na, nc, hvn⟩ := own_form hN; obtain ⟨wa, wc, hvw⟩ := own_form hW; simp only [List.length_nil] at hvw; subst hvt hvn hvw; have HTr := hid hT; have HNr := hid hN; have HWr := hid hW; have HF2 := hid (HF1.out.trans hf2); clear hf2 hT hN hW)
    | (go_at_call 9; refine (AN.out _).mono ?_; rintro e w1 ⟨rfl, hf1⟩; have HF1 := hid hf1; clear hf1))
  go_loopw [13, 14] (fun x13 x14 wr => ∃ (i : Nat), x14 = .int .i64 i ∧ i ≤ CT.length ∧ Fresh w4 wr ∧ IntOwn wr w4.heap.size x13 ((CT.take i).map Tk.r))
      (fun _ x _ => 1001 - (intOf x).toNat)
  case atStart => exact ⟨0, rfl, by omega, Mod.refl _ _, World.ownsRow_nil _ _ _ _⟩
  case round =>
    obtain ⟨i, rfl, hi, hfr, hown⟩ := hrel
    have HFR := hid hfr
    have HME := hid (meas (B := 1001) i (by omega))
    have HTE : Hid (i = CT.length → CT.take i = CT) := fun e => by rw [e, List.take_length]
    have HTS : Hid (∀ hlt : i < CT.length, (CT.take (i + 1)).map Tk.r = (CT.take i).map Tk.r ++ [CT[i].r]) := fun hlt => by rw [takeS hlt, List.map_append]; rfl
    have hlen : ((CT.take i).map Tk.r).length ≤ 1000 := by simp; omega
    generalize hy : (CT.take i).map Tk.r = ys at *
    have HY := hid hy
    have HO := hid hown
    obtain ⟨ro, rc, hro⟩ := own_form hown
    subst hro
    clear hown hy
    by_cases hlt : i < CT.length
    · have hi1 : (i : Int) < (CT.length : Int) := by omega
      obtain ⟨g, c', hg⟩ := Joins.ownsRow_form HT4.out.own (by omega)
      rw [Value.slice.injEq] at hg
      obtain ⟨rfl, _, rfl⟩ := hg
      have c1 : wr.cell? ⟨g, i * 3, none⟩ = some (.int .i64 CT[i].r) := (HT4.out.fresh hfr).cell i 0 hlt (by omega)
      have hTS := HTS.out hlt
      generalize CT[i].r = tr at c1 hTS
      have HTSS := hid hTS
      clear hTS hfr o0 o1 o2 o3
      go_wp2_with (first
        | (at_builtin; refine wpList_append_mine _ rfl _ _ 22 rfl w4.heap.size 3 i0 _ 1 8 Tryz.underlying22 hi0 iz0 iz1 iz2 rfl (by decide) _ _ _ rfl (HO.out.alloc _) ⟨wr.heap.size, 0, none⟩ 1 1 [.int .i64 tr] rfl rfl (new_cells rfl) (by intro u hu; simp at hu; subst hu; rfl) (by unfold maxLen; omega) (by omega) (by have h3 := HFR.out.size; simp; omega) ?_))
      intro v' w5 hown2 hgrow hblk
      have HO2 := hid hown2
      have HF5 : Hid (Fresh w4 w5) := (HFR.out.alloc _).grown hgrow (fun k hk hlt => by have := (HO.out.lt k hk).1; omega)
      obtain ⟨ro2, rc2, hro2⟩ := own_form hown2
      subst hro2
      clear hown2 hgrow hblk
      go_wp2
      go_roundw
      case rel =>
        refine ⟨i + 1, by go_num, by omega, HF5.out, ?_⟩
        rw [HTSS.out]
        show World.ownsRow _ _ _ _ _ (ys ++ [tr]).length _
        rw [List.length_append, List.length_singleton]
        have := HO2.out
        simpa [nums] using this
      case measure => exact HME.out
    · have hie : i = CT.length := by omega
      have hi2 : ¬ (i : Int) < (CT.length : Int) := by omega
      have hE := HTE.out hie
      have hys : ys = CT.map Tk.r := by rw [← HY.out, hE]
      subst hys
      have hle : (CT.map Tk.r).length = CT.length := by simp
      have HK5 : Hid (IntAt wr (.slice ro CT.length rc) (CT.map Tk.r)) := by
        have h := IntOwn.at' HO.out
        rw [hle] at h; exact h
      have HFw : Hid (Fresh w wr) := HF4.out.trans hfr
      have HOw := hid (hfr.at HO4.out (fun x => x))
      have HTw := hid (HT4.out.fresh hfr)
      have HXw := hid (HX4.out.trans hfr)
      clear hfr hE hie hlen hle HO o0 o1 o2 o3
      have o0 := cellOf HOw.out 0
      have o1 := cellOf HOw.out 1
      have o2 := cellOf HOw.out 2
      have o3 := cellOf HOw.out 3
      simp at o0 o1 o2 o3
      go_wp2_with (first
        | (go_at_call 15; have stage := HF8.out; refine (same_any _ _ _ [] [] (IntOwn.at' (ownsRow_other HWr.out (fun g hg => (HX6.out.trans HX8.out).block g (HWr.out.lt g hg).2 (fun x => x)))) (IntOwn.at' (ownsRow_other HW6.out (fun g hg => HX8.out.block g (HW6.out.lt g hg).2 (fun x => x)))) hWL hWL (.inl rfl)).mono ?_; rintro e w9 ⟨rfl, hf9⟩; have HF9 := hid (HF8.out.trans hf9); have HO9 := hid (hf9.at HO8.out (fun x => x)); have HP9 := hid (hf9.at HP8.out (fun x => x)); have HT9 := hid ((HT6.out.fresh HX8.out).fresh hf9); have v0 := cellOf HO9.out 0; have v1 := cellOf HO9.out 1; have v2 := cellOf HO9.out 2; have v3 := cellOf HO9.out 3; have y0 := cellOf HP9.out 0; have y1 := cellOf HP9.out 1; have y2 := cellOf HP9.out 2; simp at v0 v1 v2 v3 y0 y1 y2; clear hf9)
        | (go_at_call 14; have stage := HF7.out; refine (sameNodes_any _ _ _ (nodesF (tabF s) G.st) (nodesF (tabF s) G.st) ⟨ownsRow_base (ownsRow_other HNr.out (fun g hg => (HX6.out.trans HX7.out).block g (HNr.out.lt g hg).2 (fun x => x))) (Nat.zero_le _), fun _ _ => rfl⟩ ⟨ownsRow_base (ownsRow_other HN6.out (fun g hg => HX7.out.block g (HN6.out.lt g hg).2 (fun x => x))) (Nat.zero_le _), fun _ _ => rfl⟩ hNL hNL (.inl rfl)).mono ?_; rintro e w8 ⟨rfl, hf8⟩; have HF8 := hid (HF7.out.trans hf8); have HX8 := hid (HX7.out.trans hf8); have HO8 := hid (hf8.at HO7.out (fun x => x)); have HP8 := hid (hf8.at HP7.out (fun x => x)); have s0 := cellOf HO8.out 0; have s1 := cellOf HO8.out 1; have s2 := cellOf HO8.out 2; have s3 := cellOf HO8.out 3; have u0 := cellOf HP8.out 0; have u1 := cellOf HP8.out 1; have u2 := cellOf HP8.out 2; simp at s0 s1 s2 s3 u0 u1 u2; clear hf8)
        | (go_at_call 13; have stage := HF6.out; refine (sameTokens_any _ _ _ (CT) CT (HTr.out.fresh (Mod.trans HX6.out ((Mod.refl _ w6).alloc _))) (HT6.out.fresh ((Mod.refl _ w6).alloc _)) (by first | exact Nat.zero_le _ | omega) (by omega) (.inl rfl)).mono ?_; rintro e w7 ⟨rfl, hf7⟩; have HF7 : Hid (Fresh w w7) := Mod.trans (HF6.out.alloc _) hf7; have HX7 : Hid (Fresh w6 w7) := Mod.trans ((Mod.refl _ w6).alloc _) hf7; have HO7 := hid (hf7.at HO6.out (fun x => x)); have HP7 := hid (hf7.at (heap_alloc_at w6 _) (fun x => x)); have q0 := cellOf HO7.out 0; have q1 := cellOf HO7.out 1; have q2 := cellOf HO7.out 2; have q3 := cellOf HO7.out 3; have r0 := cellOf HP7.out 0; have r1 := cellOf HP7.out 1; have r2 := cellOf HP7.out 2; simp at q0 q1 q2 q3 r0 r1 r2; clear hf7)
        | (go_at_call 6; refine (PA.out _ _ HK5.out).mono ?_; rintro e w6 ⟨vn6, vw6, rfl, hf6, hN6, hW6⟩; obtain ⟨na6, nc6, hvn6⟩ := own_form hN6; obtain ⟨wa6, wc6, hvw6⟩ := own_form hW6; simp only [List.length_nil] at hvw6; subst hvn6 hvw6; have HN6 := hid hN6; have HW6 := hid hW6; have HF6 := hid (HFw.out.trans hf6); have HX6 := hid (HXw.out.trans hf6); have HO6 : Hid ((w6.alloc (.cells (parA (.slice na6 (nodesF (tabF s) G.st).length nc6) (.slice wa6 0 wc6) 0) 34 (0, 0))).heap[w2.heap.size]? = some (.cells (outA (.slice ta CT.length tc) (.slice na (nodesF (tabF s) G.st).length nc) (.slice wa 0 wc) 0) 44 (0, 0))) := heap_alloc_prev (hf6.at HOw.out (fun x => x)); have HT6 := hid (HTw.out.fresh hf6); have p0 := cellOf HO6.out 0; have p1 := cellOf HO6.out 1; have p2 := cellOf HO6.out 2; have p3 := cellOf HO6.out 3; simp at p0 p1 p2 p3; have hs6 := heap_lt HO6.out; clear hf6 hN6 hW6))
      go_ret
      exact ⟨rfl, HF9.out⟩
end Go.Proofs.YtolpddkpfigidabGreat
namespace Go.Proofs.YtolpddkpfigidabGreat
open Go.RowKit
set_option linter.unusedVariables false
set_option linter.unusedSimpArgs false

set_option maxRecDepth 20000 in
set_option maxHeartbeats 8000000 in
theorem joined_syn (s t : ByteArray) (w : World) (hs : s.size ≤ maxLen) (ht : t.size ≤ 200) (hc : (checkF s).1 = 0) (hcl : clashF s = []) (he : (cutF (rulesOf s) t).2.1 = 0) (hm : (cutF (rulesOf s) t).1.length ≤ 60) (hge : (growS s ((cutF (rulesOf s) t).1.map Tk.r)).err ≠ 0) :
    Calls Tryz.prog 4 #[.string s, .string t] w fun e w' => e = .returned (.bool true) ∧ Fresh w w' := by
  have htm : t.size ≤ maxLen := by unfold maxLen; omega
  have AN := hid (fun w => answers_any w)
  have RN := hid (fun w => run_any s t w hs htm)
  have LX := hid (fun w => lex_any s t w hs htm)
  have CL := hid (fun w => clashes_good s w hs hc (sets_ok hc))
  have he0 : errF s t = 0 := by unfold errF; rw [if_neg (by omega), hc]
  have hL : lexF s t = cutF (rulesOf s) t := by unfold lexF; rw [if_neg (by simp [he0])]
  have hcut := cutL_err (rulesOf s) t (t.size + 1) 0 []
  change ((cutF (rulesOf s) t).2.1 = 9 ∧ (cutF (rulesOf s) t).1 = []) ∨ ((cutF (rulesOf s) t).2.1 = 0 ∧ (cutF (rulesOf s) t).2.2 = 0) at hcut
  have hCl := cut_len s t ht
  have hR1 : runF s t = if clashF s ≠ [] then badR 8 0 else runG s t (cutF (rulesOf s) t) := by
    unfold runF
    rw [if_neg (by omega), if_neg (by simp [hc])]
  rw [hL] at LX
  unfold ClashRet at CL
  rw [hR1, if_neg (by simp [hcl])] at RN
  have PA := hid (fun (W : World) (vk : Value) (hk : IntAt W vk ((cutF (rulesOf s) t).1.map Tk.r)) => parse_any s ((cutF (rulesOf s) t).1.map Tk.r) vk W hs hk (by rw [List.length_map]; unfold maxLen; omega))
  have HCN : Hid ((clashF s).length = 0) := by unfold Hid; simp [hcl]
  have hkk := cut_kinds s t
  obtain ⟨i0, hi0, iz0, iz1, iz2⟩ := infoI'
  have hkl : ((cutF (rulesOf s) t).1.map Tk.r).length ≤ 60 := by rw [List.length_map]; exact hm
  have hpf := parse_grow hc hcl ((cutF (rulesOf s) t).1.map Tk.r) hkk hkl
  obtain ⟨hb1, hb2⟩ := grow_bd hc hcl ((cutF (rulesOf s) t).1.map Tk.r) hkk hkl
  have hge2 := grwF_err (tabF s) (setsF s) (nR s) (nH s) ((cutF (rulesOf s) t).1.map Tk.r) 0 [⟨true, 0⟩] []
  change ((growS s ((cutF (rulesOf s) t).1.map Tk.r)).err = 0 ∧ (growS s ((cutF (rulesOf s) t).1.map Tk.r)).wanted = [] ∧ (growS s ((cutF (rulesOf s) t).1.map Tk.r)).place = 0) ∨ ((growS s ((cutF (rulesOf s) t).1.map Tk.r)).err = 10 ∧ (growS s ((cutF (rulesOf s) t).1.map Tk.r)).st = []) at hge2
  have hrg : runG s t (cutF (rulesOf s) t) = ⟨(growS s ((cutF (rulesOf s) t).1.map Tk.r)).err, [], [], (growS s ((cutF (rulesOf s) t).1.map Tk.r)).wanted, placeF (cutF (rulesOf s) t).1 (growS s ((cutF (rulesOf s) t).1.map Tk.r)).place t.size⟩ := by
    unfold runG; rw [if_neg (by simp [he]), if_neg (by omega), if_pos hge]
  rw [hrg] at RN
  rw [hpf] at PA
  unfold RunRet at RN
  unfold ParRet at PA
  dsimp only at RN PA
  obtain ⟨g1, g2⟩ : (growS s ((cutF (rulesOf s) t).1.map Tk.r)).err = 10 ∧ (growS s ((cutF (rulesOf s) t).1.map Tk.r)).st = [] := by
    rcases hge2 with h | h
    · exact absurd h.1 hge
    · exact h
  rw [g1, g2] at PA
  rw [g1] at RN
  generalize growS s ((cutF (rulesOf s) t).1.map Tk.r) = G at RN PA hb2
  have hNl : (nodesF (tabF s) []).length = 0 := by rw [nodesF_len]; rfl
  have hNL : (nodesF (tabF s) []).length ≤ 10000000000000 := by rw [hNl]; omega
  have hWL : G.wanted.length ≤ 100000 := by omega
  generalize cutF (rulesOf s) t = C at LX hcut he hm PA hCl RN
  clear hR1 hL he0 hc hrg hpf hcut hkk hb1 hb2 g1 g2 hge2 hge hkl hNl
  generalize clashF s = CF at CL HCN
  obtain ⟨CT, cf, ca⟩ := C
  dsimp only at LX he hm PA hCl RN
  subst he
  have HTok : Hid (([] : List Tk) = CT ∨ ([] : List Tk).length ≠ CT.length) := by
    unfold Hid
    cases CT with
    | nil => exact .inl rfl
    | cons a l => exact .inr (by simp)
  generalize G.wanted = WL at RN PA hWL
  generalize G.place = gp at RN PA
  generalize hPL : placeF CT (gp : Int) t.size = PL at RN
  by_cases hgp : gp < CT.length
  · have hPE : PL = CT[gp].a := by
      rw [← hPL]; unfold placeF; rw [if_neg (by omega), Int.toNat_natCast, List.getElem?_eq_getElem hgp]
    have HPE := hid hPE
    have hgp1 : (gp : Int) < (CT.length : Int) := by omega
    clear hPL hPE
    go_enter Tryz.func4, Tryz.ntmps4
    go_wp2_with (first
      | (go_at_call 12; have stage := HF3.out; refine (CL.out _).mono ?_; rintro e w4 ⟨v4, rfl, hf4, ho4⟩; obtain ⟨ca, cc, hv4⟩ := own_form ho4; rw [HCN.out] at hv4; subst hv4; have HF4 := hid (HF3.out.trans hf4); have HO4 := hid (hf4.at HO3.out (fun x => x)); have HT4 := hid (HT3.out.fresh hf4); have HX4 := hid (HX3.out.trans hf4); have o0 := cellOf HO4.out 0; have o1 := cellOf HO4.out 1; have o2 := cellOf HO4.out 2; have o3 := cellOf HO4.out 3; simp at o0 o1 o2 o3; clear ho4 hf4)
      | (go_at_call 11; have stage := HF2.out; refine (LX.out _).mono ?_; rintro e w3 ⟨v3, rfl, hf3, hT3⟩; obtain ⟨la, lc, hv3⟩ := own_form hT3.own; subst hv3; have HT3 := hid hT3; have HF3 : Hid (Fresh w w3) := Mod.trans (HF2.out.alloc _) hf3; have HO3 : Hid (w3.heap[w2.heap.size]? = some (.cells (outA (.slice ta 0 tc) (.slice na 0 nc) (.slice wa WL.length wc) PL) 44 (0, 0))) := hf3.at (heap_alloc_at w2 _) (fun x => x); have HX3 : Hid (Fresh w2 w3) := Mod.trans ((Mod.refl _ w2).alloc _) hf3; clear hT3 hf3)
      | (go_at_call 10; have stage := HF1.out; refine (RN.out _).mono ?_; rintro e w2 ⟨vt, vn, vw, rfl, hf2, hT, hN, hW⟩; obtain ⟨ta, tc, hvt⟩ := own_form hT.own; obtain ⟨na, nc, hvn⟩ := own_form hN; obtain ⟨wa, wc, hvw⟩ := own_form hW; simp only [List.length_nil] at hvt; simp only [nodesF_len, List.length_nil] at hvn; subst hvt hvn hvw; have HTr := hid hT; have HNr := hid hN; have HWr := hid hW; have HF2 := hid (HF1.out.trans hf2); clear hf2 hT hN hW)
      | (go_at_call 9; refine (AN.out _).mono ?_; rintro e w1 ⟨rfl, hf1⟩; have HF1 := hid hf1; clear hf1))
    go_loopw [13, 14] (fun x13 x14 wr => ∃ (i : Nat), x14 = .int .i64 i ∧ i ≤ CT.length ∧ Fresh w4 wr ∧ IntOwn wr w4.heap.size x13 ((CT.take i).map Tk.r))
        (fun _ x _ => 1001 - (intOf x).toNat)
    case atStart => exact ⟨0, rfl, by omega, Mod.refl _ _, World.ownsRow_nil _ _ _ _⟩
    case round =>
      obtain ⟨i, rfl, hi, hfr, hown⟩ := hrel
      have HFR := hid hfr
      have HME := hid (meas (B := 1001) i (by omega))
      have HTE : Hid (i = CT.length → CT.take i = CT) := fun e => by rw [e, List.take_length]
      have HTS : Hid (∀ hlt : i < CT.length, (CT.take (i + 1)).map Tk.r = (CT.take i).map Tk.r ++ [CT[i].r]) := fun hlt => by rw [takeS hlt, List.map_append]; rfl
      have hlen : ((CT.take i).map Tk.r).length ≤ 1000 := by simp; omega
      generalize hy : (CT.take i).map Tk.r = ys at *
      have HY := hid hy
      have HO := hid hown
      obtain ⟨ro, rc, hro⟩ := own_form hown
      subst hro
      clear hown hy
      by_cases hlt : i < CT.length
      · have hi1 : (i : Int) < (CT.length : Int) := by omega
        obtain ⟨g, c', hg⟩ := Joins.ownsRow_form HT4.out.own (by omega)
        rw [Value.slice.injEq] at hg
        obtain ⟨rfl, _, rfl⟩ := hg
        have c1 : wr.cell? ⟨g, i * 3, none⟩ = some (.int .i64 CT[i].r) := (HT4.out.fresh hfr).cell i 0 hlt (by omega)
        have hTS := HTS.out hlt
        generalize CT[i].r = tr at c1 hTS
        have HTSS := hid hTS
        clear hTS hfr o0 o1 o2 o3
        go_wp2_with (first
          | (at_builtin; refine wpList_append_mine _ rfl _ _ 22 rfl w4.heap.size 3 i0 _ 1 8 Tryz.underlying22 hi0 iz0 iz1 iz2 rfl (by decide) _ _ _ rfl (HO.out.alloc _) ⟨wr.heap.size, 0, none⟩ 1 1 [.int .i64 tr] rfl rfl (new_cells rfl) (by intro u hu; simp at hu; subst hu; rfl) (by unfold maxLen; omega) (by omega) (by have h3 := HFR.out.size; simp; omega) ?_))
        intro v' w5 hown2 hgrow hblk
        have HO2 := hid hown2
        have HF5 : Hid (Fresh w4 w5) := (HFR.out.alloc _).grown hgrow (fun k hk hlt => by have := (HO.out.lt k hk).1; omega)
        obtain ⟨ro2, rc2, hro2⟩ := own_form hown2
        subst hro2
        clear hown2 hgrow hblk
        go_wp2
        go_roundw
        case rel =>
          refine ⟨i + 1, by go_num, by omega, HF5.out, ?_⟩
          rw [HTSS.out]
          show World.ownsRow _ _ _ _ _ (ys ++ [tr]).length _
          rw [List.length_append, List.length_singleton]
          have := HO2.out
          simpa [nums] using this
        case measure => exact HME.out
      · have hie : i = CT.length := by omega
        have hi2 : ¬ (i : Int) < (CT.length : Int) := by omega
        have hE := HTE.out hie
        have hys : ys = CT.map Tk.r := by rw [← HY.out, hE]
        subst hys
        have hle : (CT.map Tk.r).length = CT.length := by simp
        have HK5 : Hid (IntAt wr (.slice ro CT.length rc) (CT.map Tk.r)) := by
          have h := IntOwn.at' HO.out
          rw [hle] at h; exact h
        have HFw : Hid (Fresh w wr) := HF4.out.trans hfr
        have HOw := hid (hfr.at HO4.out (fun x => x))
        have HTw := hid (HT4.out.fresh hfr)
        have HXw := hid (HX4.out.trans hfr)
        clear hfr hE hie hlen hle HO o0 o1 o2 o3
        have o0 := cellOf HOw.out 0
        have o1 := cellOf HOw.out 1
        have o2 := cellOf HOw.out 2
        have o3 := cellOf HOw.out 3
        simp at o0 o1 o2 o3
        go_wp2_with (first
          | (go_at_call 15; have stage := HF8.out; refine (same_any _ _ _ WL WL (IntOwn.at' (ownsRow_other HWr.out (fun g hg => (HX6.out.trans HX8.out).block g (HWr.out.lt g hg).2 (fun x => x)))) (IntOwn.at' (ownsRow_other HW6.out (fun g hg => HX8.out.block g (HW6.out.lt g hg).2 (fun x => x)))) hWL hWL (.inl rfl)).mono ?_; rintro e w9 ⟨rfl, hf9⟩; have HF9 := hid (HF8.out.trans hf9); have HO9 := hid (hf9.at HO8.out (fun x => x)); have HP9 := hid (hf9.at HP8.out (fun x => x)); have HT9 := hid ((HT6.out.fresh HX8.out).fresh hf9); obtain ⟨g9, c9', hg9⟩ := Joins.ownsRow_form HT9.out.own (by omega); rw [Value.slice.injEq] at hg9; obtain ⟨hg9a, _, _⟩ := hg9; subst hg9a; have x9 : w9.cell? ⟨g9, gp * 3 + 1, none⟩ = some (.int .i64 CT[gp].a) := HT9.out.cell gp 1 hgp (by omega); rw [← HPE.out] at x9; have v0 := cellOf HO9.out 0; have v1 := cellOf HO9.out 1; have v2 := cellOf HO9.out 2; have v3 := cellOf HO9.out 3; have y0 := cellOf HP9.out 0; have y1 := cellOf HP9.out 1; have y2 := cellOf HP9.out 2; simp at v0 v1 v2 v3 y0 y1 y2; clear hf9)
          | (go_at_call 14; have stage := HF7.out; refine (sameNodes_any _ _ _ (nodesF (tabF s) []) (nodesF (tabF s) []) ⟨ownsRow_base (ownsRow_other HNr.out (fun g hg => (HX6.out.trans HX7.out).block g (HNr.out.lt g hg).2 (fun x => x))) (Nat.zero_le _), fun _ _ => rfl⟩ ⟨ownsRow_base (ownsRow_other HN6.out (fun g hg => HX7.out.block g (HN6.out.lt g hg).2 (fun x => x))) (Nat.zero_le _), fun _ _ => rfl⟩ hNL hNL (.inl rfl)).mono ?_; rintro e w8 ⟨rfl, hf8⟩; have HF8 := hid (HF7.out.trans hf8); have HX8 := hid (HX7.out.trans hf8); have HO8 := hid (hf8.at HO7.out (fun x => x)); have HP8 := hid (hf8.at HP7.out (fun x => x)); have s0 := cellOf HO8.out 0; have s1 := cellOf HO8.out 1; have s2 := cellOf HO8.out 2; have s3 := cellOf HO8.out 3; have u0 := cellOf HP8.out 0; have u1 := cellOf HP8.out 1; have u2 := cellOf HP8.out 2; simp at s0 s1 s2 s3 u0 u1 u2; clear hf8)
          | (go_at_call 13; have stage := HF6.out; refine (sameTokens_any _ _ _ ([]) CT (HTr.out.fresh (Mod.trans HX6.out ((Mod.refl _ w6).alloc _))) (HT6.out.fresh ((Mod.refl _ w6).alloc _)) (by first | exact Nat.zero_le _ | omega) (by omega) HTok.out).mono ?_; rintro e w7 ⟨rfl, hf7⟩; have HF7 : Hid (Fresh w w7) := Mod.trans (HF6.out.alloc _) hf7; have HX7 : Hid (Fresh w6 w7) := Mod.trans ((Mod.refl _ w6).alloc _) hf7; have HO7 := hid (hf7.at HO6.out (fun x => x)); have HP7 := hid (hf7.at (heap_alloc_at w6 _) (fun x => x)); have q0 := cellOf HO7.out 0; have q1 := cellOf HO7.out 1; have q2 := cellOf HO7.out 2; have q3 := cellOf HO7.out 3; have r0 := cellOf HP7.out 0; have r1 := cellOf HP7.out 1; have r2 := cellOf HP7.out 2; simp at q0 q1 q2 q3 r0 r1 r2; clear hf7)
          | (go_at_call 6; refine (PA.out _ _ HK5.out).mono ?_; rintro e w6 ⟨vn6, vw6, rfl, hf6, hN6, hW6⟩; obtain ⟨na6, nc6, hvn6⟩ := own_form hN6; obtain ⟨wa6, wc6, hvw6⟩ := own_form hW6; simp only [nodesF_len, List.length_nil] at hvn6; subst hvn6 hvw6; have HN6 := hid hN6; have HW6 := hid hW6; have HF6 := hid (HFw.out.trans hf6); have HX6 := hid (HXw.out.trans hf6); have HO6 : Hid ((w6.alloc (.cells (parA (.slice na6 0 nc6) (.slice wa6 WL.length wc6) (gp : Nat)) 34 (0, 0))).heap[w2.heap.size]? = some (.cells (outA (.slice ta 0 tc) (.slice na 0 nc) (.slice wa WL.length wc) PL) 44 (0, 0))) := heap_alloc_prev (hf6.at HOw.out (fun x => x)); have HT6 := hid (HTw.out.fresh hf6); have p0 := cellOf HO6.out 0; have p1 := cellOf HO6.out 1; have p2 := cellOf HO6.out 2; have p3 := cellOf HO6.out 3; simp at p0 p1 p2 p3; have hs6 := heap_lt HO6.out; clear hf6 hN6 hW6))
        go_ret
        exact ⟨rfl, HF9.out⟩
  · have hPE : PL = t.size := by
      rw [← hPL]; unfold placeF; rw [if_neg (by omega), Int.toNat_natCast, List.getElem?_eq_none (by omega)]
    subst hPE
    have hgp1 : ¬ (gp : Int) < (CT.length : Int) := by omega
    clear hPL
    go_enter Tryz.func4, Tryz.ntmps4
    go_wp2_with (first
      | (go_at_call 12; have stage := HF3.out; refine (CL.out _).mono ?_; rintro e w4 ⟨v4, rfl, hf4, ho4⟩; obtain ⟨ca, cc, hv4⟩ := own_form ho4; rw [HCN.out] at hv4; subst hv4; have HF4 := hid (HF3.out.trans hf4); have HO4 := hid (hf4.at HO3.out (fun x => x)); have HT4 := hid (HT3.out.fresh hf4); have HX4 := hid (HX3.out.trans hf4); have o0 := cellOf HO4.out 0; have o1 := cellOf HO4.out 1; have o2 := cellOf HO4.out 2; have o3 := cellOf HO4.out 3; simp at o0 o1 o2 o3; clear ho4 hf4)
      | (go_at_call 11; have stage := HF2.out; refine (LX.out _).mono ?_; rintro e w3 ⟨v3, rfl, hf3, hT3⟩; obtain ⟨la, lc, hv3⟩ := own_form hT3.own; subst hv3; have HT3 := hid hT3; have HF3 : Hid (Fresh w w3) := Mod.trans (HF2.out.alloc _) hf3; have HO3 : Hid (w3.heap[w2.heap.size]? = some (.cells (outA (.slice ta 0 tc) (.slice na 0 nc) (.slice wa WL.length wc) t.size) 44 (0, 0))) := hf3.at (heap_alloc_at w2 _) (fun x => x); have HX3 : Hid (Fresh w2 w3) := Mod.trans ((Mod.refl _ w2).alloc _) hf3; clear hT3 hf3)
      | (go_at_call 10; have stage := HF1.out; refine (RN.out _).mono ?_; rintro e w2 ⟨vt, vn, vw, rfl, hf2, hT, hN, hW⟩; obtain ⟨ta, tc, hvt⟩ := own_form hT.own; obtain ⟨na, nc, hvn⟩ := own_form hN; obtain ⟨wa, wc, hvw⟩ := own_form hW; simp only [List.length_nil] at hvt; simp only [nodesF_len, List.length_nil] at hvn; subst hvt hvn hvw; have HTr := hid hT; have HNr := hid hN; have HWr := hid hW; have HF2 := hid (HF1.out.trans hf2); clear hf2 hT hN hW)
      | (go_at_call 9; refine (AN.out _).mono ?_; rintro e w1 ⟨rfl, hf1⟩; have HF1 := hid hf1; clear hf1))
    go_loopw [13, 14] (fun x13 x14 wr => ∃ (i : Nat), x14 = .int .i64 i ∧ i ≤ CT.length ∧ Fresh w4 wr ∧ IntOwn wr w4.heap.size x13 ((CT.take i).map Tk.r))
        (fun _ x _ => 1001 - (intOf x).toNat)
    case atStart => exact ⟨0, rfl, by omega, Mod.refl _ _, World.ownsRow_nil _ _ _ _⟩
    case round =>
      obtain ⟨i, rfl, hi, hfr, hown⟩ := hrel
      have HFR := hid hfr
      have HME := hid (meas (B := 1001) i (by omega))
      have HTE : Hid (i = CT.length → CT.take i = CT) := fun e => by rw [e, List.take_length]
      have HTS : Hid (∀ hlt : i < CT.length, (CT.take (i + 1)).map Tk.r = (CT.take i).map Tk.r ++ [CT[i].r]) := fun hlt => by rw [takeS hlt, List.map_append]; rfl
      have hlen : ((CT.take i).map Tk.r).length ≤ 1000 := by simp; omega
      generalize hy : (CT.take i).map Tk.r = ys at *
      have HY := hid hy
      have HO := hid hown
      obtain ⟨ro, rc, hro⟩ := own_form hown
      subst hro
      clear hown hy
      by_cases hlt : i < CT.length
      · have hi1 : (i : Int) < (CT.length : Int) := by omega
        obtain ⟨g, c', hg⟩ := Joins.ownsRow_form HT4.out.own (by omega)
        rw [Value.slice.injEq] at hg
        obtain ⟨rfl, _, rfl⟩ := hg
        have c1 : wr.cell? ⟨g, i * 3, none⟩ = some (.int .i64 CT[i].r) := (HT4.out.fresh hfr).cell i 0 hlt (by omega)
        have hTS := HTS.out hlt
        generalize CT[i].r = tr at c1 hTS
        have HTSS := hid hTS
        clear hTS hfr o0 o1 o2 o3
        go_wp2_with (first
          | (at_builtin; refine wpList_append_mine _ rfl _ _ 22 rfl w4.heap.size 3 i0 _ 1 8 Tryz.underlying22 hi0 iz0 iz1 iz2 rfl (by decide) _ _ _ rfl (HO.out.alloc _) ⟨wr.heap.size, 0, none⟩ 1 1 [.int .i64 tr] rfl rfl (new_cells rfl) (by intro u hu; simp at hu; subst hu; rfl) (by unfold maxLen; omega) (by omega) (by have h3 := HFR.out.size; simp; omega) ?_))
        intro v' w5 hown2 hgrow hblk
        have HO2 := hid hown2
        have HF5 : Hid (Fresh w4 w5) := (HFR.out.alloc _).grown hgrow (fun k hk hlt => by have := (HO.out.lt k hk).1; omega)
        obtain ⟨ro2, rc2, hro2⟩ := own_form hown2
        subst hro2
        clear hown2 hgrow hblk
        go_wp2
        go_roundw
        case rel =>
          refine ⟨i + 1, by go_num, by omega, HF5.out, ?_⟩
          rw [HTSS.out]
          show World.ownsRow _ _ _ _ _ (ys ++ [tr]).length _
          rw [List.length_append, List.length_singleton]
          have := HO2.out
          simpa [nums] using this
        case measure => exact HME.out
      · have hie : i = CT.length := by omega
        have hi2 : ¬ (i : Int) < (CT.length : Int) := by omega
        have hE := HTE.out hie
        have hys : ys = CT.map Tk.r := by rw [← HY.out, hE]
        subst hys
        have hle : (CT.map Tk.r).length = CT.length := by simp
        have HK5 : Hid (IntAt wr (.slice ro CT.length rc) (CT.map Tk.r)) := by
          have h := IntOwn.at' HO.out
          rw [hle] at h; exact h
        have HFw : Hid (Fresh w wr) := HF4.out.trans hfr
        have HOw := hid (hfr.at HO4.out (fun x => x))
        have HTw := hid (HT4.out.fresh hfr)
        have HXw := hid (HX4.out.trans hfr)
        clear hfr hE hie hlen hle HO o0 o1 o2 o3
        have o0 := cellOf HOw.out 0
        have o1 := cellOf HOw.out 1
        have o2 := cellOf HOw.out 2
        have o3 := cellOf HOw.out 3
        simp at o0 o1 o2 o3
        go_wp2_with (first
          | (go_at_call 15; have stage := HF8.out; refine (same_any _ _ _ WL WL (IntOwn.at' (ownsRow_other HWr.out (fun g hg => (HX6.out.trans HX8.out).block g (HWr.out.lt g hg).2 (fun x => x)))) (IntOwn.at' (ownsRow_other HW6.out (fun g hg => HX8.out.block g (HW6.out.lt g hg).2 (fun x => x)))) hWL hWL (.inl rfl)).mono ?_; rintro e w9 ⟨rfl, hf9⟩; have HF9 := hid (HF8.out.trans hf9); have HO9 := hid (hf9.at HO8.out (fun x => x)); have HP9 := hid (hf9.at HP8.out (fun x => x)); have HT9 := hid ((HT6.out.fresh HX8.out).fresh hf9); have v0 := cellOf HO9.out 0; have v1 := cellOf HO9.out 1; have v2 := cellOf HO9.out 2; have v3 := cellOf HO9.out 3; have y0 := cellOf HP9.out 0; have y1 := cellOf HP9.out 1; have y2 := cellOf HP9.out 2; simp at v0 v1 v2 v3 y0 y1 y2; clear hf9)
          | (go_at_call 14; have stage := HF7.out; refine (sameNodes_any _ _ _ (nodesF (tabF s) []) (nodesF (tabF s) []) ⟨ownsRow_base (ownsRow_other HNr.out (fun g hg => (HX6.out.trans HX7.out).block g (HNr.out.lt g hg).2 (fun x => x))) (Nat.zero_le _), fun _ _ => rfl⟩ ⟨ownsRow_base (ownsRow_other HN6.out (fun g hg => HX7.out.block g (HN6.out.lt g hg).2 (fun x => x))) (Nat.zero_le _), fun _ _ => rfl⟩ hNL hNL (.inl rfl)).mono ?_; rintro e w8 ⟨rfl, hf8⟩; have HF8 := hid (HF7.out.trans hf8); have HX8 := hid (HX7.out.trans hf8); have HO8 := hid (hf8.at HO7.out (fun x => x)); have HP8 := hid (hf8.at HP7.out (fun x => x)); have s0 := cellOf HO8.out 0; have s1 := cellOf HO8.out 1; have s2 := cellOf HO8.out 2; have s3 := cellOf HO8.out 3; have u0 := cellOf HP8.out 0; have u1 := cellOf HP8.out 1; have u2 := cellOf HP8.out 2; simp at s0 s1 s2 s3 u0 u1 u2; clear hf8)
          | (go_at_call 13; have stage := HF6.out; refine (sameTokens_any _ _ _ ([]) CT (HTr.out.fresh (Mod.trans HX6.out ((Mod.refl _ w6).alloc _))) (HT6.out.fresh ((Mod.refl _ w6).alloc _)) (by first | exact Nat.zero_le _ | omega) (by omega) HTok.out).mono ?_; rintro e w7 ⟨rfl, hf7⟩; have HF7 : Hid (Fresh w w7) := Mod.trans (HF6.out.alloc _) hf7; have HX7 : Hid (Fresh w6 w7) := Mod.trans ((Mod.refl _ w6).alloc _) hf7; have HO7 := hid (hf7.at HO6.out (fun x => x)); have HP7 := hid (hf7.at (heap_alloc_at w6 _) (fun x => x)); have q0 := cellOf HO7.out 0; have q1 := cellOf HO7.out 1; have q2 := cellOf HO7.out 2; have q3 := cellOf HO7.out 3; have r0 := cellOf HP7.out 0; have r1 := cellOf HP7.out 1; have r2 := cellOf HP7.out 2; simp at q0 q1 q2 q3 r0 r1 r2; clear hf7)
          | (go_at_call 6; refine (PA.out _ _ HK5.out).mono ?_; rintro e w6 ⟨vn6, vw6, rfl, hf6, hN6, hW6⟩; obtain ⟨na6, nc6, hvn6⟩ := own_form hN6; obtain ⟨wa6, wc6, hvw6⟩ := own_form hW6; simp only [nodesF_len, List.length_nil] at hvn6; subst hvn6 hvw6; have HN6 := hid hN6; have HW6 := hid hW6; have HF6 := hid (HFw.out.trans hf6); have HX6 := hid (HXw.out.trans hf6); have HO6 : Hid ((w6.alloc (.cells (parA (.slice na6 0 nc6) (.slice wa6 WL.length wc6) (gp : Nat)) 34 (0, 0))).heap[w2.heap.size]? = some (.cells (outA (.slice ta 0 tc) (.slice na 0 nc) (.slice wa WL.length wc) t.size) 44 (0, 0))) := heap_alloc_prev (hf6.at HOw.out (fun x => x)); have HT6 := hid (HTw.out.fresh hf6); have p0 := cellOf HO6.out 0; have p1 := cellOf HO6.out 1; have p2 := cellOf HO6.out 2; have p3 := cellOf HO6.out 3; simp at p0 p1 p2 p3; have hs6 := heap_lt HO6.out; clear hf6 hN6 hW6))
        go_ret
        exact ⟨rfl, HF9.out⟩

theorem check_not9 (s : ByteArray) : (checkF s).1 ≠ 9 := by
  unfold checkF
  repeat' split
  all_goals simp
theorem joined_any (s t : ByteArray) (w : World) (hs : s.size ≤ maxLen) (ht : t.size ≤ maxLen) :
    Calls Tryz.prog 4 #[.string s, .string t] w fun e w' => e = .returned (.bool true) ∧ Fresh w w' := by
  by_cases h0 : errF s t = 0
  · have hl : t.size ≤ 200 := by
      by_cases h : 200 < t.size
      · unfold errF at h0; rw [if_pos h] at h0; cases h0
      · omega
    have hc : (checkF s).1 = 0 := by unfold errF at h0; rw [if_neg (by omega)] at h0; exact h0
    by_cases hcl : clashF s = []
    · by_cases he : (cutF (rulesOf s) t).2.1 = 0
      · by_cases hm : 60 < (cutF (rulesOf s) t).1.length
        · exact joined_many s t w hs hl hc hcl he hm
        · by_cases hge : (growS s ((cutF (rulesOf s) t).1.map Tk.r)).err = 0
          · exact joined_ok s t w hs hl hc hcl he (by omega) hge
          · exact joined_syn s t w hs hl hc hcl he (by omega) hge
      · exact joined_lex s t w hs hl hc hcl he
    · exact joined_clash s t w hs hl hc hcl
  · refine joined_err s t w hs ht h0 ?_
    unfold errF
    split
    · omega
    · exact check_not9 s
end Go.Proofs.YtolpddkpfigidabGreat
namespace Go.Proofs.YtolpddkpfigidabGreat
open Go.ChangeShapes Go.WideShapes Go.ChangeAt Go.RowKit
open Go.ChangeMaps (open_string shut_string)
set_option linter.unusedVariables false
set_option linter.unusedSimpArgs false

theorem Tryz.own : ownKnob Tryz.prog.godebug = none := by kernel_rfl
theorem Tryz.laidOut : laidOutB Tryz.prog = true := by kernel_rfl

set_option maxRecDepth 100000 in
theorem joined_lifted (os : Os) (started : os.Started) (H : Type) (enc : TypeId × Value → H) :
    ReturnsInHanded {} Tryz.checked os 4 .any (Rows.joinedSpec.pre6 enc Tryz.prog Tryz.f4 Rows.joinedRow.domain false) (Rows.joinedSpec.post enc Tryz.prog Tryz.f4 false true false false) := by
  refine returnsInHanded_of_change (C := Tryz.checked) Tryz.own started (by kernel_rfl) Tryz.func4
    (ChangeSpec.witness6 (enc := enc) (C := Tryz.checked) false ⟨#[], #[.string ⟨#[]⟩, .string ⟨#[]⟩], []⟩ 8 (by kernel_rfl) (by kernel_rfl) (by kernel_rfl) (by kernel_rfl)) ?_
  intro W base args ds gs before hval0 hW hcnd _
  have hval : ∀ (j : Nat) t v, Tryz.f4.params[j]? = some t → args[j]? = some v → Value.okWide Tryz.prog W .any base t v := hval0
  have hW' := hW
  obtain ⟨p, q, hA0, hV, rfl, hfz, hnd⟩ := hW
  have hA : DataW.TrodAll enc Tryz.prog W 0 (fun _ => true) true Tryz.f4.params.toList args.toList ds p := hA0
  rw [Tryz.params4] at hA hval
  obtain ⟨v0, v1, d0, d1, p0, p1, rfl, rfl, rfl, h0, h1⟩ := trodAll_two hA
  obtain ⟨rfl, rfl⟩ := trodVars_none hV
  obtain ⟨s, rfl, rfl, rfl, ws⟩ := open_string Tryz.underlying9 (hval 0 9 v0 rfl rfl) h0
  obtain ⟨t, rfl, rfl, rfl, wt⟩ := open_string Tryz.underlying9 (hval 1 9 v1 rfl rfl) h1
  clear hA0 hval0
  simp only [List.append_nil] at hW'
  refine (joined_any s t W ws wt).mono fun e W' ⟨he, hF⟩ => ?_
  subst he
  have hB := hF.below
  refine ⟨_, rfl, _, _, _, [], [], [], hW', ?_, ?_, ?_, hB.frame _, fun h => by cases h⟩
  · exact trodAll_mk1 (shut_bool Tryz.underlying4 true)
  · exact trodAll_mk2 (shut_string Tryz.underlying9 ws) (shut_string Tryz.underlying9 wt)
  · trivial

theorem joined_holds : Rows.JoinedSaid :=
  OpenClaim.holds_of_wide 4 Tryz.f4 rfl rfl rfl rfl rfl rfl rfl ⟨rfl, rfl, rfl, rfl, rfl⟩ rfl rfl rfl rfl rfl (by kernel_rfl) Tryz.func4 (by kernel_rfl)
    (of_decide_eq_true (by kernel_rfl)) (by unfold Func.isWrapper; first | (rw [if_pos (by decide +kernel)]; kernel_rfl) | (rw [if_neg (by decide +kernel)]; exact ⟨rfl, rfl⟩))
    (fun os started H enc _ => joined_lifted os started H enc)
#print axioms joined_holds
end Go.Proofs.YtolpddkpfigidabGreat
