import Derived.Test.YtakkooidejdfkaaRt4
import Derived.Test.YtakkooidejdfkaaTwb
import Derived.Test.YtakkooidejdfkaaKc8
import Derived.Test.YtakkooidejdfkaaTwe
import Derived.Test.YtakkooidejdfkaaRows
import Derived.ProofKit
import Derived.OpenShut
import Derived.ShutString
import Derived.ChangeOld
import Derived.Below
namespace Go.Proofs.Ytakkooidejdfkaa
open Go.RowKit
set_option linter.unusedVariables false
set_option linter.unusedSimpArgs false

set_option maxRecDepth 20000 in
set_option maxHeartbeats 4000000 in
theorem free_good (s : ByteArray) (w : World) (hc : checkF s = (0, 0)) :
    Calls Try.prog 4 #[.string s] w fun e w' => ∃ b, e = .returned (.tuple #[bptr b, .bool (decide ((clashF s).length = 0)), .bool true]) ∧ LOX w' b (linesF s).1 ∧ Fresh w w' := by
  obtain ⟨h1, _, _, _, _⟩ := check_parts hc
  have hc0 : (checkF s).1 = 0 := by rw [hc]
  have RG := hid (fun w => right_good s w h1 hc)
  have hsm : s.size ≤ maxLen := by unfold maxLen; omega
  have CG := hid (fun w => clashes_good s w hsm hc0 (sets_ok hc0))
  unfold ClashRet at CG
  have hso : (linesF s).2 = true := (linesAs hc).sound
  rw [hso] at RG
  generalize clashF s = CF at CG
  generalize (linesF s).1 = LN at RG
  have hl : CF.length ≤ CF.length := Nat.le_refl _
  clear hso hc hc0
  by_cases h0 : CF.length = 0
  · have hd : decide (CF.length = 0) = true := by simpa using h0
    rw [hd]
    have HC0 := hid h0
    clear h0 hd
    go_enter Try.func4, Try.ntmps4
    go_wp2_with (first
      | (go_at_call 8; refine (RG.out _).mono ?_; rintro e w1 ⟨b, rfl, hx, hf1⟩; have HX := hid hx; have HF1 := hid hf1; clear hx hf1)
      | (go_at_call 9; have stage := HF1.out; refine (CG.out _).mono ?_; rintro e w2 ⟨v, rfl, hf2, ho⟩; obtain ⟨ca, cc, hv⟩ := own_form ho; rw [HC0.out] at hv; subst hv; have HF2 := hid hf2; clear ho hf2))
    go_ret3
    obtain ⟨v0, v1, v2, v3, v4, v5, nv, sv, hLA⟩ := HX.out
    exact ⟨b, rfl, ⟨v0, v1, v2, v3, v4, v5, nv, sv, hLA.fresh HF2.out⟩, HF1.out.trans HF2.out⟩
  · have hd : decide (CF.length = 0) = false := by simpa using h0
    rw [hd]
    have hp : (CF.length == 0) = false := by simpa using h0
    have hp1 : ((CF.length : Int) == 0) = false := by rw [beq_eq_false_iff_ne]; omega
    clear hd
    go_enter Try.func4, Try.ntmps4
    go_wp2_with (first
      | (go_at_call 8; refine (RG.out _).mono ?_; rintro e w1 ⟨b, rfl, hx, hf1⟩; have HX := hid hx; have HF1 := hid hf1; clear hx hf1)
      | (go_at_call 9; have stage := HF1.out; refine (CG.out _).mono ?_; rintro e w2 ⟨v, rfl, hf2, ho⟩; obtain ⟨ca, cc, hv⟩ := own_form ho; subst hv; have HF2 := hid hf2; clear ho hf2))
    go_ret3
    obtain ⟨v0, v1, v2, v3, v4, v5, nv, sv, hLA⟩ := HX.out
    exact ⟨b, rfl, ⟨v0, v1, v2, v3, v4, v5, nv, sv, hLA.fresh HF2.out⟩, HF1.out.trans HF2.out⟩

set_option maxRecDepth 20000 in
set_option maxHeartbeats 4000000 in
theorem free_bad (s : ByteArray) (w : World) (hs : s.size ≤ maxLen) (hc : (checkF s).1 ≠ 0) :
    Calls Try.prog 4 #[.string s] w fun e w' => e = .returned (.tuple #[.pointer none, .bool false, .bool true]) ∧ Fresh w w' := by
  have RB := hid (fun w => right_bad s w hs hc)
  clear hc
  go_enter Try.func4, Try.ntmps4
  go_wp2_with (first
    | (go_at_call 8; refine (RB.out _).mono ?_; rintro e w1 ⟨rfl, hf1⟩; have HF1 := hid hf1; clear hf1))
  go_ret3
  exact ⟨rfl, HF1.out⟩
end Go.Proofs.Ytakkooidejdfkaa
namespace Go.Proofs.Ytakkooidejdfkaa
open Go.RowKit
set_option linter.unusedVariables false
set_option linter.unusedSimpArgs false

theorem free_any (s : ByteArray) (w : World) (hs : s.size ≤ maxLen) :
    Calls Try.prog 4 #[.string s] w fun e w' => ∃ v b, e = .returned (.tuple #[v, .bool b, .bool true]) ∧ Fresh w w' := by
  by_cases hc : (checkF s).1 = 0
  · exact (free_good s w (check_zero hc)).mono fun e w' ⟨b, h1, _, h3⟩ => ⟨_, _, h1, h3⟩
  · exact (free_bad s w hs hc).mono fun e w' ⟨h1, h3⟩ => ⟨_, _, h1, h3⟩

set_option maxRecDepth 20000 in
set_option maxHeartbeats 4000000 in
theorem rooted_long (s : ByteArray) (kinds : List Int) (vk : Value) (w : World) (hs : s.size ≤ maxLen) (hk : IntAt w vk kinds) (hl : 60 < kinds.length) (hm : kinds.length ≤ maxLen) :
    Calls Try.prog 3 #[.string s, vk] w fun e w' => e = .returned (.bool true) ∧ Fresh w w' := by
  have FA := hid (fun w => free_any s w hs)
  have PA := hid (fun W (hk : IntAt W vk kinds) => parse_long s kinds vk W hk hl hm)
  have HK := hid hk
  obtain ⟨ka, kc, rfl, hkc, _⟩ := hk
  unfold ParRet at PA
  have hl1 : (60 : Int) < (kinds.length : Int) := by omega
  unfold maxLen at hs hm
  by_cases h8 : 800 < s.size
  · have h81 : (800 : Int) < (s.size : Int) := by omega
    go_enter Try.func3, Try.ntmps3
    go_wp2_with (first
      | (go_at_call 4; refine (FA.out _).mono ?_; rintro e w1 ⟨vx, vb, rfl, hf1⟩; have HF1 := hid hf1; clear hf1)
      | (go_at_call 5; refine (PA.out _ (HK.out.fresh HF1.out)).mono ?_; rintro e w2 ⟨vn, vw, rfl, hf2, hN, hW⟩; obtain ⟨na, nc, hvn⟩ := own_form hN; obtain ⟨wa, wc, hvw⟩ := own_form hW; simp only [badG, nodesF_len, List.length_nil] at hvn hvw; subst hvn hvw; dsimp only [badG]; have HF2 := hid (HF1.out.trans hf2); clear hf2 hN hW))
    go_ret
    exact ⟨rfl, HF2.out.alloc _⟩
  · have h81 : ¬ (800 : Int) < (s.size : Int) := by omega
    go_enter Try.func3, Try.ntmps3
    go_wp2_with (first
      | (go_at_call 4; refine (FA.out _).mono ?_; rintro e w1 ⟨vx, vb, rfl, hf1⟩; have HF1 := hid hf1; clear hf1)
      | (go_at_call 5; refine (PA.out _ (HK.out.fresh HF1.out)).mono ?_; rintro e w2 ⟨vn, vw, rfl, hf2, hN, hW⟩; obtain ⟨na, nc, hvn⟩ := own_form hN; obtain ⟨wa, wc, hvw⟩ := own_form hW; simp only [badG, nodesF_len, List.length_nil] at hvn hvw; subst hvn hvw; dsimp only [badG]; have HF2 := hid (HF1.out.trans hf2); clear hf2 hN hW))
    go_ret
    exact ⟨rfl, HF2.out.alloc _⟩

set_option maxRecDepth 20000 in
set_option maxHeartbeats 4000000 in
theorem rooted_bad (s : ByteArray) (kinds : List Int) (vk : Value) (w : World) (hs : s.size ≤ maxLen) (hk : IntAt w vk kinds) (hl : kinds.length ≤ 60) (hc : (checkF s).1 ≠ 0) :
    Calls Try.prog 3 #[.string s, vk] w fun e w' => e = .returned (.bool true) ∧ Fresh w w' := by
  have FA := hid (fun w => free_bad s w hs hc)
  have PA := hid (fun W (hk : IntAt W vk kinds) => parse_bad s kinds vk W hs hk hl hc)
  have CK := hid (fun W => check_any s W hs)
  have HK := hid hk
  obtain ⟨ka, kc, rfl, hkc, _⟩ := hk
  unfold ParRet at PA
  have hl1 : ¬ (60 : Int) < (kinds.length : Int) := by omega
  have hE1 : 800 < s.size → (checkF s).1 = 1 := fun h => by unfold checkF; rw [if_pos h]
  unfold maxLen at hs
  by_cases h8 : 800 < s.size
  · have h81 : (800 : Int) < (s.size : Int) := by omega
    rw [hE1 h8] at PA
    clear hE1 hc CK
    go_enter Try.func3, Try.ntmps3
    go_wp2_with (first
      | (go_at_call 4; refine (FA.out _).mono ?_; rintro e w1 ⟨rfl, hf1⟩; have HF1 := hid hf1; clear hf1)
      | (go_at_call 5; refine (PA.out _ (HK.out.fresh HF1.out)).mono ?_; rintro e w2 ⟨vn, vw, rfl, hf2, hN, hW⟩; obtain ⟨na, nc, hvn⟩ := own_form hN; obtain ⟨wa, wc, hvw⟩ := own_form hW; simp only [badG, nodesF_len, List.length_nil] at hvn hvw; subst hvn hvw; dsimp only [badG]; have HF2 := hid (HF1.out.trans hf2); clear hf2 hN hW))
    go_ret
    exact ⟨rfl, HF2.out.alloc _⟩
  · have h81 : ¬ (800 : Int) < (s.size : Int) := by omega
    have c0 : ((checkF s).1 != 0) = true := by simpa using hc
    have c1 : ((checkF s).1 == 0) = false := by simpa using hc
    clear hE1 hc
    generalize (checkF s).1 = E at PA c0 c1 CK
    generalize (checkF s).2 = E2 at CK
    go_enter Try.func3, Try.ntmps3
    go_wp2_with (first
      | (go_at_call 4; refine (FA.out _).mono ?_; rintro e w1 ⟨rfl, hf1⟩; have HF1 := hid hf1; clear hf1)
      | (go_at_call 6; have stage := HF2.out; refine (CK.out _).mono ?_; rintro e w3 ⟨rfl, hf3⟩; have HF3 := hid (Mod.trans (HF2.out.alloc _) hf3); clear hf3)
      | (go_at_call 5; refine (PA.out _ (HK.out.fresh HF1.out)).mono ?_; rintro e w2 ⟨vn, vw, rfl, hf2, hN, hW⟩; obtain ⟨na, nc, hvn⟩ := own_form hN; obtain ⟨wa, wc, hvw⟩ := own_form hW; simp only [badG, nodesF_len, List.length_nil] at hvn hvw; subst hvn hvw; dsimp only [badG]; have HF2 := hid (HF1.out.trans hf2); clear hf2 hN hW))
    go_ret
    exact ⟨by simp, HF3.out⟩
end Go.Proofs.Ytakkooidejdfkaa
namespace Go.Proofs.Ytakkooidejdfkaa
open Go.RowKit
set_option linter.unusedVariables false
set_option linter.unusedSimpArgs false

theorem LOX.ru {w : World} {b : Nat} {x : LO} (h : LOX w b x) : ∃ a c, w.cell? ⟨b, 0, none⟩ = some (.slice a x.rules.length c) := by
  obtain ⟨v0, v1, v2, v3, v4, v5, nv, sv, h⟩ := h
  have o0 : w.ownsRow (b + 1) 9 1 v0 x.rules.length (strs x.rules) := by have := h.at'.own 0 _ rfl; simpa using this
  obtain ⟨a0, c0, e0⟩ := own_form o0
  subst e0
  exact ⟨a0, c0, by have := h.cell 0; simpa using this⟩
theorem LOX.fresh {w w' : World} {b : Nat} {x : LO} (h : LOX w b x) (hf : Fresh w w') : LOX w' b x := by
  obtain ⟨v0, v1, v2, v3, v4, v5, nv, sv, h⟩ := h
  exact ⟨v0, v1, v2, v3, v4, v5, nv, sv, h.fresh hf⟩

set_option maxRecDepth 20000 in
set_option maxHeartbeats 4000000 in
theorem rooted_arg (s : ByteArray) (kinds : List Int) (vk : Value) (w : World) (hs : s.size ≤ maxLen) (hk : IntAt w vk kinds) (hl : kinds.length ≤ 60) (hc : (checkF s).1 = 0) (hb : kindsOk (nR s) kinds = false) :
    Calls Try.prog 3 #[.string s, vk] w fun e w' => e = .returned (.bool true) ∧ Fresh w w' := by
  have hc2 := check_zero hc
  have FG := hid (fun w => free_good s w hc2)
  have PA := hid (fun W (hk : IntAt W vk kinds) => parse_good s kinds vk W hs hk hl hc)
  have CK := hid (fun W => check_any s W hs)
  rw [hc2] at CK
  have hP : parseF s kinds = badG 7 := by unfold parseF; rw [if_neg (by omega), if_neg (by simp [hc]), if_pos hb]
  rw [hP] at PA
  obtain ⟨h81, _⟩ := check_parts hc2
  have hR : (linesF s).1.rules.length = nR s := (lines_table hc2).1
  rw [← hR] at hb
  have HK := hid hk
  have HB := hid hb
  obtain ⟨ka, kc, rfl, hkc, _⟩ := hk
  unfold ParRet at PA
  generalize decide ((clashF s).length = 0) = cb at FG
  generalize (linesF s).1 = LN at FG HB
  have hl1 : ¬ (60 : Int) < (kinds.length : Int) := by omega
  have h82 : ¬ (800 : Int) < (s.size : Int) := by omega
  clear hP hc hc2 hR hb
  go_enter Try.func3, Try.ntmps3
  go_wp2_with (first
    | (go_at_call 4; refine (FG.out _).mono ?_; rintro e w1 ⟨b, rfl, hx, hf1⟩; have HX1 := hid hx; have HF1 := hid hf1; clear hx hf1)
    | (go_at_call 6; have stage := HF2.out; refine (CK.out _).mono ?_; rintro e w3 ⟨rfl, hf3⟩; have HF3 := hid (Mod.trans (HF2.out.alloc _) hf3); have HX3 := hid (HX2.out.fresh (Mod.trans ((Mod.refl _ w2).alloc _) hf3)); clear hf3)
    | (go_at_call 5; refine (PA.out _ (HK.out.fresh HF1.out)).mono ?_; rintro e w2 ⟨vn, vw, rfl, hf2, hN, hW⟩; obtain ⟨na, nc, hvn⟩ := own_form hN; obtain ⟨wa, wc, hvw⟩ := own_form hW; simp only [badG, nodesF_len, List.length_nil] at hvn hvw; subst hvn hvw; dsimp only [badG]; have HF2 := hid (HF1.out.trans hf2); have HX2 := hid (HX1.out.fresh hf2); clear hf2 hN hW))
  go_loopw [12] (fun x12 wr => ∃ (i : Nat), x12 = .int .i64 i ∧ i ≤ kinds.length ∧ kindsOk LN.rules.length (kinds.drop i) = false ∧ Fresh w3 wr)
      (fun x _ => 1001 - (intOf x).toNat)
  case atStart => exact ⟨0, rfl, by omega, HB.out, Mod.refl _ _⟩
  case round =>
    obtain ⟨i, rfl, hi, hres, hfr⟩ := hrel
    have HFR := hid hfr
    have HME := hid (meas (B := 1001) i (by omega))
    by_cases hlt : i < kinds.length
    · have hi1 : (i : Int) < (kinds.length : Int) := by omega
      unfold kindsOk at hres
      rw [List.drop_eq_getElem_cons hlt, List.all_cons] at hres
      obtain ⟨ra, rc, hrc⟩ := (HX3.out.fresh hfr).ru
      obtain ⟨ka', kc', hve, _, hcell⟩ := (HK.out.fresh HF3.out).fresh hfr
      rw [Value.slice.injEq] at hve
      obtain ⟨rfl, _, rfl⟩ := hve
      obtain ⟨g, o, rfl, c1⟩ := hcell i hlt
      clear hcell
      generalize kinds[i] = li at hres c1
      generalize LN.rules.length = R at hres hrc
      by_cases h0 : 0 ≤ li
      · by_cases h1 : li < R
        · rw [decide_eq_true h0, decide_eq_true h1] at hres
          have HRES := hid hres
          clear hres hfr
          go_wp2_with fail
          go_quiet (fail)
          have HU1 : Hid (Fresh wr (wr.drewN nq)) := fdrewN' wr nq
          generalize wr.drewN nq = U1 at HU1 ⊢
          go_wp2
          go_roundw
          case rel => exact ⟨i + 1, by go_num, by omega, HRES.out, HFR.out.trans HU1.out⟩
          case measure => exact HME.out
        · clear hres hfr
          go_wp2_with fail
          go_quiet (fail)
          have HU1 : Hid (Fresh wr (wr.drewN nq)) := fdrewN' wr nq
          generalize wr.drewN nq = U1 at HU1 ⊢
          go_wp2
          go_ret
          exact ⟨rfl, HF3.out.trans (HFR.out.trans HU1.out)⟩
      · clear hres hfr
        go_wp2_with fail
        go_quiet (fail)
        have HU1 : Hid (Fresh wr (wr.drewN nq)) := fdrewN' wr nq
        generalize wr.drewN nq = U1 at HU1 ⊢
        go_wp2
        go_ret
        exact ⟨rfl, HF3.out.trans (HFR.out.trans HU1.out)⟩
    · have hie : i = kinds.length := by omega
      rw [hie, List.drop_length] at hres
      cases hres
end Go.Proofs.Ytakkooidejdfkaa
namespace Go.Proofs.Ytakkooidejdfkaa
open Go.RowKit
set_option linter.unusedVariables false
set_option linter.unusedSimpArgs false

set_option maxRecDepth 20000 in
set_option maxHeartbeats 4000000 in
theorem rooted_clash (s : ByteArray) (kinds : List Int) (vk : Value) (w : World) (hs : s.size ≤ maxLen) (hk : IntAt w vk kinds) (hl : kinds.length ≤ 60) (hc : (checkF s).1 = 0) (hb : kindsOk (nR s) kinds = true) (hcl : clashF s ≠ []) :
    Calls Try.prog 3 #[.string s, vk] w fun e w' => e = .returned (.bool true) ∧ Fresh w w' := by
  have hc2 := check_zero hc
  have FG := hid (fun w => free_good s w hc2)
  have PA := hid (fun W (hk : IntAt W vk kinds) => parse_good s kinds vk W hs hk hl hc)
  have CK := hid (fun W => check_any s W hs)
  rw [hc2] at CK
  have hP : parseF s kinds = badG 8 := by unfold parseF; rw [if_neg (by omega), if_neg (by simp [hc]), if_neg (by simp [hb]), if_pos hcl]
  have hd : decide ((clashF s).length = 0) = false := by simpa using hcl
  rw [hP] at PA
  rw [hd] at FG
  unfold ParRet at PA
  dsimp only [badG] at PA
  clear hP hd
  obtain ⟨h81, _⟩ := check_parts hc2
  have hR : (linesF s).1.rules.length = nR s := (lines_table hc2).1
  rw [← hR] at hb
  have HK := hid hk
  have HB := hid hb
  obtain ⟨ka, kc, rfl, hkc, _⟩ := hk
  generalize (linesF s).1 = LN at FG HB
  have hl1 : ¬ (60 : Int) < (kinds.length : Int) := by omega
  have h82 : ¬ (800 : Int) < (s.size : Int) := by omega
  clear hc hc2 hR hb
  go_enter Try.func3, Try.ntmps3
  go_wp2_with (first
    | (go_at_call 4; refine (FG.out _).mono ?_; rintro e w1 ⟨b, rfl, hx, hf1⟩; have HX1 := hid hx; have HF1 := hid hf1; clear hx hf1)
    | (go_at_call 6; have stage := HF2.out; refine (CK.out _).mono ?_; rintro e w3 ⟨rfl, hf3⟩; have HF3 := hid (Mod.trans (HF2.out.alloc _) hf3); have HX3 := hid (HX2.out.fresh (Mod.trans ((Mod.refl _ w2).alloc _) hf3)); clear hf3)
    | (go_at_call 5; refine (PA.out _ (HK.out.fresh HF1.out)).mono ?_; rintro e w2 ⟨vn, vw, rfl, hf2, hN, hW⟩; obtain ⟨na, nc, hvn⟩ := own_form hN; obtain ⟨wa, wc, hvw⟩ := own_form hW; simp only [nodesF_len, List.length_nil] at hvn hvw; subst hvn hvw; have HF2 := hid (HF1.out.trans hf2); have HX2 := hid (HX1.out.fresh hf2); clear hf2 hN hW))
  go_loopw [12] (fun x12 wr => ∃ (i : Nat), x12 = .int .i64 i ∧ i ≤ kinds.length ∧ kindsOk LN.rules.length (kinds.drop i) = true ∧ Fresh w3 wr)
      (fun x _ => 1001 - (intOf x).toNat)
  case atStart => exact ⟨0, rfl, by omega, HB.out, Mod.refl _ _⟩
  case round =>
    obtain ⟨i, rfl, hi, hres, hfr⟩ := hrel
    have HFR := hid hfr
    have HME := hid (meas (B := 1001) i (by omega))
    by_cases hlt : i < kinds.length
    · have hi1 : (i : Int) < (kinds.length : Int) := by omega
      unfold kindsOk at hres
      rw [List.drop_eq_getElem_cons hlt, List.all_cons, Bool.and_eq_true, Bool.and_eq_true, decide_eq_true_eq, decide_eq_true_eq] at hres
      obtain ⟨ra, rc, hrc⟩ := (HX3.out.fresh hfr).ru
      obtain ⟨ka', kc', hve, _, hcell⟩ := (HK.out.fresh HF3.out).fresh hfr
      rw [Value.slice.injEq] at hve
      obtain ⟨rfl, _, rfl⟩ := hve
      obtain ⟨g, o, rfl, c1⟩ := hcell i hlt
      clear hcell
      obtain ⟨⟨h0, h1⟩, hres⟩ := hres
      generalize kinds[i] = li at h0 h1 c1
      generalize LN.rules.length = R at hres hrc h1
      have HRES := hid hres
      clear hres hfr
      go_wp2_with fail
      go_quiet (fail)
      have HU1 : Hid (Fresh wr (wr.drewN nq)) := fdrewN' wr nq
      generalize wr.drewN nq = U1 at HU1 ⊢
      go_wp2
      go_roundw
      case rel => exact ⟨i + 1, by go_num, by omega, HRES.out, HFR.out.trans HU1.out⟩
      case measure => exact HME.out
    · have hie : i = kinds.length := by omega
      have hi2 : ¬ (i : Int) < (kinds.length : Int) := by omega
      clear hres hfr
      go_wp2
      go_ret
      exact ⟨rfl, HF3.out.trans HFR.out⟩

set_option maxRecDepth 20000 in
set_option maxHeartbeats 4000000 in
theorem rooted_syn (s : ByteArray) (kinds : List Int) (vk : Value) (w : World) (hs : s.size ≤ maxLen) (hk : IntAt w vk kinds) (hl : kinds.length ≤ 60) (hc : (checkF s).1 = 0) (hb : kindsOk (nR s) kinds = true) (hcl : clashF s = []) (he : (growS s kinds).err ≠ 0) :
    Calls Try.prog 3 #[.string s, vk] w fun e w' => e = .returned (.bool true) ∧ Fresh w w' := by
  have hc2 := check_zero hc
  have FG := hid (fun w => free_good s w hc2)
  have PA := hid (fun W (hk : IntAt W vk kinds) => parse_good s kinds vk W hs hk hl hc)
  have CK := hid (fun W => check_any s W hs)
  rw [hc2] at CK
  have hP : parseF s kinds = growS s kinds := by unfold parseF; rw [if_neg (by omega), if_neg (by simp [hc]), if_neg (by simp [hb]), if_neg (by simp [hcl])]
  have hd : decide ((clashF s).length = 0) = true := by simpa using hcl
  rw [hP] at PA
  rw [hd] at FG
  unfold ParRet at PA
  obtain ⟨g1, g2⟩ : (growS s kinds).err = 10 ∧ (growS s kinds).st = [] := by
    rcases grwF_err (tabF s) (setsF s) (nR s) (nH s) kinds 0 [⟨true, 0⟩] [] with h | h
    · exact absurd h.1 he
    · exact h
  rw [g1, g2] at PA
  clear he
  generalize growS s kinds = G at PA g1 g2
  generalize G.wanted = WL at PA
  generalize G.place = gp at PA
  clear hP hd g1 g2
  obtain ⟨h81, _⟩ := check_parts hc2
  have hR : (linesF s).1.rules.length = nR s := (lines_table hc2).1
  rw [← hR] at hb
  have HK := hid hk
  have HB := hid hb
  obtain ⟨ka, kc, rfl, hkc, _⟩ := hk
  generalize (linesF s).1 = LN at FG HB
  have hl1 : ¬ (60 : Int) < (kinds.length : Int) := by omega
  have h82 : ¬ (800 : Int) < (s.size : Int) := by omega
  clear hc hc2 hR hb
  go_enter Try.func3, Try.ntmps3
  go_wp2_with (first
    | (go_at_call 4; refine (FG.out _).mono ?_; rintro e w1 ⟨b, rfl, hx, hf1⟩; have HX1 := hid hx; have HF1 := hid hf1; clear hx hf1)
    | (go_at_call 6; have stage := HF2.out; refine (CK.out _).mono ?_; rintro e w3 ⟨rfl, hf3⟩; have HF3 := hid (Mod.trans (HF2.out.alloc _) hf3); have HX3 := hid (HX2.out.fresh (Mod.trans ((Mod.refl _ w2).alloc _) hf3)); clear hf3)
    | (go_at_call 5; refine (PA.out _ (HK.out.fresh HF1.out)).mono ?_; rintro e w2 ⟨vn, vw, rfl, hf2, hN, hW⟩; obtain ⟨na, nc, hvn⟩ := own_form hN; obtain ⟨wa, wc, hvw⟩ := own_form hW; simp only [nodesF_len, List.length_nil] at hvn; subst hvn hvw; have HF2 := hid (HF1.out.trans hf2); have HX2 := hid (HX1.out.fresh hf2); clear hf2 hN hW))
  go_loopw [12] (fun x12 wr => ∃ (i : Nat), x12 = .int .i64 i ∧ i ≤ kinds.length ∧ kindsOk LN.rules.length (kinds.drop i) = true ∧ Fresh w3 wr)
      (fun x _ => 1001 - (intOf x).toNat)
  case atStart => exact ⟨0, rfl, by omega, HB.out, Mod.refl _ _⟩
  case round =>
    obtain ⟨i, rfl, hi, hres, hfr⟩ := hrel
    have HFR := hid hfr
    have HME := hid (meas (B := 1001) i (by omega))
    by_cases hlt : i < kinds.length
    · have hi1 : (i : Int) < (kinds.length : Int) := by omega
      unfold kindsOk at hres
      rw [List.drop_eq_getElem_cons hlt, List.all_cons, Bool.and_eq_true, Bool.and_eq_true, decide_eq_true_eq, decide_eq_true_eq] at hres
      obtain ⟨ra, rc, hrc⟩ := (HX3.out.fresh hfr).ru
      obtain ⟨ka', kc', hve, _, hcell⟩ := (HK.out.fresh HF3.out).fresh hfr
      rw [Value.slice.injEq] at hve
      obtain ⟨rfl, _, rfl⟩ := hve
      obtain ⟨g, o, rfl, c1⟩ := hcell i hlt
      clear hcell
      obtain ⟨⟨h0, h1⟩, hres⟩ := hres
      generalize kinds[i] = li at h0 h1 c1
      generalize LN.rules.length = R at hres hrc h1
      have HRES := hid hres
      clear hres hfr
      go_wp2_with fail
      go_quiet (fail)
      have HU1 : Hid (Fresh wr (wr.drewN nq)) := fdrewN' wr nq
      generalize wr.drewN nq = U1 at HU1 ⊢
      go_wp2
      go_roundw
      case rel => exact ⟨i + 1, by go_num, by omega, HRES.out, HFR.out.trans HU1.out⟩
      case measure => exact HME.out
    · have hie : i = kinds.length := by omega
      have hi2 : ¬ (i : Int) < (kinds.length : Int) := by omega
      clear hres hfr
      go_wp2
      go_ret
      exact ⟨rfl, HF3.out.trans HFR.out⟩
end Go.Proofs.Ytakkooidejdfkaa
namespace Go.Proofs.Ytakkooidejdfkaa
open Go.RowKit
set_option linter.unusedVariables false
set_option linter.unusedSimpArgs false

theorem fresh_new {w W : World} {x : Obj} (m : MB w.heap.size (w.alloc x) W) : Fresh w W := by
  have h : Fresh w (w.alloc x) := (Mod.refl _ w).alloc x
  refine ⟨m.1.trans h.1, m.2.trans h.2, m.3.trans h.3, Nat.le_trans h.4 m.4, fun k hk _ => ?_⟩
  rw [m.block k (by have := h.4; omega) (by omega)]
  exact h.block k hk (fun z => z)
theorem XV.fresh {w W : World} {xb g3 c3 g5 c5 : Nat} {sv : Nat → Value} {ps : List Pr} (h : XV w xb g3 c3 g5 c5 sv ps) (hf : Fresh w W) : XV W xb g3 c3 g5 c5 sv ps :=
  ⟨fcell' hf h.k3, fcell' hf h.k5, fun p hp => fcell' hf (h.hd p hp), fun p hp => ⟨fcell' hf (h.sy p hp).1, (h.sy p hp).2.fresh hf⟩⟩
theorem tab_len {s : ByteArray} (hc : (checkF s).1 = 0) : (tabF s).length ≤ 20 := by
  have hc2 := check_zero hc
  obtain ⟨h1, h2, h3, h4, h5⟩ := check_parts hc2
  have hI := linesInv hc2
  obtain ⟨c1, c2, c3⟩ := counts_le (fun y hy => (hI.places y hy).1) h5
  exact c2
theorem xv_of {s : ByteArray} {w : World} {b : Nat} (hc : (checkF s).1 = 0) (hx : LOX w b (linesF s).1) : ∃ g3 c3 g5 c5 sv, XV w b g3 c3 g5 c5 sv (tabF s) := by
  have hc2 := check_zero hc
  obtain ⟨_, _, hhd, hsy⟩ := lines_table hc2
  obtain ⟨h1, h2, h3, h4, h5⟩ := check_parts hc2
  have hpos : 0 < (tabF s).length := by
    unfold tabF tableOf
    unfold hasProd at h4
    rw [List.any_eq_true] at h4
    obtain ⟨y, hy, hq⟩ := h4
    have : y ∈ prodsOf (rLines s).1 := List.mem_filter.2 ⟨hy, hq⟩
    rw [List.length_map]; exact List.length_pos_of_mem this
  change _ = (tabF s).map _ at hhd
  change _ = (tabF s).map _ at hsy
  obtain ⟨v0, v1, v2, v3, v4, v5, nv, sv, h⟩ := hx
  have o3 : w.ownsRow (b + 1) 3 1 v3 (linesF s).1.head.length (ints (linesF s).1.head) := by have := h.at'.own 3 _ rfl; simpa using this
  have o5 := h.own5
  have hsl := h.slen
  have hcell3 := h.cell 3
  have hcell5 := h.cell 5
  have hss := h.syms.2
  rw [hhd] at o3
  rw [hsy] at hss hsl
  rw [List.length_map] at o3 hsl
  generalize tabF s = ps at o3 hss hsl hpos ⊢
  obtain ⟨g3, c3, e3⟩ := Joins.ownsRow_form o3 (by omega)
  obtain ⟨g5, c5, e5⟩ := Joins.ownsRow_form o5 (by omega)
  subst e3 e5
  refine ⟨g3, c3, g5, c5, fun p => sv.getD p (.slice none 0 0), by simpa using hcell3, by rw [← hsl]; simpa using hcell5, fun p hp => ?_, fun p hp => ?_⟩
  · have := o3.cells (g := g3) rfl p (.int .i64 ps[p].head) (by simp [hp])
    rwa [Addr.add_mid, Nat.zero_add] at this
  · have hp2 : p < sv.length := by omega
    obtain ⟨ai, ci, hvi, hci, hcl⟩ := hss p sv[p] (ints (ps[p].syms.map sInt)) (by simp [hp2]) (by simp [hp])
    have e : sv.getD p (.slice none 0 0) = sv[p] := by simp [hp2]
    rw [e]
    refine ⟨?_, ai, ci, by rw [hvi]; simp, by simpa using hci, fun j hj => ?_⟩
    · have := o5.cells (g := g5) rfl p sv[p] (by simp [hp2])
      rwa [Addr.add_mid, Nat.zero_add] at this
    · obtain ⟨g, o, h1, _, _, h2⟩ := hcl j (.int .i64 (ps[p].syms.map sInt)[j]) (by simp only [ints]; rw [List.getElem?_map, List.getElem?_eq_getElem hj]; rfl)
      exact ⟨g, o, h1, h2⟩
theorem tab_in {s : ByteArray} (hT : Tab (tabF s) (nR s) (nH s) (setsF s)) : ∀ p ∈ tabF s, ∀ y ∈ p.syms, 0 ≤ y.num ∧ y.num ≤ 100 := by
  intro p hp y hy
  have h := (hT.syms p hp).2 y hy
  have h1 := hT.hR
  have h2 := hT.hH
  split at h <;> omega
theorem tab_syms {s : ByteArray} (hc : (checkF s).1 = 0) : ∀ p ∈ tabF s, p.syms.length ≤ 6 := by
  have hc2 := check_zero hc
  obtain ⟨h1, h2, h3, h4, h5⟩ := check_parts hc2
  have hI := linesInv hc2
  obtain ⟨c1, c2, c3⟩ := counts_le (fun y hy => (hI.places y hy).1) h5
  exact c3

set_option maxRecDepth 20000 in
set_option maxHeartbeats 4000000 in
theorem rooted_ok (s : ByteArray) (kinds : List Int) (vk : Value) (w : World) (hs : s.size ≤ maxLen) (hk : IntAt w vk kinds) (hl : kinds.length ≤ 60) (hc : (checkF s).1 = 0) (hb : kindsOk (nR s) kinds = true) (hcl : clashF s = []) (he : (growS s kinds).err = 0) :
    Calls Try.prog 3 #[.string s, vk] w fun e w' => e = .returned (.bool true) ∧ Fresh w w' := by
  have hc2 := check_zero hc
  have FG := hid (fun w => free_good s w hc2)
  have PA := hid (fun W (hk : IntAt W vk kinds) => parse_good s kinds vk W hs hk hl hc)
  have CK := hid (fun W => check_any s W hs)
  rw [hc2] at CK
  have hP : parseF s kinds = growS s kinds := by unfold parseF; rw [if_neg (by omega), if_neg (by simp [hc]), if_neg (by simp [hb]), if_neg (by simp [hcl])]
  have hd : decide ((clashF s).length = 0) = true := by simpa using hcl
  rw [hP] at PA
  rw [hd] at FG
  unfold ParRet at PA
  have hT := tab_of hc hcl
  obtain ⟨hru, hlv⟩ := grwF_run hT kinds 0 _ _ hT.start.1 hT.start.2 (by simp) hb (by rfl) he
  have hru : runS (tabF s) (growS s kinds).st [⟨true, 0⟩] = some [] := hru
  have hlv : leavesS (growS s kinds).st = kinds := hlv.trans (by simp [leavesS])
  have hbd := (grow_bd hc hcl kinds hb hl).1
  have hpos := grow_pos' hc hcl kinds hb he
  rw [he] at PA
  clear he
  have hxv := hid (fun w b h => xv_of (s := s) (w := w) (b := b) hc h)
  have hps : (tabF s).length ≤ 20 := tab_len hc
  have hsy : ∀ p ∈ tabF s, p.syms.length ≤ 6 := tab_syms hc
  have hin : ∀ p ∈ tabF s, ∀ y ∈ p.syms, 0 ≤ y.num ∧ y.num ≤ 100 := tab_in hT
  generalize (growS s kinds).wanted = WL at PA
  generalize (growS s kinds).place = gp at PA
  generalize (growS s kinds).st = st at PA hru hlv hbd hpos
  have hNl : (nodesF (tabF s) st).length = st.length := nodesF_len _ _
  have WN : Hid (∀ (w0 : World) (b xb g3 c3 g5 c5 : Nat) (sv : Nat → Value) (vn vk : Value) (w : World), (∀ W, MB b w0 W → NdsAt W vn (nodesF (tabF s) st) ∧ IntAt W vk kinds ∧ XV W xb g3 c3 g5 c5 sv (tabF s)) → MB b w0 w → WkAt w b (bptr xb) vn vk 0 0 →
      Calls Try.prog 7 #[bptr b, .int .i64 0] w fun e w' => e = .returned (.bool true) ∧ WkAt w' b (bptr xb) vn vk (nodesF (tabF s) st).length kinds.length ∧ MB b w w') := by
    intro w0 b xb g3 c3 g5 c5 sv vn vk w SF hM hW
    have h := wnode_any w0 b xb g3 c3 g5 c5 sv vn vk (tabF s) st kinds SF (by omega) (by omega) (by omega) hsy hin hlv st.length st [] [] 0 w (Nat.le_refl _) (by simp) hru hM (by simpa [leavesS] using hW)
    rw [hNl, ← hlv]
    simpa [leavesS] using h
  have hNb : (nodesF (tabF s) st).length ≤ 1000000000000 := by omega
  generalize nodesF (tabF s) st = NL at WN PA hNb
  clear hP hd hT hru hlv hps hsy hin hNl hbd hpos
  obtain ⟨h81, _⟩ := check_parts hc2
  have hR : (linesF s).1.rules.length = nR s := (lines_table hc2).1
  rw [← hR] at hb
  have HK := hid hk
  have HB := hid hb
  obtain ⟨ka, kc, rfl, hkc, _⟩ := hk
  generalize (linesF s).1 = LN at FG HB hxv
  generalize tabF s = ps at hxv WN
  have hl1 : ¬ (60 : Int) < (kinds.length : Int) := by omega
  have h82 : ¬ (800 : Int) < (s.size : Int) := by omega
  clear hc hc2 hR hb
  go_enter Try.func3, Try.ntmps3
  go_wp2_with (first
    | (go_at_call 4; refine (FG.out _).mono ?_; rintro e w1 ⟨b, rfl, hx, hf1⟩; have HX1 := hid hx; have HF1 := hid hf1; clear hx hf1)
    | (go_at_call 6; have stage := HF2.out; refine (CK.out _).mono ?_; rintro e w3 ⟨rfl, hf3⟩; have HF3 := hid (Mod.trans (HF2.out.alloc _) hf3); have HX3 := hid (HX2.out.fresh (Mod.trans ((Mod.refl _ w2).alloc _) hf3)); have HO3 : Hid (w3.heap[w2.heap.size]? = some (.cells (parA (.slice na NL.length nc) (.slice wa WL.length wc) gp) 28 (0, 0))) := hf3.at (heap_alloc_at w2 _) (fun x => x); have HY3 : Hid (Fresh w2 w3) := Mod.trans ((Mod.refl _ w2).alloc _) hf3; clear hf3)
    | (go_at_call 5; refine (PA.out _ (HK.out.fresh HF1.out)).mono ?_; rintro e w2 ⟨vn, vw, rfl, hf2, hN, hW⟩; obtain ⟨na, nc, hvn⟩ := own_form hN; obtain ⟨wa, wc, hvw⟩ := own_form hW; subst hvn hvw; have HN2 := hid hN; have HF2 := hid (HF1.out.trans hf2); have HX2 := hid (HX1.out.fresh hf2); clear hf2 hN hW))
  go_loopw [12] (fun x12 wr => ∃ (i : Nat), x12 = .int .i64 i ∧ i ≤ kinds.length ∧ kindsOk LN.rules.length (kinds.drop i) = true ∧ Fresh w3 wr)
      (fun x _ => 1001 - (intOf x).toNat)
  case atStart => exact ⟨0, rfl, by omega, HB.out, Mod.refl _ _⟩
  case round =>
    obtain ⟨i, rfl, hi, hres, hfr⟩ := hrel
    have HFR := hid hfr
    have HME := hid (meas (B := 1001) i (by omega))
    by_cases hlt : i < kinds.length
    · have hi1 : (i : Int) < (kinds.length : Int) := by omega
      unfold kindsOk at hres
      rw [List.drop_eq_getElem_cons hlt, List.all_cons, Bool.and_eq_true, Bool.and_eq_true, decide_eq_true_eq, decide_eq_true_eq] at hres
      obtain ⟨ra, rc, hrc⟩ := (HX3.out.fresh hfr).ru
      obtain ⟨ka', kc', hve, _, hcell⟩ := (HK.out.fresh HF3.out).fresh hfr
      rw [Value.slice.injEq] at hve
      obtain ⟨rfl, _, rfl⟩ := hve
      obtain ⟨g, o, rfl, c1⟩ := hcell i hlt
      clear hcell
      obtain ⟨⟨h0, h1⟩, hres⟩ := hres
      generalize kinds[i] = li at h0 h1 c1
      generalize LN.rules.length = R at hres hrc h1
      have HRES := hid hres
      clear hres hfr
      go_wp2_with fail
      go_quiet (fail)
      have HU1 : Hid (Fresh wr (wr.drewN nq)) := fdrewN' wr nq
      generalize wr.drewN nq = U1 at HU1 ⊢
      go_wp2
      go_roundw
      case rel => exact ⟨i + 1, by go_num, by omega, HRES.out, HFR.out.trans HU1.out⟩
      case measure => exact HME.out
    · have hie : i = kinds.length := by omega
      have hi2 : ¬ (i : Int) < (kinds.length : Int) := by omega
      obtain ⟨g3, c3, g5, c5, sv, hx⟩ := hxv.out _ _ (HX3.out.fresh hfr)
      have hK4 : IntAt wr (.slice ka kinds.length kc) kinds := (HK.out.fresh HF3.out).fresh hfr
      have hN4 : NdsAt wr (.slice na NL.length nc) NL := ⟨ownsRow_base (ownsRow_other HN2.out (fun g hg => (HY3.out.trans hfr).block g (HN2.out.lt g hg).2 (fun x => x))) (Nat.zero_le _), fun _ _ => rfl⟩
      have hO4 := hfr.at HO3.out (fun x => x)
      have HO4 := hid hO4
      have o0 := cellOf hO4 0
      simp at o0
      have NDc : Hid (Calls Try.prog 7 #[bptr wr.heap.size, .int .i64 0] (wr.alloc (.cells #[bptr b, .slice na NL.length nc, .slice ka kinds.length kc, .int .i64 0, .int .i64 0] 42 (0, 0))) fun e w' => e = .returned (.bool true) ∧ WkAt w' wr.heap.size (bptr b) (.slice na NL.length nc) (.slice ka kinds.length kc) NL.length kinds.length ∧ Fresh wr w') := by
        have h := WN.out (wr.alloc (.cells #[bptr b, .slice na NL.length nc, .slice ka kinds.length kc, .int .i64 0, .int .i64 0] 42 (0, 0))) wr.heap.size b g3 c3 g5 c5 sv (.slice na NL.length nc) (.slice ka kinds.length kc) _ (fun W hm => ⟨hN4.fresh (fresh_new hm), hK4.fresh (fresh_new hm), hx.fresh (fresh_new hm)⟩) (Mod.refl _ _) (heap_alloc_at wr _)
        exact h.mono fun e w' ⟨h1, h2, h3⟩ => ⟨h1, h2, fresh_new h3⟩
      have HO0 := hid o0
      clear hres hfr hx hK4 hN4 hO4
      go_wp2_with (first
        | (go_at_call 7; refine NDc.out.mono ?_; rintro e w5 ⟨rfl, hk5, hf5⟩; have HF5 := hid hf5; have HK5 := hid hk5; clear hf5 hk5))
      have o5 := fcell' HF5.out HO0.out
      have q3 := cellOf HK5.out 3
      have q4 := cellOf HK5.out 4
      simp at q3 q4
      clear o0
      go_quiet (fail)
      have HU1 : Hid (Fresh w5 (w5.drewN nq)) := fdrewN' w5 nq
      generalize w5.drewN nq = U1 at HU1 ⊢
      go_wp2
      go_ret
      exact ⟨by simp, HF3.out.trans (HFR.out.trans (HF5.out.trans HU1.out))⟩
end Go.Proofs.Ytakkooidejdfkaa
namespace Go.Proofs.Ytakkooidejdfkaa
open Go.ChangeShapes Go.WideShapes Go.ChangeAt Go.RowKit
open Go.ChangeMaps (open_string shut_string)
set_option linter.unusedVariables false
set_option linter.unusedSimpArgs false

theorem Try.own : ownKnob Try.prog.godebug = none := by kernel_rfl
theorem Try.laidOut : laidOutB Try.prog = true := by kernel_rfl

theorem rooted_any (s : ByteArray) (kinds : List Int) (vk : Value) (w : World) (hs : s.size ≤ maxLen) (hk : IntAt w vk kinds) (hm : kinds.length ≤ maxLen) :
    Calls Try.prog 3 #[.string s, vk] w fun e w' => e = .returned (.bool true) ∧ Fresh w w' := by
  by_cases hl : 60 < kinds.length
  · exact rooted_long s kinds vk w hs hk hl hm
  · have hl : kinds.length ≤ 60 := by omega
    by_cases hc : (checkF s).1 = 0
    · cases hb : kindsOk (nR s) kinds
      · exact rooted_arg s kinds vk w hs hk hl hc hb
      · by_cases hcl : clashF s = []
        · by_cases he : (growS s kinds).err = 0
          · exact rooted_ok s kinds vk w hs hk hl hc hb hcl he
          · exact rooted_syn s kinds vk w hs hk hl hc hb hcl he
        · exact rooted_clash s kinds vk w hs hk hl hc hb hcl
    · exact rooted_bad s kinds vk w hs hk hl hc

set_option maxRecDepth 100000 in
theorem rooted_lifted (os : Os) (started : os.Started) (H : Type) (enc : TypeId × Value → H) :
    ReturnsInHanded {} Try.checked os 3 .any (Rows.rootedSpec.pre6 enc Try.prog Try.f3 Rows.rootedRow.domain false) (Rows.rootedSpec.post enc Try.prog Try.f3 false true false false) := by
  refine returnsInHanded_of_change (C := Try.checked) Try.own started (by kernel_rfl) Try.func3
    (ChangeSpec.witness6 (enc := enc) (C := Try.checked) false ⟨#[], #[.string ByteArray.empty, .slice none 0 0], []⟩ 8 (by kernel_rfl) (by kernel_rfl) (by kernel_rfl) (by kernel_rfl)) ?_
  intro W base args ds gs before hval0 hW hcnd _
  have hval : ∀ (j : Nat) t v, Try.f3.params[j]? = some t → args[j]? = some v → Value.okWide Try.prog W .any base t v := hval0
  have hW' := hW
  obtain ⟨p, q, hA0, hV, rfl, hfz, hnd⟩ := hW
  have hA : DataW.TrodAll enc Try.prog W 0 (fun _ => true) true Try.f3.params.toList args.toList ds p := hA0
  rw [Try.params3] at hA hval
  obtain ⟨v0, v1, d0, d1, p0, p1, rfl, rfl, rfl, h0, h1⟩ := trodAll_two hA
  obtain ⟨rfl, rfl⟩ := trodVars_none hV
  obtain ⟨s, rfl, rfl, rfl, ws⟩ := open_string Try.underlying9 (hval 0 9 v0 rfl rfl) h0
  obtain ⟨a1, len1, cap1, rfl⟩ := okWide_slice Try.underlying22 (hval 1 22 v1 rfl rfl)
  have k1 := h1
  have lt1 : ∀ x ∈ p1, x.block < W.heap.size := by obtain ⟨m, hm⟩ := k1; exact DataW.trod_lt m _ _ _ hm
  obtain ⟨kinds, hk, hm⟩ : ∃ kinds, IntAt W (.slice a1 len1 cap1) kinds ∧ kinds.length ≤ maxLen := by
    obtain ⟨fuel, hf⟩ := h1
    rcases open_ints Try.underlying22 Try.underlying3 (by kernel_rfl) hf with ⟨hcs, _⟩ | ⟨x, l, c, zs, hcs, _, hl, hm, hz, _, hcell, hwz⟩
    · simp [Value.cells] at hcs
      obtain ⟨rfl, rfl, rfl⟩ := hcs
      exact ⟨[], ⟨none, 0, rfl, Nat.le_refl _, fun j hj => absurd hj (by simp)⟩, by simp⟩
    · simp [Value.cells] at hcs
      obtain ⟨rfl, rfl, rfl⟩ := hcs
      have hz' : zs.length = cap1 := by simpa using hz
      have hzl : (zs.take len1).length = len1 := by rw [List.length_take]; omega
      refine ⟨zs.take len1, ⟨some x, cap1, by rw [hzl], by rw [hzl]; exact hl, fun j hj => ?_⟩, by rw [hzl]; omega⟩
      obtain ⟨b, off, rfl, hc⟩ := ints_at hcell (by omega)
      have hj2 : j < zs.length := by omega
      refine ⟨b, off, rfl, ?_⟩
      have := hc j hj2
      rw [List.getElem_take]
      simpa [List.getD, hj2] using this
  clear hA0 hval0
  simp only [List.append_nil] at hW'
  refine (rooted_any s kinds _ W ws hk hm).mono fun e W' ⟨he, hF⟩ => ?_
  subst he
  have hB := hF.below
  refine ⟨_, rfl, _, _, _, [], p1, [], hW', ?_, ?_, ?_, hB.frame _, fun h => by cases h⟩
  · exact trodAll_mk1 (shut_bool Try.underlying4 true)
  · exact trodAll_mk2 (shut_string Try.underlying9 ws) (Below.trod Try.laidOut (by kernel_rfl) (of_decide_eq_true (by kernel_rfl)) k1 hB lt1)
  · trivial

theorem rooted_holds : Rows.RootedSaid :=
  OpenClaim.holds_of_wide 3 Try.f3 rfl rfl rfl rfl rfl rfl rfl ⟨rfl, rfl, rfl, rfl, rfl⟩ rfl rfl rfl rfl rfl (by kernel_rfl) Try.func3 (by kernel_rfl)
    (of_decide_eq_true (by kernel_rfl)) (by unfold Func.isWrapper; first | (rw [if_pos (by decide +kernel)]; kernel_rfl) | (rw [if_neg (by decide +kernel)]; exact ⟨rfl, rfl⟩))
    (fun os started H enc _ => rooted_lifted os started H enc)
#print axioms rooted_holds
end Go.Proofs.Ytakkooidejdfkaa
