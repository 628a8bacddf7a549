import Derived.Test.YtcaanpcediednaaRk2
import Derived.Test.YtcaanpcediednaaRows
import Derived.ProofKit
namespace Go.Proofs.Ytcaanpcediednaa
open Go.RowKit
set_option linter.unusedVariables false
set_option linter.unusedSimpArgs false

theorem rules_by {s : ByteArray} {xs : List ZLV} (hs : s.size ≤ 800) (h : ReadOk s xs) : RulesBy (rulesOf s) (sortL noSP xs).1.rules := by
  obtain ⟨e1, e2⟩ := rules_two h
  refine ⟨e1, fun k x z h1 h2 => ?_⟩
  obtain ⟨y1, L, y2, y3, y4⟩ := e2 k x z h1 h2
  exact ⟨y1, L, y2, by omega, y4⟩
def LexRet (R : List Tk × Int × Int) (w : World) (e : Ending) (w' : World) : Prop :=
  ∃ v', e = .returned (.tuple #[v', .int .i64 R.2.1, .int .i64 R.2.2]) ∧ Fresh w w' ∧ ToksAt w' v' R.1
theorem lex_nil (w : World) : ToksAt w (.slice none 0 0) [] := RowAt.nil _ _ _ _
set_option maxRecDepth 20000 in
set_option maxHeartbeats 2000000 in
theorem zlex_any (s t : ByteArray) (w : World) (hs : s.size ≤ maxLen) (ht : t.size ≤ maxLen) :
    Calls Try.prog 5 #[.string s, .string t] w fun e w' => LexRet (lexF s t) w e w' := by
  have RD := hid (zread_any s w hs)
  unfold maxLen at hs ht
  generalize hM : lexF s t = M
  unfold lexF at hM
  by_cases h8 : 800 < s.size
  · have hc : checkF s = (1, 0) := by unfold checkF; rw [if_pos h8]
    have he : errF s t = 1 := by unfold errF; split <;> simp [hc]
    rw [he, if_pos (by omega)] at hM
    have HM := hid hM
    have k1 : (800 : Int) < (s.size : Int) := by omega
    clear hM RD
    go_enter Try.func5, Try.ntmps5
    go_wp2
    refine bodyPost_ret (results_tmp3 rfl _ _ _) rfl ?_
    rw [← HM.out]
    exact ⟨_, rfl, Mod.refl _ _, lex_nil _⟩
  · have k1 : ¬ (800 : Int) < (s.size : Int) := by omega
    by_cases h2 : 200 < t.size
    · have he : errF s t = 1 := by unfold errF; rw [if_pos h2]
      rw [he, if_pos (by omega)] at hM
      have HM := hid hM
      have k2 : (200 : Int) < (t.size : Int) := by omega
      clear hM RD
      go_enter Try.func5, Try.ntmps5
      go_wp2
      refine bodyPost_ret (results_tmp3 rfl _ _ _) rfl ?_
      rw [← HM.out]
      exact ⟨_, rfl, Mod.refl _ _, lex_nil _⟩
    · have k2 : ¬ (200 : Int) < (t.size : Int) := by omega
      have he : errF s t = (checkF s).1 := by unfold errF; rw [if_neg h2]
      rw [he] at hM
      by_cases h0 : (checkF s).1 = 0
      · rw [h0, if_neg (by omega)] at hM
        have H0 := hid h0
        have hct := cut_two (rulesOf s) t (t.size + 1) 0 [] (by omega) (by omega)
        have hM' : cutL (rulesOf s) t (t.size + 1) 0 [] = M := hM
        rw [List.filter_nil, hM'] at hct
        obtain ⟨z1, z2, z3⟩ := zcutL_ok (rulesOf s) t (t.size + 1) 0 [] (by omega) (by simp) (fun k hk => by (cases hk))
        generalize hZ : zcutL (rulesOf s) t (t.size + 1) 0 [] = Z at hct z1 z2 z3
        have HZ := hid hZ
        obtain ⟨ts, zp⟩ := Z
        dsimp only at hct z1 z2 z3
        have HM := hid hct
        have HZ1 := hid z1
        clear he hM hM' hct hZ z1
        go_enter Try.func5, Try.ntmps5
        go_upto_region 6 with (first
          | (go_at_call 10; refine (RD.out).mono ?_; rintro e w1 ⟨p, pl, rfl, hf1, _, _, hg⟩; rw [H0.out]; obtain ⟨b, xs, hb, rfl, hS, hO⟩ := hg H0.out; have HF1 := hid hf1; have HS := hid hS; have HO := hid hO; clear hf1 hg hS hO))
        obtain ⟨v0, v1, v2, v3, v4, sv, hA⟩ := HS.out.at
        have hby := rules_by (by omega) HO.out
        have bd0 := HO.out.bd.rules
        have CU := hid (zcut_any w1 b _ v0 v1 v2 v3 v4 sv (rulesOf s) t hA hby (by omega) (by omega))
        rw [HZ.out] at CU
        have HA := hid hA
        have HBY := hid hby
        clear hA hby
        by_cases hzp : 0 ≤ zp
        · have HM2 : Hid (M = ([], 9, zp)) := by unfold Hid; rw [HM.out, if_pos hzp]
          clear HM
          go_wp2_with (first
            | (go_at_call 11; refine (CU.out).mono ?_; rintro e w2 ⟨v, rfl, hf2, hv2⟩; have HF2 := hid hf2; clear hf2 hv2))
          refine bodyPost_ret (results_tmp3 rfl _ _ _) rfl ?_
          rw [HM2.out]
          exact ⟨_, rfl, HF1.out.trans HF2.out, lex_nil _⟩
        · have hz1 : zp = -1 := by omega
          subst hz1
          have HM2 : Hid (M = (ts.filter (fun k => !skipB (rulesOf s) k.r), 0, 0)) := by unfold Hid; rw [HM.out, if_neg (by omega)]
          clear HM
          go_wp2_with (first
            | (go_at_call 12; have stage := HF2.out; refine (zkept_any w2 b _ _ v0 v1 v2 v3 v4 v sv (rulesOf s) ts (HA.out.fresh HF2.out) HBY.out (by omega) (by omega) HV2.out HZ1.out).mono ?_; rintro e w3 ⟨v9, rfl, hf3, hv3⟩; have HF3 := hid hf3; have HV3 := hid hv3; clear hf3 hv3)
            | (go_at_call 11; refine (CU.out).mono ?_; rintro e w2 ⟨v, rfl, hf2, hv2⟩; have HF2 := hid hf2; have HV2 := hid hv2; clear hf2 hv2))
          refine bodyPost_ret (results_tmp3 rfl _ _ _) rfl ?_
          rw [HM2.out]
          exact ⟨_, rfl, (HF1.out.trans HF2.out).trans HF3.out, HV3.out⟩
      · rw [if_pos h0] at hM
        have HM := hid hM
        have k3 : ((checkF s).1 != 0) = true := by simpa using h0
        generalize hcc : (checkF s).1 = cc at k3 HM h0
        have HC := hid hcc
        clear hM he hcc
        go_enter Try.func5, Try.ntmps5
        go_wp2_with (first
          | (go_at_call 10; refine (RD.out).mono ?_; rintro e w1 ⟨p, pl, rfl, hf1, _, _, hg⟩; rw [HC.out]; have HF1 := hid hf1; clear hf1 hg))
        refine bodyPost_ret (results_tmp3 rfl _ _ _) rfl ?_
        rw [← HM.out]
        exact ⟨_, rfl, HF1.out, lex_nil _⟩
theorem lexF_len (s t : ByteArray) : (lexF s t).1.length ≤ 100000 := by
  unfold lexF
  split
  · simp
  · rename_i h
    have ht : t.size ≤ 200 := by
      by_cases q : 200 < t.size
      · exfalso; apply h; unfold errF; rw [if_pos q]; omega
      · omega
    have hct := cut_two (rulesOf s) t (t.size + 1) 0 [] (by omega) (by omega)
    obtain ⟨z1, z2, z3⟩ := zcutL_ok (rulesOf s) t (t.size + 1) 0 [] (by omega) (by simp) (fun k hk => by (cases hk))
    rw [List.filter_nil] at hct
    unfold cutF
    rw [hct]
    split
    · simp
    · dsimp only
      have := List.length_filter_le (fun k : Tk => !skipB (rulesOf s) k.r) (zcutL (rulesOf s) t (t.size + 1) 0 []).1
      omega
set_option maxRecDepth 20000 in
set_option maxHeartbeats 1000000 in
theorem lexed_any (s t : ByteArray) (w : World) (hs : s.size ≤ maxLen) (ht : t.size ≤ maxLen) :
    Calls Try.prog 3 #[.string s, .string t] w fun e w' => e = .returned (.bool true) ∧ Fresh w w' := by
  have A := hid (fun w => lex_any s t w hs ht)
  have B := hid (fun w => zlex_any s t w hs ht)
  have NU := hid (fun e w => num_any e w)
  have hl := lexF_len s t
  generalize lexF s t = M at A B hl
  obtain ⟨l, m, c⟩ := M
  unfold LexRet at B
  dsimp only at A B hl
  go_enter Try.func3, Try.ntmps3
  go_wp2_with (first
    | (go_at_call 6; have stage := HF2.out; refine (zsameTokens_any w2 v1 v2 l (HT1.out.fresh HF2.out) HT2.out hl).mono ?_; rintro e w3 ⟨rfl, hf3⟩; have HF3 := hid hf3; clear hf3)
    | (go_at_call 4; refine (A.out _).mono ?_; rintro e w1 ⟨v1, rfl, hf1, ht1⟩; have HF1 := hid hf1; have HT1 := hid ht1; clear hf1 ht1)
    | (go_at_call 5; refine (B.out _).mono ?_; rintro e w2 ⟨v2, rfl, hf2, ht2⟩; have HF2 := hid hf2; have HT2 := hid ht2; clear hf2 ht2)
    | (go_at_call 7; refine (NU.out _ _).mono ?_; rintro e w' ⟨rfl, hw⟩; rw [hw]; clear hw))
  go_ret
  exact ⟨ret_bool (by simp), (HF1.out.trans HF2.out).trans HF3.out⟩
end Go.Proofs.Ytcaanpcediednaa
namespace Go.Proofs.Ytcaanpcediednaa
open Go.ChangeShapes Go.WideShapes Go.ChangeAt Go.RowKit
open Go.ChangeMaps (open_string shut_string)
set_option linter.unusedVariables false
set_option linter.unusedSimpArgs false

theorem Try.own : ownKnob Try.prog.godebug = none := by kernel_rfl

set_option maxRecDepth 100000 in
theorem lexed_lifted (os : Os) (started : os.Started) (H : Type) (enc : TypeId × Value → H) :
    ReturnsInHanded {} Try.checked os 3 .any (Rows.lexedSpec.pre6 enc Try.prog Try.f3 Rows.lexedRow.domain false) (Rows.lexedSpec.post enc Try.prog Try.f3 false true false false) := by
  refine returnsInHanded_of_change (C := Try.checked) Try.own started (by kernel_rfl) Try.func3
    (ChangeSpec.witness6 (enc := enc) (C := Try.checked) false ⟨#[], #[.string ⟨#[]⟩, .string ⟨#[]⟩], []⟩ 8 (by kernel_rfl) (by kernel_rfl) (by kernel_rfl) (by kernel_rfl)) ?_
  intro W base args ds gs before hval0 hW hcnd _
  have hval : ∀ (j : Nat) t v, Try.f3.params[j]? = some t → args[j]? = some v → Value.okWide Try.prog W .any base t v := hval0
  have hW' := hW
  obtain ⟨p, q, hA0, hV, rfl, hfz, hnd⟩ := hW
  have hA : DataW.TrodAll enc Try.prog W 0 (fun _ => true) true Try.f3.params.toList args.toList ds p := hA0
  rw [Try.params3] at hA hval
  obtain ⟨v0, v1, d0, d1, p0, p1, rfl, rfl, rfl, h0, h1⟩ := trodAll_two hA
  obtain ⟨rfl, rfl⟩ := trodVars_none hV
  obtain ⟨s, rfl, rfl, rfl, ws⟩ := open_string Try.underlying9 (hval 0 9 v0 rfl rfl) h0
  obtain ⟨t, rfl, rfl, rfl, wt⟩ := open_string Try.underlying9 (hval 1 9 v1 rfl rfl) h1
  clear hA0 hval0
  simp only [List.append_nil] at hW'
  refine (lexed_any s t W ws wt).mono fun e W' ⟨he, hF⟩ => ?_
  subst he
  have hB := hF.below
  refine ⟨_, rfl, _, _, _, [], [], [], hW', ?_, ?_, ?_, hB.frame _, fun h => by cases h⟩
  · exact trodAll_mk1 (shut_bool Try.underlying4 true)
  · exact trodAll_mk2 (shut_string Try.underlying9 ws) (shut_string Try.underlying9 wt)
  · trivial

theorem lexed_holds : Rows.LexedSaid :=
  OpenClaim.holds_of_wide 3 Try.f3 rfl rfl rfl rfl rfl rfl rfl ⟨rfl, rfl, rfl, rfl, rfl⟩ rfl rfl rfl rfl rfl (by kernel_rfl) Try.func3 (by kernel_rfl)
    (of_decide_eq_true (by kernel_rfl)) (by unfold Func.isWrapper; first | (rw [if_pos (by decide +kernel)]; kernel_rfl) | (rw [if_neg (by decide +kernel)]; exact ⟨rfl, rfl⟩))
    (fun os started H enc _ => lexed_lifted os started H enc)
#print axioms lexed_holds
end Go.Proofs.Ytcaanpcediednaa
