import Derived.Test.YtdbdkdekeicmhaaLd5
import Derived.Test.YtdbdkdekeicmhaaRows
import Derived.ProofKit
import Derived.OpenShut
import Derived.ShutString
import Derived.ChangeOld
import Derived.Below
import Derived.SizedLaws
namespace Go.Proofs.Ytdbdkdekeicmhaa
open Go.RowKit
set_option linter.unusedVariables false
set_option linter.unusedSimpArgs false

set_option maxRecDepth 20000 in
set_option maxHeartbeats 4000000 in
theorem algebra_any (p q t : ByteArray) (c : Nat) (w : World) (hp : p.size ≤ 140737488355328) (hq : q.size ≤ 140737488355328) (hc : c ≤ 255) (ht : t.size ≤ 140737488355328) :
    Calls Try.prog 3 #[.string p, .string q, .int .u8 c, .string t] w fun e w' => e = .returned (.bool true) ∧ Fresh w w' := by
  have AN := hid (fun w => answers_any w)
  by_cases h200 : 200 ≤ t.size
  · have h1 : (200 : Int) ≤ (t.size : Int) := by omega
    go_enter Try.func3, Try.ntmps3
    go_wp2_with (first
      | (go_at_call 4; refine (AN.out _).mono ?_; rintro e w1 ⟨rfl, hf1⟩; have HF1 := hid hf1; clear hf1))
    go_ret
    exact ⟨rfl, HF1.out⟩
  · have h1 : ¬ (200 : Int) ≤ (t.size : Int) := by omega
    have SG := hid (fun w => single_no c t w hc (by omega))
    have IP := hid (fun w => isPattern_any p w (by omega))
    have IQ := hid (fun w => isPattern_any q w (by omega))
    have JN := hid (fun h1 h2 h3 h4 w => joinedK_any p q t w hp hq (by omega) h1 h2 h3 h4)
    have KP : Hid ((decide ((checkF (specX p)).1 = 0) && (decide ((checkF (specY p)).1 = 0) || decide ((checkF (specY p)).1 = 5))) = true → (checkF (specX p)).1 = 0 ∧ ((checkF (specY p)).1 = 0 ∨ (checkF (specY p)).1 = 5)) := fun h => by simpa using h
    have KQ : Hid ((decide ((checkF (specX q)).1 = 0) && (decide ((checkF (specY q)).1 = 0) || decide ((checkF (specY q)).1 = 5))) = true → (checkF (specX q)).1 = 0 ∧ ((checkF (specY q)).1 = 0 ∨ (checkF (specY q)).1 = 5)) := fun h => by simpa using h
    generalize (decide ((checkF (specX p)).1 = 0) && (decide ((checkF (specY p)).1 = 0) || decide ((checkF (specY p)).1 = 5))) = a at IP KP
    generalize (decide ((checkF (specX q)).1 = 0) && (decide ((checkF (specY q)).1 = 0) || decide ((checkF (specY q)).1 = 5))) = b at IQ KQ
    cases a
    · clear KP KQ JN
      go_enter Try.func3, Try.ntmps3
      go_wp2_with (first
        | (go_at_call 6; have stage := HF3.out; refine (IQ.out _).mono ?_; rintro e w4 ⟨rfl, hf4⟩; have HF4 := hid (HF3.out.trans hf4); clear hf4)
        | (go_at_call 6; have stage := HF2.out; refine (IP.out _).mono ?_; rintro e w3 ⟨rfl, hf3⟩; have HF3 := hid (HF2.out.trans hf3); clear hf3)
        | (go_at_call 5; have stage := HF1.out; refine (SG.out _).mono ?_; rintro e w2 ⟨rfl, hf2⟩; have HF2 := hid (HF1.out.trans hf2); clear hf2)
        | (go_at_call 4; refine (AN.out _).mono ?_; rintro e w1 ⟨rfl, hf1⟩; have HF1 := hid hf1; clear hf1))
      go_ret
      exact ⟨rfl, HF4.out⟩
    · cases b
      · clear KP KQ JN
        go_enter Try.func3, Try.ntmps3
        go_wp2_with (first
          | (go_at_call 6; have stage := HF3.out; refine (IQ.out _).mono ?_; rintro e w4 ⟨rfl, hf4⟩; have HF4 := hid (HF3.out.trans hf4); clear hf4)
          | (go_at_call 6; have stage := HF2.out; refine (IP.out _).mono ?_; rintro e w3 ⟨rfl, hf3⟩; have HF3 := hid (HF2.out.trans hf3); clear hf3)
          | (go_at_call 5; have stage := HF1.out; refine (SG.out _).mono ?_; rintro e w2 ⟨rfl, hf2⟩; have HF2 := hid (HF1.out.trans hf2); clear hf2)
          | (go_at_call 4; refine (AN.out _).mono ?_; rintro e w1 ⟨rfl, hf1⟩; have HF1 := hid hf1; clear hf1))
        go_ret
        exact ⟨rfl, HF4.out⟩
      · have JJ := hid (JN.out (KP.out rfl).1 (KP.out rfl).2 (KQ.out rfl).1 (KQ.out rfl).2)
        clear KP KQ JN
        go_enter Try.func3, Try.ntmps3
        go_wp2_with (first
          | (go_at_call 7; have stage := HF4.out; refine (JJ.out _).mono ?_; rintro e w5 ⟨rfl, hf5⟩; have HF5 := hid (HF4.out.trans hf5); clear hf5)
          | (go_at_call 6; have stage := HF3.out; refine (IQ.out _).mono ?_; rintro e w4 ⟨rfl, hf4⟩; have HF4 := hid (HF3.out.trans hf4); clear hf4)
          | (go_at_call 6; have stage := HF2.out; refine (IP.out _).mono ?_; rintro e w3 ⟨rfl, hf3⟩; have HF3 := hid (HF2.out.trans hf3); clear hf3)
          | (go_at_call 5; have stage := HF1.out; refine (SG.out _).mono ?_; rintro e w2 ⟨rfl, hf2⟩; have HF2 := hid (HF1.out.trans hf2); clear hf2)
          | (go_at_call 4; refine (AN.out _).mono ?_; rintro e w1 ⟨rfl, hf1⟩; have HF1 := hid hf1; clear hf1))
        go_ret
        exact ⟨rfl, HF5.out⟩
end Go.Proofs.Ytdbdkdekeicmhaa
namespace Go.Proofs.Ytdbdkdekeicmhaa
open Go.ChangeShapes Go.WideShapes Go.ChangeAt Go.RowKit
open Go.ChangeMaps (open_string shut_string)
set_option linter.unusedVariables false
set_option linter.unusedSimpArgs false

theorem ba_len (a : ByteArray) : a.size = a.data.toList.length := Array.length_toList.symm
theorem Try.own : ownKnob Try.prog.godebug = none := by kernel_rfl

set_option maxRecDepth 100000 in
theorem algebra_lifted (os : Os) (started : os.Started) (H : Type) (enc : TypeId × Value → H) :
    ReturnsInHanded {} Try.checked os 3 .any (Rows.algebraSpec.pre6 enc Try.prog Try.f3 Rows.algebraRow.domain false) (Rows.algebraSpec.post enc Try.prog Try.f3 false true false false) := by
  refine returnsInHanded_of_change_sized (C := Try.checked) Try.own started (by kernel_rfl) Try.func3
    (ChangeSpec.witness6 (enc := enc) (C := Try.checked) false ⟨#[], #[.string ByteArray.empty, .string ByteArray.empty, .int .u8 0, .string ByteArray.empty], []⟩ 8 (by kernel_rfl) (by kernel_rfl) (by kernel_rfl) (by kernel_rfl)) ?_
  intro W base args ds gs before hval0 hW hcnd hz _
  have hval : ∀ (j : Nat) t v, Try.f3.params[j]? = some t → args[j]? = some v → Value.okWide Try.prog W .any base t v := hval0
  have hW' := hW
  obtain ⟨p, q, hA0, hV, rfl, hfz, hnd⟩ := hW
  have hA : DataW.TrodAll enc Try.prog W 0 (fun _ => true) true Try.f3.params.toList args.toList ds p := hA0
  have hZ : (DataW.weightsEach Try.prog (Try.f3.params.toList ++ Rows.algebraSpec.plain.varTypes Try.prog) (ds ++ gs)).all (· ≤ reachBytes) = true := hz
  rw [Try.params3] at hA hval hZ
  obtain ⟨v0, vs0, d0, ds0, p0, q0, hargs, rfl, rfl, h0, r0⟩ := trodAll_cons hA
  obtain ⟨v1, vs1, d1, ds1, p1, q1, rfl, rfl, rfl, h1, r1⟩ := trodAll_cons r0
  obtain ⟨v2, vs2, d2, ds2, p2, q2, rfl, rfl, rfl, h2, r2⟩ := trodAll_cons r1
  obtain ⟨v3, vs3, d3, ds3, p3, q3, rfl, rfl, rfl, h3, r3⟩ := trodAll_cons r2
  obtain ⟨rfl, rfl, rfl⟩ := trodAll_nil r3
  obtain rfl : args = #[v0, v1, v2, v3] := by cases args; simp_all
  obtain ⟨rfl, rfl⟩ := trodVars_none hV
  obtain ⟨a0, rfl, rfl, rfl, w0⟩ := open_string Try.underlying9 (hval 0 9 v0 rfl rfl) h0
  obtain ⟨a1, rfl, rfl, rfl, w1⟩ := open_string Try.underlying9 (hval 1 9 v1 rfl rfl) h1
  obtain ⟨a2, rfl, rfl, rfl, w2⟩ := open_int Try.underlying5 (hval 2 5 v2 rfl rfl) h2
  obtain ⟨a3, rfl, rfl, rfl, w3⟩ := open_string Try.underlying9 (hval 3 9 v3 rfl rfl) h3
  have z0 := sized_string hZ (j := 0) (t := 9) (bytes := a0.data.toList) rfl rfl
  have z1 := sized_string hZ (j := 1) (t := 9) (bytes := a1.data.toList) rfl rfl
  have z3 := sized_string hZ (j := 3) (t := 9) (bytes := a3.data.toList) rfl rfl
  have hr := reachBytes_lt
  have s0 : a0.size ≤ 140737488355328 := by rw [ba_len]; omega
  have s1 : a1.size ≤ 140737488355328 := by rw [ba_len]; omega
  have s3 : a3.size ≤ 140737488355328 := by rw [ba_len]; omega
  have b2 := bounds_u8 w2
  obtain ⟨c, rfl⟩ : ∃ c : Nat, a2 = c := ⟨a2.toNat, by omega⟩
  clear hA0 hval0 hz hZ
  simp only [List.append_nil] at hW'
  refine (algebra_any a0 a1 a3 c W s0 s1 (by omega) s3).mono fun e W' ⟨he, hF⟩ => ?_
  subst he
  have hB := hF.below
  refine ⟨_, rfl, _, _, _, [], [], [], hW', ?_, ?_, ?_, hB.frame _, fun h => by cases h⟩
  · exact trodAll_mk1 (shut_bool Try.underlying4 true)
  · exact trodAll_cons_mk (shut_string Try.underlying9 w0) (trodAll_cons_mk (shut_string Try.underlying9 w1) (trodAll_cons_mk (shut_int Try.underlying5 w2) (trodAll_cons_mk (shut_string Try.underlying9 w3) trodAll_mk0)))
  · trivial

theorem algebra_holds : Rows.AlgebraSaid :=
  OpenClaim.holds_of_wide 3 Try.f3 rfl rfl rfl rfl rfl rfl rfl ⟨rfl, rfl, rfl, rfl, rfl⟩ rfl rfl rfl rfl rfl (by kernel_rfl) Try.func3 (by kernel_rfl)
    (of_decide_eq_true (by kernel_rfl)) (by unfold Func.isWrapper; first | (rw [if_pos (by decide +kernel)]; kernel_rfl) | (rw [if_neg (by decide +kernel)]; exact ⟨rfl, rfl⟩))
    (fun os started H enc _ => algebra_lifted os started H enc)
#print axioms algebra_holds
end Go.Proofs.Ytdbdkdekeicmhaa
