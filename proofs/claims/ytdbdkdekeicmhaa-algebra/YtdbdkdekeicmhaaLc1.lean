import Derived.Test.YtdbdkdekeicmhaaLb2
namespace Go.Proofs.Ytdbdkdekeicmhaa
open Go.RowKit
set_option linter.unusedVariables false
set_option linter.unusedSimpArgs false

set_option maxRecDepth 20000 in
set_option maxHeartbeats 1000000 in
theorem matched_any (b t : ByteArray) (w : World) (hb : b.size ≤ 1125899906842624) (ht : t.size ≤ 1125899906842624) :
    Calls Try.prog 10 #[.string b, .string t] w fun e w' => e = .returned (.tuple #[.bool (mF b t), .bool (eF b t == 0)]) ∧ Fresh w w' := by
  have hX := specX_size b
  have hT : (xT ++ t).size = 1 + t.size := by rw [ByteArray.size_append]; rfl
  have MA := hid (fun w => match_any (specX b) (xT ++ t) 0 w (by unfold maxLen; omega) (by unfold maxLen; omega))
  unfold mF eF
  unfold specX xT pre4 post5 at MA ⊢
  generalize matchF ((⟨#[97, 61, 120, 40]⟩ : ByteArray) ++ b ++ ⟨#[41, 10, 83, 58, 10]⟩) 0 (⟨#[120]⟩ ++ t) = M at MA ⊢
  clear hX hT
  go_enter Try.func10, Try.ntmps10
  go_wp2_with (first
    | (go_at_call 13; refine (MA.out _).mono ?_; rintro e w1 ⟨rfl, hf1⟩; have HF1 := hid hf1; clear hf1))
  go_ret2
  exact ⟨rfl, HF1.out⟩
set_option maxRecDepth 20000 in
set_option maxHeartbeats 1000000 in
theorem isPattern_any (b : ByteArray) (w : World) (hb : b.size ≤ 1125899906842624) :
    Calls Try.prog 6 #[.string b] w fun e w' => e = .returned (.bool (decide ((checkF (specX b)).1 = 0) && (decide ((checkF (specY b)).1 = 0) || decide ((checkF (specY b)).1 = 5)))) ∧ Fresh w w' := by
  have hX := specX_size b
  have hY : (specY b).size = 3 + b.size + 4 := by unfold specY; rw [ByteArray.size_append, ByteArray.size_append]; rfl
  have C1 := hid (fun w => check_any (specX b) w (by unfold maxLen; omega))
  have C2 := hid (fun w => check_any (specY b) w (by unfold maxLen; omega))
  unfold specX pre4 post5 at C1 ⊢
  unfold specY pre3 post4 at C2 ⊢
  generalize checkF ((⟨#[97, 61, 120, 40]⟩ : ByteArray) ++ b ++ ⟨#[41, 10, 83, 58, 10]⟩) = c1 at C1 ⊢
  generalize checkF ((⟨#[97, 61, 120]⟩ : ByteArray) ++ b ++ ⟨#[10, 83, 58, 10]⟩) = c2 at C2 ⊢
  clear hX hY
  go_enter Try.func6, Try.ntmps6
  go_wp2_with (first
    | (go_at_call 8; have stage := HF1.out; refine (C2.out _).mono ?_; rintro e w2 ⟨rfl, hf2⟩; have HF2 := hid hf2; clear hf2)
    | (go_at_call 8; refine (C1.out _).mono ?_; rintro e w1 ⟨rfl, hf1⟩; have HF1 := hid hf1; clear hf1))
  all_goals
    go_ret
    have HF3 := hid (HF1.out.trans HF2.out)
    clear HF1 HF2
    exact ⟨by simp_all; try (rw [Bool.eq_iff_iff]; simp; omega), HF3.out⟩
set_option maxRecDepth 20000 in
set_option maxHeartbeats 2000000 in
theorem split_any (p q t : ByteArray) (n : Nat) (w : World) (hp : p.size ≤ 1125899906842624) (hq : q.size ≤ 1125899906842624) (ht : t.size < 200) (hn : n ≤ 1) :
    Calls Try.prog 11 #[.string p, .string q, .string t, .int .i64 n] w fun e w' => e = .returned (.bool (splitF p q t n)) ∧ Fresh w w' := by
  have MA := hid (fun (i : Nat) (w : World) => matched_any p (t.extract 0 i) w hp (by rw [ByteArray.size_extract]; omega))
  have MB := hid (fun (i : Nat) (w : World) => matched_any q (t.extract i t.size) w hq (by rw [ByteArray.size_extract]; omega))
  have HS : Hid (splitF p q t n = (List.range' n (t.size + 1 - n)).any fun i => mF p (t.extract 0 i) && mF q (t.extract i t.size)) := by
    unfold Hid splitF
    rw [Bool.eq_iff_iff, List.any_eq_true, List.any_eq_true]
    constructor
    · rintro ⟨i, h1, h2⟩
      rw [Bool.and_eq_true, decide_eq_true_eq] at h2
      rw [List.mem_range] at h1
      exact ⟨i, List.mem_range'_1.2 (by omega), h2.2⟩
    · rintro ⟨i, h1, h2⟩
      have := List.mem_range'_1.1 h1
      exact ⟨i, List.mem_range.2 (by omega), by rw [Bool.and_eq_true, decide_eq_true_eq]; exact ⟨by omega, h2⟩⟩
  rw [HS.out]
  clear HS
  generalize hA : (fun i => mF p (t.extract 0 i)) = fA at *
  generalize hB : (fun i => mF q (t.extract i t.size)) = fB at *
  have HA : Hid (∀ i, mF p (t.extract 0 i) = fA i) := fun i => by rw [← hA]
  have HB : Hid (∀ i, mF q (t.extract i t.size) = fB i) := fun i => by rw [← hB]
  have HE : Hid (∀ k, (List.range' k (t.size + 1 - k)).any (fun i => mF p (t.extract 0 i) && mF q (t.extract i t.size)) = (List.range' k (t.size + 1 - k)).any (fun i => fA i && fB i)) := fun k => by
    congr 1
    funext i
    rw [HA.out, HB.out]
  rw [HE.out n]
  clear hA hB HE
  go_enter Try.func11, Try.ntmps11
  go_wp2
  go_loopw [9, 10, 11, 12, 13] (fun x9 _ _ _ _ wr => ∃ (i : Nat), x9 = .int .i64 i ∧ i ≤ t.size + 1 ∧ (List.range' n (t.size + 1 - n)).any (fun i => fA i && fB i) = (List.range' i (t.size + 1 - i)).any (fun i => fA i && fB i) ∧ Fresh w wr)
      (fun x _ _ _ _ _ => 1001 - (intOf x).toNat)
  case atStart => exact ⟨n, rfl, by omega, rfl, Mod.refl _ w⟩
  case round =>
    obtain ⟨i, rfl, hi, hrec, hfr⟩ := hrel
    have HFR := hid hfr
    have HREC := hid hrec
    have HME := hid (meas (B := 1001) i (by omega))
    clear hfr hrec
    by_cases hlt : i ≤ t.size
    · have hlt1 : (i : Int) ≤ (t.size : Int) := by omega
      have HRN : Hid ((List.range' i (t.size + 1 - i)).any (fun i => fA i && fB i) = ((fA i && fB i) || (List.range' (i + 1) (t.size + 1 - (i + 1))).any (fun i => fA i && fB i))) := by
        unfold Hid
        rw [show t.size + 1 - i = (t.size + 1 - (i + 1)) + 1 by omega, List.range'_succ]
        rfl
      have MAI := hid (MA.out i)
      have MBI := hid (MB.out i)
      rw [HA.out] at MAI
      rw [HB.out] at MBI
      generalize fA i = ai at MAI HRN
      generalize fB i = bi at MBI HRN
      cases ai
      · go_wp2_with (first
          | (go_at_call 10; have stage := HF1.out; refine (MBI.out _).mono ?_; rintro e w2 ⟨rfl, hf2⟩; have HF2 := hid (HF1.out.trans hf2); clear hf2)
          | (go_at_call 10; refine (MAI.out _).mono ?_; rintro e w1 ⟨rfl, hf1⟩; have HF1 := hid (HFR.out.trans hf1); clear hf1))
        go_roundw
        case rel => exact ⟨i + 1, by go_num, by omega, by rw [HREC.out, HRN.out]; rfl, HF2.out⟩
        case measure => exact HME.out
      · cases bi
        · go_wp2_with (first
            | (go_at_call 10; have stage := HF1.out; refine (MBI.out _).mono ?_; rintro e w2 ⟨rfl, hf2⟩; have HF2 := hid (HF1.out.trans hf2); clear hf2)
            | (go_at_call 10; refine (MAI.out _).mono ?_; rintro e w1 ⟨rfl, hf1⟩; have HF1 := hid (HFR.out.trans hf1); clear hf1))
          go_roundw
          case rel => exact ⟨i + 1, by go_num, by omega, by rw [HREC.out, HRN.out]; rfl, HF2.out⟩
          case measure => exact HME.out
        · go_wp2_with (first
            | (go_at_call 10; have stage := HF1.out; refine (MBI.out _).mono ?_; rintro e w2 ⟨rfl, hf2⟩; have HF2 := hid (HF1.out.trans hf2); clear hf2)
            | (go_at_call 10; refine (MAI.out _).mono ?_; rintro e w1 ⟨rfl, hf1⟩; have HF1 := hid (HFR.out.trans hf1); clear hf1))
          go_ret
          exact ⟨by rw [HREC.out, HRN.out]; rfl, HF2.out⟩
    · have hlt1 : ¬ (i : Int) ≤ (t.size : Int) := by omega
      have HZ : Hid ((List.range' i (t.size + 1 - i)).any (fun i => fA i && fB i) = false) := by
        unfold Hid
        rw [show t.size + 1 - i = 0 by omega]; rfl
      go_wp2
      go_ret
      exact ⟨by rw [HREC.out, HZ.out]; rfl, HFR.out⟩
end Go.Proofs.Ytdbdkdekeicmhaa
namespace Go.Proofs.Ytdbdkdekeicmhaa
open Go.RowKit
set_option linter.unusedVariables false
set_option linter.unusedSimpArgs false

set_option maxRecDepth 20000 in
set_option maxHeartbeats 8000000 in
theorem joinedK_any (p q t : ByteArray) (w : World) (hp : p.size ≤ 140737488355328) (hq : q.size ≤ 140737488355328) (ht : t.size < 200) (h1 : (checkF (specX p)).1 = 0) (h2 : (checkF (specY p)).1 = 0 ∨ (checkF (specY p)).1 = 5) (h3 : (checkF (specX q)).1 = 0) (h4 : (checkF (specY q)).1 = 0 ∨ (checkF (specY q)).1 = 5) :
    Calls Try.prog 7 #[.string p, .string q, .string t] w fun e w' => e = .returned (.bool true) ∧ Fresh w w' := by
  have z1 : (eitherT p q).size = 1 + p.size + 3 + q.size + 1 := by unfold eitherT openT closeT; simp only [ByteArray.size_append]; rfl
  have z2 : (bothT p q).size = 1 + p.size + 2 + q.size + 1 := by unfold bothT openT closeT; simp only [ByteArray.size_append]; rfl
  have z3 : ∀ m, (markT m p).size = 1 + p.size + 2 := fun m => by unfold markT openT; simp only [ByteArray.size_append]; rfl
  have M1 := hid (fun w => matched_any p t w (by omega) (by omega))
  have M2 := hid (fun w => matched_any q t w (by omega) (by omega))
  have M3 := hid (fun w => matched_any (eitherT p q) t w (by omega) (by omega))
  have M4 := hid (fun w => matched_any (bothT p q) t w (by omega) (by omega))
  have M5 := hid (fun w => matched_any (markT 42 p) t w (by have := z3 42; omega) (by omega))
  have M6 := hid (fun w => matched_any (markT 43 p) t w (by have := z3 43; omega) (by omega))
  have M7 := hid (fun w => matched_any (markT 63 p) t w (by have := z3 63; omega) (by omega))
  have S1 := hid (fun w => split_any p q t 0 w (by omega) (by omega) ht (by omega))
  have S2 := hid (fun w => split_any p (markT 42 p) t 1 w (by omega) (by have := z3 42; omega) ht (by omega))
  have S3 := hid (fun w => split_any p (markT 42 p) t 0 w (by omega) (by have := z3 42; omega) ht (by omega))
  have JN : Hid (eF (eitherT p q) t = 0 → eF (bothT p q) t = 0 → eF (markT 42 p) t = 0 → eF (markT 43 p) t = 0 → eF (markT 63 p) t = 0 → Joins p q t) := fun e1 e2 e3 e4 e5 => joins_of h1 h2 h3 h4 ht e1 e2 e3 e4 e5
  have JA : Hid ((eF (eitherT p q) t == 0) = true → (eF (bothT p q) t == 0) = true → (eF (markT 42 p) t == 0) = true → (eF (markT 43 p) t == 0) = true → (eF (markT 63 p) t == 0) = true → mF (eitherT p q) t = (mF p t || mF q t) ∧ mF (bothT p q) t = splitF p q t 0 ∧ mF (markT 42 p) t = (decide (t.size = 0) || splitF p (markT 42 p) t 1) ∧ mF (markT 43 p) t = splitF p (markT 42 p) t 0 ∧ mF (markT 63 p) t = (mF p t || decide (t.size = 0))) := fun e1 e2 e3 e4 e5 => by
    have j := JN.out (by simpa using e1) (by simpa using e2) (by simpa using e3) (by simpa using e4) (by simpa using e5)
    exact ⟨j.either, j.both, j.many, j.once, j.maybe⟩
  clear JN h1 h2 h3 h4 z1 z2 z3
  generalize mF p t = a at M1 JA
  generalize (eF p t == 0) = x1 at M1
  generalize mF q t = b at M2 JA
  generalize (eF q t == 0) = x2 at M2
  generalize mF (eitherT p q) t = m3 at M3 JA
  generalize (eF (eitherT p q) t == 0) = f3 at M3 JA
  generalize mF (bothT p q) t = m4 at M4 JA
  generalize (eF (bothT p q) t == 0) = f4 at M4 JA
  generalize mF (markT 42 p) t = m5 at M5 JA
  generalize (eF (markT 42 p) t == 0) = f5 at M5 JA
  generalize mF (markT 43 p) t = m6 at M6 JA
  generalize (eF (markT 43 p) t == 0) = f6 at M6 JA
  generalize mF (markT 63 p) t = m7 at M7 JA
  generalize (eF (markT 63 p) t == 0) = f7 at M7 JA
  generalize splitF p q t 0 = s1 at S1 JA
  generalize splitF p (markT 42 p) t 1 = s2 at S2 JA
  generalize splitF p (markT 42 p) t 0 = s3 at S3 JA
  unfold eitherT openT closeT at M3
  unfold bothT openT closeT at M4
  unfold markT openT at M5 M6 M7 S2 S3
  cases f3
  · go_enter Try.func7, Try.ntmps7
    go_wp2_with (first
      | (go_at_call 10; have stage := HF6.out; refine (M7.out _).mono ?_; rintro e w7 ⟨rfl, hf⟩; have HF7 := hid (HF6.out.trans hf); clear hf)
      | (go_at_call 10; have stage := HF5.out; refine (M6.out _).mono ?_; rintro e w6 ⟨rfl, hf⟩; have HF6 := hid (HF5.out.trans hf); clear hf)
      | (go_at_call 10; have stage := HF4.out; refine (M5.out _).mono ?_; rintro e w5 ⟨rfl, hf⟩; have HF5 := hid (HF4.out.trans hf); clear hf)
      | (go_at_call 10; have stage := HF3.out; refine (M4.out _).mono ?_; rintro e w4 ⟨rfl, hf⟩; have HF4 := hid (HF3.out.trans hf); clear hf)
      | (go_at_call 10; have stage := HF2.out; refine (M3.out _).mono ?_; rintro e w3 ⟨rfl, hf⟩; have HF3 := hid (HF2.out.trans hf); clear hf)
      | (go_at_call 10; have stage := HF1.out; refine (M2.out _).mono ?_; rintro e w2 ⟨rfl, hf⟩; have HF2 := hid (HF1.out.trans hf); clear hf)
      | (go_at_call 10; refine (M1.out _).mono ?_; rintro e w1 ⟨rfl, hf⟩; have HF1 := hid hf; clear hf)
      | (go_at_call 11; have stage := HF9.out; refine (S3.out _).mono ?_; rintro e w10 ⟨rfl, hf⟩; have HF10 := hid (HF9.out.trans hf); clear hf)
      | (go_at_call 11; have stage := HF8.out; refine (S2.out _).mono ?_; rintro e w9 ⟨rfl, hf⟩; have HF9 := hid (HF8.out.trans hf); clear hf)
      | (go_at_call 11; have stage := HF7.out; refine (S1.out _).mono ?_; rintro e w8 ⟨rfl, hf⟩; have HF8 := hid (HF7.out.trans hf); clear hf))
    go_ret
    exact ⟨rfl, HF7.out⟩
  · skip
    cases f4
    · go_enter Try.func7, Try.ntmps7
      go_wp2_with (first
        | (go_at_call 10; have stage := HF6.out; refine (M7.out _).mono ?_; rintro e w7 ⟨rfl, hf⟩; have HF7 := hid (HF6.out.trans hf); clear hf)
        | (go_at_call 10; have stage := HF5.out; refine (M6.out _).mono ?_; rintro e w6 ⟨rfl, hf⟩; have HF6 := hid (HF5.out.trans hf); clear hf)
        | (go_at_call 10; have stage := HF4.out; refine (M5.out _).mono ?_; rintro e w5 ⟨rfl, hf⟩; have HF5 := hid (HF4.out.trans hf); clear hf)
        | (go_at_call 10; have stage := HF3.out; refine (M4.out _).mono ?_; rintro e w4 ⟨rfl, hf⟩; have HF4 := hid (HF3.out.trans hf); clear hf)
        | (go_at_call 10; have stage := HF2.out; refine (M3.out _).mono ?_; rintro e w3 ⟨rfl, hf⟩; have HF3 := hid (HF2.out.trans hf); clear hf)
        | (go_at_call 10; have stage := HF1.out; refine (M2.out _).mono ?_; rintro e w2 ⟨rfl, hf⟩; have HF2 := hid (HF1.out.trans hf); clear hf)
        | (go_at_call 10; refine (M1.out _).mono ?_; rintro e w1 ⟨rfl, hf⟩; have HF1 := hid hf; clear hf)
        | (go_at_call 11; have stage := HF9.out; refine (S3.out _).mono ?_; rintro e w10 ⟨rfl, hf⟩; have HF10 := hid (HF9.out.trans hf); clear hf)
        | (go_at_call 11; have stage := HF8.out; refine (S2.out _).mono ?_; rintro e w9 ⟨rfl, hf⟩; have HF9 := hid (HF8.out.trans hf); clear hf)
        | (go_at_call 11; have stage := HF7.out; refine (S1.out _).mono ?_; rintro e w8 ⟨rfl, hf⟩; have HF8 := hid (HF7.out.trans hf); clear hf))
      go_ret
      exact ⟨rfl, HF7.out⟩
    · skip
      cases f5
      · go_enter Try.func7, Try.ntmps7
        go_wp2_with (first
          | (go_at_call 10; have stage := HF6.out; refine (M7.out _).mono ?_; rintro e w7 ⟨rfl, hf⟩; have HF7 := hid (HF6.out.trans hf); clear hf)
          | (go_at_call 10; have stage := HF5.out; refine (M6.out _).mono ?_; rintro e w6 ⟨rfl, hf⟩; have HF6 := hid (HF5.out.trans hf); clear hf)
          | (go_at_call 10; have stage := HF4.out; refine (M5.out _).mono ?_; rintro e w5 ⟨rfl, hf⟩; have HF5 := hid (HF4.out.trans hf); clear hf)
          | (go_at_call 10; have stage := HF3.out; refine (M4.out _).mono ?_; rintro e w4 ⟨rfl, hf⟩; have HF4 := hid (HF3.out.trans hf); clear hf)
          | (go_at_call 10; have stage := HF2.out; refine (M3.out _).mono ?_; rintro e w3 ⟨rfl, hf⟩; have HF3 := hid (HF2.out.trans hf); clear hf)
          | (go_at_call 10; have stage := HF1.out; refine (M2.out _).mono ?_; rintro e w2 ⟨rfl, hf⟩; have HF2 := hid (HF1.out.trans hf); clear hf)
          | (go_at_call 10; refine (M1.out _).mono ?_; rintro e w1 ⟨rfl, hf⟩; have HF1 := hid hf; clear hf)
          | (go_at_call 11; have stage := HF9.out; refine (S3.out _).mono ?_; rintro e w10 ⟨rfl, hf⟩; have HF10 := hid (HF9.out.trans hf); clear hf)
          | (go_at_call 11; have stage := HF8.out; refine (S2.out _).mono ?_; rintro e w9 ⟨rfl, hf⟩; have HF9 := hid (HF8.out.trans hf); clear hf)
          | (go_at_call 11; have stage := HF7.out; refine (S1.out _).mono ?_; rintro e w8 ⟨rfl, hf⟩; have HF8 := hid (HF7.out.trans hf); clear hf))
        go_ret
        exact ⟨rfl, HF7.out⟩
      · skip
        cases f6
        · go_enter Try.func7, Try.ntmps7
          go_wp2_with (first
            | (go_at_call 10; have stage := HF6.out; refine (M7.out _).mono ?_; rintro e w7 ⟨rfl, hf⟩; have HF7 := hid (HF6.out.trans hf); clear hf)
            | (go_at_call 10; have stage := HF5.out; refine (M6.out _).mono ?_; rintro e w6 ⟨rfl, hf⟩; have HF6 := hid (HF5.out.trans hf); clear hf)
            | (go_at_call 10; have stage := HF4.out; refine (M5.out _).mono ?_; rintro e w5 ⟨rfl, hf⟩; have HF5 := hid (HF4.out.trans hf); clear hf)
            | (go_at_call 10; have stage := HF3.out; refine (M4.out _).mono ?_; rintro e w4 ⟨rfl, hf⟩; have HF4 := hid (HF3.out.trans hf); clear hf)
            | (go_at_call 10; have stage := HF2.out; refine (M3.out _).mono ?_; rintro e w3 ⟨rfl, hf⟩; have HF3 := hid (HF2.out.trans hf); clear hf)
            | (go_at_call 10; have stage := HF1.out; refine (M2.out _).mono ?_; rintro e w2 ⟨rfl, hf⟩; have HF2 := hid (HF1.out.trans hf); clear hf)
            | (go_at_call 10; refine (M1.out _).mono ?_; rintro e w1 ⟨rfl, hf⟩; have HF1 := hid hf; clear hf)
            | (go_at_call 11; have stage := HF9.out; refine (S3.out _).mono ?_; rintro e w10 ⟨rfl, hf⟩; have HF10 := hid (HF9.out.trans hf); clear hf)
            | (go_at_call 11; have stage := HF8.out; refine (S2.out _).mono ?_; rintro e w9 ⟨rfl, hf⟩; have HF9 := hid (HF8.out.trans hf); clear hf)
            | (go_at_call 11; have stage := HF7.out; refine (S1.out _).mono ?_; rintro e w8 ⟨rfl, hf⟩; have HF8 := hid (HF7.out.trans hf); clear hf))
          go_ret
          exact ⟨rfl, HF7.out⟩
        · skip
          cases f7
          · go_enter Try.func7, Try.ntmps7
            go_wp2_with (first
              | (go_at_call 10; have stage := HF6.out; refine (M7.out _).mono ?_; rintro e w7 ⟨rfl, hf⟩; have HF7 := hid (HF6.out.trans hf); clear hf)
              | (go_at_call 10; have stage := HF5.out; refine (M6.out _).mono ?_; rintro e w6 ⟨rfl, hf⟩; have HF6 := hid (HF5.out.trans hf); clear hf)
              | (go_at_call 10; have stage := HF4.out; refine (M5.out _).mono ?_; rintro e w5 ⟨rfl, hf⟩; have HF5 := hid (HF4.out.trans hf); clear hf)
              | (go_at_call 10; have stage := HF3.out; refine (M4.out _).mono ?_; rintro e w4 ⟨rfl, hf⟩; have HF4 := hid (HF3.out.trans hf); clear hf)
              | (go_at_call 10; have stage := HF2.out; refine (M3.out _).mono ?_; rintro e w3 ⟨rfl, hf⟩; have HF3 := hid (HF2.out.trans hf); clear hf)
              | (go_at_call 10; have stage := HF1.out; refine (M2.out _).mono ?_; rintro e w2 ⟨rfl, hf⟩; have HF2 := hid (HF1.out.trans hf); clear hf)
              | (go_at_call 10; refine (M1.out _).mono ?_; rintro e w1 ⟨rfl, hf⟩; have HF1 := hid hf; clear hf)
              | (go_at_call 11; have stage := HF9.out; refine (S3.out _).mono ?_; rintro e w10 ⟨rfl, hf⟩; have HF10 := hid (HF9.out.trans hf); clear hf)
              | (go_at_call 11; have stage := HF8.out; refine (S2.out _).mono ?_; rintro e w9 ⟨rfl, hf⟩; have HF9 := hid (HF8.out.trans hf); clear hf)
              | (go_at_call 11; have stage := HF7.out; refine (S1.out _).mono ?_; rintro e w8 ⟨rfl, hf⟩; have HF8 := hid (HF7.out.trans hf); clear hf))
            go_ret
            exact ⟨rfl, HF7.out⟩
          · skip
            obtain ⟨j1, j2, j3, j4, j5⟩ := JA.out rfl rfl rfl rfl rfl
            subst j1 j2 j4
            by_cases ht0 : t.size = 0
            · have hte : t = ByteArray.empty := by
                apply ByteArray.ext
                exact Array.eq_empty_of_size_eq_zero ht0
              subst hte
              have hd : decide (ByteArray.empty.size = 0) = true := rfl
              rw [hd] at j3 j5
              subst j3 j5
              clear ht0 hd
              cases a
              · go_enter Try.func7, Try.ntmps7
                go_wp2_with (first
                  | (go_at_call 10; have stage := HF6.out; refine (M7.out _).mono ?_; rintro e w7 ⟨rfl, hf⟩; have HF7 := hid (HF6.out.trans hf); clear hf)
                  | (go_at_call 10; have stage := HF5.out; refine (M6.out _).mono ?_; rintro e w6 ⟨rfl, hf⟩; have HF6 := hid (HF5.out.trans hf); clear hf)
                  | (go_at_call 10; have stage := HF4.out; refine (M5.out _).mono ?_; rintro e w5 ⟨rfl, hf⟩; have HF5 := hid (HF4.out.trans hf); clear hf)
                  | (go_at_call 10; have stage := HF3.out; refine (M4.out _).mono ?_; rintro e w4 ⟨rfl, hf⟩; have HF4 := hid (HF3.out.trans hf); clear hf)
                  | (go_at_call 10; have stage := HF2.out; refine (M3.out _).mono ?_; rintro e w3 ⟨rfl, hf⟩; have HF3 := hid (HF2.out.trans hf); clear hf)
                  | (go_at_call 10; have stage := HF1.out; refine (M2.out _).mono ?_; rintro e w2 ⟨rfl, hf⟩; have HF2 := hid (HF1.out.trans hf); clear hf)
                  | (go_at_call 10; refine (M1.out _).mono ?_; rintro e w1 ⟨rfl, hf⟩; have HF1 := hid hf; clear hf)
                  | (go_at_call 11; have stage := HF9.out; refine (S3.out _).mono ?_; rintro e w10 ⟨rfl, hf⟩; have HF10 := hid (HF9.out.trans hf); clear hf)
                  | (go_at_call 11; have stage := HF8.out; refine (S2.out _).mono ?_; rintro e w9 ⟨rfl, hf⟩; have HF9 := hid (HF8.out.trans hf); clear hf)
                  | (go_at_call 11; have stage := HF7.out; refine (S1.out _).mono ?_; rintro e w8 ⟨rfl, hf⟩; have HF8 := hid (HF7.out.trans hf); clear hf))
                go_ret
                exact ⟨by first | rfl | simp, HF10.out⟩
              · go_enter Try.func7, Try.ntmps7
                go_wp2_with (first
                  | (go_at_call 10; have stage := HF6.out; refine (M7.out _).mono ?_; rintro e w7 ⟨rfl, hf⟩; have HF7 := hid (HF6.out.trans hf); clear hf)
                  | (go_at_call 10; have stage := HF5.out; refine (M6.out _).mono ?_; rintro e w6 ⟨rfl, hf⟩; have HF6 := hid (HF5.out.trans hf); clear hf)
                  | (go_at_call 10; have stage := HF4.out; refine (M5.out _).mono ?_; rintro e w5 ⟨rfl, hf⟩; have HF5 := hid (HF4.out.trans hf); clear hf)
                  | (go_at_call 10; have stage := HF3.out; refine (M4.out _).mono ?_; rintro e w4 ⟨rfl, hf⟩; have HF4 := hid (HF3.out.trans hf); clear hf)
                  | (go_at_call 10; have stage := HF2.out; refine (M3.out _).mono ?_; rintro e w3 ⟨rfl, hf⟩; have HF3 := hid (HF2.out.trans hf); clear hf)
                  | (go_at_call 10; have stage := HF1.out; refine (M2.out _).mono ?_; rintro e w2 ⟨rfl, hf⟩; have HF2 := hid (HF1.out.trans hf); clear hf)
                  | (go_at_call 10; refine (M1.out _).mono ?_; rintro e w1 ⟨rfl, hf⟩; have HF1 := hid hf; clear hf)
                  | (go_at_call 11; have stage := HF9.out; refine (S3.out _).mono ?_; rintro e w10 ⟨rfl, hf⟩; have HF10 := hid (HF9.out.trans hf); clear hf)
                  | (go_at_call 11; have stage := HF8.out; refine (S2.out _).mono ?_; rintro e w9 ⟨rfl, hf⟩; have HF9 := hid (HF8.out.trans hf); clear hf)
                  | (go_at_call 11; have stage := HF7.out; refine (S1.out _).mono ?_; rintro e w8 ⟨rfl, hf⟩; have HF8 := hid (HF7.out.trans hf); clear hf))
                go_ret
                exact ⟨by first | rfl | simp, HF10.out⟩
            · have hd : decide (t.size = 0) = false := by simpa using ht0
              rw [hd] at j3 j5
              rw [Bool.false_or] at j3
              rw [Bool.or_false] at j5
              subst j3 j5
              have hne : ¬ t = ByteArray.empty := fun e => ht0 (by rw [e]; rfl)
              have hne2 : decide (t = ByteArray.empty) = false := by simpa using hne
              have hne3 : ¬ t = ⟨#[]⟩ := hne
              have hne5 : t.toList.isEmpty = false := by
                cases e : t.toList.isEmpty
                · rfl
                · exfalso
                  have h1 : t.toList = [] := by simpa using e
                  rw [btl] at h1
                  exact hne (by apply ByteArray.ext; exact Array.toList_inj.1 (by rw [h1]; rfl))
              cases m7
              · go_enter Try.func7, Try.ntmps7
                go_wp2_with (first
                  | (go_at_call 10; have stage := HF6.out; refine (M7.out _).mono ?_; rintro e w7 ⟨rfl, hf⟩; have HF7 := hid (HF6.out.trans hf); clear hf)
                  | (go_at_call 10; have stage := HF5.out; refine (M6.out _).mono ?_; rintro e w6 ⟨rfl, hf⟩; have HF6 := hid (HF5.out.trans hf); clear hf)
                  | (go_at_call 10; have stage := HF4.out; refine (M5.out _).mono ?_; rintro e w5 ⟨rfl, hf⟩; have HF5 := hid (HF4.out.trans hf); clear hf)
                  | (go_at_call 10; have stage := HF3.out; refine (M4.out _).mono ?_; rintro e w4 ⟨rfl, hf⟩; have HF4 := hid (HF3.out.trans hf); clear hf)
                  | (go_at_call 10; have stage := HF2.out; refine (M3.out _).mono ?_; rintro e w3 ⟨rfl, hf⟩; have HF3 := hid (HF2.out.trans hf); clear hf)
                  | (go_at_call 10; have stage := HF1.out; refine (M2.out _).mono ?_; rintro e w2 ⟨rfl, hf⟩; have HF2 := hid (HF1.out.trans hf); clear hf)
                  | (go_at_call 10; refine (M1.out _).mono ?_; rintro e w1 ⟨rfl, hf⟩; have HF1 := hid hf; clear hf)
                  | (go_at_call 11; have stage := HF9.out; refine (S3.out _).mono ?_; rintro e w10 ⟨rfl, hf⟩; have HF10 := hid (HF9.out.trans hf); clear hf)
                  | (go_at_call 11; have stage := HF8.out; refine (S2.out _).mono ?_; rintro e w9 ⟨rfl, hf⟩; have HF9 := hid (HF8.out.trans hf); clear hf)
                  | (go_at_call 11; have stage := HF7.out; refine (S1.out _).mono ?_; rintro e w8 ⟨rfl, hf⟩; have HF8 := hid (HF7.out.trans hf); clear hf))
                go_ret
                exact ⟨by first | rfl | simp, HF10.out⟩
              · go_enter Try.func7, Try.ntmps7
                go_wp2_with (first
                  | (go_at_call 10; have stage := HF6.out; refine (M7.out _).mono ?_; rintro e w7 ⟨rfl, hf⟩; have HF7 := hid (HF6.out.trans hf); clear hf)
                  | (go_at_call 10; have stage := HF5.out; refine (M6.out _).mono ?_; rintro e w6 ⟨rfl, hf⟩; have HF6 := hid (HF5.out.trans hf); clear hf)
                  | (go_at_call 10; have stage := HF4.out; refine (M5.out _).mono ?_; rintro e w5 ⟨rfl, hf⟩; have HF5 := hid (HF4.out.trans hf); clear hf)
                  | (go_at_call 10; have stage := HF3.out; refine (M4.out _).mono ?_; rintro e w4 ⟨rfl, hf⟩; have HF4 := hid (HF3.out.trans hf); clear hf)
                  | (go_at_call 10; have stage := HF2.out; refine (M3.out _).mono ?_; rintro e w3 ⟨rfl, hf⟩; have HF3 := hid (HF2.out.trans hf); clear hf)
                  | (go_at_call 10; have stage := HF1.out; refine (M2.out _).mono ?_; rintro e w2 ⟨rfl, hf⟩; have HF2 := hid (HF1.out.trans hf); clear hf)
                  | (go_at_call 10; refine (M1.out _).mono ?_; rintro e w1 ⟨rfl, hf⟩; have HF1 := hid hf; clear hf)
                  | (go_at_call 11; have stage := HF9.out; refine (S3.out _).mono ?_; rintro e w10 ⟨rfl, hf⟩; have HF10 := hid (HF9.out.trans hf); clear hf)
                  | (go_at_call 11; have stage := HF8.out; refine (S2.out _).mono ?_; rintro e w9 ⟨rfl, hf⟩; have HF9 := hid (HF8.out.trans hf); clear hf)
                  | (go_at_call 11; have stage := HF7.out; refine (S1.out _).mono ?_; rintro e w8 ⟨rfl, hf⟩; have HF8 := hid (HF7.out.trans hf); clear hf))
                go_ret
                exact ⟨by first | rfl | simp, HF10.out⟩
end Go.Proofs.Ytdbdkdekeicmhaa
