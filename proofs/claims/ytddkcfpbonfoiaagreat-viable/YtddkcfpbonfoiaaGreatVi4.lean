import Derived.Test.YtddkcfpbonfoiaaGreatVi1
namespace Go.Proofs.YtddkcfpbonfoiaaGreat
open Go.RowKit
set_option linter.unusedVariables false
set_option linter.unusedSimpArgs false

/-- the specification is not right, or its productions clash -/
theorem free_no (s : ByteArray) (w : World) (hs : s.size ≤ maxLen) (hb : (checkF s).1 ≠ 0 ∨ clashF s ≠ []) :
    Calls Tryz.prog 4 #[.string s] w fun e w' => ∃ v, e = .returned (.tuple #[v, .bool false, .bool true]) ∧ Fresh w w' := by
  by_cases hc : (checkF s).1 = 0
  · have hcl : clashF s ≠ [] := by rcases hb with h | h; exact absurd hc h; exact h
    have hd : decide ((clashF s).length = 0) = false := by simpa using hcl
    refine (free_good s w (check_zero hc)).mono fun e w' ⟨b, h1, _, h3⟩ => ⟨bptr b, ?_, h3⟩
    rw [hd] at h1; exact h1
  · exact (free_bad s w hs hc).mono fun e w' ⟨h1, h3⟩ => ⟨_, h1, h3⟩

set_option maxRecDepth 20000 in
set_option maxHeartbeats 4000000 in
theorem viable_not (s : ByteArray) (vk : Value) (w : World) (hs : s.size ≤ maxLen) (hb : (checkF s).1 ≠ 0 ∨ clashF s ≠ []) :
    Calls Tryz.prog 3 #[.string s, vk] w fun e w' => e = .returned (.bool true) ∧ Fresh w w' := by
  have FN := hid (fun w => free_no s w hs hb)
  clear hb
  go_enter Tryz.func3, Tryz.ntmps3
  go_wp2_with (first
    | (go_at_call 4; refine (FN.out _).mono ?_; rintro e w1 ⟨vx, rfl, hf1⟩; have HF1 := hid hf1; clear hf1))
  go_ret
  exact ⟨rfl, HF1.out⟩

set_option maxRecDepth 20000 in
set_option maxHeartbeats 4000000 in
theorem viable_long (s : ByteArray) (kinds : List Int) (vk : Value) (w : World) (hk : IntAt w vk kinds) (hl : 60 < kinds.length) (hm : kinds.length ≤ maxLen) (hc : (checkF s).1 = 0) (hcl : clashF s = []) :
    Calls Tryz.prog 3 #[.string s, vk] w fun e w' => e = .returned (.bool true) ∧ Fresh w w' := by
  have FG := hid (fun w => free_good s w (check_zero hc))
  have hd : decide ((clashF s).length = 0) = true := by simpa using hcl
  rw [hd] at FG
  obtain ⟨ka, kc, rfl, hkc, _⟩ := hk
  have hl1 : (60 : Int) < (kinds.length : Int) := by omega
  unfold maxLen at hm
  clear hd hc hcl
  go_enter Tryz.func3, Tryz.ntmps3
  go_wp2_with (first
    | (go_at_call 4; refine (FG.out _).mono ?_; rintro e w1 ⟨b, rfl, _, hf1⟩; have HF1 := hid hf1; clear hf1))
  go_ret
  exact ⟨rfl, HF1.out⟩

set_option maxRecDepth 20000 in
set_option maxHeartbeats 8000000 in
theorem viable_arg (s : ByteArray) (kinds : List Int) (vk : Value) (w : World) (hs : s.size ≤ maxLen) (hk : IntAt w vk kinds) (hl : kinds.length ≤ 60) (hc : (checkF s).1 = 0) (hcl : clashF s = []) (hb : kindsOk (nR s) kinds = false) :
    Calls Tryz.prog 3 #[.string s, vk] w fun e w' => e = .returned (.bool true) ∧ Fresh w w' := by
  have hc2 := check_zero hc
  have FG := hid (fun w => free_good s w hc2)
  have hd : decide ((clashF s).length = 0) = true := by simpa using hcl
  rw [hd] at FG
  have hT := tab_of hc hcl
  have hR8 : nR s ≤ 8 := hT.hR
  have hR : (linesF s).1.rules.length = nR s := (lines_table hc2).1

  rw [← hR] at hb hR8
  have HK := hid hk
  have HB := hid hb
  have HR := hid hR
  have hka := hk
  obtain ⟨ka, kc, rfl, hkc, _⟩ := hk
  generalize (linesF s).1 = LN at FG HB hR8 HR
  have hl1 : ¬ (60 : Int) < (kinds.length : Int) := by omega
  clear hc hc2 hR hb hd hT hka
  go_enter Tryz.func3, Tryz.ntmps3
  go_wp2_with (first
    | (go_at_call 4; refine (FG.out _).mono ?_; rintro e w3 ⟨b, rfl, hx, hf1⟩; have HX3 := hid hx; have HF3 := hid hf1; clear hx hf1))
  go_loopw [8] (fun x8 wr => ∃ (i : Nat), x8 = .int .i64 i ∧ i ≤ kinds.length ∧ kindsOk LN.rules.length (kinds.drop i) = false ∧ Fresh w3 wr)
      (fun x _ => 1001 - (intOf x).toNat)
  case atStart => exact ⟨0, rfl, by omega, HB.out, Mod.refl _ _⟩
  case round =>
    obtain ⟨i, rfl, hi, hres, hfr⟩ := hrel
    have HFR := hid hfr
    have HME := hid (meas (B := 1001) i (by omega))
    by_cases hlt : i < kinds.length
    · have hi1 : (i : Int) < (kinds.length : Int) := by omega
      unfold kindsOk at hres
      obtain ⟨ra, rc, hrc⟩ := (HX3.out.fresh hfr).ru
      obtain ⟨ka', kc', hve, _, hcell⟩ := (HK.out.fresh HF3.out).fresh hfr
      rw [Value.slice.injEq] at hve
      obtain ⟨rfl, _, rfl⟩ := hve
      obtain ⟨g, o, rfl, c1⟩ := hcell i hlt
      clear hcell
      rw [List.drop_eq_getElem_cons hlt, List.all_cons] at hres
      generalize kinds[i] = li at hres c1
      generalize LN.rules.length = R at hres hrc
      by_cases h0 : 0 ≤ li
      · by_cases h1 : li < R
        · rw [decide_eq_true h0, decide_eq_true h1] at hres
          have HRES := hid hres
          clear hres hfr
          go_wp2_with fail
          go_quiet (fail)
          have HU1 : Hid (Fresh wr (wr.drewN nq)) := fdrewN' wr nq
          generalize wr.drewN nq = U1 at HU1 ⊢
          go_wp2
          go_roundw
          case rel => exact ⟨i + 1, by go_num, by omega, HRES.out, HFR.out.trans HU1.out⟩
          case measure => exact HME.out
        · clear hres hfr
          go_wp2_with fail
          go_quiet (fail)
          have HU1 : Hid (Fresh wr (wr.drewN nq)) := fdrewN' wr nq
          generalize wr.drewN nq = U1 at HU1 ⊢
          go_wp2
          go_ret
          exact ⟨rfl, HF3.out.trans (HFR.out.trans HU1.out)⟩
      · clear hres hfr
        go_wp2_with fail
        go_quiet (fail)
        have HU1 : Hid (Fresh wr (wr.drewN nq)) := fdrewN' wr nq
        generalize wr.drewN nq = U1 at HU1 ⊢
        go_wp2
        go_ret
        exact ⟨rfl, HF3.out.trans (HFR.out.trans HU1.out)⟩
    · have hie : i = kinds.length := by omega
      have hi2 : ¬ (i : Int) < (kinds.length : Int) := by omega
      rw [hie, List.drop_length] at hres
      cases hres

set_option maxRecDepth 20000 in
set_option maxHeartbeats 8000000 in
theorem viable_ok (s : ByteArray) (kinds : List Int) (vk : Value) (w : World) (hs : s.size ≤ maxLen) (hk : IntAt w vk kinds) (hl : kinds.length ≤ 60) (hc : (checkF s).1 = 0) (hcl : clashF s = []) (hb : kindsOk (nR s) kinds = true) (he : (parseF s kinds).err = 0) (hv : Via s kinds kinds.length) :
    Calls Tryz.prog 3 #[.string s, vk] w fun e w' => e = .returned (.bool true) ∧ Fresh w w' := by
  have hc2 := check_zero hc
  have FG := hid (fun w => free_good s w hc2)
  have hd : decide ((clashF s).length = 0) = true := by simpa using hcl
  rw [hd] at FG
  have hT := tab_of hc hcl
  have hR8 : nR s ≤ 8 := hT.hR
  have hR : (linesF s).1.rules.length = nR s := (lines_table hc2).1
  have PK := hid (fun (k : Nat) (V : World) (v : Value) (h : IntAt V v (kinds.take k)) => parse_ret s (kinds.take k) v V hs h (by rw [List.length_take]; omega))
  have PA := hid (fun (V : World) (v : Value) (h : IntAt V v kinds) => parse_ret s kinds v V hs h (by omega))
  unfold PRet at PK PA
  rw [he] at PA
  have EA := hid hv.each
  clear he hv
  rw [← hR] at hb hR8
  have HK := hid hk
  have HB := hid hb
  have HR := hid hR
  have hka := hk
  obtain ⟨ka, kc, rfl, hkc, _⟩ := hk
  generalize (linesF s).1 = LN at FG HB hR8 HR
  have hl1 : ¬ (60 : Int) < (kinds.length : Int) := by omega
  clear hc hc2 hR hb hd hT hka
  go_enter Tryz.func3, Tryz.ntmps3
  go_wp2_with (first
    | (go_at_call 4; refine (FG.out _).mono ?_; rintro e w3 ⟨b, rfl, hx, hf1⟩; have HX3 := hid hx; have HF3 := hid hf1; clear hx hf1))
  go_loopw [8] (fun x8 wr => ∃ (i : Nat), x8 = .int .i64 i ∧ i ≤ kinds.length ∧ kindsOk LN.rules.length (kinds.drop i) = true ∧ Fresh w3 wr)
      (fun x _ => 1001 - (intOf x).toNat)
  case atStart => exact ⟨0, rfl, by omega, HB.out, Mod.refl _ _⟩
  case round =>
    obtain ⟨i, rfl, hi, hres, hfr⟩ := hrel
    have HFR := hid hfr
    have HME := hid (meas (B := 1001) i (by omega))
    by_cases hlt : i < kinds.length
    · have hi1 : (i : Int) < (kinds.length : Int) := by omega
      unfold kindsOk at hres
      obtain ⟨ra, rc, hrc⟩ := (HX3.out.fresh hfr).ru
      obtain ⟨ka', kc', hve, _, hcell⟩ := (HK.out.fresh HF3.out).fresh hfr
      rw [Value.slice.injEq] at hve
      obtain ⟨rfl, _, rfl⟩ := hve
      obtain ⟨g, o, rfl, c1⟩ := hcell i hlt
      clear hcell
      rw [List.drop_eq_getElem_cons hlt, List.all_cons, Bool.and_eq_true, Bool.and_eq_true, decide_eq_true_eq, decide_eq_true_eq] at hres
      obtain ⟨⟨h0, h1⟩, hres⟩ := hres
      generalize kinds[i] = li at h0 h1 c1
      generalize LN.rules.length = R at hres hrc h1
      have HRES := hid hres
      clear hres hfr
      go_wp2_with fail
      go_quiet (fail)
      have HU1 : Hid (Fresh wr (wr.drewN nq)) := fdrewN' wr nq
      generalize wr.drewN nq = U1 at HU1 ⊢
      go_wp2
      go_roundw
      case rel => exact ⟨i + 1, by go_num, by omega, HRES.out, HFR.out.trans HU1.out⟩
      case measure => exact HME.out
    · have hie : i = kinds.length := by omega
      have hi2 : ¬ (i : Int) < (kinds.length : Int) := by omega
      clear hres hfr
      go_wp2_with (first
        | (go_at_call 5; refine (PA.out _ _ ((HK.out.fresh HF3.out).fresh HFR.out)).mono ?_; rintro e w4 ⟨na, nc, xa, xc, rfl, hf4, _⟩; have HF4 := hid (HF3.out.trans (HFR.out.trans hf4)); clear hf4))
      go_loopw [15, 16, 17] (fun x15 _ _ wr => ∃ (k : Nat), x15 = .int .i64 k ∧ k ≤ kinds.length ∧ Fresh w wr)
          (fun x _ _ _ => 1001 - (intOf x).toNat)
      case atStart => exact ⟨0, rfl, by omega, HF4.out.alloc _⟩
      case round =>
        obtain ⟨k, rfl, hkn, hfv⟩ := hrel
        have HFV := hid hfv
        have HMV := hid (meas (B := 1001) k (by omega))
        clear hfv
        by_cases hlv : k < kinds.length
        · have hlv1 : (k : Int) < ((kinds.length : Nat) : Int) := by omega
          have hk1 : (k : Int) ≤ (kc : Int) := by omega
          have hk2 : k ≤ kc := by omega
          have HKT : Hid (IntAt wr (.slice ka k kc) (kinds.take k)) := (HK.out.fresh HFV.out).take (by omega)
          have PKI := hid (fun V v h => PK.out k V v h)
          rcases EA.out k hlv with e1 | ⟨e1, e2⟩
          · rw [e1] at PKI
            clear e1
            go_wp2_with (first
              | (go_at_call 5; refine (PKI.out _ _ HKT.out).mono ?_; rintro e w5 ⟨na5, nc5, xa5, xc5, rfl, hf5, _⟩; have HF5 := hid (HFV.out.trans hf5); clear hf5))
            go_roundw
            case rel => exact ⟨k + 1, by go_num, by omega, HF5.out.alloc _⟩
            case measure => exact HMV.out
          · rw [e1, e2] at PKI
            clear e1 e2
            go_wp2_with (first
              | (go_at_call 5; refine (PKI.out _ _ HKT.out).mono ?_; rintro e w5 ⟨na5, nc5, xa5, xc5, rfl, hf5, _⟩; have HF5 := hid (HFV.out.trans hf5); clear hf5))
            go_roundw
            case rel => exact ⟨k + 1, by go_num, by omega, HF5.out.alloc _⟩
            case measure => exact HMV.out
        · have hke : k = kinds.length := by omega
          have hlv1 : ¬ (k : Int) < ((kinds.length : Nat) : Int) := by omega
          clear hke
          go_wp2
          go_ret
          exact ⟨rfl, HFV.out⟩
end Go.Proofs.YtddkcfpbonfoiaaGreat
