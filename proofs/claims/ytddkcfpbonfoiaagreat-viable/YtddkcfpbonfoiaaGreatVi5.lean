import Derived.Test.YtddkcfpbonfoiaaGreatVi4
import Derived.Test.YtddkcfpbonfoiaaGreatRows
import Derived.ProofKit
import Derived.OpenShut
import Derived.ShutString
import Derived.ChangeOld
import Derived.Below
namespace Go.Proofs.YtddkcfpbonfoiaaGreat
open Go.RowKit
set_option linter.unusedVariables false
set_option linter.unusedSimpArgs false

theorem grwF_wan (ps : List Pr) (hs : List Hd) (R H : Nat) : ∀ (l : List Int) (a : Nat) (k : List Sy) (st : List St), (grwF ps hs R H l a k st).wanted.length ≤ 9
  | [], a, k, st => by
    unfold grwF
    split
    · simp
    · exact listT_len _
  | t :: l, a, k, st => by
    unfold grwF
    split
    · exact grwF_wan ps hs R H l _ _ _
    · exact listT_len _

set_option maxRecDepth 20000 in
set_option maxHeartbeats 8000000 in
theorem viable_syn (s : ByteArray) (kinds : List Int) (vk : Value) (w : World) (hs : s.size ≤ maxLen) (hk : IntAt w vk kinds) (hl : kinds.length ≤ 60) (hc : (checkF s).1 = 0) (hcl : clashF s = []) (hb : kindsOk (nR s) kinds = true) (he : (parseF s kinds).err = 10) (hv : Via s kinds (parseF s kinds).place) (hvb : ViaBad s kinds (parseF s kinds).place (parseF s kinds).wanted) :
    Calls Tryz.prog 3 #[.string s, vk] w fun e w' => e = .returned (.bool true) ∧ Fresh w w' := by
  have hc2 := check_zero hc
  have FG := hid (fun w => free_good s w hc2)
  have hd : decide ((clashF s).length = 0) = true := by simpa using hcl
  rw [hd] at FG
  have hT := tab_of hc hcl
  have hR8 : nR s ≤ 8 := hT.hR
  have hR : (linesF s).1.rules.length = nR s := (lines_table hc2).1
  have hWl : (parseF s kinds).wanted.length ≤ 100 := by
    rw [parse_grow' hc hcl kinds hb hl]
    have := grwF_wan (tabF s) (setsF s) (nR s) (nH s) kinds 0 [⟨true, 0⟩] []
    unfold growS; omega
  have PK := hid (fun (k : Nat) (V : World) (v : Value) (h : IntAt V v (kinds.take k)) => parse_ret s (kinds.take k) v V hs h (by rw [List.length_take]; omega))
  have PA := hid (fun (V : World) (v : Value) (h : IntAt V v kinds) => parse_ret s kinds v V hs h (by omega))
  unfold PRet at PK PA
  rw [he] at PA
  have EA := hid hv.each
  have hnl := hv.le
  have VN := hid hvb.next
  have VE := hid hvb.none
  have CHO := hid (fun (R : Nat) (hR : nR s = R) (hR8 : R ≤ 8) (W : World) (vk vw : Value) (h1 : IntAt W vk kinds) (h2 : IntAt W vw (parseF s kinds).wanted) => choices_good s kinds _ vk vw _ R W hs h1 hl hnl h2 hWl hR hR8 hvb)
  clear he hv hvb
  generalize (parseF s kinds).wanted = WL at PA VN VE CHO hWl
  generalize (parseF s kinds).place = n at PA EA hnl VN VE CHO
  rw [← hR] at hb hR8
  have HK := hid hk
  have HB := hid hb
  have HR := hid hR
  have hka := hk
  obtain ⟨ka, kc, rfl, hkc, _⟩ := hk
  rw [← hR] at VE
  have CHO' := hid (fun (W : World) (vk vw : Value) (h1 : IntAt W vk kinds) (h2 : IntAt W vw WL) => CHO.out _ hR.symm hR8 W vk vw h1 h2)
  clear CHO
  generalize (linesF s).1 = LN at FG HB hR8 HR VE CHO'
  have hl1 : ¬ (60 : Int) < (kinds.length : Int) := by omega
  clear hc hc2 hR hb hd hT hka
  go_enter Tryz.func3, Tryz.ntmps3
  go_wp2_with (first
    | (go_at_call 4; refine (FG.out _).mono ?_; rintro e w3 ⟨b, rfl, hx, hf1⟩; have HX3 := hid hx; have HF3 := hid hf1; clear hx hf1))
  go_loopw [8] (fun x8 wr => ∃ (i : Nat), x8 = .int .i64 i ∧ i ≤ kinds.length ∧ kindsOk LN.rules.length (kinds.drop i) = true ∧ Fresh w3 wr)
      (fun x _ => 1001 - (intOf x).toNat)
  case atStart => exact ⟨0, rfl, by omega, HB.out, Mod.refl _ _⟩
  case round =>
    obtain ⟨i, rfl, hi, hres, hfr⟩ := hrel
    have HFR := hid hfr
    have HME := hid (meas (B := 1001) i (by omega))
    by_cases hlt : i < kinds.length
    · have hi1 : (i : Int) < (kinds.length : Int) := by omega
      unfold kindsOk at hres
      obtain ⟨ra, rc, hrc⟩ := (HX3.out.fresh hfr).ru
      obtain ⟨ka', kc', hve, _, hcell⟩ := (HK.out.fresh HF3.out).fresh hfr
      rw [Value.slice.injEq] at hve
      obtain ⟨rfl, _, rfl⟩ := hve
      obtain ⟨g, o, rfl, c1⟩ := hcell i hlt
      clear hcell
      rw [List.drop_eq_getElem_cons hlt, List.all_cons, Bool.and_eq_true, Bool.and_eq_true, decide_eq_true_eq, decide_eq_true_eq] at hres
      obtain ⟨⟨h0, h1⟩, hres⟩ := hres
      generalize kinds[i] = li at h0 h1 c1
      generalize LN.rules.length = R at hres hrc h1
      have HRES := hid hres
      clear hres hfr
      go_wp2_with fail
      go_quiet (fail)
      have HU1 : Hid (Fresh wr (wr.drewN nq)) := fdrewN' wr nq
      generalize wr.drewN nq = U1 at HU1 ⊢
      go_wp2
      go_roundw
      case rel => exact ⟨i + 1, by go_num, by omega, HRES.out, HFR.out.trans HU1.out⟩
      case measure => exact HME.out
    · have hie : i = kinds.length := by omega
      have hi2 : ¬ (i : Int) < (kinds.length : Int) := by omega
      clear hres hfr hie
      have hnl1 : ¬ (kinds.length : Int) < (n : Int) := by omega
      have RU : Hid (∀ W, Fresh w3 W → ∃ ra rc, W.cell? ⟨b, 0, none⟩ = some (.slice ra LN.rules.length rc)) := fun W hW => (HX3.out.fresh hW).ru
      generalize hRL : LN.rules.length = R at RU VE CHO' hR8
      clear hRL
      by_cases hnk : n < kinds.length
      · have hnk1 : (n : Int) < (kinds.length : Int) := by omega
        have HBB := hid (VN.out hnk)
        obtain ⟨ka', kc', hve, _, hcell⟩ := (HK.out.fresh HF3.out).fresh HFR.out
        rw [Value.slice.injEq] at hve
        obtain ⟨rfl, _, rfl⟩ := hve
        obtain ⟨g, o, rfl, c1⟩ := hcell n hnk
        have HC1 := hid c1
        generalize kinds[n] = tn at HBB HC1
        clear hcell c1
        go_upto_region 21 with (first
          | (go_at_call 6; have stage := HX4.out; refine (khas_any _ _ WL _ (HW4.out.fresh ((Mod.refl _ w4).alloc _)) (by omega)).mono ?_; rintro e w6 ⟨rfl, rfl⟩; rw [HBB.out])
          | (go_at_call 5; refine (PA.out _ _ ((HK.out.fresh HF3.out).fresh HFR.out)).mono ?_; rintro e w4 ⟨na, nc, xa, xc, rfl, hf4, hw4⟩; have HF4 := hid (HF3.out.trans (HFR.out.trans hf4)); have HW4 := hid hw4; have HX4 := hid (HFR.out.trans hf4); obtain ⟨ra, rc, hrc⟩ := RU.out _ (HX4.out.alloc (.cells (parA (.slice na (nodesF (tabF s) (parseF s kinds).st).length nc) (.slice xa WL.length xc) n) 34 (0, 0))); have c4 := fcell' (hf4.alloc (.cells (parA (.slice na (nodesF (tabF s) (parseF s kinds).st).length nc) (.slice xa WL.length xc) n) 34 (0, 0))) HC1.out;clear hf4 hw4))
        have HF6 : Hid (Fresh w (w4.alloc (.cells (parA (.slice na (nodesF (tabF s) (parseF s kinds).st).length nc) (.slice xa WL.length xc) n) 34 (0, 0)))) := HF4.out.alloc _
        go_cut [14] (fun s14 wx => s14 = .bool true ∧ Fresh w wx)
        case first =>
          go_region_with (first
            | (go_at_call 7; refine (CHO'.out _ _ _ (HK.out.fresh HF6.out.drew) (HW4.out.fresh ((Mod.refl _ w4).alloc _).drew)).mono ?_; rintro e w7 ⟨rfl, hf7⟩))
          all_goals
            go_wp2_with fail
            go_meet
            exact ⟨rfl, HF6.out.drew.trans hf7⟩
        case rest =>
          obtain ⟨rfl, hfx⟩ := hcut
          have HFX := hid hfx
          clear hfx
          go_wp2
          go_loopw [15, 16, 17] (fun x15 _ _ wr => ∃ (k : Nat), x15 = .int .i64 k ∧ k ≤ n ∧ Fresh w wr)
              (fun x _ _ _ => 1001 - (intOf x).toNat)
          case atStart => exact ⟨0, rfl, by omega, HFX.out⟩
          case round =>
            obtain ⟨k, rfl, hkn, hfv⟩ := hrel
            have HFV := hid hfv
            have HMV := hid (meas (B := 1001) k (by omega))
            clear hfv
            by_cases hlv : k < n
            · have hlv1 : (k : Int) < (n : Int) := by omega
              have hk1 : (k : Int) ≤ (kc : Int) := by omega
              have hk2 : k ≤ kc := by omega
              have HKT : Hid (IntAt wr (.slice (some ⟨g, o, none⟩) k kc) (kinds.take k)) := (HK.out.fresh HFV.out).take (by omega)
              have PKI := hid (fun V v h => PK.out k V v h)
              rcases EA.out k hlv with e1 | ⟨e1, e2⟩
              · rw [e1] at PKI
                clear e1
                go_wp2_with (first
                  | (go_at_call 5; refine (PKI.out _ _ HKT.out).mono ?_; rintro e w5 ⟨na5, nc5, xa5, xc5, rfl, hf5, _⟩; have HF5 := hid (HFV.out.trans hf5); clear hf5))
                go_roundw
                case rel => exact ⟨k + 1, by go_num, by omega, HF5.out.alloc _⟩
                case measure => exact HMV.out
              · rw [e1, e2] at PKI
                clear e1 e2
                go_wp2_with (first
                  | (go_at_call 5; refine (PKI.out _ _ HKT.out).mono ?_; rintro e w5 ⟨na5, nc5, xa5, xc5, rfl, hf5, _⟩; have HF5 := hid (HFV.out.trans hf5); clear hf5))
                go_roundw
                case rel => exact ⟨k + 1, by go_num, by omega, HF5.out.alloc _⟩
                case measure => exact HMV.out
            · have hke : k = n := by omega
              have hlv1 : ¬ (k : Int) < (n : Int) := by omega
              clear hke
              go_wp2
              go_ret
              exact ⟨rfl, HFV.out⟩
      · have hnk1 : ¬ (n : Int) < (kinds.length : Int) := by omega
        have hne : n = kinds.length := by omega
        have HBB := hid (VE.out hne)
        clear hne
        go_upto_region 21 with (first
          | (go_at_call 6; have stage := HX4.out; refine (khas_any _ _ WL _ (HW4.out.fresh ((Mod.refl _ w4).alloc _)) (by omega)).mono ?_; rintro e w6 ⟨rfl, rfl⟩; rw [HBB.out])
          | (go_at_call 5; refine (PA.out _ _ ((HK.out.fresh HF3.out).fresh HFR.out)).mono ?_; rintro e w4 ⟨na, nc, xa, xc, rfl, hf4, hw4⟩; have HF4 := hid (HF3.out.trans (HFR.out.trans hf4)); have HW4 := hid hw4; have HX4 := hid (HFR.out.trans hf4); obtain ⟨ra, rc, hrc⟩ := RU.out _ (HX4.out.alloc (.cells (parA (.slice na (nodesF (tabF s) (parseF s kinds).st).length nc) (.slice xa WL.length xc) n) 34 (0, 0))); clear hf4 hw4))
        have HF6 : Hid (Fresh w (w4.alloc (.cells (parA (.slice na (nodesF (tabF s) (parseF s kinds).st).length nc) (.slice xa WL.length xc) n) 34 (0, 0)))) := HF4.out.alloc _
        go_cut [14] (fun s14 wx => s14 = .bool true ∧ Fresh w wx)
        case first =>
          go_region_with (first
            | (go_at_call 7; refine (CHO'.out _ _ _ (HK.out.fresh HF6.out.drew) (HW4.out.fresh ((Mod.refl _ w4).alloc _).drew)).mono ?_; rintro e w7 ⟨rfl, hf7⟩))
          all_goals
            go_wp2_with fail
            go_meet
            exact ⟨rfl, HF6.out.drew.trans hf7⟩
        case rest =>
          obtain ⟨rfl, hfx⟩ := hcut
          have HFX := hid hfx
          clear hfx
          go_wp2
          go_loopw [15, 16, 17] (fun x15 _ _ wr => ∃ (k : Nat), x15 = .int .i64 k ∧ k ≤ n ∧ Fresh w wr)
              (fun x _ _ _ => 1001 - (intOf x).toNat)
          case atStart => exact ⟨0, rfl, by omega, HFX.out⟩
          case round =>
            obtain ⟨k, rfl, hkn, hfv⟩ := hrel
            have HFV := hid hfv
            have HMV := hid (meas (B := 1001) k (by omega))
            clear hfv
            by_cases hlv : k < n
            · have hlv1 : (k : Int) < (n : Int) := by omega
              have hk1 : (k : Int) ≤ (kc : Int) := by omega
              have hk2 : k ≤ kc := by omega
              have HKT : Hid (IntAt wr (.slice ka k kc) (kinds.take k)) := (HK.out.fresh HFV.out).take (by omega)
              have PKI := hid (fun V v h => PK.out k V v h)
              rcases EA.out k hlv with e1 | ⟨e1, e2⟩
              · rw [e1] at PKI
                clear e1
                go_wp2_with (first
                  | (go_at_call 5; refine (PKI.out _ _ HKT.out).mono ?_; rintro e w5 ⟨na5, nc5, xa5, xc5, rfl, hf5, _⟩; have HF5 := hid (HFV.out.trans hf5); clear hf5))
                go_roundw
                case rel => exact ⟨k + 1, by go_num, by omega, HF5.out.alloc _⟩
                case measure => exact HMV.out
              · rw [e1, e2] at PKI
                clear e1 e2
                go_wp2_with (first
                  | (go_at_call 5; refine (PKI.out _ _ HKT.out).mono ?_; rintro e w5 ⟨na5, nc5, xa5, xc5, rfl, hf5, _⟩; have HF5 := hid (HFV.out.trans hf5); clear hf5))
                go_roundw
                case rel => exact ⟨k + 1, by go_num, by omega, HF5.out.alloc _⟩
                case measure => exact HMV.out
            · have hke : k = n := by omega
              have hlv1 : ¬ (k : Int) < (n : Int) := by omega
              clear hke
              go_wp2
              go_ret
              exact ⟨rfl, HFV.out⟩
end Go.Proofs.YtddkcfpbonfoiaaGreat
namespace Go.Proofs.YtddkcfpbonfoiaaGreat
open Go.ChangeShapes Go.WideShapes Go.ChangeAt Go.RowKit
open Go.ChangeMaps (open_string shut_string)
set_option linter.unusedVariables false
set_option linter.unusedSimpArgs false

theorem Tryz.own : ownKnob Tryz.prog.godebug = none := by kernel_rfl
theorem Tryz.laidOut : laidOutB Tryz.prog = true := by kernel_rfl

theorem viable_any (s : ByteArray) (kinds : List Int) (vk : Value) (w : World) (hs : s.size ≤ maxLen) (hk : IntAt w vk kinds) (hm : kinds.length ≤ maxLen) :
    Calls Tryz.prog 3 #[.string s, vk] w fun e w' => e = .returned (.bool true) ∧ Fresh w w' := by
  by_cases hc : (checkF s).1 = 0
  · by_cases hcl : clashF s = []
    · by_cases hl : 60 < kinds.length
      · exact viable_long s kinds vk w hk hl hm hc hcl
      · have hl : kinds.length ≤ 60 := by omega
        cases hb : kindsOk (nR s) kinds
        · exact viable_arg s kinds vk w hs hk hl hc hcl hb
        · rcases via_of hc hcl kinds hb hl with ⟨he, hv⟩ | ⟨he, hv, hvb⟩
          · exact viable_ok s kinds vk w hs hk hl hc hcl hb he hv
          · exact viable_syn s kinds vk w hs hk hl hc hcl hb he hv hvb
    · exact viable_not s vk w hs (.inr hcl)
  · exact viable_not s vk w hs (.inl hc)

set_option maxRecDepth 100000 in
theorem viable_lifted (os : Os) (started : os.Started) (H : Type) (enc : TypeId × Value → H) :
    ReturnsInHanded {} Tryz.checked os 3 .any (Rows.viableSpec.pre6 enc Tryz.prog Tryz.f3 Rows.viableRow.domain false) (Rows.viableSpec.post enc Tryz.prog Tryz.f3 false true false false) := by
  refine returnsInHanded_of_change (C := Tryz.checked) Tryz.own started (by kernel_rfl) Tryz.func3
    (ChangeSpec.witness6 (enc := enc) (C := Tryz.checked) false ⟨#[], #[.string ByteArray.empty, .slice none 0 0], []⟩ 8 (by kernel_rfl) (by kernel_rfl) (by kernel_rfl) (by kernel_rfl)) ?_
  intro W base args ds gs before hval0 hW hcnd _
  have hval : ∀ (j : Nat) t v, Tryz.f3.params[j]? = some t → args[j]? = some v → Value.okWide Tryz.prog W .any base t v := hval0
  have hW' := hW
  obtain ⟨p, q, hA0, hV, rfl, hfz, hnd⟩ := hW
  have hA : DataW.TrodAll enc Tryz.prog W 0 (fun _ => true) true Tryz.f3.params.toList args.toList ds p := hA0
  rw [Tryz.params3] at hA hval
  obtain ⟨v0, v1, d0, d1, p0, p1, rfl, rfl, rfl, h0, h1⟩ := trodAll_two hA
  obtain ⟨rfl, rfl⟩ := trodVars_none hV
  obtain ⟨s, rfl, rfl, rfl, ws⟩ := open_string Tryz.underlying9 (hval 0 9 v0 rfl rfl) h0
  obtain ⟨a1, len1, cap1, rfl⟩ := okWide_slice Tryz.underlying22 (hval 1 22 v1 rfl rfl)
  have k1 := h1
  have lt1 : ∀ x ∈ p1, x.block < W.heap.size := by obtain ⟨m, hm⟩ := k1; exact DataW.trod_lt m _ _ _ hm
  obtain ⟨kinds, hk, hm⟩ : ∃ kinds, IntAt W (.slice a1 len1 cap1) kinds ∧ kinds.length ≤ maxLen := by
    obtain ⟨fuel, hf⟩ := h1
    rcases open_ints Tryz.underlying22 Tryz.underlying3 (by kernel_rfl) hf with ⟨hcs, _⟩ | ⟨x, l, c, zs, hcs, _, hl, hm, hz, _, hcell, hwz⟩
    · simp [Value.cells] at hcs
      obtain ⟨rfl, rfl, rfl⟩ := hcs
      exact ⟨[], ⟨none, 0, rfl, Nat.le_refl _, fun j hj => absurd hj (by simp)⟩, by simp⟩
    · simp [Value.cells] at hcs
      obtain ⟨rfl, rfl, rfl⟩ := hcs
      have hz' : zs.length = cap1 := by simpa using hz
      have hzl : (zs.take len1).length = len1 := by rw [List.length_take]; omega
      refine ⟨zs.take len1, ⟨some x, cap1, by rw [hzl], by rw [hzl]; exact hl, fun j hj => ?_⟩, by rw [hzl]; omega⟩
      obtain ⟨b, off, rfl, hc⟩ := ints_at hcell (by omega)
      have hj2 : j < zs.length := by omega
      refine ⟨b, off, rfl, ?_⟩
      have := hc j hj2
      rw [List.getElem_take]
      simpa [List.getD, hj2] using this
  clear hA0 hval0
  simp only [List.append_nil] at hW'
  refine (viable_any s kinds _ W ws hk hm).mono fun e W' ⟨he, hF⟩ => ?_
  subst he
  have hB := hF.below
  refine ⟨_, rfl, _, _, _, [], p1, [], hW', ?_, ?_, ?_, hB.frame _, fun h => by cases h⟩
  · exact trodAll_mk1 (shut_bool Tryz.underlying4 true)
  · exact trodAll_mk2 (shut_string Tryz.underlying9 ws) (Below.trod Tryz.laidOut (by kernel_rfl) (of_decide_eq_true (by kernel_rfl)) k1 hB lt1)
  · trivial

theorem viable_holds : Rows.ViableSaid :=
  OpenClaim.holds_of_wide 3 Tryz.f3 rfl rfl rfl rfl rfl rfl rfl ⟨rfl, rfl, rfl, rfl, rfl⟩ rfl rfl rfl rfl rfl (by kernel_rfl) Tryz.func3 (by kernel_rfl)
    (of_decide_eq_true (by kernel_rfl)) (by unfold Func.isWrapper; first | (rw [if_pos (by decide +kernel)]; kernel_rfl) | (rw [if_neg (by decide +kernel)]; exact ⟨rfl, rfl⟩))
    (fun os started H enc _ => viable_lifted os started H enc)
#print axioms viable_holds
end Go.Proofs.YtddkcfpbonfoiaaGreat
