import Derived.Test.YtakkooidejdfkaaGreatSeb0
import Derived.Test.YtakkooidejdfkaaGreatSeb
namespace Go.Proofs.YtakkooidejdfkaaGreat
open Go.RowKit
set_option linter.unusedVariables false
set_option linter.unusedSimpArgs false

set_option maxRecDepth 20000 in
set_option maxHeartbeats 8000000 in
theorem findAll_any (w : World) (b : Nat) (R H : Int) (vp vh : Value) (ps : List PV) (hs : List Hd) (h : FA w b R H vp vh ps hs) (hps : ps.length ≤ 1000) :
    Calls Tryz.prog 56 #[bptr b] w fun e w' => e = .returned (.tuple #[]) ∧ FA w' b R H vp vh ps (allF (prsOf ps) hs) ∧ Mod (growBegV vh) w w' := by
  have HF0 := hid h
  generalize hR1 : fixG (stepB (prsOf ps)) hs = R1
  have HL1 : Hid (LoopG (stepB (prsOf ps)) R1 true hs) := by unfold Hid; rw [← hR1]; exact LoopG.start _ _
  generalize hR2 : fixG (stepS (prsOf ps)) R1 = R2
  have HL2 : Hid (LoopG (stepS (prsOf ps)) R2 true R1) := by unfold Hid; rw [← hR2]; exact LoopG.start _ _
  generalize hR3 : fixG (stepR (prsOf ps)) R2 = R3
  have HL3 : Hid (LoopG (stepR (prsOf ps)) R3 true R2) := by unfold Hid; rw [← hR3]; exact LoopG.start _ _
  generalize hR4 : fixG (stepU (prsOf ps)) R3 = R4
  have HL4 : Hid (LoopG (stepU (prsOf ps)) R4 true R3) := by unfold Hid; rw [← hR4]; exact LoopG.start _ _
  have HALL : Hid (allF (prsOf ps) hs = R4) := by unfold Hid allF; rw [hR1, hR2, hR3, hR4]
  clear hR1 hR2 hR3 hR4 h
  have GB := hid (fun w hs (h : FA w b R H vp vh ps hs) => growB_any w b R H vp vh ps hs h hps)
  have GS := hid (fun w hs (h : FA w b R H vp vh ps hs) => growS_any w b R H vp vh ps hs h hps)
  have GR := hid (fun w hs (h : FA w b R H vp vh ps hs) => growR_any w b R H vp vh ps hs h hps)
  have GU := hid (fun w hs (h : FA w b R H vp vh ps hs) => growF_any w b R H vp vh ps hs h hps)
  go_enter Tryz.func56, Tryz.ntmps56
  go_wp2
  go_loopw [2] (fun x2 wr => ∃ (g : Bool) (hs' : List Hd), x2 = .bool g ∧ FA wr b R H vp vh ps hs' ∧ hs'.length = hs.length ∧ LoopG (stepB (prsOf ps)) R1 g hs' ∧ Mod (growBegV vh) w wr)
      (fun x wr => 2 * muW vh hs.length wr + boolN x)
  case atStart => exact ⟨true, hs, rfl, HF0.out, rfl, HL1.out, Mod.refl _ w⟩
  case round =>
    obtain ⟨g, hs', rfl, hF, hlen, hloop, hmod⟩ := hrel
    have HF := hid hF
    have HLo := hid hloop
    have HMOD := hid hmod
    have HLen := hid hlen
    clear hF hloop hmod hlen
    cases g
    · have e1 : hs' = R1 := HLo.out
      subst e1
      obtain ⟨wo, hwo⟩ : ∃ wo, wo = wr := ⟨_, rfl⟩
      subst hwo
      go_wp2
      go_loopw [2] (fun x2 wr => ∃ (g : Bool) (hs2 : List Hd), x2 = .bool g ∧ FA wr b R H vp vh ps hs2 ∧ hs2.length = hs.length ∧ LoopG (stepS (prsOf ps)) R2 g hs2 ∧ Mod (growBegV vh) w wr)
          (fun x wr => 2 * muW vh hs.length wr + boolN x)
      case atStart => exact ⟨true, hs', rfl, HF.out, HLen.out, HL2.out, HMOD.out⟩
      case round =>
        obtain ⟨g, hs2, rfl, hF, hlen, hloop, hmod⟩ := hrel
        have HF2 := hid hF
        have HLo2 := hid hloop
        have HMOD2 := hid hmod
        have HLen2 := hid hlen
        clear hF hloop hmod hlen
        cases g
        · have e1 : hs2 = R2 := HLo2.out
          subst e1
          obtain ⟨wo2, hwo⟩ : ∃ wo, wo = wr := ⟨_, rfl⟩
          subst hwo
          go_wp2
          go_loopw [2] (fun x2 wr => ∃ (g : Bool) (hs3 : List Hd), x2 = .bool g ∧ FA wr b R H vp vh ps hs3 ∧ hs3.length = hs.length ∧ LoopG (stepR (prsOf ps)) R3 g hs3 ∧ Mod (growBegV vh) w wr)
              (fun x wr => 2 * muW vh hs.length wr + boolN x)
          case atStart => exact ⟨true, hs2, rfl, HF2.out, HLen2.out, HL3.out, HMOD2.out⟩
          case round =>
            obtain ⟨g, hs3, rfl, hF, hlen, hloop, hmod⟩ := hrel
            have HF3 := hid hF
            have HLo3 := hid hloop
            have HMOD3 := hid hmod
            have HLen3 := hid hlen
            clear hF hloop hmod hlen
            cases g
            · have e1 : hs3 = R3 := HLo3.out
              subst e1
              obtain ⟨wo3, hwo⟩ : ∃ wo, wo = wr := ⟨_, rfl⟩
              subst hwo
              go_wp2
              go_loopw [2] (fun x2 wr => ∃ (g : Bool) (hs4 : List Hd), x2 = .bool g ∧ FA wr b R H vp vh ps hs4 ∧ hs4.length = hs.length ∧ LoopG (stepU (prsOf ps)) R4 g hs4 ∧ Mod (growBegV vh) w wr)
                  (fun x wr => 2 * muW vh hs.length wr + boolN x)
              case atStart => exact ⟨true, hs3, rfl, HF3.out, HLen3.out, HL4.out, HMOD3.out⟩
              case round =>
                obtain ⟨g, hs4, rfl, hF, hlen, hloop, hmod⟩ := hrel
                have HF4 := hid hF
                have HLo4 := hid hloop
                have HMOD4 := hid hmod
                have HLen4 := hid hlen
                clear hF hloop hmod hlen
                cases g
                · have e1 : hs4 = R4 := HLo4.out
                  subst e1
                  go_wp2
                  refine bodyPost_end (results_none rfl _ _ _) rfl ⟨rfl, ?_, HMOD4.out⟩
                  rw [HALL.out]; exact HF4.out
                · go_wp2_with (first
                    | (go_at_call 69; refine (GU.out _ hs4 HF4.out).mono ?_; rintro e w1 ⟨rfl, hF1, hm1⟩))
                  have hgr := stepU_grows (prsOf ps) hs4 HF4.out.ok
                  have hm0 := HF4.out.mu' HLen4.out
                  have hm2 := hF1.mu' (hgr.len.trans HLen4.out)
                  have hle := LoopG.less (stepU_grows (prsOf ps)) HF4.out.ok
                  go_roundw
                  case rel => exact ⟨_, _, rfl, hF1, hgr.len.trans HLen4.out, LoopG.next (stepU_grows _) HF4.out.ok HLo4.out, Mod.trans HMOD4.out hm1⟩
                  case measure => rw [hm0, hm2]; exact hle
            · go_wp2_with (first
                | (go_at_call 68; refine (GR.out _ hs3 HF3.out).mono ?_; rintro e w1 ⟨rfl, hF1, hm1⟩))
              have hgr := stepR_grows (prsOf ps) hs3 HF3.out.ok
              have hm0 := HF3.out.mu' HLen3.out
              have hm2 := hF1.mu' (hgr.len.trans HLen3.out)
              have hle := LoopG.less (stepR_grows (prsOf ps)) HF3.out.ok
              go_roundw
              case rel => exact ⟨_, _, rfl, hF1, hgr.len.trans HLen3.out, LoopG.next (stepR_grows _) HF3.out.ok HLo3.out, Mod.trans HMOD3.out hm1⟩
              case measure => rw [hm0, hm2]; exact hle
        · go_wp2_with (first
            | (go_at_call 67; refine (GS.out _ hs2 HF2.out).mono ?_; rintro e w1 ⟨rfl, hF1, hm1⟩))
          have hgr := stepS_grows (prsOf ps) hs2 HF2.out.ok
          have hm0 := HF2.out.mu' HLen2.out
          have hm2 := hF1.mu' (hgr.len.trans HLen2.out)
          have hle := LoopG.less (stepS_grows (prsOf ps)) HF2.out.ok
          go_roundw
          case rel => exact ⟨_, _, rfl, hF1, hgr.len.trans HLen2.out, LoopG.next (stepS_grows _) HF2.out.ok HLo2.out, Mod.trans HMOD2.out hm1⟩
          case measure => rw [hm0, hm2]; exact hle
    · go_wp2_with (first
        | (go_at_call 66; refine (GB.out _ hs' HF.out).mono ?_; rintro e w1 ⟨rfl, hF1, hm1⟩))
      have hgr := stepB_grows (prsOf ps) hs' HF.out.ok
      have hm0 := HF.out.mu' HLen.out
      have hm2 := hF1.mu' (hgr.len.trans HLen.out)
      have hle := LoopG.less (stepB_grows (prsOf ps)) HF.out.ok
      go_roundw
      case rel => exact ⟨_, _, rfl, hF1, hgr.len.trans HLen.out, LoopG.next (stepB_grows _) HF.out.ok HLo.out, Mod.trans HMOD.out hm1⟩
      case measure => rw [hm0, hm2]; exact hle
end Go.Proofs.YtakkooidejdfkaaGreat
