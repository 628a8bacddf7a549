import Derived.Test.YteneagnhihcljaaGreatDoorSec0
import Derived.Test.YteneagnhihcljaaGreatDoorSeb
import Derived.Test.YteneagnhihcljaaGreatDoorSh1
namespace Go.Proofs.YteneagnhihcljaaGreatDoor
open Go.RowKit
set_option linter.unusedVariables false
set_option linter.unusedSimpArgs false

set_option maxRecDepth 20000 in
set_option maxHeartbeats 8000000 in
theorem findAll_any (w : World) (b : Nat) (R H : Int) (vp vh : Value) (ps : List PV) (hs : List Hd) (h : FA w b R H vp vh ps hs) (hps : ps.length ≤ 1000) :
    Calls Tryz.prog 65 #[bptr b] w fun e w' => e = .returned (.tuple #[]) ∧ FA w' b R H vp vh ps (allF (prsOf ps) hs) ∧ Mod (growBegV vh) w w' := by
  have HF0 := hid h
  generalize hR1 : fixG (stepB (prsOf ps)) hs = R1
  have HL1 : Hid (LoopG (stepB (prsOf ps)) R1 true hs) := by unfold Hid; rw [← hR1]; exact LoopG.start _ _
  generalize hR2 : fixG (stepS (prsOf ps)) R1 = R2
  have HL2 : Hid (LoopG (stepS (prsOf ps)) R2 true R1) := by unfold Hid; rw [← hR2]; exact LoopG.start _ _
  generalize hR3 : fixG (stepR (prsOf ps)) R2 = R3
  have HL3 : Hid (LoopG (stepR (prsOf ps)) R3 true R2) := by unfold Hid; rw [← hR3]; exact LoopG.start _ _
  generalize hR4 : fixG (stepU (prsOf ps)) R3 = R4
  have HL4 : Hid (LoopG (stepU (prsOf ps)) R4 true R3) := by unfold Hid; rw [← hR4]; exact LoopG.start _ _
  have HALL : Hid (allF (prsOf ps) hs = R4) := by unfold Hid allF; rw [hR1, hR2, hR3, hR4]
  clear hR1 hR2 hR3 hR4 h
  have GB := hid (fun w hs (h : FA w b R H vp vh ps hs) => growB_any w b R H vp vh ps hs h hps)
  have GS := hid (fun w hs (h : FA w b R H vp vh ps hs) => growS_any w b R H vp vh ps hs h hps)
  have GR := hid (fun w hs (h : FA w b R H vp vh ps hs) => growR_any w b R H vp vh ps hs h hps)
  have GU := hid (fun w hs (h : FA w b R H vp vh ps hs) => growF_any w b R H vp vh ps hs h hps)
  go_enter Tryz.func65, Tryz.ntmps65
  go_wp2
  go_loopw [2] (fun x2 wr => ∃ (g : Bool) (hs' : List Hd), x2 = .bool g ∧ FA wr b R H vp vh ps hs' ∧ hs'.length = hs.length ∧ LoopG (stepB (prsOf ps)) R1 g hs' ∧ Mod (growBegV vh) w wr)
      (fun x wr => 2 * muW vh hs.length wr + boolN x)
  case atStart => exact ⟨true, hs, rfl, HF0.out, rfl, HL1.out, Mod.refl _ w⟩
  case round =>
    obtain ⟨g, hs', rfl, hF, hlen, hloop, hmod⟩ := hrel
    have HF := hid hF
    have HLo := hid hloop
    have HMOD := hid hmod
    have HLen := hid hlen
    clear hF hloop hmod hlen
    cases g
    · have e1 : hs' = R1 := HLo.out
      subst e1
      obtain ⟨wo, hwo⟩ : ∃ wo, wo = wr := ⟨_, rfl⟩
      subst hwo
      go_wp2
      go_loopw [2] (fun x2 wr => ∃ (g : Bool) (hs2 : List Hd), x2 = .bool g ∧ FA wr b R H vp vh ps hs2 ∧ hs2.length = hs.length ∧ LoopG (stepS (prsOf ps)) R2 g hs2 ∧ Mod (growBegV vh) w wr)
          (fun x wr => 2 * muW vh hs.length wr + boolN x)
      case atStart => exact ⟨true, hs', rfl, HF.out, HLen.out, HL2.out, HMOD.out⟩
      case round =>
        obtain ⟨g, hs2, rfl, hF, hlen, hloop, hmod⟩ := hrel
        have HF2 := hid hF
        have HLo2 := hid hloop
        have HMOD2 := hid hmod
        have HLen2 := hid hlen
        clear hF hloop hmod hlen
        cases g
        · have e1 : hs2 = R2 := HLo2.out
          subst e1
          obtain ⟨wo2, hwo⟩ : ∃ wo, wo = wr := ⟨_, rfl⟩
          subst hwo
          go_wp2
          go_loopw [2] (fun x2 wr => ∃ (g : Bool) (hs3 : List Hd), x2 = .bool g ∧ FA wr b R H vp vh ps hs3 ∧ hs3.length = hs.length ∧ LoopG (stepR (prsOf ps)) R3 g hs3 ∧ Mod (growBegV vh) w wr)
              (fun x wr => 2 * muW vh hs.length wr + boolN x)
          case atStart => exact ⟨true, hs2, rfl, HF2.out, HLen2.out, HL3.out, HMOD2.out⟩
          case round =>
            obtain ⟨g, hs3, rfl, hF, hlen, hloop, hmod⟩ := hrel
            have HF3 := hid hF
            have HLo3 := hid hloop
            have HMOD3 := hid hmod
            have HLen3 := hid hlen
            clear hF hloop hmod hlen
            cases g
            · have e1 : hs3 = R3 := HLo3.out
              subst e1
              obtain ⟨wo3, hwo⟩ : ∃ wo, wo = wr := ⟨_, rfl⟩
              subst hwo
              go_wp2
              go_loopw [2] (fun x2 wr => ∃ (g : Bool) (hs4 : List Hd), x2 = .bool g ∧ FA wr b R H vp vh ps hs4 ∧ hs4.length = hs.length ∧ LoopG (stepU (prsOf ps)) R4 g hs4 ∧ Mod (growBegV vh) w wr)
                  (fun x wr => 2 * muW vh hs.length wr + boolN x)
              case atStart => exact ⟨true, hs3, rfl, HF3.out, HLen3.out, HL4.out, HMOD3.out⟩
              case round =>
                obtain ⟨g, hs4, rfl, hF, hlen, hloop, hmod⟩ := hrel
                have HF4 := hid hF
                have HLo4 := hid hloop
                have HMOD4 := hid hmod
                have HLen4 := hid hlen
                clear hF hloop hmod hlen
                cases g
                · have e1 : hs4 = R4 := HLo4.out
                  subst e1
                  go_wp2
                  refine bodyPost_end (results_none rfl _ _ _) rfl ⟨rfl, ?_, HMOD4.out⟩
                  rw [HALL.out]; exact HF4.out
                · go_wp2_with (first
                    | (go_at_call 80; refine (GU.out _ hs4 HF4.out).mono ?_; rintro e w1 ⟨rfl, hF1, hm1⟩))
                  have hgr := stepU_grows (prsOf ps) hs4 HF4.out.ok
                  have hm0 := HF4.out.mu' HLen4.out
                  have hm2 := hF1.mu' (hgr.len.trans HLen4.out)
                  have hle := LoopG.less (stepU_grows (prsOf ps)) HF4.out.ok
                  go_roundw
                  case rel => exact ⟨_, _, rfl, hF1, hgr.len.trans HLen4.out, LoopG.next (stepU_grows _) HF4.out.ok HLo4.out, Mod.trans HMOD4.out hm1⟩
                  case measure => rw [hm0, hm2]; exact hle
            · go_wp2_with (first
                | (go_at_call 79; refine (GR.out _ hs3 HF3.out).mono ?_; rintro e w1 ⟨rfl, hF1, hm1⟩))
              have hgr := stepR_grows (prsOf ps) hs3 HF3.out.ok
              have hm0 := HF3.out.mu' HLen3.out
              have hm2 := hF1.mu' (hgr.len.trans HLen3.out)
              have hle := LoopG.less (stepR_grows (prsOf ps)) HF3.out.ok
              go_roundw
              case rel => exact ⟨_, _, rfl, hF1, hgr.len.trans HLen3.out, LoopG.next (stepR_grows _) HF3.out.ok HLo3.out, Mod.trans HMOD3.out hm1⟩
              case measure => rw [hm0, hm2]; exact hle
        · go_wp2_with (first
            | (go_at_call 78; refine (GS.out _ hs2 HF2.out).mono ?_; rintro e w1 ⟨rfl, hF1, hm1⟩))
          have hgr := stepS_grows (prsOf ps) hs2 HF2.out.ok
          have hm0 := HF2.out.mu' HLen2.out
          have hm2 := hF1.mu' (hgr.len.trans HLen2.out)
          have hle := LoopG.less (stepS_grows (prsOf ps)) HF2.out.ok
          go_roundw
          case rel => exact ⟨_, _, rfl, hF1, hgr.len.trans HLen2.out, LoopG.next (stepS_grows _) HF2.out.ok HLo2.out, Mod.trans HMOD2.out hm1⟩
          case measure => rw [hm0, hm2]; exact hle
    · go_wp2_with (first
        | (go_at_call 77; refine (GB.out _ hs' HF.out).mono ?_; rintro e w1 ⟨rfl, hF1, hm1⟩))
      have hgr := stepB_grows (prsOf ps) hs' HF.out.ok
      have hm0 := HF.out.mu' HLen.out
      have hm2 := hF1.mu' (hgr.len.trans HLen.out)
      have hle := LoopG.less (stepB_grows (prsOf ps)) HF.out.ok
      go_roundw
      case rel => exact ⟨_, _, rfl, hF1, hgr.len.trans HLen.out, LoopG.next (stepB_grows _) HF.out.ok HLo.out, Mod.trans HMOD.out hm1⟩
      case measure => rw [hm0, hm2]; exact hle
end Go.Proofs.YteneagnhihcljaaGreatDoor
namespace Go.Proofs.YteneagnhihcljaaGreatDoor
open Go.RowKit
set_option linter.unusedVariables false
set_option linter.unusedSimpArgs false

abbrev wordRet (r : Wd × Int × Bool) : Value := .tuple #[.agg r.1.cells.toArray, .int .i64 r.2.1, .bool r.2.2]
theorem wd_set (p : Int) (ls : List Int) (n : Nat) (c : Int) : (Wd.cells ⟨p, ls⟩).toArray.setIfInBounds (n + 1) (.int .u8 c) = (Wd.cells ⟨p, ls.set n c⟩).toArray := by
  simp [Wd.cells, List.map_set]
theorem wd_at (p : Int) (ls : List Int) (n : Nat) (h : n < ls.length) : (Wd.cells ⟨p, ls⟩).toArray[n + 1]? = some (.int .u8 (ls.getD n 0)) := by
  simp [Wd.cells, h]
theorem small_bd {c : Int} (h : isSmallB c = true) : 97 ≤ c ∧ c ≤ 122 := by simp [isSmallB] at h; omega
theorem cap_bd {c : Int} (h : isCapB c = true) : 65 ≤ c ∧ c ≤ 90 := by simp [isCapB] at h; omega

set_option maxRecDepth 20000 in
set_option maxHeartbeats 2000000 in
theorem readWord_no (s : ByteArray) (i : Int) (w : World) (hs : s.size ≤ 1000) (h0 : 0 ≤ i) (h1 : i ≤ 2000) (hc : (!isSmallB (atB s i) && !isCapB (atB s i)) = true) :
    Calls Tryz.prog 53 #[.string s, .int .i64 i] w fun e w' => e = .returned (wordRet (rWord s i)) ∧ Fresh w w' := by
  have e1 : rWord s i = (⟨0, zero8⟩, i, false) := by unfold rWord; rw [if_pos hc]
  rw [e1]
  simp only [Bool.and_eq_true, Bool.not_eq_true'] at hc
  obtain ⟨c1, c2⟩ := hc
  clear e1
  go_enter Tryz.func53, Tryz.ntmps53
  go_wp2_with (first
    | (go_at_call 62; refine (at_any _ _ _ (by unfold maxLen; omega)).mono ?_; rintro e w' ⟨rfl, hw⟩; rw [hw]; clear hw)
    | (go_at_call 73; refine (isSmall_any _ _).mono ?_; rw [c1]; rintro e w' ⟨rfl, hw⟩; rw [hw]; clear hw)
    | (go_at_call 64; refine (isCap_any _ _).mono ?_; rw [c2]; rintro e w' ⟨rfl, hw⟩; rw [hw]; clear hw))
  refine bodyPost_ret (results_row2 rfl _ _ w.heap.size 64 (Wd.cells ⟨0, zero8⟩).toArray (0, 0) _ rfl ?_ Tryz.underlying64 rfl szWord) rfl ⟨rfl, ?_⟩
  · exact heap_alloc2_old _ _ _
  · exact ((Mod.refl _ w).alloc _).alloc _

set_option maxRecDepth 20000 in
set_option maxHeartbeats 2000000 in
theorem readWord_yes (s : ByteArray) (i : Int) (w : World) (hs : s.size ≤ 1000) (h0 : 0 ≤ i) (h1 : i ≤ 2000) (hc : (!isSmallB (atB s i) && !isCapB (atB s i)) = false) :
    Calls Tryz.prog 53 #[.string s, .int .i64 i] w fun e w' => e = .returned (wordRet (rWord s i)) ∧ Fresh w w' := by
  have e1 : rWord s i = (⟨i, (rWordL s i 9 1 (zero8.set 0 (atB s i))).1⟩, (rWordL s i 9 1 (zero8.set 0 (atB s i))).2, true) := by unfold rWord; rw [if_neg (by simp [hc])]
  rw [e1]
  have hlen := rWordL_len s i 9 1 (zero8.set 0 (atB s i)) rfl
  generalize hR : rWordL s i 9 1 (zero8.set 0 (atB s i)) = R at hlen
  have HR := hid hR
  have HLen := hid hlen
  have hcb : 0 ≤ atB s i ∧ atB s i ≤ 255 := by
    have := atB_bd s i
    refine ⟨?_, by omega⟩
    simp only [Bool.and_eq_false_iff, Bool.not_eq_false'] at hc
    rcases hc with h | h
    · have := small_bd h; omega
    · have := cap_bd h; omega
  obtain ⟨cb0, cb1⟩ := hcb
  have hc' : isSmallB (atB s i) = true ∨ isSmallB (atB s i) = false ∧ isCapB (atB s i) = true := by
    simp only [Bool.and_eq_false_iff, Bool.not_eq_false'] at hc
    cases h : isSmallB (atB s i)
    · right; rcases hc with h2 | h2
      · rw [h] at h2; cases h2
      · exact ⟨rfl, h2⟩
    · exact .inl rfl
  clear e1 hR hc hlen
  rcases hc' with c1 | ⟨c1, c2⟩
  all_goals
    go_enter Tryz.func53, Tryz.ntmps53
    go_wp2_with (first
      | (go_at_call 62; refine (at_any _ _ _ (by unfold maxLen; omega)).mono ?_; rintro e w' ⟨rfl, hw⟩; rw [hw]; clear hw)
      | (go_at_call 73; refine (isSmall_any _ _).mono ?_; rw [c1]; rintro e w' ⟨rfl, hw⟩; rw [hw]; clear hw)
      | (go_at_call 64; refine (isCap_any _ _).mono ?_; rw [c2]; rintro e w' ⟨rfl, hw⟩; rw [hw]; clear hw))
    go_loopw [8, 9] (fun x8 x9 wr => ∃ (f n : Nat) (ls : List Int) (c : Int), x8 = .int .i64 c ∧ x9 = .int .i64 n ∧ rWordL s i f n ls = R ∧ ls.length = 8 ∧ n ≤ 8 ∧ 10 ≤ f + n ∧
        wr.heap[w.heap.size]? = some (.cells (Wd.cells ⟨0, zero8⟩).toArray 64 (0, 0)) ∧ wr.heap[w.heap.size + 1]? = some (.cells (Wd.cells ⟨i, ls⟩).toArray 64 (0, 0)) ∧ Fresh w wr)
        (fun _ x _ => 9 - (intOf x).toNat)
    case atStart =>
      refine ⟨9, 1, zero8.set 0 (atB s i), _, rfl, rfl, HR.out, rfl, by omega, by omega, heap_alloc2_old _ _ _, ?_, ((Mod.refl _ w).alloc _).alloc _⟩
      exact heap_alloc2_new _ _ _
    case round =>
      obtain ⟨f, n, ls, c, rfl, rfl, hR, hl, hn8, hfu, hb0, hb1, hfr⟩ := hrel
      obtain ⟨f, rfl⟩ : ∃ g, f = g + 1 := ⟨f - 1, by omega⟩
      unfold rWordL at hR
      have HME := hid (meas (B := 9) n (by omega))
      have HB0 := hid hb0
      have HB1 := hid hb1
      have HL := hid hl
      have hab := atB_bd s (i + n)
      obtain ⟨hab0, hab1⟩ := hab
      clear hb0 hb1 hl
      by_cases h8 : n < 8
      · rw [if_pos h8] at hR
        cases hsm : isSmallB (atB s (i + n))
        · rw [hsm] at hR
          simp only [Bool.false_eq_true, if_false] at hR
          have HRR := hid hR
          clear hR
          go_wp2_with (first
            | (go_at_call 62; refine (at_any _ _ _ (by unfold maxLen; omega)).mono ?_; rintro e w' ⟨rfl, hw⟩; rw [hw]; clear hw)
            | (go_at_call 73; refine (isSmall_any _ _).mono ?_; rw [hsm]; rintro e w' ⟨rfl, hw⟩; rw [hw]; clear hw)
            | (refine wpList_load_row rfl 64 _ rfl (w.heap.size + 1) rfl _ _ _ _ HB1.out Tryz.underlying64 rfl (szWordOf HL.out) ?_)
            | (refine wpList_store_row rfl 64 _ _ rfl w.heap.size _ rfl rfl _ _ HB0.out (szWordOf HL.out) (sameSize rfl (Wd.size HL.out)) (Wd.one _) ?_))
          refine bodyPost_ret (results_row2 rfl _ _ w.heap.size 64 _ (0, 0) _ rfl (setRow_heap _ _ _ _ _ _ HB0.out) Tryz.underlying64 rfl (szWordOf HL.out)) rfl ⟨?_, hfr.setRow (by simp) _⟩
          rw [← HRR.out]; rfl
        · rw [hsm] at hR
          simp only [if_true] at hR
          have HRR := hid hR
          have hsb := small_bd hsm
          have k1 : wr.cell? ⟨w.heap.size + 1, n + 1, none⟩ = some (.int .u8 (ls.getD n 0)) := by rw [cellOf HB1.out, wd_at _ _ _ (by rw [HL.out]; omega)]
          have k1' : wr.cell? ⟨w.heap.size + 1, 1 + n, none⟩ = some (.int .u8 (ls.getD n 0)) := by rw [Nat.add_comm 1 n]; exact k1
          have k2 := frozenOf HB1.out
          clear hR
          go_wp2_with (first
            | (go_at_call 62; refine (at_any _ _ _ (by unfold maxLen; omega)).mono ?_; rintro e w' ⟨rfl, hw⟩; rw [hw]; clear hw)
            | (go_at_call 73; refine (isSmall_any _ _).mono ?_; rw [hsm]; rintro e w' ⟨rfl, hw⟩; rw [hw]; clear hw))
          go_roundw
          case rel =>
            refine ⟨f, n + 1, _, _, rfl, by go_num, HRR.out, by simpa using HL.out, by omega, by omega, ?_, ?_, hfr.setCell (by simp) _⟩
            · exact heap_setCell_prev HB0.out (by simp)
            · rw [Proofs.YteneagnhihcljaaGreatDoor.heap_setCell_same HB1.out]
              first
                | rw [wd_set]
                | rw [Nat.add_comm 1 n, wd_set]
          case measure => exact HME.out
      · rw [if_neg h8] at hR
        have hn : n = 8 := by omega
        subst hn
        have HRR := hid hR
        clear hR
        go_wp2_with (first
          | (refine wpList_load_row rfl 64 _ rfl (w.heap.size + 1) rfl _ _ _ _ HB1.out Tryz.underlying64 rfl (szWordOf HL.out) ?_)
          | (refine wpList_store_row rfl 64 _ _ rfl w.heap.size _ rfl rfl _ _ HB0.out (szWordOf HL.out) (sameSize rfl (Wd.size HL.out)) (Wd.one _) ?_))
        refine bodyPost_ret (results_row2 rfl _ _ w.heap.size 64 _ (0, 0) _ rfl (setRow_heap _ _ _ _ _ _ HB0.out) Tryz.underlying64 rfl (szWordOf HL.out)) rfl ⟨?_, hfr.setRow (by simp) _⟩
        rw [← HRR.out]; rfl

theorem readWord_any (s : ByteArray) (i : Int) (w : World) (hs : s.size ≤ 1000) (h0 : 0 ≤ i) (h1 : i ≤ 2000) :
    Calls Tryz.prog 53 #[.string s, .int .i64 i] w fun e w' => e = .returned (wordRet (rWord s i)) ∧ Fresh w w' := by
  cases hc : (!isSmallB (atB s i) && !isCapB (atB s i))
  · exact readWord_yes s i w hs h0 h1 hc
  · exact readWord_no s i w hs h0 h1 hc
end Go.Proofs.YteneagnhihcljaaGreatDoor
namespace Go.Proofs.YteneagnhihcljaaGreatDoor
open Go.RowKit
set_option linter.unusedVariables false
set_option linter.unusedSimpArgs false

/-- A line, as it is read. -/
structure Ln where
  front : Wd
  skip : Bool
  ns : List Node
  st : Int
  en : Int
  syms : List Wd
/-- .. and where its lists lie. -/
structure LV where
  ln : Ln
  vn : Value
  vs : Value
def LV.cells (x : LV) : List Value := x.ln.front.cells ++ [.bool x.ln.skip, x.vn, .int .i64 x.ln.st, .int .i64 x.ln.en, x.vs]
def zeroLn : Ln := ⟨⟨0, zero8⟩, false, [], 0, 0, []⟩
abbrev SymsAt := RowAt Wd.cells 9 64
structure LV.At (w : World) (x : LV) : Prop where
  nodes : NodesAt w x.vn x.ln.ns
  syms : SymsAt w x.vs x.ln.syms
  front : x.ln.front.ls.length = 8
  small : x.ln.ns.length ≤ 5000
theorem slice_one {w : World} {base size n : Nat} {e : TypeId} {v : Value} {xs : List Value} (h : w.ownsRow base e size v n xs) : v.oneCell' = true := by
  obtain ⟨a, c, rfl⟩ := own_form h; rfl
theorem LV.cells_len {x : LV} (h : x.ln.front.ls.length = 8) : x.cells.length = 14 := by simp [LV.cells, Wd.cells, h]
theorem LV.At.one {w : World} {x : LV} (h : x.At w) : x.cells.toArray.all (·.oneCell') = true := by
  apply all_oneCell_toArray
  have h1 := slice_one h.nodes.own
  have h2 := slice_one h.syms.own
  intro v hv
  simp [LV.cells, Wd.cells] at hv
  rcases hv with rfl | ⟨a, _, rfl⟩ | rfl | rfl | rfl | rfl | rfl
  · rfl
  · rfl
  · rfl
  · exact h1
  · rfl
  · rfl
  · exact h2
theorem LV.At.fresh {w w' : World} {x : LV} (h : x.At w) (hm : Fresh w w') : x.At w' := ⟨h.nodes.fresh hm, h.syms.fresh hm, h.front, h.small⟩
theorem szLine : (Tryz.prog.info? 69).map (·.size) = some 14 := by kernel_rfl
theorem szLineOf {x : LV} (h : x.ln.front.ls.length = 8) : (Tryz.prog.info? 69).map (·.size) = some x.cells.toArray.size := by rw [List.size_toArray, LV.cells_len h]; exact szLine
theorem LV.size {x : LV} (h : x.ln.front.ls.length = 8) : x.cells.toArray.size = 14 := by rw [List.size_toArray, LV.cells_len h]
def zeroLV : LV := ⟨zeroLn, .slice none 0 0, .slice none 0 0⟩
theorem zeroLV_at (w : World) : zeroLV.At w := ⟨⟨World.ownsRow_nil _ _ _ _, fun _ h => by cases h⟩, RowAt.nil _ _ _ _, rfl, by simp [zeroLV, zeroLn]⟩

theorem eight {ls : List Int} (h : ls.length = 8) : ∃ a b c d e f g k, ls = [a, b, c, d, e, f, g, k] := by
  match ls, h with
  | [a, b, c, d, e, f, g, k], _ => exact ⟨a, b, c, d, e, f, g, k, rfl⟩
def headB (d : Wd) : Bool := isCapB (d.ls.getD 0 0)
set_option maxHeartbeats 1000000 in
theorem isHead_any (d : Wd) (w : World) (hl : d.ls.length = 8) (hb : 0 ≤ d.ls.getD 0 0 ∧ d.ls.getD 0 0 ≤ 255) :
    Calls Tryz.prog 41 #[.agg d.cells.toArray] w fun e w' => e = .returned (.bool (headB d)) ∧ Fresh w w' := by
  obtain ⟨p, ls⟩ := d
  obtain ⟨a, b, c, d, e, f, g, k, rfl⟩ := eight hl
  have e1 : (Wd.cells ⟨p, [a, b, c, d, e, f, g, k]⟩).toArray = #[.int .i64 p, .int .u8 a, .int .u8 b, .int .u8 c, .int .u8 d, .int .u8 e, .int .u8 f, .int .u8 g, .int .u8 k] := rfl
  have e2 : headB ⟨p, [a, b, c, d, e, f, g, k]⟩ = isCapB a := rfl
  rw [e1, e2]
  simp at hb
  obtain ⟨hb0, hb1⟩ := hb
  clear e1 e2 hl
  go_enter Tryz.func41, Tryz.ntmps41
  go_wp2_with (go_at_call 64; refine (isCap_any _ _).mono ?_; rintro e w' ⟨rfl, hw⟩; rw [hw]; clear hw)
  go_ret
  exact ⟨rfl, (Mod.refl _ _).alloc _⟩

set_option maxHeartbeats 1000000 in
theorem isRule_any (x : LV) (w : World) (hl : x.ln.front.ls.length = 8) (hb : 0 ≤ x.ln.front.ls.getD 0 0 ∧ x.ln.front.ls.getD 0 0 ≤ 255) :
    Calls Tryz.prog 25 #[.agg x.cells.toArray] w fun e w' => e = .returned (.bool (!headB x.ln.front)) ∧ Fresh w w' := by
  have RG : Hid ((w.alloc (.cells x.cells.toArray 69)).rangeAt w.heap.size 0 x.ln.front.cells) := by
    intro j v hj
    rw [cellOf (heap_alloc_at _ _)]
    simp only [LV.cells, Nat.zero_add, List.getElem?_toArray]
    rw [List.getElem?_append_left (List.getElem?_eq_some_iff.1 hj).1]; exact hj
  go_enter Tryz.func25, Tryz.ntmps25
  go_wp2_with (first
    | (go_at_call 41; refine (isHead_any _ _ hl hb).mono ?_; rintro e w1 ⟨rfl, hf⟩)
    | (refine wpList_load_mid rfl 64 _ rfl w.heap.size 0 rfl x.ln.front.cells _ RG.out Tryz.underlying64 rfl (by rw [Wd.cells_len hl]; exact szWord) ?_))
  go_ret
  exact ⟨rfl, ((Mod.refl _ w).alloc _).trans hf⟩
end Go.Proofs.YteneagnhihcljaaGreatDoor
namespace Go.Proofs.YteneagnhihcljaaGreatDoor
open Go.RowKit
set_option linter.unusedVariables false
set_option linter.unusedSimpArgs false

/-- the line, behind it, whether it is one -/
def rRule (s : ByteArray) (i : Int) (d : Wd) : Ln × Int × Bool :=
  if atB s i ≠ 61 ∧ atB s i ≠ 126 then (zeroLn, i, false)
  else if (rRead s (i + 1)).ok = false then (zeroLn, (rRead s (i + 1)).next, false)
  else if atB s (rRead s (i + 1)).next ≠ 10 then (zeroLn, (rRead s (i + 1)).next, false)
  else (⟨d, atB s i == 126, (rRead s (i + 1)).ns, (rRead s (i + 1)).st, (rRead s (i + 1)).en, []⟩, (rRead s (i + 1)).next + 1, true)

/-- What reading a line leaves. -/
def LineRet (w : World) (r : Ln × Int × Bool) (e : Ending) (w' : World) : Prop :=
  ∃ x : LV, x.ln = r.1 ∧ e = .returned (.tuple #[.agg x.cells.toArray, .int .i64 r.2.1, .bool r.2.2]) ∧ Fresh w w' ∧ x.At w' ∧ (∀ k, x.vn.ownBlock = some k → w.heap.size ≤ k) ∧ (∀ k, x.vs.ownBlock = some k → w.heap.size ≤ k)
theorem lineRet_zero {w w' : World} {i : Int} {e : Ending} (he : e = .returned (.tuple #[.agg zeroLV.cells.toArray, .int .i64 i, .bool false])) (hf : Fresh w w') : LineRet w (zeroLn, i, false) e w' :=
  ⟨zeroLV, rfl, he, hf, zeroLV_at _, by simp [zeroLV, Value.ownBlock], by simp [zeroLV, Value.ownBlock]⟩

theorem good_read (s : ByteArray) (i : Int) (h0 : 0 ≤ i) (h1 : i ≤ s.size) : Good s i 0 (rRead s i) := good_chK s 6 i [] h0 h1

abbrev wdArr (p a b c d e f g k : Int) : Array Value := #[.int .i64 p, .int .u8 a, .int .u8 b, .int .u8 c, .int .u8 d, .int .u8 e, .int .u8 f, .int .u8 g, .int .u8 k]

set_option maxRecDepth 20000 in
set_option maxHeartbeats 2000000 in
theorem readRule_any (s : ByteArray) (i : Int) (dd : Wd) (w : World) (hs : s.size ≤ 1000) (h0 : 0 ≤ i) (h1 : i ≤ 2000) (hl : dd.ls.length = 8) :
    Calls Tryz.prog 55 #[.string s, .int .i64 i, .agg dd.cells.toArray] w fun e w' => LineRet w (rRule s i dd) e w' := by
  obtain ⟨p, ls⟩ := dd
  obtain ⟨a, b, c, d, e, f, g, k, rfl⟩ := eight hl
  have e1 : (Wd.cells ⟨p, [a, b, c, d, e, f, g, k]⟩).toArray = wdArr p a b c d e f g k := rfl
  rw [e1]
  generalize hR : rRule s i ⟨p, [a, b, c, d, e, f, g, k]⟩ = R
  unfold rRule at hR
  clear e1 hl
  by_cases hc : atB s i ≠ 61 ∧ atB s i ≠ 126
  · rw [if_pos hc] at hR
    have c1 : (atB s i != 61) = true := by simpa using hc.1
    have c2 : (atB s i != 126) = true := by simpa using hc.2
    have HR := hid hR
    clear hR hc
    go_enter Tryz.func55, Tryz.ntmps55
    go_wp2_with (first
      | (go_at_call 62; refine (at_any _ _ _ (by unfold maxLen; omega)).mono ?_; rintro e w' ⟨rfl, hw⟩; rw [hw]; clear hw))
    refine bodyPost_ret (results_row2 rfl _ _ (w.heap.size + 1) 69 zeroLV.cells.toArray (0, 0) _ rfl (heap_alloc2_new _ _ _) Tryz.underlying69 rfl szLine) rfl ?_
    rw [← HR.out]
    exact lineRet_zero rfl (((Mod.refl _ w).alloc _).alloc _)
  · rw [if_neg hc] at hR
    have hc' : (atB s i != 61) = false ∨ ((atB s i != 61) = true ∧ (atB s i != 126) = false) := by
      by_cases h : atB s i = 61
      · left; simpa using h
      · right; exact ⟨by simpa using h, by simp; omega⟩
    have hlt := atB_lt (s := s) (i := i) (by omega)
    have hG := good_read s (i + 1) (by omega) (by omega)
    obtain ⟨g1, g2, g3, g4⟩ := hG
    cases hok : (rRead s (i + 1)).ok
    · rw [if_pos hok] at hR
      have HR := hid hR
      clear hR hc g3
      have RB := hid (fun w => read_bad s (i + 1) w hs (by omega) (by omega) hok)
      generalize rRead s (i + 1) = pp at g1 g2 g4 HR RB
      rcases hc' with c1 | ⟨c1, c2⟩
      all_goals
        go_enter Tryz.func55, Tryz.ntmps55
        go_wp2_with (first
          | (go_at_call 62; refine (at_any _ _ _ (by unfold maxLen; omega)).mono ?_; rintro e w' ⟨rfl, hw⟩; rw [hw]; clear hw)
          | (go_at_call 74; refine (RB.out _).mono ?_; rintro e w1 ⟨rfl, hf1⟩; have hz : w.heap.size + 1 < w1.heap.size := (by have := hf1.size; simp at this; omega))
          | (refine wpList_store_row rfl 69 _ _ rfl (w.heap.size + 1) zeroLV.cells.toArray rfl rfl _ _ (heap_alloc_prev (hf1.at (heap_alloc2_new _ _ _) (fun x => x))) szLine rfl (zeroLV_at w).one ?_))
        refine bodyPost_ret (results_row2 rfl _ _ (w.heap.size + 1) 69 zeroLV.cells.toArray (0, 0) _ rfl (setRow_heap _ _ _ _ _ _ (heap_alloc_prev (hf1.at (heap_alloc2_new _ _ _) (fun x => x)))) Tryz.underlying69 rfl szLine) rfl ?_
        rw [← HR.out]
        exact lineRet_zero rfl (((((((Mod.refl _ w).alloc _).alloc _).trans hf1).alloc _)).setRow (by simp) _)
    · rw [if_neg (by simp [hok])] at hR
      have g5 := g3 hok
      have RG := hid (fun w => read_good s (i + 1) w hs (by omega) (by omega) hok)
      generalize rRead s (i + 1) = pp at g1 g2 g4 g5 hR RG
      by_cases hnl : atB s pp.next = 10
      · rw [if_neg (by simp [hnl])] at hR
        have HR := hid hR
        have c3 : (atB s pp.next != 10) = false := by simp [hnl]
        clear hR hc g3 hok hnl
        rcases hc' with c1 | ⟨c1, c2⟩
        all_goals
          go_enter Tryz.func55, Tryz.ntmps55
          go_wp2_with (first
            | (go_at_call 62; refine (at_any _ _ _ (by unfold maxLen; omega)).mono ?_; rintro e w' ⟨rfl, hw⟩; rw [hw]; clear hw)
            | (go_at_call 74; refine (RG.out _).mono ?_; rintro e w1 ⟨v, rfl, hf1, hN1, hk1⟩; obtain ⟨ao, cap, hv⟩ := own_form hN1.own; subst hv; have hz : w.heap.size + 1 < w1.heap.size := (by have := hf1.size; simp at this; omega); have H0 := hid (hf1.at (heap_alloc2_old _ _ _) (fun x => x)))
            | (refine wpList_load_row rfl 64 _ rfl w.heap.size rfl _ _ _ _ (heap_alloc_prev H0.out) Tryz.underlying64 rfl szWord ?_)
            | (refine wpList_store_row rfl 69 _ _ rfl (w.heap.size + 1) (LV.cells ⟨⟨⟨p, [a, b, c, d, e, f, g, k]⟩, atB s i == 126, pp.ns, pp.st, pp.en, []⟩, .slice ao pp.ns.length cap, .slice none 0 0⟩).toArray rfl rfl _ _ (heap_alloc_prev (hf1.at (heap_alloc2_new _ _ _) (fun x => x))) szLine rfl ?_ ?_))
          case refine_1 => 
            refine LV.At.one (w := w1) ⟨hN1, RowAt.nil _ _ _ _, rfl, ?_⟩
            show pp.ns.length ≤ 5000
            simp at g4; omega
          refine bodyPost_ret (results_row2 rfl _ _ (w.heap.size + 1) 69 _ (0, 0) _ rfl (setRow_heap _ _ _ _ _ _ (heap_alloc_prev (hf1.at (heap_alloc2_new _ _ _) (fun x => x)))) Tryz.underlying69 rfl szLine) rfl ?_
          rw [← HR.out]
          have m1 : Fresh w1 ((w1.alloc (.cells #[.slice ao pp.ns.length cap, .int .i64 pp.st, .int .i64 pp.en] 67 (0, 0)))) := (Mod.refl _ w1).alloc _
          have hk1' : ∀ k, (Value.slice ao pp.ns.length cap).ownBlock = some k → w.heap.size + 2 ≤ k := fun k hk => by have := hk1 k hk; simpa using this
          refine ⟨⟨⟨⟨p, [a, b, c, d, e, f, g, k]⟩, atB s i == 126, pp.ns, pp.st, pp.en, []⟩, .slice ao pp.ns.length cap, .slice none 0 0⟩, rfl, rfl, (((((((Mod.refl _ w).alloc _).alloc _).trans hf1).alloc _)).setRow (by simp) _), ⟨?_, RowAt.nil _ _ _ _, rfl, by show pp.ns.length ≤ 5000; simp at g4; omega⟩, fun k hk => by have := hk1' k hk; omega, by simp [Value.ownBlock]⟩
          exact (hN1.fresh m1).kept (S := fun k => k = w.heap.size + 1) (Mod.setRow (S := fun k => k = w.heap.size + 1) (Mod.refl _ _) (fun _ => rfl) _) (fun k hk e => by have := hk1' k hk; omega)
      · rw [if_pos hnl] at hR
        have HR := hid hR
        have c3 : (atB s pp.next != 10) = true := by simpa using hnl
        clear hR hc g3 hok hnl
        rcases hc' with c1 | ⟨c1, c2⟩
        all_goals
          go_enter Tryz.func55, Tryz.ntmps55
          go_wp2_with (first
            | (go_at_call 62; refine (at_any _ _ _ (by unfold maxLen; omega)).mono ?_; rintro e w' ⟨rfl, hw⟩; rw [hw]; clear hw)
            | (go_at_call 74; refine (RG.out _).mono ?_; rintro e w1 ⟨v, rfl, hf1, hN1, hk1⟩; obtain ⟨ao, cap, hv⟩ := own_form hN1.own; subst hv; have hz : w.heap.size + 1 < w1.heap.size := (by have := hf1.size; simp at this; omega))
            | (refine wpList_store_row rfl 69 _ _ rfl (w.heap.size + 1) zeroLV.cells.toArray rfl rfl _ _ (heap_alloc_prev (hf1.at (heap_alloc2_new _ _ _) (fun x => x))) szLine rfl (zeroLV_at w).one ?_))
          refine bodyPost_ret (results_row2 rfl _ _ (w.heap.size + 1) 69 zeroLV.cells.toArray (0, 0) _ rfl (setRow_heap _ _ _ _ _ _ (heap_alloc_prev (hf1.at (heap_alloc2_new _ _ _) (fun x => x)))) Tryz.underlying69 rfl szLine) rfl ?_
          rw [← HR.out]
          exact lineRet_zero rfl (((((((Mod.refl _ w).alloc _).alloc _).trans hf1).alloc _)).setRow (by simp) _)
end Go.Proofs.YteneagnhihcljaaGreatDoor
