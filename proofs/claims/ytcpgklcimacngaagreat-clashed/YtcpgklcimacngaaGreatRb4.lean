import Derived.Test.YtcpgklcimacngaaGreatRb1
import Derived.StillTailTactics
namespace Go.Proofs.YtcpgklcimacngaaGreat
open Go.RowKit
set_option linter.unusedVariables false
set_option linter.unusedSimpArgs false

abbrev UpM (gs : List Nat) : World → World → Prop := Mod (fun k => k ∈ gs)
def ChRet (w : World) (B n : Nat) (v : Value) (gs : List Nat) (M : Mat) (e : Ending) (w' : World) : Prop := e = .returned v ∧ MatAt w' B n v gs M ∧ UpM gs w w'
theorem MatAt.row {w : World} {B n : Nat} {g c m : Nat} {gs : List Nat} {M : Mat} (h : MatAt w B n (.slice (some ⟨g, 0, none⟩) m c) gs M) {i gi : Nat} (hi : gs[i]? = some gi) : w.cell? ⟨g, i, none⟩ = some (bsl gi n) := by
  have := h.own.cells (g := g) rfl i (bsl gi n) (by rw [List.getElem?_map, hi]; rfl)
  rwa [Addr.add_mid, Nat.zero_add] at this
theorem MatAt.cell {w : World} {B n : Nat} {v : Value} {gs : List Nat} {M : Mat} (h : MatAt w B n v gs M) (hs : Sq n M) {i gi j : Nat} (hi : gs[i]? = some gi) (hj : j < n) : w.cell? ⟨gi, j, none⟩ = some (.bool (atM M i j)) := by
  have hl := (List.getElem?_eq_some_iff.1 hi).1
  exact (h.blk i gi hi).2.cell (by rw [hs.row i (by rw [← hs.len, ← h.len]; exact hl)]; exact hj)
theorem MatAt.drew {w : World} {B n : Nat} {v : Value} {gs : List Nat} {M : Mat} (h : MatAt w B n v gs M) : MatAt w.drew B n v gs M := h.fresh ⟨rfl, rfl, rfl, Nat.le_refl _, fun _ _ _ => rfl⟩
theorem wJ_s (k i n j : Nat) (M : Mat) (h : j < n) : wJ k i (n - j) j M = wJ k i (n - (j + 1)) (j + 1) (setM M i j (atM M i j || (atM M i k && atM M k j))) := by
  rw [show n - j = (n - (j + 1)) + 1 by omega]; rfl
theorem wI_s (k n i : Nat) (M : Mat) (h : i < n) : wI k n (n - i) i M = wI k n (n - (i + 1)) (i + 1) (wJ k i n 0 M) := by
  rw [show n - i = (n - (i + 1)) + 1 by omega]; rfl
theorem wK_s (n k : Nat) (M : Mat) (h : k < n) : wK n (n - k) k M = wK n (n - (k + 1)) (k + 1) (wI k n n 0 M) := by
  rw [show n - k = (n - (k + 1)) + 1 by omega]; rfl

set_option maxRecDepth 20000 in
set_option maxHeartbeats 4000000 in
theorem chained_any (w : World) (B n : Nat) (v : Value) (gs : List Nat) (M : Mat) (hM : MatAt w B n v gs M) (hs : Sq n M) (hn : n ≤ 100) :
    Calls Tryz.prog 66 #[v] w fun e w' => ChRet w B n v gs (chainF M) e w' := by
  have hgl : gs.length = n := by rw [hM.len, hs.len]
  have hV0 : chainF M = wK n n 0 M := by unfold chainF; rw [hs.len]
  generalize chainF M = V at hV0
  have HV := hid hV0.symm
  obtain ⟨ao, cp, hv⟩ := own_form hM.own
  rw [hgl] at hv
  subst hv
  have HM := hid hM
  have HS := hid hs
  have HGL := hid hgl
  clear hM hs hV0 hgl
  go_enter Tryz.func66, Tryz.ntmps66
  go_wp2
  go_loopw [4, 5, 6] (fun x4 _ _ wr => ∃ (k : Nat) (M' : Mat), x4 = .int .i64 k ∧ k ≤ n ∧ MatAt wr B n (.slice ao n cp) gs M' ∧ Sq n M' ∧ UpM gs w wr ∧ wK n (n - k) k M' = V)
      (fun x _ _ _ => 1001 - (intOf x).toNat)
  case atStart => exact ⟨0, M, rfl, by omega, HM.out, HS.out, Mod.refl _ _, HV.out⟩
  case round =>
    obtain ⟨k, M1, rfl, hk, hM, hs, hup, hrec⟩ := hrel
    have HMK := hid (meas (B := 1001) k (by omega))
    have HM1 := hid hM
    have HS1 := hid hs
    have HU1 := hid hup
    clear HM HS HV hM hs hup
    by_cases hlt : k < n
    · have k1 : (k : Int) < (n : Int) := by omega
      rw [wK_s _ _ _ hlt] at hrec
      generalize hF2 : wI k n n 0 M1 = F2 at hrec
      have HF2 := hid hF2
      have HREC := hid hrec
      clear hF2 hrec
      go_wp2
      go_loopw [5, 6] (fun x5 _ wr => ∃ (i : Nat) (M' : Mat), x5 = .int .i64 i ∧ i ≤ n ∧ MatAt wr B n (.slice ao n cp) gs M' ∧ Sq n M' ∧ UpM gs w wr ∧ wI k n (n - i) i M' = F2)
          (fun x _ _ => 1001 - (intOf x).toNat)
      case atStart => exact ⟨0, M1, rfl, by omega, HM1.out, HS1.out, HU1.out, HF2.out⟩
      case round =>
        obtain ⟨i, M2, rfl, hi, hM, hs, hup, hrec⟩ := hrel
        have HMI := hid (meas (B := 1001) i (by omega))
        have HM2 := hid hM
        have HS2 := hid hs
        have HU2 := hid hup
        clear HM1 HS1 HU1 HF2 hM hs hup
        by_cases hlt2 : i < n
        · have k2 : (i : Int) < (n : Int) := by omega
          rw [wI_s _ _ _ _ hlt2] at hrec
          generalize hF3 : wJ k i n 0 M2 = F3 at hrec
          have HF3 := hid hF3
          have HREC2 := hid hrec
          clear hF3 hrec
          obtain ⟨gi, hgi⟩ : ∃ g, gs[i]? = some g := ⟨_, List.getElem?_eq_getElem (by rw [HGL.out]; exact hlt2)⟩
          obtain ⟨gk, hgk⟩ : ∃ g, gs[k]? = some g := ⟨_, List.getElem?_eq_getElem (by rw [HGL.out]; exact hlt)⟩
          have HGI := hid hgi
          have HGK := hid hgk
          clear hgi hgk
          go_wp2
          go_loopw [6] (fun x6 wr => ∃ (j : Nat) (M' : Mat), x6 = .int .i64 j ∧ j ≤ n ∧ MatAt wr B n (.slice ao n cp) gs M' ∧ Sq n M' ∧ UpM gs w wr ∧ wJ k i (n - j) j M' = F3)
              (fun x _ => 1001 - (intOf x).toNat)
          case atStart => exact ⟨0, M2, rfl, by omega, HM2.out, HS2.out, HU2.out, HF3.out⟩
          case round =>
            obtain ⟨j, M3, rfl, hj, hM, hs, hup, hrec⟩ := hrel
            have HMJ := hid (meas (B := 1001) j (by omega))
            have HU3 := hid hup
            have HM3 := hid hM
            have HS3 := hid hs
            clear HM2 HS2 HU2 HF3 hup
            by_cases hlt3 : j < n
            · have k3 : (j : Int) < (n : Int) := by omega
              rw [wJ_s _ _ _ _ _ hlt3] at hrec
              have HREC3 := hid hrec
              obtain ⟨gv, cv, hv⟩ := Joins.ownsRow_form hM.own (by rw [HGL.out]; omega)
              rw [HGL.out, Value.slice.injEq] at hv
              obtain ⟨rfl, _, rfl⟩ := hv
              have r1 := hM.row HGI.out
              have r2 := hM.row HGK.out
              have c1 := hM.cell hs HGI.out hlt3
              have c2 := hM.cell hs HGI.out hlt
              have c3 := hM.cell hs HGK.out hlt3
              have z1 := (hM.blk i gi HGI.out).2.frozen j
              have HP : Hid (∀ c : Bool, MatAt (wr.setCell ⟨gi, j, none⟩ (.bool c)).drew B n (.slice (some ⟨gv, 0, none⟩) n cp) gs (setM M3 i j c) ∧ Sq n (setM M3 i j c) ∧ UpM gs w (wr.setCell ⟨gi, j, none⟩ (.bool c)).drew) := hid (fun c =>
                ⟨(HM3.out.put HGI.out j c).drew, setM_sq HS3.out hlt2 c, (HU3.out.setCell (fun _ => List.mem_of_getElem? HGI.out) _).drew⟩)
              generalize atM M3 i j = xa at HREC3 c1
              generalize atM M3 i k = xb at HREC3 c2
              generalize atM M3 k j = xc at HREC3 c3
              clear hM hs hrec
              cases xa
              · cases xb
                · go_wp2_with fail
                  go_region
                  all_goals
                    go_wp2
                    go_roundw
                    case rel => exact ⟨j + 1, _, by go_num, by omega, (HP.out _).1, (HP.out _).2.1, (HP.out _).2.2, HREC3.out⟩
                    case measure => exact HMJ.out
                · cases xc
                  all_goals
                    go_wp2_with fail
                    go_region
                    all_goals
                      go_wp2
                      go_roundw
                      case rel => exact ⟨j + 1, _, by go_num, by omega, (HP.out _).1, (HP.out _).2.1, (HP.out _).2.2, HREC3.out⟩
                      case measure => exact HMJ.out
              · go_wp2_with fail
                go_region
                all_goals
                  go_wp2
                  go_roundw
                  case rel => exact ⟨j + 1, _, by go_num, by omega, (HP.out _).1, (HP.out _).2.1, (HP.out _).2.2, by have := HREC3.out; rw [Bool.true_or] at this; exact this⟩
                  case measure => exact HMJ.out
            · have k3 : ¬ (j : Int) < (n : Int) := by omega
              have hjn : j = n := by omega
              rw [hjn, Nat.sub_self] at hrec
              have HREC3 := hid hrec
              clear hM hs hrec hjn
              go_wp2
              go_roundw
              case rel => exact ⟨i + 1, M3, by go_num, by omega, HM3.out, HS3.out, HU3.out, by have := HREC3.out; unfold wJ at this; rw [this]; exact HREC2.out⟩
              case measure => exact HMI.out
        · have k2 : ¬ (i : Int) < (n : Int) := by omega
          have hin : i = n := by omega
          rw [hin, Nat.sub_self] at hrec
          have HREC2 := hid hrec
          clear hrec hin
          go_wp2
          go_roundw
          case rel => exact ⟨k + 1, M2, by go_num, by omega, HM2.out, HS2.out, HU2.out, by have := HREC2.out; unfold wI at this; rw [this]; exact HREC.out⟩
          case measure => exact HMK.out
    · have k1 : ¬ (k : Int) < (n : Int) := by omega
      have hkn : k = n := by omega
      rw [hkn, Nat.sub_self] at hrec
      have HREC := hid hrec
      clear hrec hkn
      go_wp2
      go_ret
      refine ⟨rfl, ?_, HU1.out⟩
      have := HREC.out
      unfold wK at this
      rw [← this]; exact HM1.out
end Go.Proofs.YtcpgklcimacngaaGreat
namespace Go.Proofs.YtcpgklcimacngaaGreat
open Go.RowKit
set_option linter.unusedVariables false
set_option linter.unusedSimpArgs false

theorem IntAt.take {w : World} {ao : Option Addr} {n cap : Nat} {l : List Int} (h : IntAt w (.slice ao n cap) l) (hn : n = l.length) {j : Nat} (hj : j ≤ l.length) : IntAt w (.slice ao j cap) (l.take j) := by
  obtain ⟨a1, c1, e, hc, hcell⟩ := h
  rw [Value.slice.injEq] at e
  obtain ⟨rfl, _, rfl⟩ := e
  refine ⟨ao, cap, by rw [List.length_take, Nat.min_eq_left hj], by rw [List.length_take]; omega, fun k hk => ?_⟩
  rw [List.length_take] at hk
  obtain ⟨g, o, e1, e2⟩ := hcell k (by omega)
  exact ⟨g, o, e1, by rw [List.getElem_take]; exact e2⟩
theorem cdJ_s (c : Nat → Bool) (x : Nat) (y : Nat → Nat) (n j : Nat) (M : Mat) (h : j < n) : cdJ c x y (n - j) j M = cdJ c x y (n - (j + 1)) (j + 1) (if c j = true then setM M x (y j) true else M) := by
  rw [show n - j = (n - (j + 1)) + 1 by omega]; rfl
theorem cdI_s (c : Q1 → Nat → Bool) (x : Q1 → Nat) (y : Q1 → Nat → Nat) (q : List Q1) (i : Nat) (M : Mat) (h : i < q.length) : cdI c x y (q.drop i) M = cdI c x y (q.drop (i + 1)) (cdJ (c q[i]) (x q[i]) (y q[i]) q[i].2.length 0 M) := by
  rw [List.drop_eq_getElem_cons h]; rfl
/-- what a production is in memory -/
structure PrAt (w : World) (b : Nat) (P i : Nat) (x : Q1) (g3 o3 c3 g4 o4 n4 c4 : Nat) (al : Option Addr) (cl : Nat) : Prop where
  q3 : w.cell? ⟨b, 3, none⟩ = some (.slice (some ⟨g3, o3, none⟩) P c3)
  y3 : w.cell? ⟨g3, o3 + i, none⟩ = some (.int .i64 x.1)
  q4 : w.cell? ⟨b, 4, none⟩ = some (.slice (some ⟨g4, o4, none⟩) n4 c4)
  n4 : i < n4
  y4 : w.cell? ⟨g4, o4 + i, none⟩ = some (.slice al x.2.length cl)
  l : IntAt w (.slice al x.2.length cl) x.2
theorem NV.pr {w : World} {b R H : Nat} {q : List Q1} {a0 a1 a2 : Option Addr} {c0 c1 c2 : Nat} {v3 v4 : Value} {sv : List Value} (h : NV w b R H q a0 c0 a1 c1 a2 c2 v3 v4 sv) {i : Nat} (hi : i < q.length) :
    ∃ g3 o3 c3 g4 o4 n4 c4 al cl, PrAt w b q.length i q[i] g3 o3 c3 g4 o4 n4 c4 al cl := by
  have hlti : i < sv.length := by rw [h.len]; exact hi
  obtain ⟨ao4, cp4, e4, hc4, cell4⟩ := h.r4
  obtain ⟨g4, o4, rfl, y4⟩ := cell4 i hlti
  have q4 := h.k4
  rw [e4] at q4
  have hl := h.each i sv[i] q[i] (List.getElem?_eq_getElem hlti) (List.getElem?_eq_getElem hi)
  obtain ⟨aol, cpl, el, hcl, celll⟩ := id hl
  rw [el] at y4 hl
  obtain ⟨ao3, cp3, e3, hc3, cell3⟩ := h.r3
  obtain ⟨g3, o3, rfl, y3⟩ := cell3 i (by rw [List.length_map]; exact hi)
  rw [List.getElem_map] at y3
  rw [List.length_map] at e3
  have q3 := h.k3
  rw [e3] at q3
  exact ⟨g3, o3, cp3, g4, o4, sv.length, cp4, aol, cpl, q3, y3, q4, hlti, y4, hl⟩
theorem PrAt.fresh {w w' : World} {b P i : Nat} {x : Q1} {g3 o3 c3 g4 o4 n4 c4 : Nat} {al : Option Addr} {cl : Nat} (h : PrAt w b P i x g3 o3 c3 g4 o4 n4 c4 al cl) (hf : Fresh w w') : PrAt w' b P i x g3 o3 c3 g4 o4 n4 c4 al cl :=
  ⟨fcell' hf h.q3, fcell' hf h.y3, fcell' hf h.q4, h.n4, fcell' hf h.y4, h.l.fresh hf⟩

set_option maxRecDepth 20000 in
set_option maxHeartbeats 8000000 in
theorem leads_any (w : World) (b R H gn : Nat) (q : List Q1) (null : List Bool) (hS : SpecN w b R H q) (hQ : QOk R H q) (hn : BSet w gn null) (hnl : null.length = H) :
    Calls Tryz.prog 45 #[.pointer (some ⟨b, 0, none⟩), bsl gn H] w fun e w' => MxRet w (R + 1 + H) (ldF R H null q) e w' := by
  obtain ⟨a0, c0, a1, c1, a2, c2, v3, v4, sv, hN⟩ := hS
  have r8 := hQ.r8
  have h8 := hQ.h8
  have p20 := hQ.p20
  have HQ := hid hQ
  have HN := hid hN
  have HNU := hid hn
  have HNL := hid hnl
  have k0 := hN.k0
  have k1 := hN.k1
  have k2 := hN.k2
  have BA := hid (fun (W : World) (hW : Fresh w W) => base_any W b R a0 c0 (fcell' hW k0) (by omega))
  have SQ : Hid (∀ W : World, Fresh w W → W.heap.size = w.heap.size → Calls Tryz.prog 65 #[.int .i64 ((R + 1 + H : Nat) : Int)] W fun e w' => ∃ v gs, e = .returned v ∧ MatAt w' w.heap.size (R + 1 + H) v gs (sqF (R + 1 + H)) ∧ Fresh w w') := hid (fun W hW hz => by
    refine (square_any W (R + 1 + H) (by omega)).mono ?_
    rintro e w' ⟨v, gs, he, hm, hf⟩
    rw [hz] at hm
    exact ⟨v, gs, he, hm, hW.trans hf⟩)
  have CH := hid (fun (W : World) (B : Nat) (v : Value) (gs : List Nat) (M : Mat) (h1 : MatAt W B (R + 1 + H) v gs M) (h2 : Sq (R + 1 + H) M) => chained_any W B (R + 1 + H) v gs M h1 h2 (by omega))
  have wr1 : IntKind.i64.wrap (bs R + (H : Int)) = ((R + 1 + H : Nat) : Int) := by rw [IntKind.wrap_i64]; unfold bs; omega
  have hV : chainF (cdI (ldC R null) (ldX R) ldY q (sqF (R + 1 + H))) = ldF R H null q := rfl
  have hnb : R + 1 + H ≤ 100 := by omega
  generalize ldF R H null q = V at hV
  generalize hnn : R + 1 + H = n at hV SQ CH wr1 hnb ⊢
  have HNN := hid hnn
  have HV := hid hV
  clear hN hQ hV hn hnl k0 hnn
  go_enter Tryz.func45, Tryz.ntmps45
  go_upto_region 1 with fail
  go_cut [5] (fun s5 wx => ∃ gs, MatAt wx w.heap.size n s5 gs (sqF n) ∧ Fresh w wx)
  case first =>
    go_region_with (first
      | (go_at_call 23; refine (BA.out _ (by first | exact Mod.refl _ w | exact (Mod.refl _ w).drew | exact ((Mod.refl _ w).drew).drew)).mono ?_; rintro e w' ⟨rfl, hw⟩; rw [hw]; clear hw)
      | (go_at_call 65; refine (SQ.out _ (by first | exact Mod.refl _ w | exact (Mod.refl _ w).drew | exact ((Mod.refl _ w).drew).drew) (by rfl)).mono ?_; rintro e w3 ⟨v, gs, rfl, hm3, hf3⟩))
    all_goals
      go_wp2_with fail
      go_meet
      exact ⟨gs, hm3, hf3⟩
  case rest =>
    obtain ⟨gs, hm, hfx⟩ := hcut
    have HM := hid hm
    have HF := hid hfx
    generalize hL0 : cdI (ldC R null) (ldX R) ldY q (sqF n) = L0 at HV
    have HL0 := hid hL0
    obtain ⟨ao, cp, hv⟩ := own_form hm.own
    subst hv
    clear hL0 hm hfx SQ wr1
    go_wp2
    go_loopw [6, 7, 8] (fun x6 _ _ wr => ∃ (i : Nat) (M : Mat), x6 = .int .i64 i ∧ i ≤ q.length ∧ MatAt wr w.heap.size n (.slice ao gs.length cp) gs M ∧ Sq n M ∧ Fresh w wr ∧ cdI (ldC R null) (ldX R) ldY (q.drop i) M = L0)
        (fun x _ _ _ => 1001 - (intOf x).toNat)
    case atStart => exact ⟨0, _, rfl, by omega, HM.out, sqF_sq n, HF.out, HL0.out⟩
    case round =>
      obtain ⟨i, M, rfl, hi, hm, hs, hfr, hrec⟩ := hrel
      have HMI := hid (meas (B := 1001) i (by omega))
      have HM1 := hid hm
      have HS1 := hid hs
      have HF1 := hid hfr
      have kk1 := fcell' hfr k1
      clear HM HF HL0 hm hs
      by_cases hlt : i < q.length
      · have s1 : (i : Int) < (q.length : Int) := by omega
        rw [cdI_s _ _ _ _ _ _ hlt] at hrec
        generalize hF2 : cdJ (ldC R null q[i]) (ldX R q[i]) (ldY q[i]) q[i].2.length 0 M = F2 at hrec
        have HREC := hid hrec
        have hhd := HQ.out.hd q[i] (List.getElem_mem hlt)
        have hsy := HQ.out.sy q[i] (List.getElem_mem hlt)
        obtain ⟨g3, o3, c3, g4, o4, n4, c4, al, cl, hP⟩ := HN.out.pr hlt
        generalize q[i] = z at hF2 hhd hsy hP
        have HF2 := hid hF2
        have HP := hid hP
        have hl6 := hsy.1
        have s4 : (i : Int) < (n4 : Int) := by have := hP.n4; omega
        have q4 := (hP.fresh hfr).q4
        have y4 := (hP.fresh hfr).y4
        have HSY := hid hsy.2
        have HHD := hid hhd
        clear hrec hF2 hP hsy hhd hfr
        go_wp2
        go_loopw [7, 8] (fun x7 _ wr => ∃ (j : Nat) (M : Mat), x7 = .int .i64 j ∧ j ≤ z.2.length ∧ MatAt wr w.heap.size n (.slice ao gs.length cp) gs M ∧ Sq n M ∧ Fresh w wr ∧ cdJ (ldC R null z) (ldX R z) (ldY z) (z.2.length - j) j M = F2)
            (fun x _ _ => 1001 - (intOf x).toNat)
        case atStart => exact ⟨0, M, rfl, by omega, HM1.out, HS1.out, HF1.out, HF2.out⟩
        case round =>
          obtain ⟨j, M2, rfl, hj, hm, hs, hfr, hrec⟩ := hrel
          have HMJ := hid (meas (B := 1001) j (by omega))
          have HM2 := hid hm
          have HS2 := hid hs
          have HFJ := hid hfr
          have hP2 := HP.out.fresh hfr
          have q4 := hP2.q4
          have y4 := hP2.y4
          have hl2 := hP2.l
          clear HM1 HS1 HF1 HF2 q4 y4
          have q4 := hP2.q4
          have y4 := hP2.y4
          by_cases hlt2 : j < z.2.length
          · have s2 : (j : Int) < (z.2.length : Int) := by omega
            have s3 : (j : Int) ≤ (z.2.length : Int) := by omega
            rw [cdJ_s _ _ _ _ _ _ hlt2] at hrec
            have HREC2 := hid hrec
            have NO := hid (nothing_any wr b R H gn a0 c0 (.slice al j cl) (z.2.take j) null (fcell' hfr HN.out.k0) (by omega) (by omega) (hl2.take rfl (by omega)) (by rw [List.length_take]; omega) (HNU.out.fresh hfr) HNL.out (fun c hc => HSY.out c (List.mem_of_mem_take hc)))
            obtain ⟨ao5, cp5, e5, hc5, cell5⟩ := hl2
            rw [Value.slice.injEq] at e5
            obtain ⟨rfl, _, rfl⟩ := e5
            obtain ⟨gl, ol, rfl, y5⟩ := cell5 j hlt2
            have s6 : z.2.length ≤ cl := hc5
            have s7 : (j : Int) ≤ (cl : Int) := by omega
            have HC : Hid (ldC R null z j = nothF (bs R) null (z.2.take j)) := hid rfl
            generalize nothF (bs R) null (z.2.take j) = nb at NO HC
            clear hrec hm hs hfr cell5 hP2
            cases nb
            · go_wp2_with (first
                | (go_at_call 47; refine (NO.out).mono ?_; rintro e w' ⟨rfl, m, hw⟩; have HW := hid hw; clear hw))
              go_roundw
              case rel =>
                have hf := fdrewR wr m
                rw [← HW.out] at hf
                refine ⟨j + 1, M2, by go_num, by omega, HM2.out.fresh hf, HS2.out, HFJ.out.trans hf, ?_⟩
                have := HREC2.out
                rw [HC.out, if_neg (by simp)] at this
                exact this
              case measure => exact HMJ.out
            · go_upto_region 10 with (first
                | (go_at_call 47; refine (NO.out).mono ?_; rintro e W1 ⟨rfl, m, hw⟩; have HW := hid hw; clear hw))
              have hf : Fresh wr W1 := by rw [HW.out]; exact fdrewR wr m
              have HFW := hid (HFJ.out.trans hf)
              have hPW := HP.out.fresh HFW.out
              have p3 := hPW.q3
              have e3 := hPW.y3
              have p4 := fcell' hf q4
              have e4 := fcell' hf y4
              have e5 := fcell' hf y5
              have hMW := HM2.out.fresh hf
              have hhd := HHD.out
              obtain ⟨hdn, hhn⟩ : ∃ a : Nat, z.1 = a := ⟨z.1.toNat, by omega⟩
              have hcb := HSY.out z.2[j] (List.getElem_mem hlt2)
              obtain ⟨yn, hyn⟩ : ∃ a : Nat, z.2[j] = a := ⟨z.2[j].toNat, by omega⟩
              have hxn : ldX R z = R + 1 + hdn := by unfold ldX bs; omega
              have hyj : ldY z j = yn := by unfold ldY; rw [List.getD_eq_getElem?_getD, List.getElem?_eq_getElem hlt2, Option.getD_some, hyn, Int.toNat_natCast]
              have hnn := HNN.out
              obtain ⟨xn, hx⟩ : ∃ a, a = R + 1 + hdn := ⟨_, rfl⟩
              rw [← hx] at hxn
              have hxl : xn < n := by omega
              have hyl : yn < n := by omega
              have hgl : gs.length = n := by rw [hMW.len, HS2.out.len]
              obtain ⟨gx, hgx⟩ : ∃ g, gs[xn]? = some g := ⟨_, List.getElem?_eq_getElem (by omega)⟩
              obtain ⟨gv, cv, hv⟩ := Joins.ownsRow_form hMW.own (by omega)
              rw [Value.slice.injEq] at hv
              obtain ⟨rfl, _, rfl⟩ := hv
              have r1 := hMW.row hgx
              have d1 := hMW.cell HS2.out hgx hyl
              have d2 := (hMW.blk xn gx hgx).2.frozen yn
              rw [hhn] at e3
              rw [hyn] at e5
              have t1 : (xn : Int) < (gs.length : Int) := by omega
              have t2 : (yn : Int) < (n : Int) := by omega
              have wr2 : IntKind.i64.wrap (bs R + (hdn : Int)) = (xn : Int) := by rw [IntKind.wrap_i64]; unfold bs; omega
              have HPP : Hid (MatAt (W1.setCell ⟨gx, yn, none⟩ (.bool true)).drew w.heap.size n (.slice (some ⟨gv, 0, none⟩) gs.length cp) gs (setM M2 xn yn true) ∧ Sq n (setM M2 xn yn true) ∧ Fresh w (W1.setCell ⟨gx, yn, none⟩ (.bool true)).drew) := hid
                ⟨(hMW.put hgx yn true).drew, setM_sq HS2.out hxl true, (HFW.out.setCell (fun hlt => by have := (hMW.blk xn gx hgx).1; exact absurd hlt (by show ¬ gx < w.heap.size; omega)) _).drew⟩
              have HRE : Hid (cdJ (ldC R null z) (ldX R z) (ldY z) (z.2.length - (j + 1)) (j + 1) (setM M2 xn yn true) = F2) := hid (by
                have := HREC2.out
                rw [HC.out, if_pos rfl, hxn, hyj] at this
                have e : ldX R z = xn := hxn
                rw [e]; exact this)
              clear hf hPW hMW hhd hhn hcb hyn hxn hyj hnn hx hgl hgx q4 y4 y5 NO HREC2
              refine wp_region_still_tail 24 (by kernel_rfl) (by kernel_rfl) ?_
              change wpStill _ _ W1.drew _ _ _
              simp only [List.take_succ_cons, List.take_zero, List.drop_succ_cons, List.drop_zero]
              still_step
              still_step
              still_call (BA.out _ HFW.out.drew)
              repeat still_step
              refine wpStill_nil ?_
              change wpList _ _ _ _ _ W1.drew
              go_wp2
              go_roundw
              case rel => exact ⟨j + 1, _, by go_num, by omega, HPP.out.1, HPP.out.2.1, HPP.out.2.2, HRE.out⟩
              case measure => exact HMJ.out
          · have s2 : ¬ (j : Int) < (z.2.length : Int) := by omega
            have hjn : z.2.length - j = 0 := by omega
            rw [hjn] at hrec
            have HREC2 := hid hrec
            clear hrec hjn hm hs hfr hl2 hP2
            go_wp2
            go_roundw
            case rel => exact ⟨i + 1, M2, by go_num, by omega, HM2.out, HS2.out, HFJ.out, by have := HREC2.out; unfold cdJ at this; rw [this]; exact HREC.out⟩
            case measure => exact HMI.out
      · have s1 : ¬ (i : Int) < (q.length : Int) := by omega
        rw [List.drop_eq_nil_of_le (by omega)] at hrec
        have HREC := hid hrec
        clear hrec hfr
        go_wp2_with (first
          | (go_at_call 66; refine (CH.out _ _ _ _ _ HM1.out HS1.out).mono ?_; rintro e w3 ⟨rfl, hm3, hu3⟩; have HM3 := hid hm3; have HU3 := hid hu3; clear hm3 hu3))
        go_ret
        refine ⟨_, gs, rfl, ?_, ?_⟩
        · rw [← HV.out, ← HREC.out]; exact HM3.out
        · have hz := HF1.out
          exact hz.trans' HU3.out (fun k hlt2 hk => by
            obtain ⟨j, hj, rfl⟩ := List.getElem_of_mem hk
            have := (HM1.out.blk j _ (List.getElem?_eq_getElem hj)).1
            omega)
end Go.Proofs.YtcpgklcimacngaaGreat
namespace Go.Proofs.YtcpgklcimacngaaGreat
open Go.RowKit
set_option linter.unusedVariables false
set_option linter.unusedSimpArgs false

theorem sl_of {w : World} {base : Nat} {v : Value} {l : List Value} {e : TypeId} (h : w.ownsRow base e 1 v l.length l) : SlAt w v l := by
  rcases h.2 with ⟨rfl, h0⟩ | ⟨g, cap, cur, rfl, _, _, hc, _⟩
  · exact ⟨none, 0, by rw [h0], by omega, fun j hj => by omega⟩
  · refine ⟨_, _, rfl, hc, fun j hj => ⟨g, 0, rfl, ?_⟩⟩
    have := h.cells (g := g) rfl j l[j] (by simp [hj])
    rwa [Addr.add_mid] at this
/-- the reference's specification, as numbers in memory -/
theorem spec_n {w : World} {b : Nat} {X : SP} {ps : List Pr} {R H : Nat} (h : SpecX w b X) (t : SpecTab X ps R H) : SpecN w b R H (codesOf R ps) := by
  obtain ⟨v0, v1, v2, v3, v4, sv, hS, hl⟩ := h
  have hA := hS.sp
  have hcl : (codesOf R ps).length = ps.length := by simp [codesOf]
  have k0 := SPAt.cell hA 0
  have k1 := SPAt.cell hA 1
  have k2 := SPAt.cell hA 2
  have k3 := SPAt.cell hA 3
  have k4 := SPAt.cell hA 4
  simp at k0 k1 k2 k3 k4
  obtain ⟨a0, c0, e0⟩ := own_form (hA.own 0 _ rfl)
  obtain ⟨a1, c1, e1⟩ := own_form (hA.own 1 _ rfl)
  obtain ⟨a2, c2, e2⟩ := own_form (hA.own 2 _ rfl)
  dsimp only at e0 e1 e2
  rw [t.rules] at e0
  rw [t.prods, ← hcl] at e1
  rw [t.heads] at e2
  subst e0 e1 e2
  have hm : (codesOf R ps).map Prod.fst = X.head := by rw [t.head]; simp [codesOf]
  refine ⟨a0, c0, a1, c1, a2, c2, v3, v4, sv, k0, k1, k2, k3, k4, ?_, ?_, by rw [hl, t.prods, hcl], ?_⟩
  · rw [hm]
    exact IntOwn.at' (base := b + 1) (hA.own 3 _ rfl)
  · exact sl_of (hA.own 4 _ rfl)
  · intro i v x h1 h2
    have hi : i < ps.length := by
      have := (List.getElem?_eq_some_iff.1 h2).1
      omega
    have hip : i < X.prods.length := by rw [t.prods]; exact hi
    have hx := hS.syms i v _ h1 (List.getElem?_eq_getElem hip)
    have e : symsOf X X.prods[i] = x.2 := by
      have q := congrArg (fun l => l[i]?) t.syms
      rw [List.getElem?_map, List.getElem?_eq_getElem hip, List.getElem?_map, List.getElem?_eq_getElem hi] at q
      simp only [Option.map_some, Option.some.injEq] at q
      have q2 : x = (ps[i].head, ps[i].syms.map (codeS R)) := by
        simp [codesOf, hi] at h2
        exact h2.symm
      rw [q2]; exact q
    have hlen : X.prods[i].ln.syms.length = x.2.length := by rw [← e]; simp [symsOf]
    have hx1 := hx.1
    rw [e, hlen] at hx1
    exact IntOwn.at' (base := b + 1) hx1
/-- the bounds -/
theorem q_ok {s : ByteArray} (hc : checkF s = (0, 0)) (hT : TabOk (tableOf (rLines s).1) (frontsOf (rLines s).1).length (headsOf (rLines s).1).length) (hR : (frontsOf (rLines s).1).length ≤ 8) :
    QOk (frontsOf (rLines s).1).length (headsOf (rLines s).1).length (codesOf (frontsOf (rLines s).1).length (tableOf (rLines s).1)) := by
  obtain ⟨c1, c2, c3, c4, c5⟩ := check_parts hc
  have hpl := (linesInv hc).places
  obtain ⟨n1, n2, n3⟩ := counts_le (fun y hy => (hpl y hy).1) c5
  have hcl : (codesOf (frontsOf (rLines s).1).length (tableOf (rLines s).1)).length = (tableOf (rLines s).1).length := by simp [codesOf]
  refine ⟨hR, n1, by omega, ?_, codes_in hT, fun x hx => ?_⟩
  · rw [hcl]
    unfold tableOf
    rw [List.length_map]
    unfold hasProd at c4
    rw [List.any_eq_true] at c4
    obtain ⟨y, hy, hy2⟩ := c4
    exact List.length_pos_of_mem (List.mem_filter.2 ⟨hy, hy2⟩)
  · unfold codesOf at hx
    rw [List.mem_map] at hx
    obtain ⟨p, hp, rfl⟩ := hx
    refine ⟨by simpa using n3 p hp, fun c hc => ?_⟩
    rw [List.mem_map] at hc
    obtain ⟨y, hy, rfl⟩ := hc
    exact code_nn hT hp hy
end Go.Proofs.YtcpgklcimacngaaGreat
namespace Go.Proofs.YtcpgklcimacngaaGreat
open Go.RowKit
set_option linter.unusedVariables false
set_option linter.unusedSimpArgs false

/-- all that is known of a specification, in memory -/
structure AllAt (w : World) (B ab b R H : Nat) (q : List Q1) (gn : Nat) (vL : Value) (gs : List Nat) : Prop where
  o : w.heap[ab]? = some (.cells #[.pointer (some ⟨b, 0, none⟩), bsl gn H, vL] 113 (0, 0))
  abB : B ≤ ab
  gnB : B ≤ gn
  n : BSet w gn (derF (bs R) false q H)
  m : MatAt w B (R + 1 + H) vL gs (ldF R H (derF (bs R) false q H) q)
theorem MatAt.base {w : World} {B B' n : Nat} {v : Value} {gs : List Nat} {M : Mat} (h : MatAt w B n v gs M) (hb : B' ≤ B) : MatAt w B' n v gs M :=
  ⟨ownsRow_base h.own hb, h.len, fun i g hi => ⟨Nat.le_trans hb (h.blk i g hi).1, (h.blk i g hi).2⟩, h.inj, h.ne⟩
theorem AllAt.fresh {w w' : World} {B ab b R H : Nat} {q : List Q1} {gn : Nat} {vL : Value} {gs : List Nat} (h : AllAt w B ab b R H q gn vL gs) (hf : Fresh w w') : AllAt w' B ab b R H q gn vL gs :=
  ⟨hf.at h.o (fun x => x), h.abB, h.gnB, h.n.fresh hf, h.m.fresh hf⟩
def AllRet (w : World) (b R H : Nat) (q : List Q1) (e : Ending) (w' : World) : Prop := ∃ ab gn vL gs, e = .returned (.pointer (some ⟨ab, 0, none⟩)) ∧ AllAt w' w.heap.size ab b R H q gn vL gs ∧ Fresh w w'
set_option maxRecDepth 20000 in
set_option maxHeartbeats 2000000 in
theorem all_any (w : World) (b R H : Nat) (q : List Q1) (hS : SpecN w b R H q) (hQ : QOk R H q) (hl : (derF (bs R) false q H).length = H) :
    Calls Tryz.prog 21 #[.pointer (some ⟨b, 0, none⟩)] w fun e w' => AllRet w b R H q e w' := by
  have DE := hid (derived_any w b R H q false hS hQ)
  have LE := hid (fun (W : World) (hW : Fresh w W) (gn : Nat) (hn : BSet W gn (derF (bs R) false q H)) => leads_any W b R H gn q _ (hS.fresh hW) hQ hn hl)
  clear hS hQ hl
  go_enter Tryz.func21, Tryz.ntmps21
  go_wp2_with (first
    | (go_at_call 44; refine (DE.out).mono ?_; rintro e w1 ⟨gn, hg, rfl, hB, hf⟩; have HB := hid hB; have HF := hid hf; have HG := hid hg; clear hB hf hg)
    | (go_at_call 45; refine (LE.out _ HF.out gn HB.out).mono ?_; rintro e w2 ⟨vL, gs, rfl, hm, hf2⟩; obtain ⟨ao, cp, hv⟩ := own_form hm.own; subst hv; have HM := hid hm; have HF2 := hid hf2; clear hm hf2))
  go_ret
  refine ⟨_, gn, _, gs, rfl, ⟨heap_alloc_at _ _, ?_, HG.out, ?_, ?_⟩, (HF.out.trans HF2.out).alloc _⟩
  · have h1 := HF.out.size
    have h2 := HF2.out.size
    omega
  · exact (HB.out.fresh HF2.out).fresh ((Mod.refl _ _).alloc _)
  · exact ((HM.out.base HF.out.size).fresh ((Mod.refl _ _).alloc _))
end Go.Proofs.YtcpgklcimacngaaGreat
namespace Go.Proofs.YtcpgklcimacngaaGreat
open Go.RowKit
set_option linter.unusedVariables false
set_option linter.unusedSimpArgs false

end Go.Proofs.YtcpgklcimacngaaGreat
