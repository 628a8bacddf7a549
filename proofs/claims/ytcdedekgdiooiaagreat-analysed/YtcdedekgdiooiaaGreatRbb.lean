import Derived.Test.YtcdedekgdiooiaaGreatRb8
import Derived.Deep.DeepCutAuto
namespace Go.Proofs.YtcdedekgdiooiaaGreat
open Go.RowKit
set_option linter.unusedVariables false
set_option linter.unusedSimpArgs false

set_option maxRecDepth 20000 in
set_option maxHeartbeats 8000000 in
theorem last_any (w : World) (B ab b R H : Nat) (q : List Q1) (gn : Nat) (vL : Value) (gL : List Nat) (hA : AllAt w B ab b R H q gn vL gL) (hS : SpecN w b R H q) (hQ : QOk R H q) (hnl : (derF (bs R) false q H).length = H) :
    Calls Tryz.prog 34 #[.pointer (some ⟨ab, 0, none⟩)] w fun e w' => MxRet w H (laF R H (derF (bs R) false q H) q) e w' := by
  obtain ⟨a0, c0, a1, c1, a2, c2, v3, v4, sv, hN⟩ := hS
  have r8 := hQ.r8
  have h8 := hQ.h8
  have p20 := hQ.p20
  have p0 := cellOf hA.o 0
  have p1 := cellOf hA.o 1
  simp at p0 p1
  have hAn := hA.n
  generalize derF (bs R) false q H = null at hAn hnl ⊢
  have HNU := hid hAn
  have HNL := hid hnl
  clear hA hAn hnl
  have HQ := hid hQ
  have HN := hid hN
  have k1 := hN.k1
  have k2 := hN.k2
  have SQ := hid (square_any w H (by omega))
  have CH := hid (fun (W : World) (B : Nat) (v : Value) (gs : List Nat) (M : Mat) (h1 : MatAt W B H v gs M) (h2 : Sq H M) => chained_any W B H v gs M h1 h2 (by omega))
  have hV : chainF (cdI (laC R null) laX (laY R) q (sqF H)) = laF R H null q := rfl
  generalize laF R H null q = V at hV ⊢
  have HV := hid hV
  clear hN hQ hV
  go_enter Tryz.func34, Tryz.ntmps34
  go_wp2_with (first
    | (go_at_call 31; refine (SQ.out).mono ?_; rintro e w3 ⟨v, gs, rfl, hm, hfx⟩; obtain ⟨ao, cp, hv⟩ := own_form hm.own; subst hv; have HM := hid hm; have HF := hid hfx; clear hm hfx))
  generalize hL0 : cdI (laC R null) laX (laY R) q (sqF H) = L0 at HV
  have HL0 := hid hL0
  clear hL0 SQ
  go_loopw [5, 6, 7, 8] (fun x5 _ _ _ wr => ∃ (i : Nat) (M : Mat), x5 = .int .i64 i ∧ i ≤ q.length ∧ MatAt wr w.heap.size H (.slice ao gs.length cp) gs M ∧ Sq H M ∧ Fresh w wr ∧ cdI (laC R null) laX (laY R) (q.drop i) M = L0)
      (fun x _ _ _ _ => 1001 - (intOf x).toNat)
  case atStart => exact ⟨0, _, rfl, by omega, HM.out, sqF_sq H, HF.out, HL0.out⟩
  case round =>
    obtain ⟨i, M, rfl, hi, hm, hs, hfr, hrec⟩ := hrel
    have HMI := hid (meas (B := 1001) i (by omega))
    have HM1 := hid hm
    have HS1 := hid hs
    have HF1 := hid hfr
    have kk1 := fcell' hfr k1
    clear HM HF HL0 hs
    by_cases hlt : i < q.length
    · have s1 : (i : Int) < (q.length : Int) := by omega
      rw [cdI_s _ _ _ _ _ _ hlt] at hrec
      generalize hF2 : cdJ (laC R null q[i]) (laX q[i]) (laY R q[i]) q[i].2.length 0 M = F2 at hrec
      have HREC := hid hrec
      have hhd := HQ.out.hd q[i] (List.getElem_mem hlt)
      have hsy := HQ.out.sy q[i] (List.getElem_mem hlt)
      obtain ⟨g3, o3, c3, g4, o4, n4, c4, al, cl, hP⟩ := HN.out.pr hlt
      generalize q[i] = z at hF2 hhd hsy hP
      have HF2 := hid hF2
      have HP := hid hP
      have hl6 := hsy.1
      have s4 : (i : Int) < (n4 : Int) := by have := hP.n4; omega
      have HSY := hid hsy.2
      have q4 := (hP.fresh hfr).q4
      have y4 := (hP.fresh hfr).y4
      obtain ⟨hdn, hhn⟩ : ∃ a : Nat, z.1 = a := ⟨z.1.toNat, by omega⟩
      have hdH : hdn < H := by omega
      have HHN := hid hhn
      clear hrec hF2 hP hsy hhd hfr hhn hm
      go_wp2
      go_loopw [6, 7, 8] (fun x6 _ _ wr => ∃ (j : Nat) (M : Mat), x6 = .int .i64 j ∧ j ≤ z.2.length ∧ MatAt wr w.heap.size H (.slice ao gs.length cp) gs M ∧ Sq H M ∧ Fresh w wr ∧ cdJ (laC R null z) (laX z) (laY R z) (z.2.length - j) j M = F2)
          (fun x _ _ _ => 1001 - (intOf x).toNat)
      case atStart => exact ⟨0, M, rfl, by omega, HM1.out, HS1.out, HF1.out, HF2.out⟩
      case round =>
        obtain ⟨j, M2, rfl, hj, hm, hs, hfr, hrec⟩ := hrel
        have HMJ := hid (meas (B := 1001) j (by omega))
        have HM2 := hid hm
        have HS2 := hid hs
        have HFJ := hid hfr
        have hP2 := HP.out.fresh hfr
        have hl2 := hP2.l
        clear HM1 HS1 HF1 HF2 q4 y4
        have q4 := hP2.q4
        have y4 := hP2.y4
        by_cases hlt2 : j < z.2.length
        · have s2 : (j : Int) < (z.2.length : Int) := by omega
          rw [cdJ_s _ _ _ _ _ _ hlt2] at hrec
          have BQ := hid (fun n => base_any (wr.drewN n) b R a0 c0 (fcell' (hfr.trans (fdrewR wr n)) HN.out.k0) (by omega))
          have hl3 := hl2
          obtain ⟨ao5, cp5, e5, hc5, cell5⟩ := hl2
          rw [Value.slice.injEq] at e5
          obtain ⟨rfl, _, rfl⟩ := e5
          obtain ⟨gl, ol, rfl, y5⟩ := cell5 j hlt2
          have hcb := HSY.out z.2[j] (List.getElem_mem hlt2)
          have hgd : z.2.getD j 0 = z.2[j] := by rw [List.getD_eq_getElem?_getD, List.getElem?_eq_getElem hlt2]; rfl
          have hlx : laX z = hdn := by unfold laX; rw [HHN.out]; simp
          have hly : laY R z j = (z.2[j] - bs R).toNat := by unfold laY; rw [hgd]
          have hcx : laC R null z j = (decide (0 ≤ z.2[j] - bs R) && nothF (bs R) null (z.2.drop (j + 1))) := by unfold laC; rw [hgd]
          rw [hcx, hlx, hly] at hrec
          have NQ := hid (fun (n : Nat) (v : Value) (hv : IntAt wr v (z.2.drop (j + 1))) => nothing_any (wr.drewN n) b R H gn a0 c0 v (z.2.drop (j + 1)) null (fcell' (hfr.trans (fdrewR wr n)) HN.out.k0) (by omega) (by omega) (hv.fresh (fdrewR wr n)) (by rw [List.length_drop]; omega) (HNU.out.fresh (hfr.trans (fdrewR wr n))) HNL.out (fun c hc => HSY.out c (List.mem_of_mem_drop hc)))
          have u1 := fcell' hfr p1
          generalize z.2[j] = c at hrec hcb y5
          generalize nothF (bs R) null (z.2.drop (j + 1)) = nb at hrec NQ
          have s8 : (j : Int) + 1 ≤ (z.2.length : Int) := by omega
          have s9 : (j : Int) + 1 ≤ (cl : Int) := by omega
          have NONE : Hid (cl = j + 1 → ∀ (ao : Option Addr) (n c : Nat), n = 0 → IntAt wr (.slice ao n c) (z.2.drop (j + 1))) := hid (fun h ao n c hn => IntAt.none (List.drop_eq_nil_of_le (by omega)) hn)
          have SOME : Hid (IntAt wr (.slice (some ⟨gl, ol + (j + 1), none⟩) (z.2.length - (j + 1)) (cl - (j + 1))) (z.2.drop (j + 1))) := hid (IntAt.drop hl3 (j + 1) (by omega))
          by_cases hneg : 0 ≤ c - bs R
          · obtain ⟨yn, hyn⟩ : ∃ a : Nat, c - bs R = a := ⟨(c - bs R).toNat, by omega⟩
            rw [decide_eq_true hneg, Bool.true_and, hyn, Int.toNat_natCast] at hrec
            have hyl : yn < H := by unfold bs at hyn; omega
            have t0 : (0 : Int) ≤ (yn : Int) := by omega
            have t2 : (yn : Int) < (H : Int) := by omega
            have wr1 : IntKind.i64.wrap (c - bs R) = (yn : Int) := by rw [IntKind.wrap_i64]; unfold bs at hyn ⊢; omega
            have hgl : gs.length = H := by rw [hm.len, hs.len]
            have t1 : (hdn : Int) < (gs.length : Int) := by omega
            obtain ⟨gx, hgx⟩ : ∃ g, gs[hdn]? = some g := ⟨_, List.getElem?_eq_getElem (by omega)⟩
            obtain ⟨gv, cv, hv⟩ := Joins.ownsRow_form hm.own (by omega)
            rw [Value.slice.injEq] at hv
            obtain ⟨rfl, _, rfl⟩ := hv
            have HGX := hid hgx
            have HREC2 : Hid (cdJ (laC R null z) (laX z) (laY R z) (z.2.length - (j + 1)) (j + 1) (if nb = true then setM M2 hdn yn true else M2) = F2) := hid (by rw [hlx]; exact hrec)
            clear hrec hcb hneg hyn hgl hcx hlx hly hgd hs hm hgx cell5 hfr hl3
            go_wp2
            go_quiet (first | (go_at_call 18; refine Calls.quiet_of_same (BQ.out _)))
            have hf0 := fdrewR wr nq
            have q4b := fcell' hf0 q4
            have y4b := fcell' hf0 y4
            have u1b := fcell' hf0 u1
            obtain ⟨W0, hW0⟩ : ∃ W0, W0 = wr.drewN nq := ⟨_, rfl⟩
            have NR := hid (fun (n : Nat) (v : Value) (hv : IntAt wr v (z.2.drop (j + 1))) => NQ.out (nq + n) v hv)
            simp only [← World.drewN_drewN] at NR
            rw [← hW0] at hf0 q4b y4b u1b NR ⊢
            have HF0 := hid hf0
            clear hW0 hf0 q4 y4 u1 NQ
            go_upto_region 10 with fail
            go_cut [8] (fun s8 wx => s8 = .bool nb ∧ Fresh W0 wx)
            case first =>
              clear hP2
              rcases (show cl = j + 1 ∨ ¬ cl = j + 1 by omega) with hc1 | hc1
              · have HC1 := hid hc1
                subst hc1
                go_quiet (first | (go_at_call 33; refine Calls.quiet_of (NR.out _ _ (NONE.out HC1.out _ _ _ (by first | rfl | omega)))))
                go_wp2_with fail
                go_meet
                exact ⟨rfl, fdrewR W0 nq⟩
              · have hc2 : ¬ cl - (j + 1) = 0 := by omega
                go_quiet (first | (go_at_call 33; refine Calls.quiet_of (NR.out _ _ SOME.out)))
                go_wp2_with fail
                go_meet
                exact ⟨rfl, fdrewR W0 nq⟩
            case rest =>
              obtain ⟨rfl, hf2⟩ := hcut
              have hf := HF0.out.trans hf2
              cases nb
              · have HFQ := hid hf
                clear hf hf2 hP2
                go_wp2
                go_roundw
                case rel => exact ⟨j + 1, M2, by go_num, by omega, HM2.out.fresh HFQ.out, HS2.out, HFJ.out.trans HFQ.out, by have := HREC2.out; rw [if_neg (by simp)] at this; exact this⟩
                case measure => exact HMJ.out
              · have hMW := HM2.out.fresh hf
                have p3 := (hP2.fresh hf).q3
                have e3 := (hP2.fresh hf).y3
                rw [HHN.out] at e3
                have r1 := hMW.row HGX.out
                have d1 := hMW.cell HS2.out HGX.out hyl
                have d2 := (hMW.blk hdn gx HGX.out).2.frozen yn
                have HPP : Hid (MatAt (wc.setCell ⟨gx, yn, none⟩ (.bool true)) w.heap.size H (.slice (some ⟨gv, 0, none⟩) gs.length cp) gs (setM M2 hdn yn true) ∧ Sq H (setM M2 hdn yn true) ∧ Fresh w (wc.setCell ⟨gx, yn, none⟩ (.bool true))) := hid ⟨hMW.put HGX.out yn true, setM_sq HS2.out hdH true, (HFJ.out.trans hf).setCell (fun hlt => by have := (hMW.blk hdn gx HGX.out).1; exact absurd hlt (by show ¬ gx < w.heap.size; omega)) _⟩
                clear hMW hf hf2 hP2 y5
                go_wp2
                go_roundw
                case rel => exact ⟨j + 1, _, by go_num, by omega, HPP.out.1, HPP.out.2.1, HPP.out.2.2, by have := HREC2.out; rw [if_pos rfl] at this; exact this⟩
                case measure => exact HMJ.out
          · have HREC2 : Hid (cdJ (laC R null z) (laX z) (laY R z) (z.2.length - (j + 1)) (j + 1) M2 = F2) := hid (by rw [decide_eq_false hneg, Bool.false_and, if_neg (by simp)] at hrec; rw [hlx]; exact hrec)
            have t0 : ¬ 0 ≤ c - bs R := hneg
            have wr1 : IntKind.i64.wrap (c - bs R) = c - bs R := by rw [IntKind.wrap_i64]; unfold bs; omega
            clear hrec hcb hcx hlx hly hgd hs hm cell5 hfr hP2 hl3
            go_wp2
            go_quiet (first | (go_at_call 18; refine Calls.quiet_of_same (BQ.out _)))
            have hf0 := fdrewR wr nq
            have q4b := fcell' hf0 q4
            have y4b := fcell' hf0 y4
            have u1b := fcell' hf0 u1
            obtain ⟨W0, hW0⟩ : ∃ W0, W0 = wr.drewN nq := ⟨_, rfl⟩
            have NR := hid (fun (n : Nat) (v : Value) (hv : IntAt wr v (z.2.drop (j + 1))) => NQ.out (nq + n) v hv)
            simp only [← World.drewN_drewN] at NR
            rw [← hW0] at hf0 q4b y4b u1b NR ⊢
            have HF0 := hid hf0
            clear hW0 hf0 q4 y4 u1 NQ
            go_upto_region 10 with fail
            go_cut [8] (fun s8 wx => s8 = .bool nb ∧ Fresh W0 wx)
            case first =>
              rcases (show cl = j + 1 ∨ ¬ cl = j + 1 by omega) with hc1 | hc1
              · have HC1 := hid hc1
                subst hc1
                go_quiet (first | (go_at_call 33; refine Calls.quiet_of (NR.out _ _ (NONE.out HC1.out _ _ _ (by first | rfl | omega)))))
                go_wp2_with fail
                go_meet
                exact ⟨rfl, fdrewR W0 nq⟩
              · have hc2 : ¬ cl - (j + 1) = 0 := by omega
                go_quiet (first | (go_at_call 33; refine Calls.quiet_of (NR.out _ _ SOME.out)))
                go_wp2_with fail
                go_meet
                exact ⟨rfl, fdrewR W0 nq⟩
            case rest =>
              obtain ⟨rfl, hf2⟩ := hcut
              have HFQ := hid (HF0.out.trans hf2)
              clear hf2
              go_wp2
              go_roundw
              case rel => exact ⟨j + 1, M2, by go_num, by omega, HM2.out.fresh HFQ.out, HS2.out, HFJ.out.trans HFQ.out, HREC2.out⟩
              case measure => exact HMJ.out
        · have s2 : ¬ (j : Int) < (z.2.length : Int) := by omega
          have hjn : z.2.length - j = 0 := by omega
          rw [hjn] at hrec
          have HREC2 := hid hrec
          clear hrec hjn hm hs hfr hl2 hP2
          go_wp2
          go_roundw
          case rel => exact ⟨i + 1, M2, by go_num, by omega, HM2.out, HS2.out, HFJ.out, by have := HREC2.out; unfold cdJ at this; rw [this]; exact HREC.out⟩
          case measure => exact HMI.out
    · have s1 : ¬ (i : Int) < (q.length : Int) := by omega
      rw [List.drop_eq_nil_of_le (by omega)] at hrec
      have HREC := hid hrec
      clear hrec hfr hm
      go_wp2_with (first
        | (go_at_call 32; refine (CH.out _ _ _ _ _ HM1.out HS1.out).mono ?_; rintro e w3 ⟨rfl, hm3, hu3⟩; have HM3 := hid hm3; have HU3 := hid hu3; clear hm3 hu3))
      go_ret
      refine ⟨_, gs, rfl, ?_, ?_⟩
      · rw [← HV.out, ← HREC.out]; exact HM3.out
      · exact HF1.out.trans' HU3.out (fun k hlt2 hk => by
          obtain ⟨j, hj, rfl⟩ := List.getElem_of_mem hk
          have := (HM1.out.blk j _ (List.getElem?_eq_getElem hj)).1
          omega)
end Go.Proofs.YtcdedekgdiooiaaGreat
namespace Go.Proofs.YtcdedekgdiooiaaGreat
open Go.RowKit
set_option linter.unusedVariables false
set_option linter.unusedSimpArgs false

theorem orJ_s (n : Nat) (c : Nat → Bool) (g : Nat → List Bool) (m j : Nat) (out : List Bool) (h : j < m) : orJ n c g (m - j) j out = orJ n c g (m - (j + 1)) (j + 1) (if c j = true then orI out (g j) n n else out) := by
  rw [show m - j = (m - (j + 1)) + 1 by omega]; rfl
theorem orQ_s (n : Nat) (c : Q1 → Nat → Bool) (g : Q1 → Nat → List Bool) (q : List Q1) (i : Nat) (out : List Bool) (h : i < q.length) : orQ n c g (q.drop i) out = orQ n c g (q.drop (i + 1)) (orJ n (c q[i]) (g q[i]) q[i].2.length 0 out) := by
  rw [List.drop_eq_getElem_cons h]; rfl
theorem fiI_len (base : Int) (null : List Bool) (L : Mat) (R : Nat) (l : List Int) : ∀ (f i : Nat) (out : List Bool), (fiI base null L R l f i out).length = out.length
  | 0, _, _ => rfl
  | f + 1, i, out => by
    unfold fiI
    rw [fiI_len base null L R l f]
    split
    · rw [fiT_len]
    · rfl
theorem fiF_len (R H : Nat) (null : List Bool) (q : List Q1) (l : List Int) : (fiF R H null q l).length = R + 1 := by
  unfold fiF firF; rw [fiI_len]; simp
theorem nxF_len (R H : Nat) (null : List Bool) (q : List Q1) (h : Int) : (nxF R H null q h).length = R + 1 := by
  unfold nxF; exact (orQ_at q _ (by simp)).1
set_option maxRecDepth 20000 in
set_option maxHeartbeats 8000000 in
theorem next_any (w : World) (B ab b R H : Nat) (q : List Q1) (gn : Nat) (vL : Value) (gL : List Nat) (head : Nat) (hA : AllAt w B ab b R H q gn vL gL) (hS : SpecN w b R H q) (hQ : QOk R H q) (hnl : (derF (bs R) false q H).length = H) (hsq : Sq (R + 1 + H) (ldF R H (derF (bs R) false q H) q)) (hhd : head ≤ 1000) :
    Calls Tryz.prog 35 #[.pointer (some ⟨ab, 0, none⟩), .int .i64 head] w fun e w' => RowRet w (R + 1) (nxF R H (derF (bs R) false q H) q head) e w' := by
  have FI := hid (fun (W : World) (v : Value) (l : List Int) (hW : Fresh w W) (hv : IntAt W v l) (hl : l.length ≤ 6) (hc : ∀ c ∈ l, 0 ≤ c ∧ c < (R : Int) + 1 + H) => first_any W B ab b R H q gn vL gL v l (hA.fresh hW) (hS.fresh hW) hQ hnl hsq hv hl hc)
  obtain ⟨a0, c0, a1, c1, a2, c2, v3, v4, sv, hN⟩ := hS
  have r8 := hQ.r8
  have h8 := hQ.h8
  have p20 := hQ.p20
  have p0 := cellOf hA.o 0
  simp at p0
  generalize derF (bs R) false q H = null at FI ⊢
  have FL := hid (fun l => fiF_len R H null q l)
  clear hA hnl hsq
  have HQ := hid hQ
  have HN := hid hN
  have k0 := hN.k0
  have k1 := hN.k1
  have hR1 : bs R = ((R + 1 : Nat) : Int) := by unfold bs; omega
  have BA := hid (base_any w b R a0 c0 k0 (by omega))
  rw [hR1] at BA
  have wr2 : IntKind.i64.wrap (bs R + (head : Int)) = bs R + head := by rw [IntKind.wrap_i64]; unfold bs; omega
  have mk := fun w => run_make_row' (P := Tryz.prog) 50 4 (.bool false) 1 Tryz.underlying50 (by kernel_rfl) rfl .i64 .i64 (R + 1) (by omega) (by omega) w
  have UN := hid (fun (W : World) (ga gb : Nat) (xs ys : List Bool) (ha : BSet W ga xs) (hb : BSet W gb ys) (la : xs.length = R + 1) (lb : ys.length = R + 1) => zunion_any W ga gb (R + 1) xs ys ha hb la lb (by omega))
  generalize hhz : ((head : Int) == 0) = hz
  have hV : orQ (R + 1) (nxC R head) (nxG R H null q) q ((List.replicate (R + 1) false).set R hz) = nxF R H null q head := by unfold nxF; rw [hhz]
  generalize nxF R H null q head = V at hV ⊢
  have HV := hid hV
  have HRR := hid (show R < R + 1 by omega)
  have hR9 : R + 1 ≤ 9 := by omega
  have OI := hid (fun xs ys => orI_len xs ys (R + 1) (R + 1))
  generalize hq1 : R + 1 = R1 at HV BA mk hR9 HRR UN FI FL OI ⊢
  have hRR : R < R1 := HRR.out
  have e1 : (R : Int) < (R1 : Int) := by omega
  clear hN hQ hV hq1 hR1
  go_enter Tryz.func35, Tryz.ntmps35
  go_upto_region 3 with (first
    | (go_at_call 18; refine (BA.out).mono ?_; rintro e w' ⟨rfl, hw⟩; rw [hw]; clear hw))
  have hf1 : Fresh w (w.alloc (.cells (madeCells #[.bool false] R1) 4)) := (Mod.refl _ w).alloc _
  have hB1 : BSet (w.alloc (.cells (madeCells #[.bool false] R1) 4)) w.heap.size (List.replicate R1 false) := by rw [made_bools]; exact heap_alloc_at _ _
  generalize w.alloc (.cells (madeCells #[.bool false] R1) 4) = W1 at hf1 hB1 ⊢
  have kk0 := fcell' hf1 k0
  have c9 := hB1.cell (j := R) (by simp; omega)
  have c8 := hB1.frozen R
  have HPS := hid (fun (c : Bool) => (⟨hB1.put R c, hf1.setCell (fun h => absurd h (by simp)) _⟩ : BSet (W1.setCell ⟨w.heap.size, R, none⟩ (.bool c)) w.heap.size ((List.replicate R1 false).set R c) ∧ Fresh w (W1.setCell ⟨w.heap.size, R, none⟩ (.bool c))))
  clear hf1 hB1 mk k0
  go_cut [] (fun wx => BSet wx w.heap.size ((List.replicate R1 false).set R hz) ∧ Fresh w wx)
  case first =>
    cases hz
    all_goals
      go_wp2_with fail
      go_meet
      exact HPS.out _
  case rest =>
    obtain ⟨hBx, hfx⟩ := hcut
    have HB0 := hid hBx
    have HF0 := hid hfx
    clear hBx hfx HPS c9 c8 kk0 hhz
    generalize hO0 : (List.replicate R1 false).set R hz = O0 at HV HB0
    have HOL0 := hid (show O0.length = R1 by rw [← hO0]; simp)
    clear hO0
    go_wp2
    go_loopw [6, 7, 8, 9] (fun x6 x7 _ _ wr => ∃ (i go : Nat) (o : List Bool), x7 = .int .i64 i ∧ i ≤ q.length ∧ x6 = bsl go R1 ∧ w.heap.size ≤ go ∧ BSet wr go o ∧ o.length = R1 ∧ Fresh w wr ∧ orQ R1 (nxC R head) (nxG R H null q) (q.drop i) o = V)
        (fun _ x _ _ _ => 1001 - (intOf x).toNat)
    case atStart => exact ⟨0, w.heap.size, O0, rfl, by omega, rfl, Nat.le_refl _, HB0.out, HOL0.out, HF0.out, HV.out⟩
    case round =>
      obtain ⟨i, go, o, rfl, hi, rfl, hgo, hB, hol, hfr, hrec⟩ := hrel
      have HMI := hid (meas (B := 1001) i (by omega))
      have HB1 := hid hB
      have HO1 := hid hol
      have HF1 := hid hfr
      have kk1 := fcell' hfr k1
      have hgo1 := hid hgo
      clear HB0 HF0 HV HOL0 hB hol hgo
      by_cases hlt : i < q.length
      · have s1 : (i : Int) < (q.length : Int) := by omega
        rw [orQ_s _ _ _ _ _ _ hlt] at hrec
        generalize hF2 : orJ R1 (nxC R head q[i]) (nxG R H null q q[i]) q[i].2.length 0 o = F2 at hrec
        have HREC := hid hrec
        have hsy := HQ.out.sy q[i] (List.getElem_mem hlt)
        obtain ⟨g3, o3, c3, g4, o4, n4, c4, al, cl, hP⟩ := HN.out.pr hlt
        generalize q[i] = z at hF2 hsy hP
        have HF2 := hid hF2
        have HP := hid hP
        have hl6 := hsy.1
        have s4 : (i : Int) < (n4 : Int) := by have := hP.n4; omega
        have HSY := hid hsy.2
        have q4 := (hP.fresh hfr).q4
        have y4 := (hP.fresh hfr).y4
        clear hrec hF2 hP hsy hfr
        go_wp2
        go_loopw [6, 8, 9] (fun x6 x8 _ wr => ∃ (j go : Nat) (o : List Bool), x8 = .int .i64 j ∧ j ≤ z.2.length ∧ x6 = bsl go R1 ∧ w.heap.size ≤ go ∧ BSet wr go o ∧ o.length = R1 ∧ Fresh w wr ∧ orJ R1 (nxC R head z) (nxG R H null q z) (z.2.length - j) j o = F2)
            (fun _ x _ _ => 1001 - (intOf x).toNat)
        case atStart => exact ⟨0, go, o, rfl, by omega, rfl, hgo1.out, HB1.out, HO1.out, HF1.out, HF2.out⟩
        case round =>
          clear HB1 HO1 HF1 HF2 q4 y4 hgo1
          obtain ⟨j, go2, o2, rfl, hj, rfl, hgo, hB, hol, hfr, hrec⟩ := hrel
          have HMJ := hid (meas (B := 1001) j (by omega))
          have HB2 := hid hB
          have HO2 := hid hol
          have HFJ := hid hfr
          have HGO := hid hgo
          have hP2 := HP.out.fresh hfr
          have hl2 := hP2.l
          have q4 := hP2.q4
          have y4 := hP2.y4
          clear hB hol hgo
          by_cases hlt2 : j < z.2.length
          · have s2 : (j : Int) < (z.2.length : Int) := by omega
            rw [orJ_s _ _ _ _ _ _ hlt2] at hrec
            have BQ := hid (fun n => base_any (wr.drewN n) b R a0 c0 (fcell' (hfr.trans (fdrewR wr n)) HN.out.k0) (by omega))
            have hl3 := hl2
            obtain ⟨ao5, cp5, e5, hc5, cell5⟩ := hl2
            rw [Value.slice.injEq] at e5
            obtain ⟨rfl, _, rfl⟩ := e5
            obtain ⟨gl, ol, rfl, y5⟩ := cell5 j hlt2
            have hgd : z.2.getD j 0 = z.2[j] := by rw [List.getD_eq_getElem?_getD, List.getElem?_eq_getElem hlt2]; rfl
            have hcx : nxC R head z j = (z.2[j] == bs R + (head : Int)) := by unfold nxC; rw [hgd]
            rw [hcx] at hrec
            generalize z.2[j] = c at hrec y5
            generalize hqe : (c == bs R + (head : Int)) = qe at hrec
            have s8 : (j : Int) + 1 ≤ (z.2.length : Int) := by omega
            have s9 : (j : Int) + 1 ≤ (cl : Int) := by omega
            have NONE : Hid (cl = j + 1 → ∀ (ao : Option Addr) (n c : Nat), n = 0 → IntAt wr (.slice ao n c) (z.2.drop (j + 1))) := hid (fun h ao n c hn => IntAt.none (List.drop_eq_nil_of_le (by omega)) hn)
            have SOME : Hid (IntAt wr (.slice (some ⟨gl, ol + (j + 1), none⟩) (z.2.length - (j + 1)) (cl - (j + 1))) (z.2.drop (j + 1))) := hid (IntAt.drop hl3 (j + 1) (by omega))
            have FQ := hid (fun (W : World) (v : Value) (hW : Fresh wr W) (hv : IntAt wr v (z.2.drop (j + 1))) => FI.out W v (z.2.drop (j + 1)) (hfr.trans hW) (hv.fresh hW) (by rw [List.length_drop]; omega) (fun c hc => HSY.out c (List.mem_of_mem_drop hc)))
            have FQL := hid (FL.out (z.2.drop (j + 1)))
            have HX : Hid (nxG R H null q z j = fiF R H null q (z.2.drop (j + 1))) := hid rfl
            rw [HX.out] at hrec
            generalize fiF R H null q (z.2.drop (j + 1)) = fv at FQ FQL hrec
            clear hcx hgd cell5 hfr hP2 hl3 HX
            cases qe
            · rw [if_neg (by simp)] at hrec
              have HREC2 := hid hrec
              clear hrec
              go_wp2
              go_quiet (first | (go_at_call 18; refine Calls.quiet_of_same (BQ.out _)))
              have hf := fdrewR wr nq
              have HFQ := hid hf
              generalize wr.drewN nq = W2 at HFQ ⊢
              clear hf
              go_wp2
              go_roundw
              case rel => exact ⟨j + 1, go2, o2, by go_num, by omega, rfl, HGO.out, HB2.out.fresh HFQ.out, HO2.out, HFJ.out.trans HFQ.out, HREC2.out⟩
              case measure => exact HMJ.out
            · rw [if_pos rfl] at hrec
              have HREC2 := hid hrec
              clear hrec
              go_wp2
              go_quiet (first | (go_at_call 18; refine Calls.quiet_of_same (BQ.out _)))
              have hf := fdrewR wr nq
              have q4b := fcell' hf q4
              have y4b := fcell' hf y4
              have HFQ := hid hf
              generalize wr.drewN nq = W2 at HFQ q4b y4b ⊢
              clear hf q4 y4 y5
              rcases (show cl = j + 1 ∨ ¬ cl = j + 1 by omega) with hc1 | hc1
              · have HC1 := hid hc1
                subst hc1
                go_wp2_with (first
                  | (go_at_call 36; refine (UN.out _ _ _ _ _ ((HB2.out.fresh HFQ.out).fresh HF3.out) HB3.out HO2.out FQL.out).mono ?_; rintro e w4 ⟨rfl, hf4, hB4⟩; have HF4 := hid hf4; have HB4 := hid hB4; clear hf4 hB4)
                  | (go_at_call 17; refine (FQ.out _ _ HFQ.out (NONE.out HC1.out _ _ _ (by first | rfl | omega))).mono ?_; rintro e w3 ⟨g9, rfl, hg9, hB3, hf3⟩; have HF3 := hid hf3; have HB3 := hid hB3; have HG9 := hid hg9; clear hf3 hB3 hg9))
                go_roundw
                case rel => exact ⟨j + 1, w3.heap.size, _, by go_num, by omega, rfl, by have h1 := HFJ.out.size; have h2 := HFQ.out.size; have h3 := HF3.out.size; omega, HB4.out, OI.out _ _, ((HFJ.out.trans HFQ.out).trans HF3.out).trans HF4.out, HREC2.out⟩
                case measure => exact HMJ.out
              · have hc2 : ¬ cl - (j + 1) = 0 := by omega
                go_wp2_with (first
                  | (go_at_call 36; refine (UN.out _ _ _ _ _ ((HB2.out.fresh HFQ.out).fresh HF3.out) HB3.out HO2.out FQL.out).mono ?_; rintro e w4 ⟨rfl, hf4, hB4⟩; have HF4 := hid hf4; have HB4 := hid hB4; clear hf4 hB4)
                  | (go_at_call 17; refine (FQ.out _ _ HFQ.out SOME.out).mono ?_; rintro e w3 ⟨g9, rfl, hg9, hB3, hf3⟩; have HF3 := hid hf3; have HB3 := hid hB3; have HG9 := hid hg9; clear hf3 hB3 hg9))
                go_roundw
                case rel => exact ⟨j + 1, w3.heap.size, _, by go_num, by omega, rfl, by have h1 := HFJ.out.size; have h2 := HFQ.out.size; have h3 := HF3.out.size; omega, HB4.out, OI.out _ _, ((HFJ.out.trans HFQ.out).trans HF3.out).trans HF4.out, HREC2.out⟩
                case measure => exact HMJ.out
          · have s2 : ¬ (j : Int) < (z.2.length : Int) := by omega
            have hjn : z.2.length - j = 0 := by omega
            rw [hjn] at hrec
            have HREC2 := hid hrec
            clear hrec hjn hfr hl2 hP2
            go_wp2
            go_roundw
            case rel => exact ⟨i + 1, go2, o2, by go_num, by omega, rfl, HGO.out, HB2.out, HO2.out, HFJ.out, by have := HREC2.out; unfold orJ at this; rw [this]; exact HREC.out⟩
            case measure => exact HMI.out
      · have s1 : ¬ (i : Int) < (q.length : Int) := by omega
        rw [List.drop_eq_nil_of_le (by omega)] at hrec
        have HREC := hid hrec
        clear hrec hfr
        go_wp2
        go_ret
        refine ⟨go, rfl, hgo1.out, ?_, HF1.out⟩
        have := HREC.out
        unfold orQ at this
        rw [← this]; exact HB1.out
end Go.Proofs.YtcdedekgdiooiaaGreat
namespace Go.Proofs.YtcdedekgdiooiaaGreat
open Go.RowKit
set_option linter.unusedVariables false
set_option linter.unusedSimpArgs false

theorem foF_len (R H : Nat) (null : List Bool) (q : List Q1) (h : Nat) : (foF R H null q h).length = R + 1 := by
  unfold foF; exact (orJ_at _ _ _ (nxF_len _ _ _ _ _)).1
set_option maxRecDepth 20000 in
set_option maxHeartbeats 8000000 in
theorem follow_any (w : World) (B ab b R H : Nat) (q : List Q1) (gn : Nat) (vL : Value) (gL : List Nat) (head : Nat) (hA : AllAt w B ab b R H q gn vL gL) (hS : SpecN w b R H q) (hQ : QOk R H q) (hnl : (derF (bs R) false q H).length = H) (hsq : Sq (R + 1 + H) (ldF R H (derF (bs R) false q H) q)) (hsl : Sq H (laF R H (derF (bs R) false q H) q)) (hhd : head < H) :
    Calls Tryz.prog 19 #[.pointer (some ⟨ab, 0, none⟩), .int .i64 head] w fun e w' => RowRet w (R + 1) (foF R H (derF (bs R) false q H) q head) e w' := by
  have r8 := hQ.r8
  have h8 := hQ.h8
  have NX := hid (fun (W : World) (h : Nat) (hW : Fresh w W) (hh : h ≤ 1000) => next_any W B ab b R H q gn vL gL h (hA.fresh hW) (hS.fresh hW) hQ hnl hsq hh)
  have LA := hid (last_any w B ab b R H q gn vL gL hA hS hQ hnl)
  obtain ⟨a0, c0, a1, c1, a2, c2, v3, v4, sv, hN⟩ := hS
  have p0 := cellOf hA.o 0
  simp at p0
  have k2 := hN.k2
  have hV : orJ (R + 1) (fun h => atM (laF R H (derF (bs R) false q H) q) h head) (fun h => nxF R H (derF (bs R) false q H) q h) H 0 (nxF R H (derF (bs R) false q H) q head) = foF R H (derF (bs R) false q H) q head := rfl
  have NL := hid (fun h => nxF_len R H (derF (bs R) false q H) q h)
  generalize foF R H (derF (bs R) false q H) q head = V at hV ⊢
  generalize laF R H (derF (bs R) false q H) q = L at LA hsl hV
  generalize derF (bs R) false q H = null at NX NL hV
  clear hA hnl hsq hN hQ
  have UN := hid (fun (W : World) (ga gb : Nat) (xs ys : List Bool) (ha : BSet W ga xs) (hb : BSet W gb ys) (la : xs.length = R + 1) (lb : ys.length = R + 1) => zunion_any W ga gb (R + 1) xs ys ha hb la lb (by omega))
  have OI := hid (fun xs ys => orI_len xs ys (R + 1) (R + 1))
  have HV := hid hV
  have HSL := hid hsl
  generalize hq1 : R + 1 = R1 at HV UN NX NL OI ⊢
  generalize hG : (fun h : Nat => nxF R H null q (h : Int)) = G at HV
  have HG := hid hG
  have e1 : (head : Int) < (H : Int) := by omega
  clear hV hq1 hsl hG r8
  go_enter Tryz.func19, Tryz.ntmps19
  go_wp2_with (first
    | (go_at_call 35; refine (NX.out _ head HF.out (by omega)).mono ?_; rintro e w4 ⟨go, rfl, hgo, hB4, hf4⟩; have HF4 := hid hf4; have HB4 := hid hB4; have HGO := hid hgo; clear hf4 hB4 hgo)
    | (go_at_call 34; refine (LA.out).mono ?_; rintro e w3 ⟨v, gs, rfl, hm, hfx⟩; obtain ⟨ao, cp, hv⟩ := own_form hm.own; subst hv; have HM := hid hm; have HF := hid hfx; clear hm hfx))
  have HM4 := hid (HM.out.fresh HF4.out)
  have HF5 := hid (HF.out.trans HF4.out)
  have HG5 := hid (show w.heap.size ≤ go by have h1 := HF.out.size; have h2 := HGO.out; omega)
  have hgl : gs.length = H := by rw [HM.out.len, HSL.out.len]
  obtain ⟨gv, cv, hv⟩ := Joins.ownsRow_form HM.out.own (by omega)
  rw [Value.slice.injEq] at hv
  obtain ⟨rfl, _, rfl⟩ := hv
  have HGL := hid hgl
  have hgH : H ≤ gs.length := by omega
  clear HM HF HF4 HGO hgl
  go_loopw [6, 7, 8] (fun x6 x7 _ wr => ∃ (i go : Nat) (o : List Bool), x7 = .int .i64 i ∧ i ≤ H ∧ x6 = bsl go R1 ∧ w.heap.size ≤ go ∧ BSet wr go o ∧ o.length = R1 ∧ MatAt wr w.heap.size H (.slice (some ⟨gv, 0, none⟩) gs.length cp) gs L ∧ Fresh w wr ∧ orJ R1 (fun h => atM L h head) G (H - i) i o = V)
      (fun _ x _ _ => 1001 - (intOf x).toNat)
  case atStart => exact ⟨0, go, _, rfl, by omega, rfl, HG5.out, HB4.out, NL.out _, HM4.out, HF5.out, HV.out⟩
  case round =>
    obtain ⟨i, g2, o, rfl, hi, rfl, hgo, hB, hol, hm, hfr, hrec⟩ := hrel
    have HMI := hid (meas (B := 1001) i (by omega))
    have HB := hid hB
    have HO := hid hol
    have HFR := hid hfr
    have HM := hid hm
    have HGG := hid hgo
    have u0 := fcell' hfr p0
    have kk2 := fcell' hfr k2
    clear HB4 HM4 HF5 HG5 HV hB hol hgo
    by_cases hlt : i < H
    · have s1 : (i : Int) < (H : Int) := by omega
      rw [orJ_s _ _ _ _ _ _ hlt] at hrec
      obtain ⟨gc, hgc⟩ : ∃ g, gs[i]? = some g := ⟨_, List.getElem?_eq_getElem (by omega)⟩
      have r1 := hm.row hgc
      have d1 := hm.cell HSL.out hgc hhd
      have s2 : (i : Int) < (gs.length : Int) := by omega
      generalize atM L i head = ab1 at hrec d1
      clear hfr hm hgc
      cases ab1
      · rw [if_neg (by simp)] at hrec
        have HREC := hid hrec
        clear hrec
        go_wp2
        go_roundw
        case rel => exact ⟨i + 1, g2, o, by go_num, by omega, rfl, HGG.out, HB.out, HO.out, HM.out, HFR.out, HREC.out⟩
        case measure => exact HMI.out
      · rw [if_pos rfl] at hrec
        have HREC := hid hrec
        clear hrec
        go_wp2_with (first
          | (go_at_call 36; refine (UN.out _ _ _ _ _ (HB.out.fresh HF3.out) HB3.out HO.out (NL.out _)).mono ?_; rintro e w5 ⟨rfl, hf5, hB5⟩; have HF5 := hid hf5; have HB5 := hid hB5; clear hf5 hB5)
          | (go_at_call 35; refine (NX.out _ i HFR.out (by omega)).mono ?_; rintro e w3 ⟨g9, rfl, hg9, hB3, hf3⟩; have HF3 := hid hf3; have HB3 := hid hB3; clear hf3 hB3 hg9))
        go_roundw
        case rel =>
          refine ⟨i + 1, w3.heap.size, _, by go_num, by omega, rfl, ?_, HB5.out, OI.out _ _, (HM.out.fresh HF3.out).fresh HF5.out, (HFR.out.trans HF3.out).trans HF5.out, ?_⟩
          · have h1 := HFR.out.size; have h2 := HF3.out.size; omega
          · have := HREC.out; rw [← HG.out] at this; rw [← HG.out]; exact this
        case measure => exact HMI.out
    · have s1 : ¬ (i : Int) < (H : Int) := by omega
      rw [show H - i = 0 by omega] at hrec
      have HREC := hid hrec
      clear hrec hfr hm
      go_wp2
      go_ret
      refine ⟨g2, rfl, HGG.out, ?_, HFR.out⟩
      have := HREC.out
      unfold orJ at this
      rw [← this]; exact HB.out
end Go.Proofs.YtcdedekgdiooiaaGreat
