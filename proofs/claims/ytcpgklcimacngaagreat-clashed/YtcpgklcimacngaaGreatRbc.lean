import Derived.Test.YtcpgklcimacngaaGreatRb9
import Derived.BigRegion
import Derived.Test.YtcpgklcimacngaaGreatKc9
namespace Go.Proofs.YtcpgklcimacngaaGreat
open Go.RowKit
set_option linter.unusedVariables false
set_option linter.unusedSimpArgs false

theorem orJ_s (n : Nat) (c : Nat → Bool) (g : Nat → List Bool) (m j : Nat) (out : List Bool) (h : j < m) : orJ n c g (m - j) j out = orJ n c g (m - (j + 1)) (j + 1) (if c j = true then orI out (g j) n n else out) := by
  rw [show m - j = (m - (j + 1)) + 1 by omega]; rfl
theorem orQ_s (n : Nat) (c : Q1 → Nat → Bool) (g : Q1 → Nat → List Bool) (q : List Q1) (i : Nat) (out : List Bool) (h : i < q.length) : orQ n c g (q.drop i) out = orQ n c g (q.drop (i + 1)) (orJ n (c q[i]) (g q[i]) q[i].2.length 0 out) := by
  rw [List.drop_eq_getElem_cons h]; rfl
theorem fiI_len (base : Int) (null : List Bool) (L : Mat) (R : Nat) (l : List Int) : ∀ (f i : Nat) (out : List Bool), (fiI base null L R l f i out).length = out.length
  | 0, _, _ => rfl
  | f + 1, i, out => by
    unfold fiI
    rw [fiI_len base null L R l f]
    split
    · rw [fiT_len]
    · rfl
theorem fiF_len (R H : Nat) (null : List Bool) (q : List Q1) (l : List Int) : (fiF R H null q l).length = R + 1 := by
  unfold fiF firF; rw [fiI_len]; simp
theorem nxF_len (R H : Nat) (null : List Bool) (q : List Q1) (h : Int) : (nxF R H null q h).length = R + 1 := by
  unfold nxF; exact (orQ_at q _ (by simp)).1
set_option maxRecDepth 20000 in
set_option maxHeartbeats 8000000 in
theorem next_any (w : World) (B ab b R H : Nat) (q : List Q1) (gn : Nat) (vL : Value) (gL : List Nat) (head : Nat) (hA : AllAt w B ab b R H q gn vL gL) (hS : SpecN w b R H q) (hQ : QOk R H q) (hnl : (derF (bs R) false q H).length = H) (hsq : Sq (R + 1 + H) (ldF R H (derF (bs R) false q H) q)) (hhd : head ≤ 1000) :
    Calls Tryz.prog 68 #[.pointer (some ⟨ab, 0, none⟩), .int .i64 head] w fun e w' => RowRet w (R + 1) (nxF R H (derF (bs R) false q H) q head) e w' := by
  have FI := hid (fun (W : World) (v : Value) (l : List Int) (hW : Fresh w W) (hv : IntAt W v l) (hl : l.length ≤ 6) (hc : ∀ c ∈ l, 0 ≤ c ∧ c < (R : Int) + 1 + H) => first_any W B ab b R H q gn vL gL v l (hA.fresh hW) (hS.fresh hW) hQ hnl hsq hv hl hc)
  obtain ⟨a0, c0, a1, c1, a2, c2, v3, v4, sv, hN⟩ := hS
  have r8 := hQ.r8
  have h8 := hQ.h8
  have p20 := hQ.p20
  have p0 := cellOf hA.o 0
  simp at p0
  generalize derF (bs R) false q H = null at FI ⊢
  have FL := hid (fun l => fiF_len R H null q l)
  clear hA hnl hsq
  have HQ := hid hQ
  have HN := hid hN
  have k0 := hN.k0
  have k1 := hN.k1
  have hR1 : bs R = ((R + 1 : Nat) : Int) := by unfold bs; omega
  have BA := hid (base_any w b R a0 c0 k0 (by omega))
  rw [hR1] at BA
  have wr2 : IntKind.i64.wrap (bs R + (head : Int)) = bs R + head := by rw [IntKind.wrap_i64]; unfold bs; omega
  have mk := fun w => run_make_row' (P := Tryz.prog) 69 4 (.bool false) 1 Tryz.underlying69 (by kernel_rfl) rfl .i64 .i64 (R + 1) (by omega) (by omega) w
  have UN := hid (fun (W : World) (ga gb : Nat) (xs ys : List Bool) (ha : BSet W ga xs) (hb : BSet W gb ys) (la : xs.length = R + 1) (lb : ys.length = R + 1) => zunion_any W ga gb (R + 1) xs ys ha hb la lb (by omega))
  generalize hhz : ((head : Int) == 0) = hz
  have hV : orQ (R + 1) (nxC R head) (nxG R H null q) q ((List.replicate (R + 1) false).set R hz) = nxF R H null q head := by unfold nxF; rw [hhz]
  generalize nxF R H null q head = V at hV ⊢
  have HV := hid hV
  have HRR := hid (show R < R + 1 by omega)
  have hR9 : R + 1 ≤ 9 := by omega
  have OI := hid (fun xs ys => orI_len xs ys (R + 1) (R + 1))
  generalize hq1 : R + 1 = R1 at HV BA mk hR9 HRR UN FI FL OI ⊢
  have hRR : R < R1 := HRR.out
  have e1 : (R : Int) < (R1 : Int) := by omega
  clear hN hQ hV hq1 hR1
  go_enter Tryz.func68, Tryz.ntmps68
  go_upto_region 3 with (first
    | (go_at_call 23; refine (BA.out).mono ?_; rintro e w' ⟨rfl, hw⟩; rw [hw]; clear hw))
  have hf1 : Fresh w (w.alloc (.cells (madeCells #[.bool false] R1) 4)) := (Mod.refl _ w).alloc _
  have hB1 : BSet (w.alloc (.cells (madeCells #[.bool false] R1) 4)) w.heap.size (List.replicate R1 false) := by rw [made_bools]; exact heap_alloc_at _ _
  generalize w.alloc (.cells (madeCells #[.bool false] R1) 4) = W1 at hf1 hB1 ⊢
  have kk0 := fcell' hf1 k0
  have c9 := hB1.cell (j := R) (by simp; omega)
  have c8 := hB1.frozen R
  have HPS := hid (fun (c : Bool) => (⟨hB1.put R c, hf1.setCell (fun h => absurd h (by simp)) _⟩ : BSet (W1.setCell ⟨w.heap.size, R, none⟩ (.bool c)) w.heap.size ((List.replicate R1 false).set R c) ∧ Fresh w (W1.setCell ⟨w.heap.size, R, none⟩ (.bool c))))
  clear hf1 hB1 mk k0
  go_cut [] (fun wx => BSet wx w.heap.size ((List.replicate R1 false).set R hz) ∧ Fresh w wx)
  case first =>
    cases hz
    all_goals
      go_wp2_with fail
      go_meet
      exact HPS.out _
  case rest =>
    obtain ⟨hBx, hfx⟩ := hcut
    have HB0 := hid hBx
    have HF0 := hid hfx
    clear hBx hfx HPS c9 c8 kk0 hhz
    generalize hO0 : (List.replicate R1 false).set R hz = O0 at HV HB0
    have HOL0 := hid (show O0.length = R1 by rw [← hO0]; simp)
    clear hO0
    go_wp2
    go_loopw [6, 7, 8, 9] (fun x6 x7 _ _ wr => ∃ (i go : Nat) (o : List Bool), x7 = .int .i64 i ∧ i ≤ q.length ∧ x6 = bsl go R1 ∧ w.heap.size ≤ go ∧ BSet wr go o ∧ o.length = R1 ∧ Fresh w wr ∧ orQ R1 (nxC R head) (nxG R H null q) (q.drop i) o = V)
        (fun _ x _ _ _ => 1001 - (intOf x).toNat)
    case atStart => exact ⟨0, w.heap.size, O0, rfl, by omega, rfl, Nat.le_refl _, HB0.out, HOL0.out, HF0.out, HV.out⟩
    case round =>
      obtain ⟨i, go, o, rfl, hi, rfl, hgo, hB, hol, hfr, hrec⟩ := hrel
      have HMI := hid (meas (B := 1001) i (by omega))
      have HB1 := hid hB
      have HO1 := hid hol
      have HF1 := hid hfr
      have kk1 := fcell' hfr k1
      have hgo1 := hid hgo
      clear HB0 HF0 HV HOL0 hB hol hgo
      by_cases hlt : i < q.length
      · have s1 : (i : Int) < (q.length : Int) := by omega
        rw [orQ_s _ _ _ _ _ _ hlt] at hrec
        generalize hF2 : orJ R1 (nxC R head q[i]) (nxG R H null q q[i]) q[i].2.length 0 o = F2 at hrec
        have HREC := hid hrec
        have hsy := HQ.out.sy q[i] (List.getElem_mem hlt)
        obtain ⟨g3, o3, c3, g4, o4, n4, c4, al, cl, hP⟩ := HN.out.pr hlt
        generalize q[i] = z at hF2 hsy hP
        have HF2 := hid hF2
        have HP := hid hP
        have hl6 := hsy.1
        have s4 : (i : Int) < (n4 : Int) := by have := hP.n4; omega
        have HSY := hid hsy.2
        have q4 := (hP.fresh hfr).q4
        have y4 := (hP.fresh hfr).y4
        clear hrec hF2 hP hsy hfr
        go_wp2
        go_loopw [6, 8, 9] (fun x6 x8 _ wr => ∃ (j go : Nat) (o : List Bool), x8 = .int .i64 j ∧ j ≤ z.2.length ∧ x6 = bsl go R1 ∧ w.heap.size ≤ go ∧ BSet wr go o ∧ o.length = R1 ∧ Fresh w wr ∧ orJ R1 (nxC R head z) (nxG R H null q z) (z.2.length - j) j o = F2)
            (fun _ x _ _ => 1001 - (intOf x).toNat)
        case atStart => exact ⟨0, go, o, rfl, by omega, rfl, hgo1.out, HB1.out, HO1.out, HF1.out, HF2.out⟩
        case round =>
          clear HB1 HO1 HF1 HF2 q4 y4 hgo1
          obtain ⟨j, go2, o2, rfl, hj, rfl, hgo, hB, hol, hfr, hrec⟩ := hrel
          have HMJ := hid (meas (B := 1001) j (by omega))
          have HB2 := hid hB
          have HO2 := hid hol
          have HFJ := hid hfr
          have HGO := hid hgo
          have hP2 := HP.out.fresh hfr
          have hl2 := hP2.l
          have q4 := hP2.q4
          have y4 := hP2.y4
          clear hB hol hgo
          by_cases hlt2 : j < z.2.length
          · have s2 : (j : Int) < (z.2.length : Int) := by omega
            rw [orJ_s _ _ _ _ _ _ hlt2] at hrec
            have BQ := hid (fun n => base_any (wr.drewN n) b R a0 c0 (fcell' (hfr.trans (fdrewR wr n)) HN.out.k0) (by omega))
            have hl3 := hl2
            obtain ⟨ao5, cp5, e5, hc5, cell5⟩ := hl2
            rw [Value.slice.injEq] at e5
            obtain ⟨rfl, _, rfl⟩ := e5
            obtain ⟨gl, ol, rfl, y5⟩ := cell5 j hlt2
            have hgd : z.2.getD j 0 = z.2[j] := by rw [List.getD_eq_getElem?_getD, List.getElem?_eq_getElem hlt2]; rfl
            have hcx : nxC R head z j = (z.2[j] == bs R + (head : Int)) := by unfold nxC; rw [hgd]
            rw [hcx] at hrec
            generalize z.2[j] = c at hrec y5
            generalize hqe : (c == bs R + (head : Int)) = qe at hrec
            have s8 : (j : Int) + 1 ≤ (z.2.length : Int) := by omega
            have s9 : (j : Int) + 1 ≤ (cl : Int) := by omega
            have NONE : Hid (cl = j + 1 → ∀ (ao : Option Addr) (n c : Nat), n = 0 → IntAt wr (.slice ao n c) (z.2.drop (j + 1))) := hid (fun h ao n c hn => IntAt.none (List.drop_eq_nil_of_le (by omega)) hn)
            have SOME : Hid (IntAt wr (.slice (some ⟨gl, ol + (j + 1), none⟩) (z.2.length - (j + 1)) (cl - (j + 1))) (z.2.drop (j + 1))) := hid (IntAt.drop hl3 (j + 1) (by omega))
            have FQ := hid (fun (W : World) (v : Value) (hW : Fresh wr W) (hv : IntAt wr v (z.2.drop (j + 1))) => FI.out W v (z.2.drop (j + 1)) (hfr.trans hW) (hv.fresh hW) (by rw [List.length_drop]; omega) (fun c hc => HSY.out c (List.mem_of_mem_drop hc)))
            have FQL := hid (FL.out (z.2.drop (j + 1)))
            have HX : Hid (nxG R H null q z j = fiF R H null q (z.2.drop (j + 1))) := hid rfl
            rw [HX.out] at hrec
            generalize fiF R H null q (z.2.drop (j + 1)) = fv at FQ FQL hrec
            clear hcx hgd cell5 hfr hP2 hl3 HX
            cases qe
            · rw [if_neg (by simp)] at hrec
              have HREC2 := hid hrec
              clear hrec
              go_wp2
              go_quiet (first | (go_at_call 23; refine Calls.quiet_of_same (BQ.out _)))
              have hf := fdrewR wr nq
              have HFQ := hid hf
              generalize wr.drewN nq = W2 at HFQ ⊢
              clear hf
              go_wp2
              go_roundw
              case rel => exact ⟨j + 1, go2, o2, by go_num, by omega, rfl, HGO.out, HB2.out.fresh HFQ.out, HO2.out, HFJ.out.trans HFQ.out, HREC2.out⟩
              case measure => exact HMJ.out
            · rw [if_pos rfl] at hrec
              have HREC2 := hid hrec
              clear hrec
              go_wp2
              go_quiet (first | (go_at_call 23; refine Calls.quiet_of_same (BQ.out _)))
              have hf := fdrewR wr nq
              have q4b := fcell' hf q4
              have y4b := fcell' hf y4
              have HFQ := hid hf
              generalize wr.drewN nq = W2 at HFQ q4b y4b ⊢
              clear hf q4 y4 y5
              rcases (show cl = j + 1 ∨ ¬ cl = j + 1 by omega) with hc1 | hc1
              · have HC1 := hid hc1
                subst hc1
                go_wp2_with (first
                  | (go_at_call 49; refine (UN.out _ _ _ _ _ ((HB2.out.fresh HFQ.out).fresh HF3.out) HB3.out HO2.out FQL.out).mono ?_; rintro e w4 ⟨rfl, hf4, hB4⟩; have HF4 := hid hf4; have HB4 := hid hB4; clear hf4 hB4)
                  | (go_at_call 46; refine (FQ.out _ _ HFQ.out (NONE.out HC1.out _ _ _ (by first | rfl | omega))).mono ?_; rintro e w3 ⟨g9, rfl, hg9, hB3, hf3⟩; have HF3 := hid hf3; have HB3 := hid hB3; have HG9 := hid hg9; clear hf3 hB3 hg9))
                go_roundw
                case rel => exact ⟨j + 1, w3.heap.size, _, by go_num, by omega, rfl, by have h1 := HFJ.out.size; have h2 := HFQ.out.size; have h3 := HF3.out.size; omega, HB4.out, OI.out _ _, ((HFJ.out.trans HFQ.out).trans HF3.out).trans HF4.out, HREC2.out⟩
                case measure => exact HMJ.out
              · have hc2 : ¬ cl - (j + 1) = 0 := by omega
                go_wp2_with (first
                  | (go_at_call 49; refine (UN.out _ _ _ _ _ ((HB2.out.fresh HFQ.out).fresh HF3.out) HB3.out HO2.out FQL.out).mono ?_; rintro e w4 ⟨rfl, hf4, hB4⟩; have HF4 := hid hf4; have HB4 := hid hB4; clear hf4 hB4)
                  | (go_at_call 46; refine (FQ.out _ _ HFQ.out SOME.out).mono ?_; rintro e w3 ⟨g9, rfl, hg9, hB3, hf3⟩; have HF3 := hid hf3; have HB3 := hid hB3; have HG9 := hid hg9; clear hf3 hB3 hg9))
                go_roundw
                case rel => exact ⟨j + 1, w3.heap.size, _, by go_num, by omega, rfl, by have h1 := HFJ.out.size; have h2 := HFQ.out.size; have h3 := HF3.out.size; omega, HB4.out, OI.out _ _, ((HFJ.out.trans HFQ.out).trans HF3.out).trans HF4.out, HREC2.out⟩
                case measure => exact HMJ.out
          · have s2 : ¬ (j : Int) < (z.2.length : Int) := by omega
            have hjn : z.2.length - j = 0 := by omega
            rw [hjn] at hrec
            have HREC2 := hid hrec
            clear hrec hjn hfr hl2 hP2
            go_wp2
            go_roundw
            case rel => exact ⟨i + 1, go2, o2, by go_num, by omega, rfl, HGO.out, HB2.out, HO2.out, HFJ.out, by have := HREC2.out; unfold orJ at this; rw [this]; exact HREC.out⟩
            case measure => exact HMI.out
      · have s1 : ¬ (i : Int) < (q.length : Int) := by omega
        rw [List.drop_eq_nil_of_le (by omega)] at hrec
        have HREC := hid hrec
        clear hrec hfr
        go_wp2
        go_ret
        refine ⟨go, rfl, hgo1.out, ?_, HF1.out⟩
        have := HREC.out
        unfold orQ at this
        rw [← this]; exact HB1.out
end Go.Proofs.YtcpgklcimacngaaGreat
namespace Go.Proofs.YtcpgklcimacngaaGreat
open Go.RowKit
set_option linter.unusedVariables false
set_option linter.unusedSimpArgs false

theorem foF_len (R H : Nat) (null : List Bool) (q : List Q1) (h : Nat) : (foF R H null q h).length = R + 1 := by
  unfold foF; exact (orJ_at _ _ _ (nxF_len _ _ _ _ _)).1
set_option maxRecDepth 20000 in
set_option maxHeartbeats 8000000 in
theorem follow_any (w : World) (B ab b R H : Nat) (q : List Q1) (gn : Nat) (vL : Value) (gL : List Nat) (head : Nat) (hA : AllAt w B ab b R H q gn vL gL) (hS : SpecN w b R H q) (hQ : QOk R H q) (hnl : (derF (bs R) false q H).length = H) (hsq : Sq (R + 1 + H) (ldF R H (derF (bs R) false q H) q)) (hsl : Sq H (laF R H (derF (bs R) false q H) q)) (hhd : head < H) :
    Calls Tryz.prog 48 #[.pointer (some ⟨ab, 0, none⟩), .int .i64 head] w fun e w' => RowRet w (R + 1) (foF R H (derF (bs R) false q H) q head) e w' := by
  have r8 := hQ.r8
  have h8 := hQ.h8
  have NX := hid (fun (W : World) (h : Nat) (hW : Fresh w W) (hh : h ≤ 1000) => next_any W B ab b R H q gn vL gL h (hA.fresh hW) (hS.fresh hW) hQ hnl hsq hh)
  have LA := hid (last_any w B ab b R H q gn vL gL hA hS hQ hnl)
  obtain ⟨a0, c0, a1, c1, a2, c2, v3, v4, sv, hN⟩ := hS
  have p0 := cellOf hA.o 0
  simp at p0
  have k2 := hN.k2
  have hV : orJ (R + 1) (fun h => atM (laF R H (derF (bs R) false q H) q) h head) (fun h => nxF R H (derF (bs R) false q H) q h) H 0 (nxF R H (derF (bs R) false q H) q head) = foF R H (derF (bs R) false q H) q head := rfl
  have NL := hid (fun h => nxF_len R H (derF (bs R) false q H) q h)
  generalize foF R H (derF (bs R) false q H) q head = V at hV ⊢
  generalize laF R H (derF (bs R) false q H) q = L at LA hsl hV
  generalize derF (bs R) false q H = null at NX NL hV
  clear hA hnl hsq hN hQ
  have UN := hid (fun (W : World) (ga gb : Nat) (xs ys : List Bool) (ha : BSet W ga xs) (hb : BSet W gb ys) (la : xs.length = R + 1) (lb : ys.length = R + 1) => zunion_any W ga gb (R + 1) xs ys ha hb la lb (by omega))
  have OI := hid (fun xs ys => orI_len xs ys (R + 1) (R + 1))
  have HV := hid hV
  have HSL := hid hsl
  generalize hq1 : R + 1 = R1 at HV UN NX NL OI ⊢
  generalize hG : (fun h : Nat => nxF R H null q (h : Int)) = G at HV
  have HG := hid hG
  have e1 : (head : Int) < (H : Int) := by omega
  clear hV hq1 hsl hG r8
  go_enter Tryz.func48, Tryz.ntmps48
  go_wp2_with (first
    | (go_at_call 68; refine (NX.out _ head HF.out (by omega)).mono ?_; rintro e w4 ⟨go, rfl, hgo, hB4, hf4⟩; have HF4 := hid hf4; have HB4 := hid hB4; have HGO := hid hgo; clear hf4 hB4 hgo)
    | (go_at_call 67; refine (LA.out).mono ?_; rintro e w3 ⟨v, gs, rfl, hm, hfx⟩; obtain ⟨ao, cp, hv⟩ := own_form hm.own; subst hv; have HM := hid hm; have HF := hid hfx; clear hm hfx))
  have HM4 := hid (HM.out.fresh HF4.out)
  have HF5 := hid (HF.out.trans HF4.out)
  have HG5 := hid (show w.heap.size ≤ go by have h1 := HF.out.size; have h2 := HGO.out; omega)
  have hgl : gs.length = H := by rw [HM.out.len, HSL.out.len]
  obtain ⟨gv, cv, hv⟩ := Joins.ownsRow_form HM.out.own (by omega)
  rw [Value.slice.injEq] at hv
  obtain ⟨rfl, _, rfl⟩ := hv
  have HGL := hid hgl
  have hgH : H ≤ gs.length := by omega
  clear HM HF HF4 HGO hgl
  go_loopw [6, 7, 8] (fun x6 x7 _ wr => ∃ (i go : Nat) (o : List Bool), x7 = .int .i64 i ∧ i ≤ H ∧ x6 = bsl go R1 ∧ w.heap.size ≤ go ∧ BSet wr go o ∧ o.length = R1 ∧ MatAt wr w.heap.size H (.slice (some ⟨gv, 0, none⟩) gs.length cp) gs L ∧ Fresh w wr ∧ orJ R1 (fun h => atM L h head) G (H - i) i o = V)
      (fun _ x _ _ => 1001 - (intOf x).toNat)
  case atStart => exact ⟨0, go, _, rfl, by omega, rfl, HG5.out, HB4.out, NL.out _, HM4.out, HF5.out, HV.out⟩
  case round =>
    obtain ⟨i, g2, o, rfl, hi, rfl, hgo, hB, hol, hm, hfr, hrec⟩ := hrel
    have HMI := hid (meas (B := 1001) i (by omega))
    have HB := hid hB
    have HO := hid hol
    have HFR := hid hfr
    have HM := hid hm
    have HGG := hid hgo
    have u0 := fcell' hfr p0
    have kk2 := fcell' hfr k2
    clear HB4 HM4 HF5 HG5 HV hB hol hgo
    by_cases hlt : i < H
    · have s1 : (i : Int) < (H : Int) := by omega
      rw [orJ_s _ _ _ _ _ _ hlt] at hrec
      obtain ⟨gc, hgc⟩ : ∃ g, gs[i]? = some g := ⟨_, List.getElem?_eq_getElem (by omega)⟩
      have r1 := hm.row hgc
      have d1 := hm.cell HSL.out hgc hhd
      have s2 : (i : Int) < (gs.length : Int) := by omega
      generalize atM L i head = ab1 at hrec d1
      clear hfr hm hgc
      cases ab1
      · rw [if_neg (by simp)] at hrec
        have HREC := hid hrec
        clear hrec
        go_wp2
        go_roundw
        case rel => exact ⟨i + 1, g2, o, by go_num, by omega, rfl, HGG.out, HB.out, HO.out, HM.out, HFR.out, HREC.out⟩
        case measure => exact HMI.out
      · rw [if_pos rfl] at hrec
        have HREC := hid hrec
        clear hrec
        go_wp2_with (first
          | (go_at_call 49; refine (UN.out _ _ _ _ _ (HB.out.fresh HF3.out) HB3.out HO.out (NL.out _)).mono ?_; rintro e w5 ⟨rfl, hf5, hB5⟩; have HF5 := hid hf5; have HB5 := hid hB5; clear hf5 hB5)
          | (go_at_call 68; refine (NX.out _ i HFR.out (by omega)).mono ?_; rintro e w3 ⟨g9, rfl, hg9, hB3, hf3⟩; have HF3 := hid hf3; have HB3 := hid hB3; clear hf3 hB3 hg9))
        go_roundw
        case rel =>
          refine ⟨i + 1, w3.heap.size, _, by go_num, by omega, rfl, ?_, HB5.out, OI.out _ _, (HM.out.fresh HF3.out).fresh HF5.out, (HFR.out.trans HF3.out).trans HF5.out, ?_⟩
          · have h1 := HFR.out.size; have h2 := HF3.out.size; omega
          · have := HREC.out; rw [← HG.out] at this; rw [← HG.out]; exact this
        case measure => exact HMI.out
    · have s1 : ¬ (i : Int) < (H : Int) := by omega
      rw [show H - i = 0 by omega] at hrec
      have HREC := hid hrec
      clear hrec hfr hm
      go_wp2
      go_ret
      refine ⟨g2, rfl, HGG.out, ?_, HFR.out⟩
      have := HREC.out
      unfold orJ at this
      rw [← this]; exact HB.out
end Go.Proofs.YtcpgklcimacngaaGreat
namespace Go.Proofs.YtcpgklcimacngaaGreat
open Go.RowKit
set_option linter.unusedVariables false
set_option linter.unusedSimpArgs false
section
variable {ps : List Pr} {R H : Nat}
theorem null_is (hT : TabOk ps R H) : NullIs ps H (derF (bs R) false (codesOf R ps) H) := ⟨(derF_null hT).1, (derF_null hT).2⟩
theorem rchF_len (hT : TabOk ps R H) (hH : 0 < H) : (rchF R H (codesOf R ps)).length = H := by
  obtain ⟨r1, r2⟩ := re_is (ps := ps) hT
  unfold rchF
  rw [List.length_set]
  exact r1.row 0 hH
end
end Go.Proofs.YtcpgklcimacngaaGreat
namespace Go.Proofs.YtcpgklcimacngaaGreat
open Go.RowKit
set_option linter.unusedVariables false
set_option linter.unusedSimpArgs false

theorem tab_ok {s : ByteArray} (hc : checkF s = (0, 0)) : TabOk (tableOf (rLines s).1) (frontsOf (rLines s).1).length (headsOf (rLines s).1).length ∧ (frontsOf (rLines s).1).length ≤ 8 := by
  obtain ⟨c1, c2, c3, c4, c5⟩ := check_parts hc
  have hI := linesInv hc
  have hI2 := linesInv2 hc
  exact ⟨tabOk c3 hI.places hI2.mem, rules_le (fun y hy => (hI.places y hy).1) c5⟩
/-- what the reference reads of a right specification -/
def ReadN (s : ByteArray) (w : World) (e : Ending) (w' : World) : Prop :=
  ∃ (b : Nat) (pl : Int), e = .returned (.tuple #[.pointer (some ⟨b, 0, none⟩), .int .i64 0, .int .i64 pl]) ∧ SpecN w' b (frontsOf (rLines s).1).length (headsOf (rLines s).1).length (codesOf (frontsOf (rLines s).1).length (tableOf (rLines s).1)) ∧ Fresh w w'
theorem zread_n (s : ByteArray) (w : World) (hs : s.size ≤ maxLen) (hc : checkF s = (0, 0)) : Calls Tryz.prog 9 #[.string s] w fun e w' => ReadN s w e w' := by
  refine (zread_any s w hs).mono ?_
  rintro e w' ⟨p, pl, rfl, hf, _, _, h⟩
  obtain ⟨b, xs, _, rfl, hX, hO⟩ := h (by rw [hc])
  refine ⟨b, pl, by rw [hc], spec_n hX (spec_tab hc hO), hf⟩
/-- what is said of the numbers -/
structure NumOk (R H : Nat) (q : List Q1) : Prop where
  qk : QOk R H q
  n : (derF (bs R) false q H).length = H
  u : (derF (bs R) true q H).length = H
  r : (rchF R H q).length = H
  sl : Sq (R + 1 + H) (ldF R H (derF (bs R) false q H) q)
  sa : Sq H (laF R H (derF (bs R) false q H) q)
  se : Sq H (reF R H q)
  pos : 0 < H
theorem num_ok {s : ByteArray} (hc : checkF s = (0, 0)) : NumOk (frontsOf (rLines s).1).length (headsOf (rLines s).1).length (codesOf (frontsOf (rLines s).1).length (tableOf (rLines s).1)) := by
  obtain ⟨hT, hR⟩ := tab_ok hc
  have hQ := q_ok hc hT hR
  have hp : 0 < (headsOf (rLines s).1).length := by
    have := hQ.hd _ (List.getElem_mem hQ.pos)
    omega
  exact ⟨hQ, (derF_null hT).1, (derF_fru hT).1, rchF_len hT hp, (ld_is hT (null_is hT)).1, (la_is hT (null_is hT)).1, (re_is hT).1, hp⟩
attribute [local go_sem ↓] apS_rule
end Go.Proofs.YtcpgklcimacngaaGreat
namespace Go.Proofs.YtcpgklcimacngaaGreat
open Go.RowKit
set_option linter.unusedVariables false
set_option linter.unusedSimpArgs false

/-- what stands ahead of a production -/
def ahF (R H : Nat) (null : List Bool) (q : List Q1) (z : Q1) : List Bool :=
  if nothF (bs R) null z.2 = true then orI (fiF R H null q z.2) (foF R H null q z.1.toNat) (R + 1) (R + 1) else fiF R H null q z.2
theorem ahF_len (R H : Nat) (null : List Bool) (q : List Q1) (z : Q1) : (ahF R H null q z).length = R + 1 := by
  unfold ahF
  split
  · exact orI_len _ _ _ _
  · exact fiF_len _ _ _ _ _
section
variable {ps : List Pr} {R H : Nat}
theorem ah_is (hT : TabOk ps R H) (hR : R ≤ 8) {p : Pr} (hp : p ∈ ps) {t : Nat} (ht : t < R + 1) :
    (ahF R H (derF (bs R) false (codesOf R ps) H) (codesOf R ps) (p.head, p.syms.map (codeS R))).getD t false = (folB (allF ps (initH R H)) p.head p.syms).getD t false := by
  have hh := hT.hd p hp
  have hH : 0 < H := by omega
  have hS := sets_are hT hR hH
  have hn := null_is hT
  have hsy := fun s hs => hT.sy p hp s hs
  rw [folB_at (allF_ok hT hR).ok hR t p.head p.syms hsy]
  have e1 : hN (allF ps (initH R H)) = NS ps H := funext hS.n
  have e2 : (fun X => hF (allF ps (initH R H)) X t) = fun X => FS ps (NS ps H) t H X := funext fun X => hS.f X t
  rw [e1, e2]
  have fi := (fi_is hT hn hsy).2 t
  have no : nothF (bs R) (derF (bs R) false (codesOf R ps) H) (p.syms.map (codeS R)) = p.syms.all (nulS (NS ps H)) := noth_is hn hsy
  have hd : ((p.head.toNat : Nat) : Int) = p.head := by omega
  have fo := (fo_is hT hn p.head.toNat).2 t ht
  rw [hd, ← hS.o p.head t] at fo
  unfold ahF
  dsimp only
  rw [no]
  by_cases h : p.syms.all (nulS (NS ps H)) = true
  · rw [if_pos h, orI_at ht, fi, h, Bool.true_and]
    congr 1
    rw [Bool.eq_iff_iff]; exact fo
  · rw [if_neg h, fi]
    have : p.syms.all (nulS (NS ps H)) = false := by simpa using h
    rw [this]; simp
end
/-- the pairs that clash, one by one -/
def hitB (q : List Q1) (A : Mat) (h t i j : Nat) : Bool := (((q.getD i (0, [])).1 == (h : Int) && (q.getD j (0, [])).1 == (h : Int)) && atM A i t) && atM A j t
def zcJ (q : List Q1) (A : Mat) (h t i : Nat) : Nat → Nat → List Cl → List Cl
  | 0, _, acc => acc
  | f + 1, j, acc => zcJ q A h t i f (j + 1) (if hitB q A h t i j = true then acc ++ [⟨h, t, i, j⟩] else acc)
def zcI (q : List Q1) (A : Mat) (h t : Nat) : Nat → Nat → List Cl → List Cl
  | 0, _, acc => acc
  | f + 1, i, acc => zcI q A h t f (i + 1) (zcJ q A h t i (q.length - (i + 1)) (i + 1) acc)
def zcT (q : List Q1) (A : Mat) (h : Nat) : Nat → Nat → List Cl → List Cl
  | 0, _, acc => acc
  | f + 1, t, acc => zcT q A h f (t + 1) (zcI q A h t q.length 0 acc)
def zcH (q : List Q1) (A : Mat) (R : Nat) : Nat → Nat → List Cl → List Cl
  | 0, _, acc => acc
  | f + 1, h, acc => zcH q A R f (h + 1) (zcT q A h (R + 1) 0 acc)
def aheadM (R H : Nat) (q : List Q1) : Mat := q.map (ahF R H (derF (bs R) false q H) q)
def zclF (R H : Nat) (q : List Q1) : List Cl := zcH q (aheadM R H q) R H 0 []
theorem zcJ_mono (q : List Q1) (A : Mat) (h t i : Nat) : ∀ (f j : Nat) (acc : List Cl), acc.length ≤ (zcJ q A h t i f j acc).length
  | 0, _, _ => Nat.le_refl _
  | f + 1, j, acc => by
    unfold zcJ
    refine Nat.le_trans ?_ (zcJ_mono q A h t i f (j + 1) _)
    split
    · simp
    · exact Nat.le_refl _
theorem zcI_mono (q : List Q1) (A : Mat) (h t : Nat) : ∀ (f i : Nat) (acc : List Cl), acc.length ≤ (zcI q A h t f i acc).length
  | 0, _, _ => Nat.le_refl _
  | f + 1, i, acc => by
    unfold zcI
    exact Nat.le_trans (zcJ_mono _ _ _ _ _ _ _ _) (zcI_mono q A h t f (i + 1) _)
theorem zcT_mono (q : List Q1) (A : Mat) (h : Nat) : ∀ (f t : Nat) (acc : List Cl), acc.length ≤ (zcT q A h f t acc).length
  | 0, _, _ => Nat.le_refl _
  | f + 1, t, acc => by
    unfold zcT
    exact Nat.le_trans (zcI_mono _ _ _ _ _ _ _) (zcT_mono q A h f (t + 1) _)
theorem zcH_mono (q : List Q1) (A : Mat) (R : Nat) : ∀ (f h : Nat) (acc : List Cl), acc.length ≤ (zcH q A R f h acc).length
  | 0, _, _ => Nat.le_refl _
  | f + 1, h, acc => by
    unfold zcH
    exact Nat.le_trans (zcT_mono _ _ _ _ _ _) (zcH_mono q A R f (h + 1) _)
theorem zcJ_s (q : List Q1) (A : Mat) (h t i n j : Nat) (acc : List Cl) (hj : j < n) : zcJ q A h t i (n - j) j acc = zcJ q A h t i (n - (j + 1)) (j + 1) (if hitB q A h t i j = true then acc ++ [⟨h, t, i, j⟩] else acc) := by
  rw [show n - j = (n - (j + 1)) + 1 by omega]; rfl
theorem zcI_s (q : List Q1) (A : Mat) (h t n i : Nat) (acc : List Cl) (hi : i < n) : zcI q A h t (n - i) i acc = zcI q A h t (n - (i + 1)) (i + 1) (zcJ q A h t i (q.length - (i + 1)) (i + 1) acc) := by
  rw [show n - i = (n - (i + 1)) + 1 by omega]; rfl
theorem zcT_s (q : List Q1) (A : Mat) (h n t : Nat) (acc : List Cl) (ht : t < n) : zcT q A h (n - t) t acc = zcT q A h (n - (t + 1)) (t + 1) (zcI q A h t q.length 0 acc) := by
  rw [show n - t = (n - (t + 1)) + 1 by omega]; rfl
theorem zcH_s (q : List Q1) (A : Mat) (R n h : Nat) (acc : List Cl) (hh : h < n) : zcH q A R (n - h) h acc = zcH q A R (n - (h + 1)) (h + 1) (zcT q A h (R + 1) 0 acc) := by
  rw [show n - h = (n - (h + 1)) + 1 by omega]; rfl
/-- the same pairs -/
structure Alk (q : List Q1) (A : Mat) (R : Nat) (z : List (Pr × List Bool)) : Prop where
  len : z.length = q.length
  hd : ∀ (k : Nat) (h : k < z.length), (q.getD k (0, [])).1 = z[k].1.head
  at' : ∀ (k t : Nat) (h : k < z.length), t < R + 1 → atM A k t = hasT z[k].2 t
theorem ovL_s (n t : Int) (z : List (Pr × List Bool)) (i : Nat) (hi : i < z.length) : ovL n t (z.drop i) i = if z[i].1.head = n ∧ hasT z[i].2 t = true then (i : Int) :: ovL n t (z.drop (i + 1)) (i + 1) else ovL n t (z.drop (i + 1)) (i + 1) := by
  rw [List.drop_eq_getElem_cons hi, ovL]
theorem zcJ_is {q : List Q1} {A : Mat} {R : Nat} {z : List (Pr × List Bool)} (hA : Alk q A R z) {h t i : Nat} (ht : t < R + 1) (hi : i < z.length) : ∀ (f j : Nat) (acc : List Cl), f + j = z.length →
    zcJ q A h t i f j acc = acc ++ (if z[i].1.head = (h : Int) ∧ hasT z[i].2 t = true then (ovL h t (z.drop j) j).map (fun s => ⟨h, t, i, s⟩) else [])
  | 0, j, acc, e => by
    rw [List.drop_eq_nil_of_le (by omega)]
    simp [zcJ, ovL]
  | f + 1, j, acc, e => by
    have hj : j < z.length := by omega
    unfold zcJ
    rw [zcJ_is hA ht hi f (j + 1) _ (by omega), ovL_s _ _ _ _ hj]
    have hb : hitB q A h t i j = true ↔ (z[i].1.head = (h : Int) ∧ hasT z[i].2 t = true) ∧ z[j].1.head = (h : Int) ∧ hasT z[j].2 t = true := by
      unfold hitB
      rw [hA.hd i hi, hA.hd j hj, hA.at' i t hi ht, hA.at' j t hj ht]
      simp only [Bool.and_eq_true, beq_iff_eq]
      constructor
      · rintro ⟨⟨⟨a, b⟩, c⟩, d⟩; exact ⟨⟨a, c⟩, b, d⟩
      · rintro ⟨⟨a, c⟩, b, d⟩; exact ⟨⟨⟨a, b⟩, c⟩, d⟩
    by_cases h1 : z[i].1.head = (h : Int) ∧ hasT z[i].2 t = true
    · rw [if_pos h1, if_pos h1]
      by_cases h2 : z[j].1.head = (h : Int) ∧ hasT z[j].2 t = true
      · rw [if_pos h2, if_pos (hb.2 ⟨h1, h2⟩)]; simp
      · rw [if_neg h2, if_neg (fun e => h2 (hb.1 e).2)]
    · rw [if_neg h1, if_neg h1, if_neg (fun e => h1 (hb.1 e).1)]
theorem zcI_is {q : List Q1} {A : Mat} {R : Nat} {z : List (Pr × List Bool)} (hA : Alk q A R z) {h t : Nat} (ht : t < R + 1) : ∀ (f i : Nat) (acc : List Cl), f + i = z.length →
    zcI q A h t f i acc = acc ++ pairL h t (ovL h t (z.drop i) i)
  | 0, i, acc, e => by
    rw [List.drop_eq_nil_of_le (by omega)]
    simp [zcI, ovL, pairL]
  | f + 1, i, acc, e => by
    have hi : i < z.length := by omega
    unfold zcI
    rw [zcI_is hA ht f (i + 1) _ (by omega), zcJ_is hA ht hi (q.length - (i + 1)) (i + 1) acc (by have := hA.len; omega), ovL_s _ _ _ _ hi]
    by_cases h1 : z[i].1.head = (h : Int) ∧ hasT z[i].2 t = true
    · rw [if_pos h1, if_pos h1, pairL, List.append_assoc]
    · rw [if_neg h1, if_neg h1]; simp
theorem zcT_is {q : List Q1} {A : Mat} {R : Nat} {z : List (Pr × List Bool)} (hA : Alk q A R z) {h : Nat} : ∀ (f t : Nat) (acc : List Cl), f + t = R + 1 →
    zcT q A h f t acc = acc ++ clT z h R (f + 1) t
  | 0, t, acc, e => by
    unfold zcT clT
    rw [if_neg (by omega)]; simp
  | f + 1, t, acc, e => by
    unfold zcT
    rw [clT, zcT_is hA f (t + 1) _ (by omega), if_pos (by omega), zcI_is hA (by omega) q.length 0 acc (by rw [← hA.len]; omega), List.drop_zero, List.append_assoc]
theorem zcH_is {q : List Q1} {A : Mat} {R H : Nat} {z : List (Pr × List Bool)} (hA : Alk q A R z) : ∀ (f h : Nat) (acc : List Cl), f + h = H →
    zcH q A R f h acc = acc ++ clN z R H (f + 1) h
  | 0, h, acc, e => by
    unfold zcH clN
    rw [if_neg (by omega)]; simp
  | f + 1, h, acc, e => by
    unfold zcH
    rw [clN, zcH_is (H := H) hA f (h + 1) _ (by omega), if_pos (by omega), zcT_is hA (R + 1) 0 acc (by omega), List.append_assoc]
theorem clash_is {s : ByteArray} (hc : checkF s = (0, 0)) : zclF (frontsOf (rLines s).1).length (headsOf (rLines s).1).length (codesOf (frontsOf (rLines s).1).length (tableOf (rLines s).1)) = clashF s := by
  obtain ⟨hT, hR⟩ := tab_ok hc
  unfold zclF clashF clashL
  have hz : ((tableOf (rLines s).1).zip (aheadsF (setsF s) (tableOf (rLines s).1))) = (tableOf (rLines s).1).map (fun p => (p, folB (setsF s) p.head p.syms)) := by
    unfold aheadsF
    rw [List.zip_map_right]
    simp [List.zip_eq_zipWith, List.zipWith_self]
  rw [hz]
  refine zcH_is (z := (tableOf (rLines s).1).map (fun p => (p, folB (setsF s) p.head p.syms))) ⟨?_, ?_, ?_⟩ _ _ _ (by omega)
  · unfold codesOf; simp
  · intro k hk
    rw [List.length_map] at hk
    unfold codesOf
    rw [List.getD_eq_getElem?_getD, List.getElem?_map, List.getElem?_eq_getElem hk, List.getElem_map]; rfl
  · intro k t hk ht
    rw [List.length_map] at hk
    rw [List.getElem_map]
    have := ah_is hT hR (List.getElem_mem hk) ht
    have e : (aheadM (frontsOf (rLines s).1).length (headsOf (rLines s).1).length (codesOf (frontsOf (rLines s).1).length (tableOf (rLines s).1))).getD k [] = ahF (frontsOf (rLines s).1).length (headsOf (rLines s).1).length (derF (bs (frontsOf (rLines s).1).length) false (codesOf (frontsOf (rLines s).1).length (tableOf (rLines s).1)) (headsOf (rLines s).1).length) (codesOf (frontsOf (rLines s).1).length (tableOf (rLines s).1)) (((tableOf (rLines s).1)[k]).head, ((tableOf (rLines s).1)[k]).syms.map (codeS (frontsOf (rLines s).1).length)) := by
      unfold aheadM
      rw [List.getD_eq_getElem?_getD, List.getElem?_map, show (codesOf (frontsOf (rLines s).1).length (tableOf (rLines s).1))[k]? = some (((tableOf (rLines s).1)[k]).head, ((tableOf (rLines s).1)[k]).syms.map (codeS (frontsOf (rLines s).1).length)) from by
        unfold codesOf; rw [List.getElem?_map, List.getElem?_eq_getElem hk]; rfl]
      rfl
    unfold atM
    rw [e, this]
    unfold hasT
    rw [if_pos (by omega), Int.toNat_natCast]; rfl
end Go.Proofs.YtcpgklcimacngaaGreat
