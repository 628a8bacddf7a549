import Derived.Test.YtcpgklcimacngaaGreatRb4
import Derived.Deep.DeepCutAuto
namespace Go.Proofs.YtcpgklcimacngaaGreat
open Go.RowKit
set_option linter.unusedVariables false
set_option linter.unusedSimpArgs false

theorem fiI_s (base : Int) (null : List Bool) (L : Mat) (R : Nat) (l : List Int) (n i : Nat) (out : List Bool) (h : i < n) : fiI base null L R l (n - i) i out = fiI base null L R l (n - (i + 1)) (i + 1) (if nothF base null (l.take i) = true then fiT L (l.getD i 0) R 0 out else out) := by
  rw [show n - i = (n - (i + 1)) + 1 by omega]; rfl
theorem fiT_s (L : Mat) (c : Int) (n t : Nat) (out : List Bool) (h : t < n) : fiT L c (n - t) t out = fiT L c (n - (t + 1)) (t + 1) (out.set t ((out.getD t false || c == (t : Int)) || atM L c.toNat t)) := by
  rw [show n - t = (n - (t + 1)) + 1 by omega]; rfl
theorem fiT_len (L : Mat) (c : Int) : ∀ (f t : Nat) (out : List Bool), (fiT L c f t out).length = out.length
  | 0, _, _ => rfl
  | f + 1, t, out => by unfold fiT; rw [fiT_len L c f]; simp
def RowRet (w : World) (n : Nat) (l : List Bool) (e : Ending) (w' : World) : Prop := ∃ g, e = .returned (bsl g n) ∧ w.heap.size ≤ g ∧ BSet w' g l ∧ Fresh w w'
set_option maxRecDepth 20000 in
set_option maxHeartbeats 8000000 in
theorem first_any (w : World) (B ab b R H : Nat) (q : List Q1) (gn : Nat) (vL : Value) (gs : List Nat) (v : Value) (l : List Int) (hA : AllAt w B ab b R H q gn vL gs) (hS : SpecN w b R H q) (hQ : QOk R H q) (hnl : (derF (bs R) false q H).length = H) (hsq : Sq (R + 1 + H) (ldF R H (derF (bs R) false q H) q))
    (hv : IntAt w v l) (hl : l.length ≤ 6) (hc : ∀ c ∈ l, 0 ≤ c ∧ c < (R : Int) + 1 + H) :
    Calls Tryz.prog 46 #[.pointer (some ⟨ab, 0, none⟩), v] w fun e w' => RowRet w (R + 1) (fiF R H (derF (bs R) false q H) q l) e w' := by
  obtain ⟨a0, c0, a1, c1, a2, c2, v3, v4, sv, hN⟩ := hS
  have r8 := hQ.r8
  have h8 := hQ.h8
  obtain ⟨ao, cap, rfl, hcap, hcell⟩ := hv
  obtain ⟨al, cl, hvL⟩ := own_form hA.m.own
  subst hvL
  have p0 := cellOf hA.o 0
  have p1 := cellOf hA.o 1
  have p2 := cellOf hA.o 2
  simp at p0 p1 p2
  have k0 := hN.k0
  unfold fiF firF
  generalize hnu : derF (bs R) false q H = null at hA hnl hsq ⊢
  generalize hLd : ldF R H null q = L at hA hsq ⊢
  have HNU : Hid (BSet w gn null) := hid (by have := hA.n; rw [hnu] at this; exact this)
  have HMM : Hid (MatAt w B (R + 1 + H) (.slice al gs.length cl) gs L) := hid (by have := hA.m; rw [hnu, hLd] at this; exact this)
  have hgl : gs.length = R + 1 + H := by rw [HMM.out.len, hsq.len]
  have HNK := hid hN
  have HNL := hid hnl
  have HSQ := hid hsq
  have HC := hid hcell
  have HCC := hid hc
  have hR1 : bs R = ((R + 1 : Nat) : Int) := by unfold bs; omega
  have BA := hid (fun (W : World) (hW : Fresh w W) => base_any W b R a0 c0 (fcell' hW k0) (by omega))
  rw [hR1] at BA
  have NO := hid (fun (W : World) (i : Nat) (hW : Fresh w W) (hi : i ≤ l.length) => nothing_any W b R H gn a0 c0 (.slice ao i cap) (l.take i) null (fcell' hW k0) (by omega) (by omega) ((IntAt.take ⟨ao, cap, rfl, hcap, hcell⟩ rfl hi).fresh hW) (by rw [List.length_take]; omega) (HNU.out.fresh hW) hnl (fun c hcc => hc c (List.mem_of_mem_take hcc)))
  have mk := fun w => run_make_row' (P := Tryz.prog) 69 4 (.bool false) 1 Tryz.underlying69 (by kernel_rfl) rfl .i64 .i64 (R + 1) (by omega) (by omega) w
  generalize hV : fiI (bs R) null L R l l.length 0 (List.replicate (R + 1) false) = V
  generalize hbs : bs R = base at hV NO
  have HV := hid hV
  have hR9 : R + 1 ≤ 9 := by omega
  have HRR := hid (show R < R + 1 by omega)
  generalize hq1 : R + 1 = R1 at HV BA mk hR9 HRR ⊢
  have HQ1 := hid hq1
  have HGL := hid hgl
  have hgsb : gs.length ≤ 20 := by omega
  clear hV hN hQ hnl hsq hcell hc hA hbs hR1 hq1 hgl hnu hLd k0
  go_enter Tryz.func46, Tryz.ntmps46
  go_wp2_with (first
    | (go_at_call 23; refine (BA.out _ (Mod.refl _ _)).mono ?_; rintro e w' ⟨rfl, hw⟩; rw [hw]; clear hw))
  go_loopw [6, 7, 8] (fun x6 _ _ wr => ∃ (i : Nat) (o : List Bool), x6 = .int .i64 i ∧ i ≤ l.length ∧ BSet wr w.heap.size o ∧ o.length = R1 ∧ Fresh w wr ∧ fiI base null L R l (l.length - i) i o = V)
      (fun x _ _ _ => 1001 - (intOf x).toNat)
  case atStart =>
    refine ⟨0, List.replicate R1 false, rfl, by omega, ?_, by simp, (Mod.refl _ w).alloc _, HV.out⟩
    rw [made_bools]; exact heap_alloc_at _ _
  case round =>
    obtain ⟨i, o, rfl, hi, hB, hol, hfr, hrec⟩ := hrel
    have HME := hid (meas (B := 1001) i (by omega))
    have HB := hid hB
    have HOL := hid hol
    have HF := hid hfr
    have u0 := fcell' hfr p0
    have u1 := fcell' hfr p1
    clear hB hol mk
    by_cases hlt : i < l.length
    · have k1 : (i : Int) < (l.length : Int) := by omega
      have k2 : (i : Int) ≤ (l.length : Int) := by omega
      rw [fiI_s _ _ _ _ _ _ _ _ hlt] at hrec
      obtain ⟨gl, ol, rfl, y5⟩ := HC.out i hlt
      have k3 : (i : Int) ≤ (cap : Int) := by omega
      have hcb := HCC.out l[i] (List.getElem_mem hlt)
      obtain ⟨cn, hcn⟩ : ∃ a : Nat, l[i] = a := ⟨l[i].toNat, by omega⟩
      have hgd : l.getD i 0 = (cn : Int) := by rw [List.getD_eq_getElem?_getD, List.getElem?_eq_getElem hlt, Option.getD_some, hcn]
      rw [hcn] at y5 hcb
      rw [hgd] at hrec
      have hcg : cn < gs.length := by rw [HGL.out]; omega
      have NQ := hid (fun n => NO.out (wr.drewN n) i (hfr.trans (fdrewR wr n)) (by omega))
      generalize nothF base null (l.take i) = nb at hrec NQ
      generalize hF2 : (if nb = true then fiT L (cn : Int) R 0 o else o) = F2 at hrec
      have HF2 := hid hF2
      have HREC := hid hrec
      clear hrec hF2 hfr hgd hcn hcb
      go_wp2
      go_quiet (first | (go_at_call 47; refine Calls.quiet_of (NQ.out _)))
      have HFQ := hid (HF.out.trans (fdrewR wr nq))
      have HBQ := hid (HB.out.fresh (fdrewR wr nq))
      generalize wr.drewN nq = W2 at HFQ HBQ ⊢
      clear u0 u1 HB HF NQ
      go_wp2
      go_loopw [8] (fun x8 wi => ∃ (t : Nat) (o : List Bool), x8 = .int .i64 t ∧ t ≤ R ∧ BSet wi w.heap.size o ∧ o.length = R1 ∧ Fresh w wi ∧ (if nb = true then fiT L (cn : Int) (R - t) t o else o) = F2)
          (fun x _ => 1001 - (intOf x).toNat)
      case atStart => exact ⟨0, o, rfl, by omega, HBQ.out, HOL.out, HFQ.out, HF2.out⟩
      case round =>
        obtain ⟨t, o2, rfl, ht, hB, hol, hfr, hrec⟩ := hrel
        have HMT := hid (meas (B := 1001) t (by omega))
        have HB2 := hid hB
        have HOL2 := hid hol
        have HF3 := hid hfr
        have u0 := fcell' hfr p0
        have u2 := fcell' hfr p2
        have uk := (HNK.out.fresh hfr).k0
        clear HFQ HBQ HF2 hol
        by_cases hgo : t < R ∧ nb = true
        · obtain ⟨htR, hnb⟩ := hgo
          subst hnb
          have s1 : (t : Int) < (R : Int) := by omega
          have s2 : (t : Int) < (R1 : Int) := by have := HRR.out; omega
          rw [if_pos rfl, fiT_s _ _ _ _ _ htR, Int.toNat_natCast] at hrec
          obtain ⟨gv, cv, hv⟩ := Joins.ownsRow_form HMM.out.own (by omega)
          rw [Value.slice.injEq] at hv
          obtain ⟨rfl, _, rfl⟩ := hv
          obtain ⟨gc, hgc⟩ : ∃ g, gs[cn]? = some g := ⟨_, List.getElem?_eq_getElem hcg⟩
          have hMW := HMM.out.fresh hfr
          have r1 := hMW.row hgc
          have d1 := hMW.cell HSQ.out hgc (j := t) (by omega)
          have b1 := hB.cell (j := t) (by rw [HOL2.out]; have := HRR.out; omega)
          have b2 := hB.frozen t
          have z5 := fcell' hfr y5
          have s3 : (cn : Int) < (gs.length : Int) := by omega
          have s4 : (t : Int) < ((R + 1 + H : Nat) : Int) := by omega
          generalize o2.getD t false = xa at hrec b1
          generalize atM L cn t = xl at hrec d1
          generalize hce : ((cn : Int) == (t : Int)) = xe at hrec
          have HREC2 := hid hrec
          have HP : Hid (∀ c : Bool, BSet (wr.setCell ⟨w.heap.size, t, none⟩ (.bool c)).drew w.heap.size (o2.set t c) ∧ Fresh w (wr.setCell ⟨w.heap.size, t, none⟩ (.bool c)).drew) := hid (fun c => ⟨HB2.out.put t c, (HF3.out.setCell (fun h => absurd h (by simp)) _).drew⟩)
          clear hrec hMW hgc hfr hB
          generalize R + 1 + H = nn at r1 s4
          cases xa <;> cases xe <;> cases xl
          all_goals
            go_wp2_with fail
            go_region
            all_goals
              go_wp2
              go_roundw
              case rel => exact ⟨t + 1, _, by go_num, by omega, (HP.out _).1, by simp [HOL2.out], (HP.out _).2, by first | exact HREC2.out | (rw [if_pos rfl]; exact HREC2.out) | simpa using HREC2.out⟩
              case measure => exact HMT.out
        · have hex : (if nb = true then fiT L (cn : Int) (R - t) t o2 else o2) = o2 := by
            cases nb
            · rfl
            · have : R - t = 0 := by
                rcases Nat.lt_or_ge t R with q | q
                · exact absurd ⟨q, rfl⟩ hgo
                · omega
              rw [if_pos rfl, this]; rfl
          rw [hex] at hrec
          have HREC2 := hid hrec
          clear hrec hex hfr hB
          cases nb
          · by_cases htR : t < R
            · have s1 : (t : Int) < (R : Int) := by omega
              go_wp2
              go_roundw
              case rel => exact ⟨i + 1, o2, by go_num, by omega, HB2.out, HOL2.out, HF3.out, by rw [HREC2.out]; exact HREC.out⟩
              case measure => exact HME.out
            · have s1 : ¬ (t : Int) < (R : Int) := by omega
              go_wp2
              go_roundw
              case rel => exact ⟨i + 1, o2, by go_num, by omega, HB2.out, HOL2.out, HF3.out, by rw [HREC2.out]; exact HREC.out⟩
              case measure => exact HME.out
          · have s1 : ¬ (t : Int) < (R : Int) := by
              intro h
              exact hgo ⟨by omega, rfl⟩
            go_wp2
            go_roundw
            case rel => exact ⟨i + 1, o2, by go_num, by omega, HB2.out, HOL2.out, HF3.out, by rw [HREC2.out]; exact HREC.out⟩
            case measure => exact HME.out
    · have k1 : ¬ (i : Int) < (l.length : Int) := by omega
      have hz : l.length - i = 0 := by omega
      rw [hz] at hrec
      have HREC := hid hrec
      clear hrec hfr hz
      go_wp2
      go_ret
      refine ⟨_, rfl, Nat.le_refl _, ?_, HF.out⟩
      have := HREC.out
      unfold fiI at this
      rw [← this]; exact HB.out
end Go.Proofs.YtcpgklcimacngaaGreat
namespace Go.Proofs.YtcpgklcimacngaaGreat
open Go.RowKit
set_option linter.unusedVariables false
set_option linter.unusedSimpArgs false

def rchF (R H : Nat) (q : List Q1) : List Bool := ((reF R H q).getD 0 []).set 0 true
end Go.Proofs.YtcpgklcimacngaaGreat
namespace Go.Proofs.YtcpgklcimacngaaGreat
open Go.RowKit
set_option linter.unusedVariables false
set_option linter.unusedSimpArgs false

set_option maxRecDepth 20000 in
set_option maxHeartbeats 8000000 in
theorem last_any (w : World) (B ab b R H : Nat) (q : List Q1) (gn : Nat) (vL : Value) (gL : List Nat) (hA : AllAt w B ab b R H q gn vL gL) (hS : SpecN w b R H q) (hQ : QOk R H q) (hnl : (derF (bs R) false q H).length = H) :
    Calls Tryz.prog 67 #[.pointer (some ⟨ab, 0, none⟩)] w fun e w' => MxRet w H (laF R H (derF (bs R) false q H) q) e w' := by
  obtain ⟨a0, c0, a1, c1, a2, c2, v3, v4, sv, hN⟩ := hS
  have r8 := hQ.r8
  have h8 := hQ.h8
  have p20 := hQ.p20
  have p0 := cellOf hA.o 0
  have p1 := cellOf hA.o 1
  simp at p0 p1
  have hAn := hA.n
  generalize derF (bs R) false q H = null at hAn hnl ⊢
  have HNU := hid hAn
  have HNL := hid hnl
  clear hA hAn hnl
  have HQ := hid hQ
  have HN := hid hN
  have k1 := hN.k1
  have k2 := hN.k2
  have SQ := hid (square_any w H (by omega))
  have CH := hid (fun (W : World) (B : Nat) (v : Value) (gs : List Nat) (M : Mat) (h1 : MatAt W B H v gs M) (h2 : Sq H M) => chained_any W B H v gs M h1 h2 (by omega))
  have hV : chainF (cdI (laC R null) laX (laY R) q (sqF H)) = laF R H null q := rfl
  generalize laF R H null q = V at hV ⊢
  have HV := hid hV
  clear hN hQ hV
  go_enter Tryz.func67, Tryz.ntmps67
  go_wp2_with (first
    | (go_at_call 65; refine (SQ.out).mono ?_; rintro e w3 ⟨v, gs, rfl, hm, hfx⟩; obtain ⟨ao, cp, hv⟩ := own_form hm.own; subst hv; have HM := hid hm; have HF := hid hfx; clear hm hfx))
  generalize hL0 : cdI (laC R null) laX (laY R) q (sqF H) = L0 at HV
  have HL0 := hid hL0
  clear hL0 SQ
  go_loopw [5, 6, 7, 8] (fun x5 _ _ _ wr => ∃ (i : Nat) (M : Mat), x5 = .int .i64 i ∧ i ≤ q.length ∧ MatAt wr w.heap.size H (.slice ao gs.length cp) gs M ∧ Sq H M ∧ Fresh w wr ∧ cdI (laC R null) laX (laY R) (q.drop i) M = L0)
      (fun x _ _ _ _ => 1001 - (intOf x).toNat)
  case atStart => exact ⟨0, _, rfl, by omega, HM.out, sqF_sq H, HF.out, HL0.out⟩
  case round =>
    obtain ⟨i, M, rfl, hi, hm, hs, hfr, hrec⟩ := hrel
    have HMI := hid (meas (B := 1001) i (by omega))
    have HM1 := hid hm
    have HS1 := hid hs
    have HF1 := hid hfr
    have kk1 := fcell' hfr k1
    clear HM HF HL0 hs
    by_cases hlt : i < q.length
    · have s1 : (i : Int) < (q.length : Int) := by omega
      rw [cdI_s _ _ _ _ _ _ hlt] at hrec
      generalize hF2 : cdJ (laC R null q[i]) (laX q[i]) (laY R q[i]) q[i].2.length 0 M = F2 at hrec
      have HREC := hid hrec
      have hhd := HQ.out.hd q[i] (List.getElem_mem hlt)
      have hsy := HQ.out.sy q[i] (List.getElem_mem hlt)
      obtain ⟨g3, o3, c3, g4, o4, n4, c4, al, cl, hP⟩ := HN.out.pr hlt
      generalize q[i] = z at hF2 hhd hsy hP
      have HF2 := hid hF2
      have HP := hid hP
      have hl6 := hsy.1
      have s4 : (i : Int) < (n4 : Int) := by have := hP.n4; omega
      have HSY := hid hsy.2
      have q4 := (hP.fresh hfr).q4
      have y4 := (hP.fresh hfr).y4
      obtain ⟨hdn, hhn⟩ : ∃ a : Nat, z.1 = a := ⟨z.1.toNat, by omega⟩
      have hdH : hdn < H := by omega
      have HHN := hid hhn
      clear hrec hF2 hP hsy hhd hfr hhn hm
      go_wp2
      go_loopw [6, 7, 8] (fun x6 _ _ wr => ∃ (j : Nat) (M : Mat), x6 = .int .i64 j ∧ j ≤ z.2.length ∧ MatAt wr w.heap.size H (.slice ao gs.length cp) gs M ∧ Sq H M ∧ Fresh w wr ∧ cdJ (laC R null z) (laX z) (laY R z) (z.2.length - j) j M = F2)
          (fun x _ _ _ => 1001 - (intOf x).toNat)
      case atStart => exact ⟨0, M, rfl, by omega, HM1.out, HS1.out, HF1.out, HF2.out⟩
      case round =>
        obtain ⟨j, M2, rfl, hj, hm, hs, hfr, hrec⟩ := hrel
        have HMJ := hid (meas (B := 1001) j (by omega))
        have HM2 := hid hm
        have HS2 := hid hs
        have HFJ := hid hfr
        have hP2 := HP.out.fresh hfr
        have hl2 := hP2.l
        clear HM1 HS1 HF1 HF2 q4 y4
        have q4 := hP2.q4
        have y4 := hP2.y4
        by_cases hlt2 : j < z.2.length
        · have s2 : (j : Int) < (z.2.length : Int) := by omega
          rw [cdJ_s _ _ _ _ _ _ hlt2] at hrec
          have BQ := hid (fun n => base_any (wr.drewN n) b R a0 c0 (fcell' (hfr.trans (fdrewR wr n)) HN.out.k0) (by omega))
          have hl3 := hl2
          obtain ⟨ao5, cp5, e5, hc5, cell5⟩ := hl2
          rw [Value.slice.injEq] at e5
          obtain ⟨rfl, _, rfl⟩ := e5
          obtain ⟨gl, ol, rfl, y5⟩ := cell5 j hlt2
          have hcb := HSY.out z.2[j] (List.getElem_mem hlt2)
          have hgd : z.2.getD j 0 = z.2[j] := by rw [List.getD_eq_getElem?_getD, List.getElem?_eq_getElem hlt2]; rfl
          have hlx : laX z = hdn := by unfold laX; rw [HHN.out]; simp
          have hly : laY R z j = (z.2[j] - bs R).toNat := by unfold laY; rw [hgd]
          have hcx : laC R null z j = (decide (0 ≤ z.2[j] - bs R) && nothF (bs R) null (z.2.drop (j + 1))) := by unfold laC; rw [hgd]
          rw [hcx, hlx, hly] at hrec
          have NQ := hid (fun (n : Nat) (v : Value) (hv : IntAt wr v (z.2.drop (j + 1))) => nothing_any (wr.drewN n) b R H gn a0 c0 v (z.2.drop (j + 1)) null (fcell' (hfr.trans (fdrewR wr n)) HN.out.k0) (by omega) (by omega) (hv.fresh (fdrewR wr n)) (by rw [List.length_drop]; omega) (HNU.out.fresh (hfr.trans (fdrewR wr n))) HNL.out (fun c hc => HSY.out c (List.mem_of_mem_drop hc)))
          have u1 := fcell' hfr p1
          generalize z.2[j] = c at hrec hcb y5
          generalize nothF (bs R) null (z.2.drop (j + 1)) = nb at hrec NQ
          have s8 : (j : Int) + 1 ≤ (z.2.length : Int) := by omega
          have s9 : (j : Int) + 1 ≤ (cl : Int) := by omega
          have NONE : Hid (cl = j + 1 → ∀ (ao : Option Addr) (n c : Nat), n = 0 → IntAt wr (.slice ao n c) (z.2.drop (j + 1))) := hid (fun h ao n c hn => IntAt.none (List.drop_eq_nil_of_le (by omega)) hn)
          have SOME : Hid (IntAt wr (.slice (some ⟨gl, ol + (j + 1), none⟩) (z.2.length - (j + 1)) (cl - (j + 1))) (z.2.drop (j + 1))) := hid (IntAt.drop hl3 (j + 1) (by omega))
          by_cases hneg : 0 ≤ c - bs R
          · obtain ⟨yn, hyn⟩ : ∃ a : Nat, c - bs R = a := ⟨(c - bs R).toNat, by omega⟩
            rw [decide_eq_true hneg, Bool.true_and, hyn, Int.toNat_natCast] at hrec
            have hyl : yn < H := by unfold bs at hyn; omega
            have t0 : (0 : Int) ≤ (yn : Int) := by omega
            have t2 : (yn : Int) < (H : Int) := by omega
            have wr1 : IntKind.i64.wrap (c - bs R) = (yn : Int) := by rw [IntKind.wrap_i64]; unfold bs at hyn ⊢; omega
            have hgl : gs.length = H := by rw [hm.len, hs.len]
            have t1 : (hdn : Int) < (gs.length : Int) := by omega
            obtain ⟨gx, hgx⟩ : ∃ g, gs[hdn]? = some g := ⟨_, List.getElem?_eq_getElem (by omega)⟩
            obtain ⟨gv, cv, hv⟩ := Joins.ownsRow_form hm.own (by omega)
            rw [Value.slice.injEq] at hv
            obtain ⟨rfl, _, rfl⟩ := hv
            have HGX := hid hgx
            have HREC2 : Hid (cdJ (laC R null z) (laX z) (laY R z) (z.2.length - (j + 1)) (j + 1) (if nb = true then setM M2 hdn yn true else M2) = F2) := hid (by rw [hlx]; exact hrec)
            clear hrec hcb hneg hyn hgl hcx hlx hly hgd hs hm hgx cell5 hfr hl3
            go_wp2
            go_quiet (first | (go_at_call 23; refine Calls.quiet_of_same (BQ.out _)))
            have hf0 := fdrewR wr nq
            have q4b := fcell' hf0 q4
            have y4b := fcell' hf0 y4
            have u1b := fcell' hf0 u1
            obtain ⟨W0, hW0⟩ : ∃ W0, W0 = wr.drewN nq := ⟨_, rfl⟩
            have NR := hid (fun (n : Nat) (v : Value) (hv : IntAt wr v (z.2.drop (j + 1))) => NQ.out (nq + n) v hv)
            simp only [← World.drewN_drewN] at NR
            rw [← hW0] at hf0 q4b y4b u1b NR ⊢
            have HF0 := hid hf0
            clear hW0 hf0 q4 y4 u1 NQ
            go_upto_region 10 with fail
            go_cut [8] (fun s8 wx => s8 = .bool nb ∧ Fresh W0 wx)
            case first =>
              clear hP2
              rcases (show cl = j + 1 ∨ ¬ cl = j + 1 by omega) with hc1 | hc1
              · have HC1 := hid hc1
                subst hc1
                go_quiet (first | (go_at_call 47; refine Calls.quiet_of (NR.out _ _ (NONE.out HC1.out _ _ _ (by first | rfl | omega)))))
                go_wp2_with fail
                go_meet
                exact ⟨rfl, fdrewR W0 nq⟩
              · have hc2 : ¬ cl - (j + 1) = 0 := by omega
                go_quiet (first | (go_at_call 47; refine Calls.quiet_of (NR.out _ _ SOME.out)))
                go_wp2_with fail
                go_meet
                exact ⟨rfl, fdrewR W0 nq⟩
            case rest =>
              obtain ⟨rfl, hf2⟩ := hcut
              have hf := HF0.out.trans hf2
              cases nb
              · have HFQ := hid hf
                clear hf hf2 hP2
                go_wp2
                go_roundw
                case rel => exact ⟨j + 1, M2, by go_num, by omega, HM2.out.fresh HFQ.out, HS2.out, HFJ.out.trans HFQ.out, by have := HREC2.out; rw [if_neg (by simp)] at this; exact this⟩
                case measure => exact HMJ.out
              · have hMW := HM2.out.fresh hf
                have p3 := (hP2.fresh hf).q3
                have e3 := (hP2.fresh hf).y3
                rw [HHN.out] at e3
                have r1 := hMW.row HGX.out
                have d1 := hMW.cell HS2.out HGX.out hyl
                have d2 := (hMW.blk hdn gx HGX.out).2.frozen yn
                have HPP : Hid (MatAt (wc.setCell ⟨gx, yn, none⟩ (.bool true)) w.heap.size H (.slice (some ⟨gv, 0, none⟩) gs.length cp) gs (setM M2 hdn yn true) ∧ Sq H (setM M2 hdn yn true) ∧ Fresh w (wc.setCell ⟨gx, yn, none⟩ (.bool true))) := hid ⟨hMW.put HGX.out yn true, setM_sq HS2.out hdH true, (HFJ.out.trans hf).setCell (fun hlt => by have := (hMW.blk hdn gx HGX.out).1; exact absurd hlt (by show ¬ gx < w.heap.size; omega)) _⟩
                clear hMW hf hf2 hP2 y5
                go_wp2
                go_roundw
                case rel => exact ⟨j + 1, _, by go_num, by omega, HPP.out.1, HPP.out.2.1, HPP.out.2.2, by have := HREC2.out; rw [if_pos rfl] at this; exact this⟩
                case measure => exact HMJ.out
          · have HREC2 : Hid (cdJ (laC R null z) (laX z) (laY R z) (z.2.length - (j + 1)) (j + 1) M2 = F2) := hid (by rw [decide_eq_false hneg, Bool.false_and, if_neg (by simp)] at hrec; rw [hlx]; exact hrec)
            have t0 : ¬ 0 ≤ c - bs R := hneg
            have wr1 : IntKind.i64.wrap (c - bs R) = c - bs R := by rw [IntKind.wrap_i64]; unfold bs; omega
            clear hrec hcb hcx hlx hly hgd hs hm cell5 hfr hP2 hl3
            go_wp2
            go_quiet (first | (go_at_call 23; refine Calls.quiet_of_same (BQ.out _)))
            have hf0 := fdrewR wr nq
            have q4b := fcell' hf0 q4
            have y4b := fcell' hf0 y4
            have u1b := fcell' hf0 u1
            obtain ⟨W0, hW0⟩ : ∃ W0, W0 = wr.drewN nq := ⟨_, rfl⟩
            have NR := hid (fun (n : Nat) (v : Value) (hv : IntAt wr v (z.2.drop (j + 1))) => NQ.out (nq + n) v hv)
            simp only [← World.drewN_drewN] at NR
            rw [← hW0] at hf0 q4b y4b u1b NR ⊢
            have HF0 := hid hf0
            clear hW0 hf0 q4 y4 u1 NQ
            go_upto_region 10 with fail
            go_cut [8] (fun s8 wx => s8 = .bool nb ∧ Fresh W0 wx)
            case first =>
              rcases (show cl = j + 1 ∨ ¬ cl = j + 1 by omega) with hc1 | hc1
              · have HC1 := hid hc1
                subst hc1
                go_quiet (first | (go_at_call 47; refine Calls.quiet_of (NR.out _ _ (NONE.out HC1.out _ _ _ (by first | rfl | omega)))))
                go_wp2_with fail
                go_meet
                exact ⟨rfl, fdrewR W0 nq⟩
              · have hc2 : ¬ cl - (j + 1) = 0 := by omega
                go_quiet (first | (go_at_call 47; refine Calls.quiet_of (NR.out _ _ SOME.out)))
                go_wp2_with fail
                go_meet
                exact ⟨rfl, fdrewR W0 nq⟩
            case rest =>
              obtain ⟨rfl, hf2⟩ := hcut
              have HFQ := hid (HF0.out.trans hf2)
              clear hf2
              go_wp2
              go_roundw
              case rel => exact ⟨j + 1, M2, by go_num, by omega, HM2.out.fresh HFQ.out, HS2.out, HFJ.out.trans HFQ.out, HREC2.out⟩
              case measure => exact HMJ.out
        · have s2 : ¬ (j : Int) < (z.2.length : Int) := by omega
          have hjn : z.2.length - j = 0 := by omega
          rw [hjn] at hrec
          have HREC2 := hid hrec
          clear hrec hjn hm hs hfr hl2 hP2
          go_wp2
          go_roundw
          case rel => exact ⟨i + 1, M2, by go_num, by omega, HM2.out, HS2.out, HFJ.out, by have := HREC2.out; unfold cdJ at this; rw [this]; exact HREC.out⟩
          case measure => exact HMI.out
    · have s1 : ¬ (i : Int) < (q.length : Int) := by omega
      rw [List.drop_eq_nil_of_le (by omega)] at hrec
      have HREC := hid hrec
      clear hrec hfr hm
      go_wp2_with (first
        | (go_at_call 66; refine (CH.out _ _ _ _ _ HM1.out HS1.out).mono ?_; rintro e w3 ⟨rfl, hm3, hu3⟩; have HM3 := hid hm3; have HU3 := hid hu3; clear hm3 hu3))
      go_ret
      refine ⟨_, gs, rfl, ?_, ?_⟩
      · rw [← HV.out, ← HREC.out]; exact HM3.out
      · exact HF1.out.trans' HU3.out (fun k hlt2 hk => by
          obtain ⟨j, hj, rfl⟩ := List.getElem_of_mem hk
          have := (HM1.out.blk j _ (List.getElem?_eq_getElem hj)).1
          omega)
end Go.Proofs.YtcpgklcimacngaaGreat
