import Derived.Test.YtcpgklcimacngaaGreatRbc
import Derived.Test.YtcpgklcimacngaaGreatRi4
import Derived.ChangeKeysEq
namespace Go.Proofs.YtcpgklcimacngaaGreat
open Go.RowKit
set_option linter.unusedVariables false
set_option linter.unusedSimpArgs false

set_option maxRecDepth 20000 in
set_option maxHeartbeats 4000000 in
theorem zahead_any (w : World) (B ab b R H : Nat) (q : List Q1) (gn : Nat) (vL : Value) (gL : List Nat) (i : Nat) (hi : i < q.length) (hA : AllAt w B ab b R H q gn vL gL) (hS : SpecN w b R H q) (hK : NumOk R H q) :
    Calls Tryz.prog 22 #[.pointer (some ⟨ab, 0, none⟩), .int .i64 i] w fun e w' => RowRet w (R + 1) (ahF R H (derF (bs R) false q H) q q[i]) e w' := by
  have hQ := hK.qk
  have r8 := hQ.r8
  have h8 := hQ.h8
  have hhd := hQ.hd q[i] (List.getElem_mem hi)
  have hsy := hQ.sy q[i] (List.getElem_mem hi)
  have FO := hid (fun (W : World) (h : Nat) (hW : Fresh w W) (hh : h < H) => follow_any W B ab b R H q gn vL gL h (hA.fresh hW) (hS.fresh hW) hQ hK.n hK.sl hK.sa hh)
  have FI := hid (fun (v : Value) (hv : IntAt w v q[i].2) => first_any w B ab b R H q gn vL gL v q[i].2 hA hS hQ hK.n hK.sl hv hsy.1 hsy.2)
  have HNU := hid hA.n
  have p0 := cellOf hA.o 0
  have p1 := cellOf hA.o 1
  simp at p0 p1
  obtain ⟨a0, c0, a1, c1, a2, c2, v3, v4, sv, hN⟩ := hS
  obtain ⟨g3, o3, c3, g4, o4, n4, c4, al, cl, hP⟩ := hN.pr hi
  have k0 := hN.k0
  have HNL := hid hK.n
  have FLN := hid (fiF_len R H (derF (bs R) false q H) q q[i].2)
  have OLN := hid (fun h => foF_len R H (derF (bs R) false q H) q h)
  unfold ahF
  generalize derF (bs R) false q H = null at FO FI HNU HNL FLN OLN ⊢
  have UN := hid (fun (W : World) (ga gb : Nat) (xs ys : List Bool) (ha : BSet W ga xs) (hb : BSet W gb ys) (la : xs.length = R + 1) (lb : ys.length = R + 1) => zunion_any W ga gb (R + 1) xs ys ha hb la lb (by omega))
  generalize q[i] = z at hhd hsy FI hP FLN ⊢
  obtain ⟨hdn, hhn⟩ : ∃ a : Nat, z.1 = a := ⟨z.1.toNat, by omega⟩
  have hdH : hdn < H := by omega
  have NO := hid (fun (W : World) (n : Nat) (hW : Fresh w W) => nothing_any (W.drewN n) b R H gn a0 c0 (.slice al z.2.length cl) z.2 null (fcell' (hW.trans (fdrewR W n)) k0) (by omega) (by omega) (hP.l.fresh (hW.trans (fdrewR W n))) (by omega) (HNU.out.fresh (hW.trans (fdrewR W n))) HNL.out hsy.2)
  have q4 := hP.q4
  have y4 := hP.y4
  have s4 : (i : Int) < (n4 : Int) := by have := hP.n4; omega
  have s3 : (i : Int) < (q.length : Int) := by omega
  have HP := hid hP
  have FI1 := hid (FI.out _ hP.l)
  rw [show z.1.toNat = hdn by omega]
  generalize hFV : fiF R H null q z.2 = fv at FI1 FLN
  generalize nothF (bs R) null z.2 = nb at NO
  have OL1 := hid (OLN.out hdn)
  have FO1 := hid (fun (W : World) (hW : Fresh w W) => FO.out W hdn hW hdH)
  generalize foF R H null q hdn = ov at FO1 OL1
  generalize hq1 : R + 1 = R1 at FO1 FI1 UN FLN OL1 ⊢
  have HHN := hid hhn
  clear hA hK hQ hN hP FO FI hhd hsy hFV hq1 HNU hhn OLN k0
  go_enter Tryz.func22, Tryz.ntmps22
  go_wp2_with (first
    | (go_at_call 46; refine (FI1.out).mono ?_; rintro e w1 ⟨g1, rfl, hg1, hB1, hf1⟩; have HG1 := hid hg1; have HB1 := hid hB1; have HF1 := hid hf1; have u0 := fcell' hf1 p0; have u1 := fcell' hf1 p1; have q4b := fcell' hf1 q4; have y4b := fcell' hf1 y4; clear hg1 hB1 hf1))
  go_quiet (first | (go_at_call 47; refine Calls.quiet_of (NO.out _ _ HF1.out)))
  have hf2 := fdrewR w1 nq
  have HF2 := hid (HF1.out.trans hf2)
  have HB2 := hid (HB1.out.fresh hf2)
  have v0 := fcell' hf2 u0
  have p3 := (HP.out.fresh HF2.out).q3
  have e3 := (HP.out.fresh HF2.out).y3
  rw [HHN.out] at e3
  generalize w1.drewN nq = W2 at hf2 HF2 HB2 v0 p3 e3 ⊢
  clear hf2 u0 u1 q4 y4 q4b y4b NO
  cases nb
  · go_wp2
    go_ret
    exact ⟨g1, rfl, HG1.out, HB2.out, HF2.out⟩
  · go_wp2_with (first
      | (go_at_call 48; refine (FO1.out _ HF2.out).mono ?_; rintro e w3 ⟨g3', rfl, hg3, hB3, hf3⟩; have HB3 := hid hB3; have HF3 := hid hf3; clear hg3 hB3 hf3)
      | (go_at_call 49; refine (UN.out _ _ _ _ _ (HB2.out.fresh HF3.out) HB3.out FLN.out OL1.out).mono ?_; rintro e w5 ⟨rfl, hf5, hB5⟩; have HF5 := hid hf5; have HB5 := hid hB5; clear hf5 hB5))
    go_ret
    refine ⟨w3.heap.size, rfl, ?_, HB5.out, (HF2.out.trans HF3.out).trans HF5.out⟩
    have h1 := HF2.out.size
    have h2 := HF3.out.size
    omega
end Go.Proofs.YtcpgklcimacngaaGreat
namespace Go.Proofs.YtcpgklcimacngaaGreat
open Go.RowKit
set_option linter.unusedVariables false
set_option linter.unusedSimpArgs false

set_option maxRecDepth 20000 in
set_option maxHeartbeats 4000000 in
theorem zclashes_any (w : World) (b R H : Nat) (q : List Q1) (hK : NumOk R H q) (hS : SpecN w b R H q) (hlen : (zclF R H q).length ≤ 10000000000) :
    Calls Tryz.prog 10 #[.pointer (some ⟨b, 0, none⟩)] w fun e w' => ∃ v, e = .returned v ∧ ClOwn w' w.heap.size v (zclF R H q) ∧ Fresh w w' := by
  obtain ⟨i0, hi0, iz0, iz1, iz2⟩ := infoBS'
  obtain ⟨j0, hj0, jz0, jz1, jz2⟩ := infoCl'
  have hQ := hK.qk
  have r8 := hQ.r8
  have h8 := hQ.h8
  have p20 := hQ.p20
  have hpos := hQ.pos
  have AL := hid (all_any w b R H q hS hQ hK.n)
  have AH := hid (fun (W1 : World) (ab gn : Nat) (vL : Value) (gL : List Nat) (hA : AllAt W1 w.heap.size ab b R H q gn vL gL) (hf : Fresh w W1) (W : World) (hW : Fresh W1 W) (i : Nat) (hi : i < q.length) => zahead_any W w.heap.size ab b R H q gn vL gL i hi (hA.fresh hW) (hS.fresh (hf.trans hW)) hK)
  obtain ⟨a0, c0, a1, c1, a2, c2, v3, v4, sv, hN⟩ := hS
  have k0 := hN.k0
  have k1 := hN.k1
  have k2 := hN.k2
  have k3 := hN.k3
  obtain ⟨ao3, cp3, e3, hc3, cell3⟩ := hN.r3
  rw [List.length_map] at e3
  obtain ⟨g3, o3, rfl, _⟩ := cell3 0 (by rw [List.length_map]; exact hpos)
  rw [e3] at k3
  have HD0 : Hid (∀ (i : Nat) (h : i < q.length), w.cell? ⟨g3, o3 + i, none⟩ = some (.int .i64 q[i].1)) := hid (fun i h => by
    obtain ⟨g, o, e, hc⟩ := cell3 i (by rw [List.length_map]; exact h)
    rw [Option.some.injEq, Addr.mk.injEq] at e
    obtain ⟨rfl, rfl, _⟩ := e
    rw [List.getElem_map] at hc
    exact hc)
  have hR1 : bs R = ((R + 1 : Nat) : Int) := by unfold bs; omega
  have BA := hid (fun (W : World) (hW : Fresh w W) => base_any W b R a0 c0 (fcell' hW k0) (by omega))
  rw [hR1] at BA
  have hAL : Hid (∀ (i : Nat) (h : i < q.length), (aheadM R H q).take (i + 1) = (aheadM R H q).take i ++ [ahF R H (derF (bs R) false q H) q q[i]]) := hid (fun i h => by
    unfold aheadM
    rw [← List.map_take, ← List.map_take, List.take_add_one, List.map_append, List.getElem?_eq_getElem h]; rfl)
  have hAN : Hid ((aheadM R H q).length = q.length) := hid (by unfold aheadM; simp)
  have hAR : Hid (∀ i, i < q.length → ((aheadM R H q).getD i []).length = R + 1) := hid (fun i h => by
    unfold aheadM
    rw [List.getD_eq_getElem?_getD, List.getElem?_map, List.getElem?_eq_getElem h]
    exact ahF_len _ _ _ _ _)
  have hV : zcH q (aheadM R H q) R H 0 [] = zclF R H q := rfl
  generalize zclF R H q = V at hV hlen ⊢
  have HV := hid hV
  generalize aheadM R H q = A at hAL hAN hAR HV
  have hcT : Hid (∀ h acc, zcT q A h (R + 1) 0 acc = zcT q A h (R + 1) 0 acc) := hid (fun _ _ => rfl)
  clear hV hN hc3 e3 cell3 hK hQ k0 hR1 hcT
  have hr9 : R + 1 ≤ 9 := by omega
  go_enter Tryz.func10, Tryz.ntmps10
  go_wp2_with (first
    | (go_at_call 21; refine (AL.out).mono ?_; rintro e w1 ⟨ab, gn, vL, gL, rfl, hA1, hf1⟩; have HA1 := hid hA1; have HF1 := hid hf1; clear hA1 hf1))
  have AH2 := hid (fun (W : World) (hW : Fresh w1 W) (i : Nat) (hi : i < q.length) => AH.out w1 ab gn vL gL HA1.out HF1.out W hW i hi)
  generalize ahF R H (derF (bs R) false q H) q = AF at hAL AH2
  clear AH HA1 AL
  generalize hq1 : R + 1 = R1 at BA hAR AH2 hr9
  have HQ1 := hid hq1
  clear hq1
  have hw1 : w.heap.size ≤ w1.heap.size := HF1.out.size
  go_loopw [4, 5, 6] (fun x4 x5 _ wr => ∃ (i : Nat) (gs : List Nat), x5 = .int .i64 i ∧ i ≤ q.length ∧ gs.length = i ∧ MatAt wr w1.heap.size R1 x4 gs (A.take i) ∧ Fresh w1 wr)
      (fun _ x _ _ => 1001 - (intOf x).toNat)
  case atStart => exact ⟨0, [], rfl, by omega, rfl, MatAt.nil _ _ _, Mod.refl _ _⟩
  case round =>
    obtain ⟨i, gs, rfl, hi, hgl, hM, hfr⟩ := hrel
    have HME := hid (meas (B := 1001) i (by omega))
    have HM := hid hM
    have HF := hid hfr
    have HGL := hid hgl
    have kk1 := fcell' (HF1.out.trans hfr) k1
    obtain ⟨ao, cp, hv⟩ := own_form hM.own
    subst hv
    have hgb : gs.length ≤ 100 := by omega
    by_cases hlt : i < q.length
    · have s1 : (i : Int) < (q.length : Int) := by omega
      have AHi := hid (AH2.out wr hfr i hlt)
      have HTK := hid (hAL.out i hlt)
      generalize AF q[i] = ah at AHi HTK
      clear hM hfr hgl
      go_wp2_with (first
        | (at_builtin; refine wpList_append_mine _ rfl _ _ 68 rfl w1.heap.size 69 i0 _ 1 24 Tryz.underlying68 hi0 iz0 iz1 iz2 rfl (by decide) (.slice ao gs.length cp) gs.length _ rfl (HO2.out.alloc _) ⟨w2.heap.size, 0, none⟩ 1 1 [bsl g2 R1] rfl rfl (new_cells rfl) (by intro u hu; simp at hu; subst hu; rfl) (by unfold maxLen; omega) (by omega) (by have z1 := HF.out.size; have z2 := HF2.out.size; simp; omega) ?_)
        | (go_at_call 22; refine (AHi.out).mono ?_; rintro e w2 ⟨g2, rfl, hg2, hB2, hf2⟩; have HG2 := hid hg2; have HB2 := hid hB2; have HF2 := hid hf2; have HO2 := hid (HM.out.fresh hf2).own; clear hg2 hB2 hf2))
      intro v' w6 hown2 hgrow hblk
      have hf2 : Fresh w2 (w2.alloc (.cells #[bsl g2 R1] 69)) := (Mod.refl _ w2).alloc _
      have FIN : Hid (MatAt w6 w1.heap.size R1 v' (gs ++ [g2]) (A.take (i + 1)) ∧ Fresh w1 w6) := hid (by
        refine ⟨?_, Mod.grown (S := fun _ => False) ((HF.out.trans HF2.out).trans hf2) hgrow (fun k hk hlt => by have := (HM.out.own.lt k hk).1; omega)⟩
        rw [HTK.out]
        refine ((HM.out.fresh HF2.out).fresh hf2).next (HB2.out.fresh hf2) (Nat.le_trans HF.out.size HG2.out) ?_ ?_ hown2 hgrow (by simpa using hblk)
        · intro e
          have := (HM.out.own.lt _ e).2
          have := HG2.out
          omega
        · intro x hx e
          obtain ⟨k, hk, rfl⟩ := List.getElem_of_mem hx
          have := (HM.out.blk k _ (List.getElem?_eq_getElem hk)).2.lt
          have := HG2.out
          omega)
      have HGL2 : Hid ((gs ++ [g2]).length = i + 1) := hid (by rw [List.length_append, HGL.out]; rfl)
      clear hown2 hgrow hblk hf2
      go_wp2
      go_roundw
      case rel => exact ⟨i + 1, _, by go_num, by omega, HGL2.out, FIN.out.1, FIN.out.2⟩
      case measure => exact HME.out
    · have s1 : ¬ (i : Int) < (q.length : Int) := by omega
      have hie : i = q.length := by omega
      rw [hie, ← hAN.out, List.take_length] at hM
      have hgq : gs.length = q.length := by omega
      obtain ⟨ga, cv, hv⟩ := Joins.ownsRow_form hM.own (by omega)
      rw [Value.slice.injEq] at hv
      obtain ⟨rfl, hx, rfl⟩ := hv
      clear hx
      rename World => wA
      have hFwA : Fresh w wA := HF1.out.trans hfr
      have CE : Hid (∀ W, Fresh wA W → W.cell? ⟨b, 1, none⟩ = some (.slice a1 q.length c1) ∧ W.cell? ⟨b, 2, none⟩ = some (.slice a2 H c2) ∧ W.cell? ⟨b, 3, none⟩ = some (.slice (some ⟨g3, o3, none⟩) q.length cp3)) := hid (fun W hW => ⟨fcell' (hFwA.trans hW) k1, fcell' (hFwA.trans hW) k2, fcell' (hFwA.trans hW) k3⟩)
      have BA2 := hid (fun (W : World) (hW : Fresh wA W) => BA.out W (hFwA.trans hW))
      have HDS : Hid (∀ W, Fresh wA W → ∀ (i : Nat) (h : i < q.length), W.cell? ⟨g3, o3 + i, none⟩ = some (.int .i64 q[i].1)) := hid (fun W hW i h => fcell' (hFwA.trans hW) (HD0.out i h))
      have ROW : Hid (∀ W, Fresh wA W → ∀ i, i < q.length → ∃ gi, W.cell? ⟨ga, i, none⟩ = some (bsl gi R1) ∧ ∀ t, t < R1 → W.cell? ⟨gi, t, none⟩ = some (.bool (atM A i t))) := hid (fun W hW i h => by
        have hMW := hM.fresh hW
        have hgi : gs[i]? = some gs[i] := List.getElem?_eq_getElem (by omega)
        exact ⟨_, hMW.row hgi, fun t ht => (hMW.blk i _ hgi).2.cell (by rw [hAR.out i h]; exact ht)⟩)
      have hgb2 : q.length ≤ gs.length := by omega
      have HFA := hid hFwA
      clear hM hfr hgq HM HF HGL hgl AH2 hAL hAN hAR HD0 k1 k2 k3 BA hFwA HME
      go_wp2
      go_loopw [7, 8, 9, 10, 11] (fun x7 x8 _ _ _ wr => ∃ (h : Nat) (acc : List Cl), x8 = .int .i64 h ∧ h ≤ H ∧ ClOwn wr wA.heap.size x7 acc ∧ Fresh wA wr ∧ zcH q A R (H - h) h acc = V)
          (fun _ x _ _ _ _ => 1001 - (intOf x).toNat)
      case atStart => exact ⟨0, [], rfl, by omega, World.ownsRow_nil _ _ _ _, Mod.refl _ _, HV.out⟩
      case round =>
        clear kk1 HV
        obtain ⟨h, acc, rfl, hh, hC, hfr, hrec⟩ := hrel
        have HMH := hid (meas (B := 1001) h (by omega))
        have HC1 := hid hC
        have HF2 := hid hfr
        obtain ⟨-, kk2, -⟩ := CE.out wr hfr
        obtain ⟨co, cc, hv⟩ := own_form hC
        subst hv
        by_cases hlt : h < H
        · have s2 : (h : Int) < (H : Int) := by omega
          rw [zcH_s _ _ _ _ _ _ hlt, HQ1.out] at hrec
          generalize hF3 : zcT q A h R1 0 acc = F3 at hrec
          have HL3 : Hid (F3.length ≤ 10000000000) := hid (by have := zcH_mono q A R (H - (h + 1)) (h + 1) F3; rw [hrec] at this; omega)
          have HRECH := hid hrec
          have HF3 := hid hF3
          clear hrec hF3 hC hfr
          go_wp2
          go_loopw [7, 9, 10, 11] (fun x7 x9 _ _ wr => ∃ (t : Nat) (acc : List Cl), x9 = .int .i64 t ∧ t ≤ R1 ∧ ClOwn wr wA.heap.size x7 acc ∧ Fresh wA wr ∧ zcT q A h (R1 - t) t acc = F3)
              (fun _ x _ _ _ => 1001 - (intOf x).toNat)
          case atStart => exact ⟨0, acc, rfl, by omega, HC1.out, HF2.out, HF3.out⟩
          case round =>
            clear kk2 HC1 HF2 HF3
            obtain ⟨t, acc, rfl, ht, hC, hfr, hrec⟩ := hrel
            have HMT := hid (meas (B := 1001) t (by omega))
            have HC1 := hid hC
            have HF2 := hid hfr
            have BAT := hid (BA2.out wr hfr)
            obtain ⟨co, cc, hv⟩ := own_form hC
            subst hv
            by_cases hltt : t < R1
            · have s3 : (t : Int) < (R1 : Int) := by omega
              rw [zcT_s _ _ _ _ _ _ hltt] at hrec
              generalize hF4 : zcI q A h t q.length 0 acc = F4 at hrec
              have HL4 : Hid (F4.length ≤ 10000000000) := hid (by have := zcT_mono q A h (R1 - (t + 1)) (t + 1) F4; rw [hrec] at this; have := HL3.out; omega)
              have HRECT := hid hrec
              have HF4 := hid hF4
              clear hrec hF4 hC hfr
              go_wp2_with (first
                | (go_at_call 23; refine (BAT.out).mono ?_; rintro e w' ⟨rfl, hw⟩; rw [hw]; clear hw))
              go_loopw [7, 10, 11] (fun x7 x10 _ wr => ∃ (i : Nat) (acc : List Cl), x10 = .int .i64 i ∧ i ≤ q.length ∧ ClOwn wr wA.heap.size x7 acc ∧ Fresh wA wr ∧ zcI q A h t (q.length - i) i acc = F4)
                  (fun _ x _ _ => 1001 - (intOf x).toNat)
              case atStart => exact ⟨0, acc, rfl, by omega, HC1.out, HF2.out, HF4.out⟩
              case round =>
                clear HC1 HF2 HF4 BAT
                obtain ⟨i, acc, rfl, hi, hC, hfr, hrec⟩ := hrel
                have HMI := hid (meas (B := 1001) i (by omega))
                have HC1 := hid hC
                have HF2 := hid hfr
                obtain ⟨kk1, -, -⟩ := CE.out wr hfr
                obtain ⟨co, cc, hv⟩ := own_form hC
                subst hv
                by_cases hlti : i < q.length
                · have s4 : (i : Int) < (q.length : Int) := by omega
                  rw [zcI_s _ _ _ _ _ _ _ hlti] at hrec
                  generalize hF5 : zcJ q A h t i (q.length - (i + 1)) (i + 1) acc = F5 at hrec
                  have HL5 : Hid (F5.length ≤ 10000000000) := hid (by have := zcI_mono q A h t (q.length - (i + 1)) (i + 1) F5; rw [hrec] at this; have := HL4.out; omega)
                  have HRECI := hid hrec
                  have HF5 := hid hF5
                  clear hrec hF5 hC hfr
                  go_wp2
                  go_loopw [7, 11] (fun x7 x11 wr => ∃ (j : Nat) (acc : List Cl), x11 = .int .i64 j ∧ j ≤ q.length ∧ i < j ∧ ClOwn wr wA.heap.size x7 acc ∧ Fresh wA wr ∧ zcJ q A h t i (q.length - j) j acc = F5)
                      (fun _ x _ => 1001 - (intOf x).toNat)
                  case atStart => exact ⟨i + 1, acc, by go_num, by omega, by omega, HC1.out, HF2.out, HF5.out⟩
                  case round =>
                    clear kk1 HC1 HF2 HF5
                    obtain ⟨j, acc, rfl, hj, hij, hC, hfr, hrec⟩ := hrel
                    have HMJ := hid (meas (B := 1001) j (by omega))
                    have HC1 := hid hC
                    have HF2 := hid hfr
                    obtain ⟨kk1, -, kk3⟩ := CE.out wr hfr
                    obtain ⟨co, cc, hv⟩ := own_form hC
                    subst hv
                    by_cases hltj : j < q.length
                    · have s5 : (j : Int) < (q.length : Int) := by omega
                      rw [zcJ_s _ _ _ _ _ _ _ _ hltj] at hrec
                      have d1 := HDS.out wr hfr i hlti
                      have d2 := HDS.out wr hfr j hltj
                      obtain ⟨gi, x1, x1'⟩ := ROW.out wr hfr i hlti
                      obtain ⟨gj, x2, x2'⟩ := ROW.out wr hfr j hltj
                      have y1 := x1' t hltt
                      have y2 := x2' t hltt
                      have s6 : (i : Int) < (gs.length : Int) := by omega
                      have s7 : (j : Int) < (gs.length : Int) := by omega
                      have hhit : hitB q A h t i j = (((q[i].1 == (h : Int) && q[j].1 == (h : Int)) && atM A i t) && atM A j t) := by
                        unfold hitB
                        rw [List.getD_eq_getElem?_getD, List.getElem?_eq_getElem hlti, List.getD_eq_getElem?_getD, List.getElem?_eq_getElem hltj]; rfl
                      rw [hhit] at hrec
                      generalize q[i].1 = hdi at d1 hrec
                      generalize q[j].1 = hdj at d2 hrec
                      generalize atM A i t = at1 at y1 hrec
                      generalize atM A j t = at2 at y2 hrec
                      generalize hb1 : (hdi == (h : Int)) = b1 at hrec
                      generalize hb2 : (hdj == (h : Int)) = b2 at hrec
                      have HRECJ := hid hrec
                      clear hrec hC hfr x1' x2' hhit
                      have SKIP : Hid ((((b1 && b2) && at1) && at2) = false → zcJ q A h t i (q.length - (j + 1)) (j + 1) acc = F5) := hid (fun e => by have := HRECJ.out; rw [e, if_neg (by simp)] at this; exact this)
                      cases b1
                      · clear d2 x1 x2 y1 y2 hb2
                        go_wp2
                        go_roundw
                        case rel => exact ⟨j + 1, acc, by go_num, by omega, by omega, HC1.out, HF2.out, SKIP.out (by simp)⟩
                        case measure => exact HMJ.out
                      · cases b2
                        · clear x1 x2 y1 y2
                          go_wp2
                          go_roundw
                          case rel => exact ⟨j + 1, acc, by go_num, by omega, by omega, HC1.out, HF2.out, SKIP.out (by simp)⟩
                          case measure => exact HMJ.out
                        · cases at1
                          · clear x2 y2
                            go_wp2
                            go_roundw
                            case rel => exact ⟨j + 1, acc, by go_num, by omega, by omega, HC1.out, HF2.out, SKIP.out (by simp)⟩
                            case measure => exact HMJ.out
                          · cases at2
                            · go_wp2
                              go_roundw
                              case rel => exact ⟨j + 1, acc, by go_num, by omega, by omega, HC1.out, HF2.out, SKIP.out (by simp)⟩
                              case measure => exact HMJ.out
                            · have hre := HRECJ.out
                              rw [if_pos (by simp)] at hre
                              have hac : acc.length + 1 ≤ 10000000000 := by
                                have := zcJ_mono q A h t i (q.length - (j + 1)) (j + 1) (acc ++ [⟨h, t, i, j⟩])
                                rw [hre, List.length_append, List.length_singleton] at this
                                have := HL5.out
                                omega
                              have HRE := hid hre
                              have hwA : wA.heap.size ≤ wr.heap.size := HF2.out.size
                              clear hre SKIP HRECJ
                              go_wp2_with (first
                                | (at_builtin; refine wpList_append_mine _ rfl _ _ 22 rfl wA.heap.size 30 j0 _ 4 32 Tryz.underlying22 hj0 jz0 jz1 jz2 rfl (by decide) (.slice co acc.length cc) acc.length (flatC Cl.cells acc) rfl (HC1.out.alloc _) ⟨wr.heap.size, 0, none⟩ 1 1 [.int .i64 h, .int .i64 t, .int .i64 i, .int .i64 j] rfl rfl (new_cells rfl) (by intro u hu; simp only [List.mem_cons, List.not_mem_nil, or_false] at hu; rcases hu with rfl | rfl | rfl | rfl <;> rfl) (by unfold maxLen; omega) (by omega) (by simp; omega) ?_))
                              intro v' w6 hown2 hgrow hblk
                              have FIN : Hid (ClOwn w6 wA.heap.size v' (acc ++ [⟨h, t, i, j⟩]) ∧ Fresh wA w6) := hid ⟨by unfold ClOwn; rw [flat_snoc, List.length_append, List.length_singleton]; exact hown2, Mod.grown (S := fun _ => False) (HF2.out.alloc _) hgrow (fun k hk hlt => by have := (HC1.out.lt k hk).1; omega)⟩
                              clear hown2 hgrow hblk
                              go_wp2
                              go_roundw
                              case rel => exact ⟨j + 1, _, by go_num, by omega, by omega, FIN.out.1, FIN.out.2, HRE.out⟩
                              case measure => exact HMJ.out
                    · have s5 : ¬ (j : Int) < (q.length : Int) := by omega
                      rw [show q.length - j = 0 by omega] at hrec
                      have HRE := hid hrec
                      clear hrec hC hfr
                      go_wp2
                      go_roundw
                      case rel => exact ⟨i + 1, acc, by go_num, by omega, HC1.out, HF2.out, by have := HRE.out; unfold zcJ at this; rw [this]; exact HRECI.out⟩
                      case measure => exact HMI.out
                · have s4 : ¬ (i : Int) < (q.length : Int) := by omega
                  rw [show q.length - i = 0 by omega] at hrec
                  have HRE := hid hrec
                  clear hrec hC hfr
                  go_wp2
                  go_roundw
                  case rel => exact ⟨t + 1, acc, by go_num, by omega, HC1.out, HF2.out, by have := HRE.out; unfold zcI at this; rw [this]; exact HRECT.out⟩
                  case measure => exact HMT.out
            · have s3 : ¬ (t : Int) < (R1 : Int) := by omega
              rw [show R1 - t = 0 by omega] at hrec
              have HRE := hid hrec
              clear hrec hC hfr
              go_wp2_with (first
                | (go_at_call 23; refine (BAT.out).mono ?_; rintro e w' ⟨rfl, hw⟩; rw [hw]; clear hw))
              go_roundw
              case rel => exact ⟨h + 1, acc, by go_num, by omega, HC1.out, HF2.out, by have := HRE.out; unfold zcT at this; rw [this]; exact HRECH.out⟩
              case measure => exact HMH.out
        · have s2 : ¬ (h : Int) < (H : Int) := by omega
          rw [show H - h = 0 by omega] at hrec
          have HRE := hid hrec
          clear hrec hC hfr
          go_wp2
          go_ret
          have e := HRE.out
          unfold zcH at e
          refine ⟨_, rfl, ?_, HFA.out.trans HF2.out⟩
          rw [← e]
          exact ownsRow_base HC1.out HFA.out.size
end Go.Proofs.YtcpgklcimacngaaGreat
namespace Go.Proofs.YtcpgklcimacngaaGreat
open Go.RowKit
set_option linter.unusedVariables false
set_option linter.unusedSimpArgs false

def clB (s : ByteArray) : List Cl := if (checkF s).1 = 0 then clashF s else []
def ClaB (s : ByteArray) (w : World) (e : Ending) (w' : World) : Prop := ∃ v, e = .returned (.tuple #[v, .int .i64 (checkF s).1]) ∧ ClOwn w' w.heap.size v (clB s) ∧ Fresh w w'
theorem clashF_len {s : ByteArray} (hc : (checkF s).1 = 0) : (clashF s).length ≤ 10000000000 := by
  obtain ⟨hT, hR⟩ := tab_ok (check_zero hc)
  have h8 := (num_ok (check_zero hc)).qk.h8
  have hz : ((tableOf (rLines s).1).zip (aheadsF (setsF s) (tableOf (rLines s).1))).length ≤ 1000 := by
    rw [List.length_zip]
    have := (tab_sizes hc).2.2
    omega
  have := clN_len _ hz (frontsOf (rLines s).1).length (headsOf (rLines s).1).length (by omega) ((headsOf (rLines s).1).length + 1) 0
  unfold clashF clashL
  omega
theorem clB_len (s : ByteArray) : (clB s).length ≤ 10000000000 := by
  unfold clB
  split
  · rename_i hc; exact clashF_len hc
  · simp
theorem clashes_both (s : ByteArray) (w : World) (hs : s.size ≤ maxLen) : Calls Tryz.prog 4 #[.string s] w fun e w' => ClaB s w e w' := by
  by_cases hc : (checkF s).1 = 0
  · obtain ⟨hT, hR⟩ := tab_ok (check_zero hc)
    refine (clashes_good s w hs hc (allF_ok hT hR).ok).mono ?_
    rintro e w' ⟨v, h1, h2, h3⟩
    exact ⟨v, by rw [hc]; exact h1, by unfold clB; rw [if_pos hc]; exact h3, h2⟩
  · refine (clashes_bad s w hs hc).mono ?_
    rintro e w' ⟨h1, h2⟩
    exact ⟨_, h1, by unfold clB; rw [if_neg hc]; exact World.ownsRow_nil _ _ _ _, h2⟩
set_option maxRecDepth 20000 in
set_option maxHeartbeats 2000000 in
theorem zclashes_good (s : ByteArray) (w : World) (hs : s.size ≤ maxLen) (hc : (checkF s).1 = 0) :
    Calls Tryz.prog 5 #[.string s] w fun e w' => ClashRet s w e w' := by
  have hc' := check_zero hc
  have RD := hid (zread_n s w hs hc')
  have hCL := clash_is hc'
  have hlen := clashF_len hc
  have CL := hid (fun (W : World) (b : Nat) (hS : SpecN W b (frontsOf (rLines s).1).length (headsOf (rLines s).1).length (codesOf (frontsOf (rLines s).1).length (tableOf (rLines s).1))) => zclashes_any W b _ _ _ (num_ok hc') hS (by rw [hCL]; exact hlen))
  rw [hCL] at CL
  unfold ClashRet
  unfold ReadN at RD
  generalize clashF s = CF at CL
  clear hc hc' hCL hlen
  go_enter Tryz.func5, Tryz.ntmps5
  go_wp2_with (first
    | (go_at_call 9; refine (RD.out).mono ?_; rintro e w1 ⟨b, pl, rfl, hS1, hf1⟩; have HS1 := hid hS1; have HF1 := hid hf1; clear hS1 hf1)
    | (go_at_call 10; refine (CL.out _ b HS1.out).mono ?_; rintro e w2 ⟨v, rfl, hO, hf2⟩; obtain ⟨ao, cp, hv⟩ := own_form hO; subst hv; have HO := hid hO; have HF2 := hid hf2; clear hO hf2))
  go_ret2
  exact ⟨_, rfl, HF1.out.trans HF2.out, ownsRow_base HO.out HF1.out.size⟩
set_option maxRecDepth 20000 in
set_option maxHeartbeats 2000000 in
theorem zclashes_bad (s : ByteArray) (w : World) (hs : s.size ≤ maxLen) (hc : (checkF s).1 ≠ 0) :
    Calls Tryz.prog 5 #[.string s] w fun e w' => e = .returned (.tuple #[.slice none 0 0, .int .i64 (checkF s).1]) ∧ Fresh w w' := by
  have RD := hid (zread_any s w hs)
  have c0 : ((checkF s).1 != 0) = true := by simpa using hc
  clear hc
  go_enter Tryz.func5, Tryz.ntmps5
  go_wp2_with (first
    | (go_at_call 9; refine (RD.out).mono ?_; rintro e w1 ⟨p, pl, rfl, hf1, _, _, _⟩; have HF1 := hid hf1; clear hf1))
  go_ret2
  exact ⟨rfl, HF1.out⟩
theorem zclashes_both (s : ByteArray) (w : World) (hs : s.size ≤ maxLen) : Calls Tryz.prog 5 #[.string s] w fun e w' => ClaB s w e w' := by
  by_cases hc : (checkF s).1 = 0
  · refine (zclashes_good s w hs hc).mono ?_
    rintro e w' ⟨v, h1, h2, h3⟩
    exact ⟨v, by rw [hc]; exact h1, by unfold clB; rw [if_pos hc]; exact h3, h2⟩
  · refine (zclashes_bad s w hs hc).mono ?_
    rintro e w' ⟨h1, h2⟩
    exact ⟨_, h1, by unfold clB; rw [if_neg hc]; exact World.ownsRow_nil _ _ _ _, h2⟩
def ldCz (v : Value) : Sem Value := Instr.loadAt 30 v
theorem ldCz_rule (v : Value) : Instr.loadAt 30 v = ldCz v := rfl
theorem szClz : (Tryz.prog.info? 30).map (·.size) = some 4 := by kernel_rfl
theorem ldCz_mid {w : World} {g o : Nat} {h t a b : Int} (hr : w.rangeAt g o (Cl.mk h t a b).cells) : (ldCz (.pointer (some ⟨g, o, none⟩))).run Tryz.prog w = .ok (.agg (clA h t a b)) w :=
  run_loadAt_mid w g o _ _ _ hr Tryz.underlying30 rfl szClz
attribute [local go_sem ↓] ldCz_rule
set_option maxRecDepth 20000 in
set_option maxHeartbeats 2000000 in
theorem clashed_any (s : ByteArray) (w : World) (hs : s.size ≤ maxLen) :
    Calls Tryz.prog 3 #[.string s] w fun e w' => e = .returned (.bool true) ∧ Fresh w w' := by
  have A := hid (fun w => clashes_both s w hs)
  have Bq := hid (fun w => zclashes_both s w hs)
  have NU := hid (fun e w => num_any e w)
  have hl := clB_len s
  unfold ClaB at A Bq
  generalize clB s = L at A Bq hl
  generalize (checkF s).1 = cc at A Bq
  go_enter Tryz.func3, Tryz.ntmps3
  go_wp2_with (first
    | (go_at_call 4; refine (A.out _).mono ?_; rintro e w1 ⟨vl, rfl, hO1, hf1⟩; obtain ⟨la, lc, hv⟩ := own_form hO1; subst hv; have HO1 := hid hO1; have HF1 := hid hf1; clear hO1 hf1)
    | (go_at_call 5; refine (Bq.out _).mono ?_; rintro e w2 ⟨vm, rfl, hO2, hf2⟩; obtain ⟨ma, mc, hv⟩ := own_form hO2; subst hv; have HO2 := hid hO2; have HF2 := hid hf2; clear hO2 hf2)
    | (go_at_call 6; refine (NU.out _ _).mono ?_; rintro e w' ⟨rfl, hw⟩; rw [hw]; clear hw))
  have HFX := hid (HF1.out.trans HF2.out)
  have RA : Hid (∀ m, RowAt Cl.cells 4 30 (w2.drewN m) (.slice la L.length lc) L) := hid (fun m => RowAt.fresh ⟨ownsRow_base HO1.out (Nat.zero_le _), fun x _ => rfl⟩ (HF2.out.trans (fdrewR w2 m)))
  have RB : Hid (∀ m, RowAt Cl.cells 4 30 (w2.drewN m) (.slice ma L.length mc) L) := hid (fun m => RowAt.fresh ⟨ownsRow_base HO2.out (Nat.zero_le _), fun x _ => rfl⟩ (fdrewR w2 m))
  clear HO1 HO2 HF1 HF2 A Bq NU
  go_loopw [7] (fun x7 wr => ∃ (i m : Nat), x7 = .int .i64 i ∧ wr = w2.drewN m ∧ i ≤ L.length) (fun x _ => 10000000001 - (intOf x).toNat)
  case atStart => exact ⟨0, 0, rfl, rfl, by omega⟩
  case round =>
    obtain ⟨i, m, rfl, rfl, hi⟩ := hrel
    have HME := hid (meas (B := 10000000001) i (by omega))
    by_cases hlt : i < L.length
    · have k1 : (i : Int) < (L.length : Int) := by omega
      obtain ⟨g, c', hg⟩ := Joins.ownsRow_form (RA.out 0).own (by omega)
      rw [Value.slice.injEq] at hg
      obtain ⟨rfl, hx, rfl⟩ := hg
      clear hx
      obtain ⟨g2, c2', hg2⟩ := Joins.ownsRow_form (RB.out 0).own (by omega)
      rw [Value.slice.injEq] at hg2
      obtain ⟨rfl, hx, rfl⟩ := hg2
      clear hx
      have r1 := fun n => (RA.out (m + n)).range i hlt
      have r2 := fun n => (RB.out (m + n)).range i hlt
      simp only [← World.drewN_drewN] at r1 r2
      generalize L[i] = li at r1 r2
      obtain ⟨h, t, a, b⟩ := li
      generalize hW : w2.drewN m = W at r1 r2 ⊢
      have HW := hid hW
      have l1 : ∀ n, (ldCz (.pointer (some ⟨g, i * 4, none⟩))).run Tryz.prog (W.drewN n) = .ok (.agg (clA h t a b)) (W.drewN n) := fun n => ldCz_mid (r1 n)
      have l2 : ∀ n, (ldCz (.pointer (some ⟨g2, i * 4, none⟩))).run Tryz.prog (W.drewN n) = .ok (.agg (clA h t a b)) (W.drewN n) := fun n => ldCz_mid (r2 n)
      have q1 : ∀ w, (Op.equalIn 10000 30 (.agg (clA h t a b)) (.agg (clA h t a b))).run Tryz.prog w = .ok true w := fun w => eqCl 9996 h t a b w
      have g1 := guardCl
      clear r1 r2 hW
      go_wp2_with fail
      go_quiet (fail)
      go_wp2
      go_roundw
      case rel => exact ⟨i + 1, m + nq, by go_num, by rw [← HW.out, World.drewN_drewN], by omega⟩
      case measure => exact HME.out
    · have k1 : ¬ (i : Int) < (L.length : Int) := by omega
      go_wp2
      go_ret
      exact ⟨rfl, HFX.out.trans (fdrewR _ _)⟩
end Go.Proofs.YtcpgklcimacngaaGreat
