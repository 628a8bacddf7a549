import Derived.Test.YtolpddkpfigidaaKc4
namespace Go.Proofs.Ytolpddkpfigidaa
open Go.RowKit
set_option linter.unusedVariables false
set_option linter.unusedSimpArgs false

/-- what stands behind each head in a production is in its Follow -/
def BehOk (svs : List SV) (nR : Nat) (q : Nat) (sy : List Int) : Prop := ∀ j (hj : j < sy.length), sy[j] < 0 →
  (∀ t (ht : t < (kaF svs (sy.drop (j + 1)) (List.replicate (nR + 1) false)).1.length), (kaF svs (sy.drop (j + 1)) (List.replicate (nR + 1) false)).1[t] = true → (listT (hdAt svs sy[j]).fo).any (· == (t : Int)) = true) ∧
  ((kaF svs (sy.drop (j + 1)) (List.replicate (nR + 1) false)).2 = true → ∀ s, svs[q]? = some s → ∀ k ∈ listT s.hd.fo, (listT (hdAt svs sy[j]).fo).any (· == k) = true)

set_option maxRecDepth 20000 in
set_option maxHeartbeats 8000000 in
theorem behind_true (K : KP) (w : World) (nR : Nat) (head : List Int) (syms : List (List Int)) (svs : List SV) (h : KV K w nR head syms svs) (hn : svs.length ≤ 1000) (hR : nR ≤ 900) (hP : syms.length ≤ 1000)
    (hr : ∀ s ∈ svs, Rises (listT s.hd.fi) nR) (hsl : ∀ l ∈ syms, l.length ≤ 1000) (hok : ∀ l ∈ syms, ∀ s ∈ l, SymOk nR svs.length s) (p q : Nat) (hp : p < syms.length) (hq : q < svs.length) (hpq : head[p]? = some (q : Int)) (hbe : BehOk svs nR q syms[p]) :
    Calls Try.prog 28 #[bptr K.b, K.vl svs.length, .int .i64 p] w fun e w' => e = .returned (.bool true) ∧ Fresh w w' := by
  have HK := hid h
  have k3 := h.k3
  have k5 := h.k5
  have hhl := h.hl
  have KA := hid (fun (W : World) (hW : Fresh w W) (v : Value) (l : List Int) (hv : IntAt W v l) (hl : l.length ≤ 1000) (ho : ∀ s ∈ l, SymOk nR svs.length s) => kahead_any K W nR head syms svs (h.fresh hW) hn (by omega) hr v l hv hl ho)
  have hp3 : p < head.length := by omega
  have c3 := h.hd p hp3
  have hpe : head[p] = (q : Int) := by rw [List.getElem?_eq_getElem hp3] at hpq; simpa using hpq
  rw [hpe] at c3
  obtain ⟨c5, hsy⟩ := h.sy p hp
  have hok1 := hok syms[p] (by simp)
  have hsl1 := hsl syms[p] (by simp)
  obtain ⟨_, _, u2, _, _⟩ := h.st5 q hq
  have lq := (h.ls svs[q] (by simp)).2
  have hl9 := listT_len svs[q].hd.fo
  have HQ : Hid (svs[q]? = some svs[q]) := List.getElem?_eq_getElem hq
  obtain ⟨b, a0, c0, a2, c2, g3, cc3, g5, cc5, gl, cl, sv⟩ := K
  dsimp only at k3 k5 c3 c5 hsy u2
  generalize syms[p] = sy at hbe hsy hok1 hsl1
  generalize svs[q] = sq at u2 lq hl9 HQ
  obtain ⟨sqh, sq1, sq2⟩ := sq
  dsimp only at u2 lq hl9
  have HBE := hid hbe
  have HLQ := hid lq
  generalize sv p = svi at c5 hsy
  have HSYW := hid hsy
  obtain ⟨sa, sc, es, hsc, hscell⟩ := hsy
  subst es
  obtain ⟨qa, qc, eq2, hqc, hqcell⟩ := lq
  subst eq2
  have HSC := hid hscell
  have HOK1 := hid hok1
  have HQC := hid hqcell
  have K3 := hid k3
  have K5 := hid k5
  have C3 := hid c3
  have C5 := hid c5
  have U2 := hid u2
  generalize hfl : listT sqh.fo = fl at *
  clear h hr hok hsl k3 k5 c3 c5 u2 hscell hqcell hok1 hbe hpe hpq
  dsimp only [KP.vl] at KA ⊢
  have hp1 : (p : Int) < (syms.length : Int) := by omega
  have hq1 : (q : Int) < (svs.length : Int) := by omega
  go_enter Try.func28, Try.ntmps28
  go_wp2
  go_loopw [7, 8, 9, 10, 11, 12, 13] (fun x7 _ _ _ _ _ _ wr => ∃ (j : Nat), x7 = .int .i64 j ∧ j ≤ sy.length ∧ Fresh w wr)
      (fun x _ _ _ _ _ _ _ => 1001 - (intOf x).toNat)
  case atStart => exact ⟨0, rfl, by omega, Mod.refl _ _⟩
  case round =>
    obtain ⟨j, rfl, hj, hfr⟩ := hrel
    obtain ⟨wo, hwo⟩ : ∃ wo, wo = wr := ⟨_, rfl⟩
    subst hwo
    have HME := hid (meas (B := 1001) j (by omega))
    have HFR := hid hfr
    have k5 := fcell' hfr K5.out
    have c5 := fcell' hfr C5.out
    by_cases hlt : j < sy.length
    · have hj1 : (j : Int) < (sy.length : Int) := by omega
      obtain ⟨gs, os, hsa, hcl⟩ := HSC.out j hlt
      subst hsa
      have c1 := fcell' hfr hcl
      obtain ⟨so1, so2⟩ := HOK1.out sy[j] (by simp)
      have hbj := HBE.out j hlt
      have HDR := hid ((HSYW.out.fresh hfr).drop (j + 1) (by omega))
      have HNO : Hid (∀ (W : World) (n : Nat), sy.length ≤ j + 1 → n = 0 → IntAt W (.slice (some ⟨gs, os, none⟩) n 0) (sy.drop (j + 1))) := fun W n h hn => IntAt.none (by apply List.drop_eq_nil_of_le; omega) hn
      have hdl : (sy.drop (j + 1)).length ≤ 1000 := by simp; omega
      have hdo : ∀ s ∈ sy.drop (j + 1), SymOk nR svs.length s := fun s hs => HOK1.out s (List.mem_of_mem_drop hs)
      have HKA := hid (fun v hv => KA.out wo hfr v (sy.drop (j + 1)) hv hdl hdo)
      have hkl := kaF_len svs (sy.drop (j + 1)) (List.replicate (nR + 1) false)
      rw [List.length_replicate] at hkl
      generalize kaF svs (sy.drop (j + 1)) (List.replicate (nR + 1) false) = ka at hbj HKA hkl
      generalize sy[j] = s at hbj c1 so1 so2
      obtain ⟨kf, ke⟩ := ka
      dsimp only at hbj HKA hkl
      clear hcl hfr hdl hdo
      by_cases hs : 0 ≤ s
      · have b2 : decide (0 ≤ s) = true := by simpa using hs
        clear hbj
        go_wp2
        go_roundw
        case rel => exact ⟨j + 1, by go_num, by omega, HFR.out⟩
        case measure => exact HME.out
      · obtain ⟨hb1, hb2⟩ := hbj (by omega)
        obtain ⟨k, hk⟩ : ∃ k : Nat, -1 - s = k := ⟨(-1 - s).toNat, by omega⟩
        have hkl2 : k < svs.length := by omega
        have hhd : hdAt svs s = svs[k].hd := by unfold hdAt; rw [hk]; simp [hkl2]
        rw [hhd] at hb1 hb2
        obtain ⟨_, _, t2, _, _⟩ := HK.out.st5 k hkl2
        have lk := (HK.out.ls svs[k] (by simp)).2
        have hk9 := listT_len svs[k].hd.fo
        dsimp only at t2
        generalize svs[k] = sk at hb1 hb2 t2 lk hk9
        obtain ⟨skh, sk1, sk2⟩ := sk
        dsimp only at hb1 hb2 t2 lk hk9
        generalize listT skh.fo = kl at hb1 hb2 lk hk9
        have HLK := hid lk
        obtain ⟨ya, yc, ey, _, _⟩ := lk
        subst ey
        have T2 := hid t2
        have HB1 := hid hb1
        have HB2 : Hid (ke = true → ∀ k ∈ fl, kl.any (· == k) = true) := fun e => hb2 e _ HQ.out |> fun f => by
          dsimp only at f; rw [hfl] at f; exact f
        have b2 : decide (0 ≤ s) = false := by simpa using hs
        have hkn : (k : Int) < (svs.length : Int) := by omega
        have hk0 : (0 : Int) ≤ (k : Int) := by omega
        have hsb : -2000 ≤ s := by omega
        have hs' : s < 0 := by omega
        have HWI := hid (fun (W : World) (hW : Fresh w W) (vs : Value) (hv : BoolAt W vs kf) => within_true W vs (.slice ya kl.length yc) kf kl hv (by omega) (HLK.out.fresh hW) (by omega) (fun t ht e => HB1.out t ht e))
        have HHA := hid (fun (W : World) (hW : Fresh w W) (n : Int) => khas_any W (.slice ya kl.length yc) kl n (HLK.out.fresh hW) (by omega))
        clear hb1 hb2 t2 hhd hs
        rcases (show sc = j + 1 ∨ ¬ sc = j + 1 by omega) with hsc1 | hsc1
        · subst hsc1
          clear HDR
          go_wp2_with (first
            | (go_at_call 27; refine (HWI.out w1 HF1.out _ HBA.out).mono ?_; rintro e w2 ⟨rfl, hw2⟩; rw [hw2]; clear hw2 w2)
            | (go_at_call 31; refine (HKA.out _ (HNO.out _ _ (by omega) (by first | rfl | omega))).mono ?_; rintro e w1 ⟨rfl, hf1, hb1⟩; have HF1 := hid (HFR.out.trans hf1); have HBA : Hid (BoolAt w1 (.slice (some ⟨wo.heap.size, 0, none⟩) (nR + 1) (nR + 1)) kf) := (by unfold Hid; rw [← hkl]; exact ⟨_, _, rfl, fun j hj => (by rw [cellOf hb1, tk_at hj])⟩); have t2 := fcell' HF1.out T2.out; clear hb1))
          clear t2 k5 c5 c1
          go_loopw [12, 13] (fun x12 _ wr => ∃ (i : Nat), x12 = .int .i64 i ∧ i ≤ fl.length ∧ Fresh w wr)
              (fun x _ _ => 1001 - (intOf x).toNat)
          case atStart => exact ⟨0, rfl, by omega, HF1.out⟩
          case round =>
            obtain ⟨i, rfl, hi, hfi⟩ := hrel
            have HMI := hid (meas (B := 1001) i (by omega))
            have HFI := hid hfi
            have k3 := fcell' hfi K3.out
            have c3 := fcell' hfi C3.out
            have u2 := fcell' hfi U2.out
            have t2 := fcell' hfi T2.out
            by_cases hli : i < fl.length
            · have hi1 : (i : Int) < (fl.length : Int) := by omega
              have b5 : decide ((i : Int) < (fl.length : Int)) = true := by simpa using hi1
              cases ke
              · clear t2
                go_wp2
                go_roundw
                case rel => exact ⟨j + 1, by go_num, by omega, HFI.out⟩
                case measure => exact HME.out
              · obtain ⟨gq, oq, hqa, hcq⟩ := HQC.out i hli
                subst hqa
                have c7 := fcell' hfi hcq
                have hany := HB2.out rfl fl[i] (by simp)
                have HHB := hid (fun (W : World) (hW : Fresh w W) => HHA.out W hW fl[i])
                rw [hany] at HHB
                generalize fl[i] = fv at c7 HHB
                clear hany hcq hfi
                go_wp2_with fail
                go_quiet (first
                  | (go_at_call 29; refine Calls.quiet_of_same (HHB.out _ (HFI.out.trans (fdrewN' _ _)))))
                go_wp2
                go_roundw
                case rel => exact ⟨i + 1, by go_num, by omega, HFI.out.trans (fdrewN' _ _)⟩
                case measure => exact HMI.out
            · have hie : i = fl.length := by omega
              have hi2 : ¬ (i : Int) < (fl.length : Int) := by omega
              have b5 : decide ((i : Int) < (fl.length : Int)) = false := by simpa using hi2
              clear t2
              go_wp2
              go_roundw
              case rel => exact ⟨j + 1, by go_num, by omega, HFI.out⟩
              case measure => exact HME.out
        · have hsc2 : ¬ sc - (j + 1) = 0 := by omega
          clear HNO
          go_wp2_with (first
            | (go_at_call 27; refine (HWI.out w1 HF1.out _ HBA.out).mono ?_; rintro e w2 ⟨rfl, hw2⟩; rw [hw2]; clear hw2 w2)
            | (go_at_call 31; refine (HKA.out _ HDR.out).mono ?_; rintro e w1 ⟨rfl, hf1, hb1⟩; have HF1 := hid (HFR.out.trans hf1); have HBA : Hid (BoolAt w1 (.slice (some ⟨wo.heap.size, 0, none⟩) (nR + 1) (nR + 1)) kf) := (by unfold Hid; rw [← hkl]; exact ⟨_, _, rfl, fun j hj => (by rw [cellOf hb1, tk_at hj])⟩); have t2 := fcell' HF1.out T2.out; clear hb1))
          clear t2 k5 c5 c1
          go_loopw [12, 13] (fun x12 _ wr => ∃ (i : Nat), x12 = .int .i64 i ∧ i ≤ fl.length ∧ Fresh w wr)
              (fun x _ _ => 1001 - (intOf x).toNat)
          case atStart => exact ⟨0, rfl, by omega, HF1.out⟩
          case round =>
            obtain ⟨i, rfl, hi, hfi⟩ := hrel
            have HMI := hid (meas (B := 1001) i (by omega))
            have HFI := hid hfi
            have k3 := fcell' hfi K3.out
            have c3 := fcell' hfi C3.out
            have u2 := fcell' hfi U2.out
            have t2 := fcell' hfi T2.out
            by_cases hli : i < fl.length
            · have hi1 : (i : Int) < (fl.length : Int) := by omega
              have b5 : decide ((i : Int) < (fl.length : Int)) = true := by simpa using hi1
              cases ke
              · clear t2
                go_wp2
                go_roundw
                case rel => exact ⟨j + 1, by go_num, by omega, HFI.out⟩
                case measure => exact HME.out
              · obtain ⟨gq, oq, hqa, hcq⟩ := HQC.out i hli
                subst hqa
                have c7 := fcell' hfi hcq
                have hany := HB2.out rfl fl[i] (by simp)
                have HHB := hid (fun (W : World) (hW : Fresh w W) => HHA.out W hW fl[i])
                rw [hany] at HHB
                generalize fl[i] = fv at c7 HHB
                clear hany hcq hfi
                go_wp2_with fail
                go_quiet (first
                  | (go_at_call 29; refine Calls.quiet_of_same (HHB.out _ (HFI.out.trans (fdrewN' _ _)))))
                go_wp2
                go_roundw
                case rel => exact ⟨i + 1, by go_num, by omega, HFI.out.trans (fdrewN' _ _)⟩
                case measure => exact HMI.out
            · have hie : i = fl.length := by omega
              have hi2 : ¬ (i : Int) < (fl.length : Int) := by omega
              have b5 : decide ((i : Int) < (fl.length : Int)) = false := by simpa using hi2
              clear t2
              go_wp2
              go_roundw
              case rel => exact ⟨j + 1, by go_num, by omega, HFI.out⟩
              case measure => exact HME.out
    · have hie : j = sy.length := by omega
      have hi2 : ¬ (j : Int) < (sy.length : Int) := by omega
      go_wp2
      go_ret
      exact ⟨rfl, HFR.out⟩
end Go.Proofs.Ytolpddkpfigidaa
