import Derived.Test.YtolpddkpfigidaaKc3
namespace Go.Proofs.Ytolpddkpfigidaa
open Go.RowKit
set_option linter.unusedVariables false
set_option linter.unusedSimpArgs false

theorem orK_cons (k : Nat) (x y : Bool) (xs ys : List Bool) : orK (k + 1) (x :: xs) (y :: ys) = (x || y) :: orK k xs ys := rfl
theorem orK_set' : ∀ (k : Nat) (a b : List Bool), a.length = b.length → k < a.length → (orK k a b).set k (a.getD k false || b.getD k false) = orK (k + 1) a b
  | 0, x :: xs, y :: ys, _, _ => by simp [orK, orL]
  | k + 1, x :: xs, y :: ys, h, hk => by
    have ih := orK_set' k xs ys (by simpa using h) (by simpa using hk)
    rw [orK_cons, orK_cons, List.set_cons_succ, ← ih]; simp
theorem orK_len' : ∀ (k : Nat) (a b : List Bool), a.length = b.length → (orK k a b).length = a.length
  | 0, a, b, _ => by simp [orK]
  | k + 1, [], [], _ => by simp [orK, orL]
  | k + 1, x :: xs, y :: ys, h => by rw [orK_cons]; simp [orK_len' k xs ys (by simpa using h)]
theorem orK_atD' : ∀ (k : Nat) (a b : List Bool), a.length = b.length → k < a.length → (orK k a b).getD k false = a.getD k false
  | 0, a, b, _, _ => by simp [orK]
  | k + 1, x :: xs, y :: ys, h, hk => by
    have := orK_atD' k xs ys (by simpa using h) (by simpa using hk)
    rw [orK_cons]; simpa using this
theorem orK_end (a b : List Bool) (h : a.length = b.length) : orK a.length a b = orL a b := by
  unfold orK
  rw [List.take_of_length_le (by simp [orL, h]), List.drop_length]; simp

def alB (svs : List SV) (s : Int) : Bool := decide (0 ≤ s) || (hdAt svs s).fru
def unL (svs : List SV) (nR : Nat) (hd : Int) : List (Int × List Int) → List Bool → Bool → Bool → List Bool × Bool × Bool
  | [], out, em, fr => (out, em, fr)
  | p :: l, out, em, fr => if p.1 = hd then
      unL svs nR hd l (orL out (kaF svs p.2 (List.replicate (nR + 1) false)).1) (em || (kaF svs p.2 (List.replicate (nR + 1) false)).2) (fr || p.2.all (alB svs))
    else unL svs nR hd l out em fr

set_option maxRecDepth 20000 in
set_option maxHeartbeats 8000000 in
theorem kunion_any (K : KP) (w : World) (nR : Nat) (head : List Int) (syms : List (List Int)) (svs : List SV) (h : KV K w nR head syms svs) (hn : svs.length ≤ 1000) (hR : nR ≤ 1000) (hP : syms.length ≤ 1000)
    (hr : ∀ s ∈ svs, Rises (listT s.hd.fi) nR) (hsl : ∀ l ∈ syms, l.length ≤ 1000) (hok : ∀ l ∈ syms, ∀ s ∈ l, SymOk nR svs.length s) (hd : Int) :
    Calls Try.prog 26 #[bptr K.b, K.vl svs.length, .int .i64 hd] w fun e w' =>
      e = .returned (.tuple #[.slice (some ⟨w.heap.size, 0, none⟩) (nR + 1) (nR + 1), .bool (unL svs nR hd (head.zip syms) (List.replicate (nR + 1) false) false false).2.1, .bool (unL svs nR hd (head.zip syms) (List.replicate (nR + 1) false) false false).2.2]) ∧ Fresh w w' ∧ w'.heap[w.heap.size]? = some (.cells (tkA (unL svs nR hd (head.zip syms) (List.replicate (nR + 1) false) false false).1) 4 (0, 0)) := by
  have HK := hid h
  have HOK := hid hok
  have HSL := hid hsl
  have k0 := h.k0
  have k3 := h.k3
  have k5 := h.k5
  have hhl := h.hl
  have h2 := fun w => run_make_row' (P := Try.prog) 47 4 (.bool false) 1 Try.underlying47 (by kernel_rfl) rfl .i64 .i64 (nR + 1) (by omega) (by omega) w
  simp only [Int.natCast_add, Int.cast_ofNat_Int] at h2
  have KA := hid (fun (W : World) (hW : Fresh w W) (v : Value) (l : List Int) (hv : IntAt W v l) (hl : l.length ≤ 1000) (ho : ∀ s ∈ l, SymOk nR svs.length s) => kahead_any K W nR head syms svs (h.fresh hW) hn hR hr v l hv hl ho)
  generalize hRES : unL svs nR hd (head.zip syms) (List.replicate (nR + 1) false) false false = RES
  have HRES0 := hid hRES
  clear h hr hok hsl hRES
  obtain ⟨b, a0, c0, a2, c2, g3, c3, g5, c5, gl, cl, sv⟩ := K
  dsimp only at k0 k3 k5
  have K3 := hid k3
  have K5 := hid k5
  clear k3 k5
  dsimp only [KP.vl] at KA ⊢
  go_enter Try.func26, Try.ntmps26
  go_wp2
  go_loopw [10, 11, 12, 13, 14, 15, 16, 17, 18] (fun x10 x11 x12 _ _ _ _ _ _ wr => ∃ (i : Nat) (out : List Bool) (em fr : Bool), x10 = .bool em ∧ x11 = .bool fr ∧ x12 = .int .i64 i ∧ i ≤ syms.length ∧ out.length = nR + 1 ∧ unL svs nR hd ((head.zip syms).drop i) out em fr = RES ∧ Fresh w wr ∧ wr.heap[w.heap.size]? = some (.cells (tkA out) 4 (0, 0)))
      (fun _ _ x _ _ _ _ _ _ _ => 1001 - (intOf x).toNat)
  case atStart =>
    refine ⟨0, List.replicate (nR + 1) false, false, false, rfl, rfl, rfl, by omega, by simp, HRES0.out, (Mod.refl _ w).alloc _, ?_⟩
    rw [← made_tk]; exact heap_alloc_at _ _
  case round =>
    obtain ⟨i, out, em, fr, rfl, rfl, rfl, hi, hol, hres, hfr, hb⟩ := hrel
    obtain ⟨wo, hwo⟩ : ∃ wo, wo = wr := ⟨_, rfl⟩
    subst hwo
    have HME := hid (meas (B := 1001) i (by omega))
    have HFR := hid hfr
    have HB := hid hb
    have HOL := hid hol
    have hblt := heap_lt hb
    have k3 := fcell' hfr K3.out
    have k5 := fcell' hfr K5.out
    clear hb hol
    by_cases hlt : i < syms.length
    · have hi1 : (i : Int) < (syms.length : Int) := by omega
      have hzl : i < (head.zip syms).length := by simp; omega
      rw [List.drop_eq_getElem_cons hzl] at hres
      have hze : (head.zip syms)[i] = (head[i], syms[i]) := by simp
      rw [hze] at hres
      unfold unL at hres
      dsimp only at hres
      have c3 := fcell' hfr (HK.out.hd i (by omega))
      obtain ⟨c5, hsy⟩ := HK.out.sy i hlt
      have HSYW := hid hsy
      have c5W := hid c5
      replace c5 := fcell' hfr c5
      have hok1 := HOK.out syms[i] (by simp)
      have hsl1 := HSL.out syms[i] (by simp)
      dsimp only at c3 c5 c5W HSYW
      generalize head[i] = hp at hres c3
      generalize syms[i] = sy at hres HSYW hok1 hsl1
      obtain ⟨sa, sc, es, hsc, hscell⟩ := HSYW.out
      generalize sv i = svi at c5 c5W es HSYW
      subst es
      have HSC := hid hscell
      have HOK1 := hid hok1
      clear hscell hfr hsy hok1
      by_cases hh : hp = hd
      · rw [if_pos hh] at hres
        have b1 : (hp != hd) = false := by simp [hh]
        have HKA := hid (KA.out wo HFR.out _ sy (HSYW.out.fresh HFR.out) hsl1 HOK1.out)
        have hkl := kaF_len svs sy (List.replicate (nR + 1) false)
        rw [List.length_replicate] at hkl
        generalize kaF svs sy (List.replicate (nR + 1) false) = ka at hres HKA hkl
        obtain ⟨kf, ke⟩ := ka
        dsimp only at hres HKA hkl
        have HKL := hid hkl
        have HSE : Hid (out.length = kf.length) := by unfold Hid; rw [HOL.out, HKL.out]
        have HOE : Hid ((orL out kf).length = nR + 1) := by unfold Hid; simp [orL, HOL.out, HKL.out]
        have HRES := hid hres
        clear hres hkl
        go_wp2_with (first
          | (go_at_call 31; refine HKA.out.mono ?_; rintro e w1 ⟨rfl, hf1, hb1⟩; have HF1 := hid hf1; have HB1 := hid hb1; clear hf1 hb1))
        go_loopw [15] (fun x15 wr => ∃ (t : Nat), x15 = .int .i64 t ∧ t ≤ nR + 1 ∧ Fresh w wr ∧ wr.heap[w.heap.size]? = some (.cells (tkA (orK t out kf)) 4 (0, 0)) ∧ wr.heap[wo.heap.size]? = some (.cells (tkA kf) 4 (0, 0)))
            (fun x _ => 2001 - (intOf x).toNat)
        case atStart =>
          refine ⟨0, rfl, by omega, HFR.out.trans HF1.out, ?_, HB1.out⟩
          rw [orK_zero]; exact HF1.out.at HB.out (fun x => x)
        case round =>
          obtain ⟨t, rfl, ht, hft, hbt, hbf⟩ := hrel
          have HMT := hid (meas (B := 2001) t (by omega))
          have HFT := hid hft
          have HBT := hid hbt
          have HBF := hid hbf
          have k3 := fcell' hft K3.out
          have k5 := fcell' hft K5.out
          have c5 := fcell' hft c5W.out
          clear hft hbt hbf
          by_cases hlt2 : t < nR + 1
          · have ht1 : (t : Int) < (nR : Int) + 1 := by omega
            have e1 : wr.cell? ⟨w.heap.size, t, none⟩ = some (.bool (out.getD t false)) := by
              rw [cellOf HBT.out, tk_atD (by rw [orK_len' t out kf HSE.out, HOL.out]; exact hlt2), orK_atD' t out kf HSE.out (by rw [HOL.out]; exact hlt2)]
            have e2 : wr.cell? ⟨wo.heap.size, t, none⟩ = some (.bool (kf.getD t false)) := by rw [cellOf HBF.out, tk_atD (by rw [HKL.out]; exact hlt2)]
            have z1 := frozenOf HBT.out t
            have HST := hid (orK_set' t out kf HSE.out (by rw [HOL.out]; exact hlt2))
            generalize out.getD t false = o1 at e1 HST
            generalize kf.getD t false = o2 at e2 HST
            cases o1
            all_goals
              go_wp2
              go_roundw
              case rel =>
                refine ⟨t + 1, by go_num, by omega, HFT.out.setCell (by simp) _, ?_, heap_setCell_prev HBF.out (by dsimp only; omega)⟩
                rw [Proofs.Ytolpddkpfigidaa.heap_setCell_same HBT.out, tk_set, ← HST.out]; rfl
              case measure => exact HMT.out
          · have hte : t = nR + 1 := by omega
            have ht2 : ¬ (t : Int) < (nR : Int) + 1 := by omega
            have HBO : Hid (wr.heap[w.heap.size]? = some (.cells (tkA (orL out kf)) 4 (0, 0))) := by
              unfold Hid; rw [HBT.out, hte, ← HOL.out, orK_end _ _ HSE.out]
            obtain ⟨wt, hwt⟩ : ∃ wt, wt = wr := ⟨_, rfl⟩
            subst hwt
            generalize hAL : sy.all (alB svs) = AL at HRES
            have HAL := hid hAL
            clear hAL
            go_wp2
            go_loopw [16, 17, 18] (fun x16 x17 _ wr => ∃ (j : Nat) (al : Bool), x16 = .bool al ∧ x17 = .int .i64 j ∧ j ≤ sy.length ∧ (al && (sy.drop j).all (alB svs)) = AL ∧ wr = wt)
                (fun _ x _ _ => 1001 - (intOf x).toNat)
            case atStart => exact ⟨0, true, rfl, rfl, by omega, by rw [Bool.true_and]; exact HAL.out, rfl⟩
            case round =>
              obtain ⟨j, al, rfl, rfl, hj, hal, hwr⟩ := hrel
              subst hwr
              have HMJ := hid (meas (B := 1001) j (by omega))
              by_cases hlj : j < sy.length
              · have hj1 : (j : Int) < (sy.length : Int) := by omega
                rw [List.drop_eq_getElem_cons hlj, List.all_cons] at hal
                obtain ⟨gs, os, rfl, hcs⟩ := HSC.out j hlj
                have c7 := fcell' HFT.out hcs
                obtain ⟨so1, so2⟩ := HOK1.out sy[j] (by simp)
                generalize sy[j] = s at hal c7 so1 so2
                clear hcs
                cases al
                · rw [Bool.false_and] at hal
                  have HALL := hid hal
                  clear hal
                  go_wp2
                  go_roundw
                  case rel => exact ⟨j + 1, false, rfl, by go_num, by omega, by rw [Bool.false_and]; exact HALL.out, by first | rfl | trivial⟩
                  case measure => exact HMJ.out
                · rw [Bool.true_and] at hal
                  by_cases hs : 0 ≤ s
                  · have e1 : alB svs s = true := by unfold alB; simp [hs]
                    rw [e1] at hal
                    have HALL := hid hal
                    have b2 : decide (0 ≤ s) = true := by simpa using hs
                    clear hal
                    go_wp2
                    go_roundw
                    case rel => exact ⟨j + 1, true, rfl, by go_num, by omega, HALL.out, by first | rfl | trivial⟩
                    case measure => exact HMJ.out
                  · obtain ⟨k, hk⟩ : ∃ k : Nat, -1 - s = k := ⟨(-1 - s).toNat, by omega⟩
                    have hkl : k < svs.length := by omega
                    have hhd : hdAt svs s = svs[k].hd := by unfold hdAt; rw [hk]; simp [hkl]
                    have e1 : alB svs s = svs[k].hd.fru := by unfold alB; rw [hhd]; simp [hs]
                    rw [e1] at hal
                    obtain ⟨_, _, _, _, t4⟩ := (HK.out.fresh HFT.out).st5 k hkl
                    dsimp only at t4
                    generalize svs[k].hd.fru = fv at hal t4
                    have HALL := hid hal
                    have b2 : decide (0 ≤ s) = false := by simpa using hs
                    have hkn : (k : Int) < (svs.length : Int) := by omega
                    have hk0 : (0 : Int) ≤ (k : Int) := by omega
                    have hsb : -2000 ≤ s := by omega
                    have hs' : s < 0 := by omega
                    clear hal hhd e1 hs
                    go_wp2
                    go_roundw
                    case rel => exact ⟨j + 1, fv, rfl, by go_num, by omega, HALL.out, by first | rfl | trivial⟩
                    case measure => exact HMJ.out
              · have hje : j = sy.length := by omega
                have hj2 : ¬ (j : Int) < (sy.length : Int) := by omega
                rw [hje, List.drop_length] at hal
                have hal2 : al = AL := by simpa using hal
                subst hal2
                clear hal
                cases em
                all_goals
                  cases fr
                  all_goals
                    go_wp2
                    go_roundw
                    case rel =>
                      refine ⟨i + 1, orL out kf, _, _, rfl, rfl, by go_num, by omega, HOE.out, ?_, HFT.out, HBO.out⟩
                      first
                        | exact HRES.out
                        | simpa using HRES.out
                    case measure => exact HME.out
      · rw [if_neg hh] at hres
        have b1 : (hp != hd) = true := by simp [hh]
        have HRES := hid hres
        clear hres
        go_wp2
        go_roundw
        case rel => exact ⟨i + 1, out, em, fr, rfl, rfl, by go_num, by omega, HOL.out, HRES.out, HFR.out, HB.out⟩
        case measure => exact HME.out
    · have hie : i = syms.length := by omega
      have hi2 : ¬ (i : Int) < (syms.length : Int) := by omega
      rw [List.drop_eq_nil_of_le (by simp; omega)] at hres
      have hres2 : (out, em, fr) = RES := hres
      have HRES := hid hres2
      clear hres hres2 hfr
      go_wp2
      go_ret3
      refine ⟨by rw [← HRES.out]; rfl, HFR.out, ?_⟩
      rw [← HRES.out]; exact HB.out
end Go.Proofs.Ytolpddkpfigidaa
