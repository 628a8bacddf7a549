import Derived.Test.YtcpgklcimacngaaGreatRa6
import Derived.Test.YtcpgklcimacngaaGreatRi4
import Derived.Deep.QuietTactic
import Derived.BigQuiet
import Derived.Laws.CopyOwn
import Derived.BigRegion
namespace Go.Proofs.YtcpgklcimacngaaGreat
open Go.RowKit
set_option linter.unusedVariables false
set_option linter.unusedSimpArgs false

/-- a row of slices -/
def SlAt (w : World) (v : Value) (l : List Value) : Prop :=
  ∃ ao cap, v = .slice ao l.length cap ∧ l.length ≤ cap ∧ ∀ j (h : j < l.length), ∃ g o, ao = some ⟨g, o, none⟩ ∧ w.cell? ⟨g, o + j, none⟩ = some l[j]
theorem SlAt.fresh {w w' : World} {v : Value} {l : List Value} (h : SlAt w v l) (hf : Fresh w w') : SlAt w' v l := by
  obtain ⟨ao, cap, h1, h2, h3⟩ := h
  refine ⟨ao, cap, h1, h2, fun j hj => ?_⟩
  obtain ⟨g, o, h4, h5⟩ := h3 j hj
  exact ⟨g, o, h4, fcell' hf h5⟩
/-- the numbers of a specification, as they lie in memory -/
structure NV (w : World) (b : Nat) (R H : Nat) (q : List Q1) (a0 : Option Addr) (c0 : Nat) (a1 : Option Addr) (c1 : Nat) (a2 : Option Addr) (c2 : Nat) (v3 v4 : Value) (sv : List Value) : Prop where
  k0 : w.cell? ⟨b, 0, none⟩ = some (.slice a0 R c0)
  k1 : w.cell? ⟨b, 1, none⟩ = some (.slice a1 q.length c1)
  k2 : w.cell? ⟨b, 2, none⟩ = some (.slice a2 H c2)
  k3 : w.cell? ⟨b, 3, none⟩ = some v3
  k4 : w.cell? ⟨b, 4, none⟩ = some v4
  r3 : IntAt w v3 (q.map Prod.fst)
  r4 : SlAt w v4 sv
  len : sv.length = q.length
  each : ∀ (i : Nat) (v : Value) (x : Q1), sv[i]? = some v → q[i]? = some x → IntAt w v x.2
theorem NV.fresh {w w' : World} {b R H : Nat} {q : List Q1} {a0 a1 a2 : Option Addr} {c0 c1 c2 : Nat} {v3 v4 : Value} {sv : List Value} (h : NV w b R H q a0 c0 a1 c1 a2 c2 v3 v4 sv) (hf : Fresh w w') : NV w' b R H q a0 c0 a1 c1 a2 c2 v3 v4 sv :=
  ⟨fcell' hf h.k0, fcell' hf h.k1, fcell' hf h.k2, fcell' hf h.k3, fcell' hf h.k4, h.r3.fresh hf, h.r4.fresh hf, h.len, fun i v x h1 h2 => (h.each i v x h1 h2).fresh hf⟩
/-- bounds on the numbers -/
structure QOk (R H : Nat) (q : List Q1) : Prop where
  r8 : R ≤ 8
  h8 : H ≤ 8
  p20 : q.length ≤ 20
  pos : 0 < q.length
  hd : ∀ x ∈ q, 0 ≤ x.1 ∧ x.1 < H
  sy : ∀ x ∈ q, x.2.length ≤ 6 ∧ ∀ c ∈ x.2, 0 ≤ c ∧ c < (R : Int) + 1 + H
def SpecN (w : World) (b : Nat) (R H : Nat) (q : List Q1) : Prop := ∃ a0 c0 a1 c1 a2 c2 v3 v4 sv, NV w b R H q a0 c0 a1 c1 a2 c2 v3 v4 sv
theorem SpecN.fresh {w w' : World} {b R H : Nat} {q : List Q1} (h : SpecN w b R H q) (hf : Fresh w w') : SpecN w' b R H q := by
  obtain ⟨a0, c0, a1, c1, a2, c2, v3, v4, sv, h⟩ := h
  exact ⟨a0, c0, a1, c1, a2, c2, v3, v4, sv, h.fresh hf⟩
theorem fdrewR (w : World) (n : Nat) : Fresh w (w.drewN n) := ⟨rfl, rfl, rfl, Nat.le_refl _, fun _ _ _ => rfl⟩

theorem base_any (w : World) (b R : Nat) (a0 : Option Addr) (c0 : Nat) (k0 : w.cell? ⟨b, 0, none⟩ = some (.slice a0 R c0)) (hR : R ≤ 1000) :
    Calls Tryz.prog 23 #[.pointer (some ⟨b, 0, none⟩)] w fun e w' => e = .returned (.int .i64 (bs R)) ∧ w' = w := by
  go_enter Tryz.func23, Tryz.ntmps23
  go_wp2
  go_ret
  exact ⟨by unfold bs; rfl, rfl⟩
theorem noth_drop (base : Int) (null : List Bool) (l : List Int) (i : Nat) (hi : i < l.length) : nothF base null (l.drop i) = ((decide (0 ≤ l[i] - base) && null.getD (l[i] - base).toNat false) && nothF base null (l.drop (i + 1))) := by
  unfold nothF
  rw [List.drop_eq_getElem_cons hi, List.all_cons]
set_option maxRecDepth 20000 in
set_option maxHeartbeats 2000000 in
theorem nothing_any (w : World) (b R H gn : Nat) (a0 : Option Addr) (c0 : Nat) (v : Value) (l : List Int) (null : List Bool) (k0 : w.cell? ⟨b, 0, none⟩ = some (.slice a0 R c0)) (hR : R ≤ 1000) (hH : H ≤ 1000) (hv : IntAt w v l) (hl : l.length ≤ 1000) (hn : BSet w gn null) (hnl : null.length = H)
    (hc : ∀ c ∈ l, 0 ≤ c ∧ c < (R : Int) + 1 + H) :
    Calls Tryz.prog 47 #[.pointer (some ⟨b, 0, none⟩), v, bsl gn H] w fun e w' => e = .returned (.bool (nothF (bs R) null l)) ∧ ∃ m, w' = w.drewN m := by
  obtain ⟨ao, cap, rfl, hcap, hcell⟩ := hv
  have BA := hid (fun w' (h : w'.cell? ⟨b, 0, none⟩ = some (.slice a0 R c0)) => base_any w' b R a0 c0 h hR)
  have HK := hid k0
  have HC := hid hcell
  have HN := hid hn
  have HNL := hid hnl
  have HCC := hid hc
  generalize hV : nothF (bs R) null l = V
  have HV := hid hV
  clear hcell hn hnl hc hV k0
  go_enter Tryz.func47, Tryz.ntmps47
  go_wp2
  go_loopw [7] (fun x7 wr => ∃ (i m : Nat), x7 = .int .i64 i ∧ wr = w.drewN m ∧ i ≤ l.length ∧ nothF (bs R) null (l.drop i) = V)
      (fun x _ => 1001 - (intOf x).toNat)
  case atStart => exact ⟨0, 0, rfl, rfl, by omega, HV.out⟩
  case round =>
    obtain ⟨i, m, rfl, rfl, hi, hrec⟩ := hrel
    have HME := hid (meas (B := 1001) i (by omega))
    have hk := fcell' (fdrewR w m) HK.out
    have HFR := hid (fdrewR w m)
    generalize hW : w.drewN m = wr at hk HFR ⊢
    have HW := hid hW
    clear hW
    by_cases hlt : i < l.length
    · have k1 : (i : Int) < (l.length : Int) := by omega
      rw [noth_drop _ _ _ _ hlt] at hrec
      obtain ⟨g, o, rfl, hcl⟩ := HC.out i hlt
      have hcl' := fcell' HFR.out hcl
      have hcb := HCC.out l[i] (List.getElem_mem hlt)
      have hnc := fun (j : Nat) (hj : j < H) => (HN.out.fresh HFR.out).cell (j := j) (by rw [HNL.out]; exact hj)
      have hnz := fun (j : Nat) => (HN.out.fresh HFR.out).frozen j
      generalize hcv : l[i] = c at hrec hcl hcl' hcb
      clear hcv hcl
      have BQ := hid (fun n => BA.out (wr.drewN n) (fcell' (fdrewR wr n) hk))
      by_cases hneg : c - bs R < 0
      · rw [decide_eq_false (by omega), Bool.false_and, Bool.false_and] at hrec
        have HREC := hid hrec
        have s1 : decide (c - bs R < 0) = true := decide_eq_true hneg
        have wr1 : IntKind.i64.wrap (c - bs R) = c - bs R := by rw [IntKind.wrap_i64]; unfold bs; omega
        clear hnc hnz hrec
        go_wp2
        go_quiet (first | (go_at_call 23; refine Calls.quiet_of_same (BQ.out _)))
        go_wp2
        go_ret
        rw [← HREC.out]
        exact ⟨rfl, by rw [← HW.out, World.drewN_drewN]; exact ⟨_, rfl⟩⟩
      · rw [decide_eq_true (by omega), Bool.true_and] at hrec
        obtain ⟨j, hj⟩ : ∃ j : Nat, c - bs R = j := ⟨(c - bs R).toNat, by omega⟩
        have hjH : j < H := by unfold bs at hj; omega
        have hcj := hnc j hjH
        have hzj := hnz j
        rw [hj, Int.toNat_natCast] at hrec
        have s1 : ¬ (j : Int) < 0 := by omega
        have s2 : (j : Int) < (H : Int) := by omega
        have wr1 : IntKind.i64.wrap (c - bs R) = (j : Int) := by rw [IntKind.wrap_i64]; unfold bs at hj ⊢; omega
        generalize null.getD j false = nj at hrec hcj
        clear hnc hnz hj hneg hcb
        cases nj
        · rw [Bool.false_and] at hrec
          have HREC := hid hrec
          clear hrec
          go_wp2
          go_quiet (first | (go_at_call 23; refine Calls.quiet_of_same (BQ.out _)))
          have hcj' := fcell' (fdrewR wr nq) hcj
          go_wp2
          go_ret
          rw [← HREC.out]
          exact ⟨rfl, by rw [← HW.out, World.drewN_drewN]; exact ⟨_, rfl⟩⟩
        · rw [Bool.true_and] at hrec
          have HREC := hid hrec
          clear hrec
          go_wp2
          go_quiet (first | (go_at_call 23; refine Calls.quiet_of_same (BQ.out _)))
          have hcj' := fcell' (fdrewR wr nq) hcj
          go_wp2
          go_roundw
          case rel => exact ⟨i + 1, m + nq, by go_num, by rw [← HW.out, World.drewN_drewN], by omega, HREC.out⟩
          case measure => exact HME.out
    · have k1 : ¬ (i : Int) < (l.length : Int) := by omega
      have hin : l.drop i = [] := List.drop_eq_nil_of_le (by omega)
      rw [hin] at hrec
      have HREC := hid hrec
      clear hrec hin
      go_wp2
      go_ret
      rw [← HREC.out]
      exact ⟨rfl, m, HW.out.symm⟩
end Go.Proofs.YtcpgklcimacngaaGreat
namespace Go.Proofs.YtcpgklcimacngaaGreat
open Go.RowKit
set_option linter.unusedVariables false
set_option linter.unusedSimpArgs false

theorem copy_bools (w : World) (ga gb n : Nat) (xs ys : List Bool) (ha : BSet w ga xs) (hb : BSet w gb ys) (la : xs.length = n) (lb : ys.length = n) (ty : TypeId) :
    (Builtin.copy_ #[69, 69] ty #[bsl gb n, bsl ga n]).run Tryz.prog w = .ok (goInt n) (w.setRow gb (bools xs).toArray) := by
  have h := run_copy_row (P := Tryz.prog) w 69 69 ty 4 gb 0 n n ⟨ga, 0, none⟩ n n (bools ys).toArray 4 (bools xs) Tryz.underlying69 (by kernel_rfl) hb (by simp [bools, la]) (fun j v hj => by
    have hj' : j < xs.length := by have := (List.getElem?_eq_some_iff.1 hj).1; simpa [bools] using this
    have := ha.cell hj'
    rw [Addr.add_mid, Nat.zero_add, this]
    simp [bools, hj'] at hj
    rw [← hj]; simp [hj']) (by simp [bools, la, lb]) (by intro v hv; simp [bools] at hv; rcases hv with ⟨_, rfl⟩ | ⟨_, rfl⟩ <;> rfl)
  have e1 : (bools xs).length = n := by simp [bools, la]
  have e2 : ((bools ys).toArray.toList.take 0 ++ bools xs ++ (bools ys).toArray.toList.drop (0 + n)).toArray = (bools xs).toArray := by
    rw [List.drop_eq_nil_of_le (by simp [bools, lb])]; simp
  rw [e1, e2] at h
  exact h
theorem well_drop (base : Int) (rules : Bool) (out : List Bool) (l : List Int) (i : Nat) (hi : i < l.length) : (l.drop i).all (wellB base rules out) = (wellB base rules out l[i] && (l.drop (i + 1)).all (wellB base rules out)) := by
  rw [List.drop_eq_getElem_cons hi, List.all_cons]
theorem derP_drop (base : Int) (rules : Bool) (out : List Bool) (q : List Q1) (i : Nat) (hi : i < q.length) (nx : List Bool) : derP base rules out (q.drop i) nx = derP base rules out (q.drop (i + 1)) (nx.set q[i].1.toNat (nx.getD q[i].1.toNat false || q[i].2.all (wellB base rules out))) := by
  rw [List.drop_eq_getElem_cons hi]; rfl

set_option maxRecDepth 20000 in
set_option maxHeartbeats 8000000 in
theorem derived_any (w : World) (b R H : Nat) (q : List Q1) (rules : Bool) (hS : SpecN w b R H q) (hQ : QOk R H q) :
    Calls Tryz.prog 44 #[.pointer (some ⟨b, 0, none⟩), .bool rules] w fun e w' => ∃ g, w.heap.size ≤ g ∧ e = .returned (bsl g H) ∧ BSet w' g (derF (bs R) rules q H) ∧ Fresh w w' := by
  obtain ⟨a0, c0, a1, c1, a2, c2, v3, v4, sv, hN⟩ := hS
  have r8 := hQ.r8
  have h8 := hQ.h8
  have p20 := hQ.p20
  have HQ := hid hQ
  have HN := hid hN
  have k2 := hN.k2
  have mk := fun w => run_make_row' (P := Tryz.prog) 69 4 (.bool false) 1 Tryz.underlying69 (by kernel_rfl) rfl .i64 .i64 H (by omega) (by omega) w
  generalize hV : derF (bs R) rules q H = V
  have HV := hid hV
  clear hN hQ hV
  go_enter Tryz.func44, Tryz.ntmps44
  go_wp2
  go_loopw [5, 6, 7, 8, 9, 10, 11] (fun x5 x6 _ _ _ _ _ wr => ∃ (n g : Nat) (out : List Bool), x6 = .int .i64 n ∧ x5 = bsl g H ∧ n ≤ H ∧ w.heap.size ≤ g ∧ BSet wr g out ∧ out.length = H ∧ Fresh w wr ∧ derN (bs R) rules q (H - n) out = V)
      (fun _ x _ _ _ _ _ _ => 1001 - (intOf x).toNat)
  case atStart =>
    refine ⟨0, w.heap.size, List.replicate H false, rfl, rfl, by omega, Nat.le_refl _, ?_, by simp, (Mod.refl _ w).alloc _, HV.out⟩
    rw [made_bools]; exact heap_alloc_at _ _
  case round =>
    obtain ⟨n, g, out, rfl, rfl, hn, hg, hB, hol, hfr, hrec⟩ := hrel
    have HME := hid (meas (B := 1001) n (by omega))
    have HF := hid hfr
    have HB := hid hB
    have HOL := hid hol
    have kk2 := fcell' hfr k2
    by_cases hlt : n < H
    · have k1 : (n : Int) < (H : Int) := by omega
      rw [show H - n = (H - (n + 1)) + 1 by omega] at hrec
      unfold derN at hrec
      have HREC := hid hrec
      have hb1 := hB.lt
      have CP := copy_bools (wr.alloc (.cells (madeCells #[.bool false] H) 4)) g wr.heap.size H out (List.replicate H false) (hB.fresh ((Mod.refl _ wr).alloc _)) (by rw [made_bools]; exact heap_alloc_at _ _) hol (by simp)
      have HB2 : Hid (BSet ((wr.alloc (.cells (madeCells #[.bool false] H) 4)).setRow wr.heap.size (bools out).toArray) wr.heap.size out) := hid (setRow_heap _ _ _ _ _ _ (heap_alloc_at _ _))
      have HB3 : Hid (BSet ((wr.alloc (.cells (madeCells #[.bool false] H) 4)).setRow wr.heap.size (bools out).toArray) g out) := hid (by
        have := (hB.fresh ((Mod.refl (fun _ => False) wr).alloc (.cells (madeCells #[.bool false] H) 4)))
        unfold BSet at this ⊢
        rw [setRow_other _ _ _ _ (by omega)]; exact this)
      have HF3 : Hid (Fresh w ((wr.alloc (.cells (madeCells #[.bool false] H) 4)).setRow wr.heap.size (bools out).toArray)) := hid ((hfr.alloc _).setRow (by have := hfr.size; simp; omega) _)
      generalize hW2 : (wr.alloc (.cells (madeCells #[.bool false] H) 4)).setRow wr.heap.size (bools out).toArray = W2 at CP HB2 HB3 HF3
      have HGX := hid (show w.heap.size ≤ wr.heap.size from hfr.size)
      have HGN := hid (show g ≠ wr.heap.size by omega)
      clear hW2 hfr hB hol hrec hb1
      go_wp2
      generalize hNX : derP (bs R) rules out q out = NX at HREC
      have HNX := hid hNX
      clear hNX
      generalize hgx : wr.heap.size = gx at CP HB2 HGX HGN ⊢
      clear hgx CP mk kk2 HF HB
      go_loopw [8, 9, 10, 11] (fun x8 _ _ _ wr => ∃ (i : Nat) (nx : List Bool), x8 = .int .i64 i ∧ i ≤ q.length ∧ BSet wr gx nx ∧ nx.length = H ∧ BSet wr g out ∧ Fresh w wr ∧ derP (bs R) rules out (q.drop i) nx = NX)
          (fun x _ _ _ _ => 1001 - (intOf x).toNat)
      case atStart => exact ⟨0, out, rfl, by omega, HB2.out, HOL.out, HB3.out, HF3.out, HNX.out⟩
      case round =>
        obtain ⟨i, nx, rfl, hi, hX, hxl, hB, hfr, hrec⟩ := hrel
        have HME2 := hid (meas (B := 1001) i (by omega))
        have HX := hid hX
        have HXL := hid hxl
        have HF2 := hid hfr
        have HB := hid hB
        have kk1 := fcell' hfr HN.out.k1
        clear HB2 HB3 HF3
        by_cases hlt2 : i < q.length
        · have s1 : (i : Int) < (q.length : Int) := by omega
          rw [derP_drop _ _ _ _ _ hlt2] at hrec
          have HREC2 := hid hrec
          clear hrec
          have hN2 := HN.out.fresh hfr
          have hlti : i < sv.length := by rw [HN.out.len]; exact hlt2
          have s4 : (i : Int) < (sv.length : Int) := by omega
          obtain ⟨ao4, cp4, e4, hc4, cell4⟩ := hN2.r4
          obtain ⟨g4, o4, rfl, y4⟩ := cell4 i hlti
          have q4 := hN2.k4
          rw [e4] at q4
          obtain ⟨aol, cpl, el, hcl, celll⟩ := hN2.each i sv[i] q[i] (List.getElem?_eq_getElem hlti) (List.getElem?_eq_getElem hlt2)
          rw [el] at y4
          obtain ⟨ao3, cp3, e3, hc3, cell3⟩ := hN2.r3
          obtain ⟨g3, o3, rfl, y3⟩ := cell3 i (by rw [List.length_map]; exact hlt2)
          rw [List.getElem_map] at y3
          rw [List.length_map] at e3
          have q3 := hN2.k3
          rw [e3] at q3
          have hhd := HQ.out.hd q[i] (List.getElem_mem hlt2)
          have hsy := HQ.out.sy q[i] (List.getElem_mem hlt2)
          have hk0 := hN2.k0
          have hk1 := hN2.k1
          obtain ⟨hn', hhn⟩ : ∃ m : Nat, q[i].1 = m := ⟨q[i].1.toNat, by omega⟩
          rw [hhn] at y3 hhd HREC2
          rw [Int.toNat_natCast] at HREC2
          have hnH : hn' < H := by omega
          have hl6 := hsy.1
          have HSY := hid hsy.2
          have HCL := hid celll
          generalize q[i].2 = l at y4 HCL HSY HREC2 hl6 hcl
          generalize hFIN : l.all (wellB (bs R) rules out) = FIN at HREC2
          have HFIN := hid hFIN
          clear hFIN hsy celll cell3 cell4 hc3 hc4 e3 e4 el hN2 hhn hX hxl hB kk1
          obtain ⟨wo, hwo⟩ : ∃ wo, wo = wr := ⟨_, rfl⟩
          subst hwo
          have HYS := hid (And.intro q3 y3)
          have HFO := hid hfr
          clear hfr y3 q3
          go_wp2
          go_loopw [9, 10, 11] (fun x9 x10 _ wi => ∃ (j m : Nat) (A : Bool), x10 = .int .i64 j ∧ x9 = .bool A ∧ j ≤ l.length ∧ wi = wo.drewN m ∧ (A && (l.drop j).all (wellB (bs R) rules out)) = FIN)
              (fun _ x _ _ => 1001 - (intOf x).toNat)
          case atStart => exact ⟨0, 0, true, rfl, rfl, by omega, rfl, by rw [Bool.true_and]; exact HFIN.out⟩
          case round =>
            obtain ⟨j, m, A, rfl, rfl, hj, rfl, hrec⟩ := hrel
            have HME3 := hid (meas (B := 1001) j (by omega))
            have z4 := fcell' (fdrewR wo m) q4
            have x4 := fcell' (fdrewR wo m) y4
            have z0 := fcell' (fdrewR wo m) hk0
            have HFR := hid (fdrewR wo m)
            generalize hW : wo.drewN m = wr at z4 x4 z0 HFR ⊢
            have HW := hid hW
            clear hW q4 y4 hk0 hk1
            by_cases hlt3 : j < l.length
            · have s3 : (j : Int) < (l.length : Int) := by omega
              rw [well_drop _ _ _ _ _ hlt3] at hrec
              obtain ⟨gl, ol, rfl, y5⟩ := HCL.out j hlt3
              have z5 := fcell' HFR.out y5
              have hcb := HSY.out l[j] (List.getElem_mem hlt3)
              have hnc := fun (k : Nat) (hk : k < H) => (HB.out.fresh HFR.out).cell (j := k) (by rw [HOL.out]; exact hk)
              have BQ := hid (fun n => base_any (wr.drewN n) b R a0 c0 (fcell' (fdrewR wr n) z0) (by omega))
              generalize l[j] = c at hrec z5 hcb
              clear y5
              cases A
              · rw [Bool.false_and] at hrec
                have HREC3 := hid hrec
                obtain ⟨dz, wr1⟩ : ∃ dz : Int, IntKind.i64.wrap (c - bs R) = dz := ⟨_, rfl⟩
                clear hrec hnc hcb
                go_wp2
                go_quiet (first | (go_at_call 23; refine Calls.quiet_of_same (BQ.out _)))
                go_wp2
                go_roundw
                case rel => exact ⟨j + 1, m + nq, false, by go_num, rfl, by omega, by rw [← HW.out, World.drewN_drewN], HREC3.out⟩
                case measure => exact HME3.out
              · rw [Bool.true_and] at hrec
                by_cases hneg : c - bs R < 0
                · have e1 : wellB (bs R) rules out c = rules := by unfold wellB; rw [decide_eq_true hneg, decide_eq_false (by omega)]; simp
                  rw [e1] at hrec
                  have HREC3 := hid hrec
                  have s1 : decide (c - bs R < 0) = true := decide_eq_true hneg
                  have s6 : ¬ 0 ≤ c - bs R := by omega
                  have wr1 : IntKind.i64.wrap (c - bs R) = c - bs R := by rw [IntKind.wrap_i64]; unfold bs; omega
                  clear hrec hnc hcb e1
                  cases rules
                  all_goals
                    go_wp2
                    go_quiet (first | (go_at_call 23; refine Calls.quiet_of_same (BQ.out _)))
                    go_wp2
                    go_roundw
                    case rel => exact ⟨j + 1, m + nq, _, by go_num, rfl, by omega, by rw [← HW.out, World.drewN_drewN], HREC3.out⟩
                    case measure => exact HME3.out
                · obtain ⟨dz, hdz⟩ : ∃ dz : Nat, c - bs R = dz := ⟨(c - bs R).toNat, by omega⟩
                  have hdH : dz < H := by unfold bs at hdz; omega
                  have e1 : wellB (bs R) rules out c = out.getD dz false := by unfold wellB; rw [hdz, decide_eq_false (by omega), decide_eq_true (by omega), Int.toNat_natCast]; simp
                  rw [e1] at hrec
                  have hcj := hnc dz hdH
                  have s1 : ¬ (dz : Int) < 0 := by omega
                  have s6 : (0 : Int) ≤ (dz : Int) := by omega
                  have s7 : (dz : Int) < (H : Int) := by omega
                  have wr1 : IntKind.i64.wrap (c - bs R) = (dz : Int) := by rw [IntKind.wrap_i64]; unfold bs at hdz ⊢; omega
                  generalize out.getD dz false = oj at hrec hcj
                  have HREC3 := hid hrec
                  clear hrec hnc hcb e1 hdz hneg
                  cases oj
                  all_goals
                    go_wp2
                    go_quiet (first | (go_at_call 23; refine Calls.quiet_of_same (BQ.out _)))
                    have hcj' := fcell' (fdrewR wr nq) hcj
                    go_wp2
                    go_roundw
                    case rel => exact ⟨j + 1, m + nq, _, by go_num, rfl, by omega, by rw [← HW.out, World.drewN_drewN], HREC3.out⟩
                    case measure => exact HME3.out
            · have s3 : ¬ (j : Int) < (l.length : Int) := by omega
              rw [List.drop_eq_nil_of_le (by omega), List.all_nil, Bool.and_true] at hrec
              have HREC3 := hid hrec
              have b1 := (HX.out.fresh HFR.out).cell (j := hn') (by rw [HXL.out]; exact hnH)
              have b2 := (HX.out.fresh HFR.out).frozen hn'
              have u3 := fcell' HFR.out HYS.out.1
              have u4 := fcell' HFR.out HYS.out.2
              have s5 : (hn' : Int) < (H : Int) := by omega
              have HP : Hid (∀ c : Bool, BSet (wr.setCell ⟨gx, hn', none⟩ (.bool c)).drew gx (nx.set hn' c)) := hid (fun c => (HX.out.fresh HFR.out).put hn' c)
              have HBK : Hid (∀ c : Bool, BSet (wr.setCell ⟨gx, hn', none⟩ (.bool c)).drew g out) := hid (fun c => by
                have := HB.out.fresh HFR.out
                unfold BSet at this ⊢
                show (wr.setCell ⟨gx, hn', none⟩ (.bool c)).heap[g]? = _
                rw [heap_setCell_other _ HGN.out]; exact this)
              have HFK : Hid (∀ c : Bool, Fresh w (wr.setCell ⟨gx, hn', none⟩ (.bool c)).drew) := hid (fun c => ((HFO.out.trans HFR.out).setCell (by have := HGX.out; simp; omega) _).drew)
              generalize nx.getD hn' false = nb at HREC2 b1
              clear hrec z0
              cases nb <;> cases A
              all_goals
                go_wp2_with fail
                go_region
                all_goals
                  go_wp2
                  go_roundw
                  case rel => exact ⟨i + 1, _, by go_num, by omega, HP.out _, by simp [HXL.out], HBK.out _, HFK.out _, by have := HREC2.out; rw [← HREC3.out] at this; simpa using this⟩
                  case measure => exact HME2.out
        · have s1 : ¬ (i : Int) < (q.length : Int) := by omega
          rw [List.drop_eq_nil_of_le (by omega)] at hrec
          have HREC2 := hid hrec
          clear hrec hX hxl hfr hB
          go_wp2
          go_roundw
          case rel => exact ⟨n + 1, gx, nx, by go_num, rfl, by omega, HGX.out, HX.out, HXL.out, HF2.out, by have := HREC2.out; unfold derP at this; rw [this]; exact HREC.out⟩
          case measure => exact HME.out
    · have k1 : ¬ (n : Int) < (H : Int) := by omega
      have hin : n = H := by omega
      rw [hin, Nat.sub_self] at hrec
      have HREC := hid hrec
      clear hrec hfr hB hol
      go_wp2
      go_ret
      exact ⟨g, hg, rfl, by rw [← HREC.out]; exact HB.out, HF.out⟩
end Go.Proofs.YtcpgklcimacngaaGreat
namespace Go.Proofs.YtcpgklcimacngaaGreat
open Go.RowKit
set_option linter.unusedVariables false
set_option linter.unusedSimpArgs false

/-- rows of yes and no in memory: each a block of its own -/
structure MatAt (w : World) (B n : Nat) (v : Value) (gs : List Nat) (M : Mat) : Prop where
  own : w.ownsRow B 69 1 v gs.length (gs.map fun g => bsl g n)
  len : gs.length = M.length
  blk : ∀ (i g : Nat), gs[i]? = some g → B ≤ g ∧ BSet w g (M.getD i [])
  inj : ∀ (i j g : Nat), gs[i]? = some g → gs[j]? = some g → i = j
  ne : ∀ g ∈ gs, v.ownBlock ≠ some g
theorem MatAt.nil (w : World) (B n : Nat) : MatAt w B n (.slice none 0 0) [] [] :=
  ⟨World.ownsRow_nil _ _ _ _, rfl, fun i g h => by simp at h, fun i j g h => by simp at h, fun g h => by cases h⟩
theorem MatAt.fresh {w w' : World} {B n : Nat} {v : Value} {gs : List Nat} {M : Mat} (h : MatAt w B n v gs M) (hf : Fresh w w') : MatAt w' B n v gs M :=
  ⟨ownsRow_other h.own (fun g hg => hf.block g (h.own.lt g hg).2 (fun x => x)), h.len, fun i g h1 => ⟨(h.blk i g h1).1, (h.blk i g h1).2.fresh hf⟩, h.inj, h.ne⟩
theorem MatAt.next {w w' : World} {B n : Nat} {v v' : Value} {gs : List Nat} {M : Mat} {g : Nat} {f : List Bool} (h : MatAt w B n v gs M) (hg : BSet w g f) (hBg : B ≤ g) (hne : v.ownBlock ≠ some g) (hnew : ∀ x ∈ gs, x ≠ g)
    (hown : w'.ownsRow B 69 1 v' (gs.length + 1) ((gs.map fun g => bsl g n) ++ [bsl g n])) (hgr : w.grownBy w' v.ownBlock) (hblk : ∀ k, v'.ownBlock = some k → v.ownBlock = some k ∨ w.heap.size ≤ k) :
    MatAt w' B n v' (gs ++ [g]) (M ++ [f]) := by
  have hgl := hg.lt
  have hk : ∀ (k : Nat) (o : Obj), k < w.heap.size → v.ownBlock ≠ some k → w.heap[k]? = some o → w'.heap[k]? = some o := fun k o h1 h2 h3 => by
    rw [hgr.block k h1 (fun e => h2 e.symm)]; exact h3
  have hml : ∀ x ∈ gs, x < w.heap.size := fun x hx => by
    obtain ⟨i, hi, rfl⟩ := List.getElem_of_mem hx
    exact (h.blk i _ (List.getElem?_eq_getElem hi)).2.lt
  refine ⟨by simpa using hown, by simp [h.len], fun i g' h1 => ?_, fun i j g' h1 h2 => ?_, fun g' h1 e => ?_⟩
  · by_cases hi : i < gs.length
    · rw [List.getElem?_append_left hi] at h1
      obtain ⟨q1, q2⟩ := h.blk i g' h1
      refine ⟨q1, ?_⟩
      have e : (M ++ [f]).getD i [] = M.getD i [] := by
        rw [List.getD_eq_getElem?_getD, List.getD_eq_getElem?_getD, List.getElem?_append_left (by rw [← h.len]; exact hi)]
      rw [e]
      exact hk _ _ q2.lt (h.ne g' (List.mem_of_getElem? h1)) q2
    · have hi2 : i = gs.length := by
        have := (List.getElem?_eq_some_iff.1 h1).1
        simp at this; omega
      subst hi2
      rw [List.getElem?_append_right (Nat.le_refl _)] at h1
      simp at h1
      subst h1
      refine ⟨hBg, ?_⟩
      have e : (M ++ [f]).getD gs.length [] = f := by
        rw [List.getD_eq_getElem?_getD, h.len, List.getElem?_append_right (Nat.le_refl _)]; simp
      rw [e]
      exact hk _ _ hgl hne hg
  · by_cases hi : i < gs.length
    · by_cases hj : j < gs.length
      · rw [List.getElem?_append_left hi] at h1
        rw [List.getElem?_append_left hj] at h2
        exact h.inj i j g' h1 h2
      · have hj2 : j = gs.length := by
          have := (List.getElem?_eq_some_iff.1 h2).1
          simp at this; omega
        subst hj2
        rw [List.getElem?_append_left hi] at h1
        rw [List.getElem?_append_right (Nat.le_refl _)] at h2
        simp at h2
        exact absurd h2.symm (hnew g' (List.mem_of_getElem? h1))
    · have hi2 : i = gs.length := by
        have := (List.getElem?_eq_some_iff.1 h1).1
        simp at this; omega
      subst hi2
      rw [List.getElem?_append_right (Nat.le_refl _)] at h1
      simp at h1
      by_cases hj : j < gs.length
      · rw [List.getElem?_append_left hj] at h2
        exact absurd h1.symm (hnew g' (List.mem_of_getElem? h2))
      · have := (List.getElem?_eq_some_iff.1 h2).1
        simp at this; omega
  · rcases hblk _ e with q | q
    · simp only [List.mem_append, List.mem_singleton] at h1
      rcases h1 with h1 | rfl
      · exact h.ne g' h1 q
      · exact hne q
    · simp only [List.mem_append, List.mem_singleton] at h1
      rcases h1 with h1 | rfl
      · have := hml g' h1; omega
      · omega
/-- a cell is written -/
theorem MatAt.put {w : World} {B n : Nat} {v : Value} {gs : List Nat} {M : Mat} (h : MatAt w B n v gs M) {i g : Nat} (hi : gs[i]? = some g) (j : Nat) (b : Bool) : MatAt (w.setCell ⟨g, j, none⟩ (.bool b)) B n v gs (setM M i j b) := by
  have hil := (List.getElem?_eq_some_iff.1 hi).1
  refine ⟨ownsRow_other h.own (fun k hk => heap_setCell_other _ (fun e => h.ne g (List.mem_of_getElem? hi) (by rw [← (show k = g from e)]; exact hk))), by unfold setM; rw [List.length_set]; exact h.len, fun k g' hk => ?_, h.inj, h.ne⟩
  obtain ⟨q1, q2⟩ := h.blk k g' hk
  refine ⟨q1, ?_⟩
  unfold setM
  rw [getD_set _ _ _ _ _ (by rw [← h.len]; exact hil)]
  by_cases e : k = i
  · subst e
    rw [hi] at hk
    injection hk with hk
    subst hk
    rw [if_pos rfl]
    exact q2.put j b
  · rw [if_neg e]
    unfold BSet at q2 ⊢
    rw [heap_setCell_other _ (fun e2 => e (h.inj k i g (by rw [← (show g' = g from e2)]; exact hk) hi))]
    exact q2
/-- what comes out: rows of one's own -/
def MxRet (w : World) (n : Nat) (M : Mat) (e : Ending) (w' : World) : Prop := ∃ v gs, e = .returned v ∧ MatAt w' w.heap.size n v gs M ∧ Fresh w w'
set_option maxRecDepth 20000 in
set_option maxHeartbeats 2000000 in
theorem square_any (w : World) (n : Nat) (hn : n ≤ 100) :
    Calls Tryz.prog 65 #[.int .i64 n] w fun e w' => MxRet w n (sqF n) e w' := by
  have mk := fun w => run_make_row' (P := Tryz.prog) 69 4 (.bool false) 1 Tryz.underlying69 (by kernel_rfl) rfl .i64 .i64 n (by omega) (by omega) w
  obtain ⟨i0, hi0, iz0, iz1, iz2⟩ := infoBS'
  go_enter Tryz.func65, Tryz.ntmps65
  go_wp2
  go_loopw [3, 4, 5] (fun x3 x4 _ wr => ∃ (i : Nat) (gs : List Nat), x4 = .int .i64 i ∧ i ≤ n ∧ MatAt wr w.heap.size n x3 gs (List.replicate i (List.replicate n false)) ∧ Fresh w wr)
      (fun _ x _ _ => 1001 - (intOf x).toNat)
  case atStart => exact ⟨0, [], rfl, by omega, MatAt.nil _ _ _, Mod.refl _ _⟩
  case round =>
    obtain ⟨i, gs, rfl, hi, hM, hfr⟩ := hrel
    have HME := hid (meas (B := 1001) i (by omega))
    have hgl : gs.length = i := by have := hM.len; simpa using this
    have hgl2 : gs.length ≤ 100 := by omega
    have HM := hid hM
    have HF := hid hfr
    obtain ⟨ao, cp, hv⟩ := own_form hM.own
    subst hv
    have hsz : w.heap.size ≤ wr.heap.size := hfr.size
    by_cases hlt : i < n
    · have k1 : (i : Int) < (n : Int) := by omega
      have HOB : Hid (∀ o o2 : Obj, ((wr.alloc o).alloc o2).ownsRow w.heap.size 69 1 (.slice ao gs.length cp) gs.length (gs.map fun g => bsl g n)) := hid (fun o o2 => (HM.out.own.alloc o).alloc o2)
      have HFIN : Hid (∀ (o2 : Obj) (v' : Value) (w6 : World), w6.ownsRow w.heap.size 69 1 v' (gs.length + 1) ((gs.map fun g => bsl g n) ++ [bsl wr.heap.size n]) → ((wr.alloc (.cells (madeCells #[.bool false] n) 4)).alloc o2).grownBy w6 (Value.ownBlock (.slice ao gs.length cp)) → (∀ k, v'.ownBlock = some k → Value.ownBlock (.slice ao gs.length cp) = some k ∨ ((wr.alloc (.cells (madeCells #[.bool false] n) 4)).alloc o2).heap.size ≤ k) →
          MatAt w6 w.heap.size n v' (gs ++ [wr.heap.size]) (List.replicate (i + 1) (List.replicate n false)) ∧ Fresh w w6) := hid (fun o2 v' w6 h1 h2 h3 => by
        have hf2 : Fresh wr ((wr.alloc (.cells (madeCells #[.bool false] n) 4)).alloc o2) := ((Mod.refl _ wr).alloc _).alloc _
        have hbs : BSet ((wr.alloc (.cells (madeCells #[.bool false] n) 4)).alloc o2) wr.heap.size (List.replicate n false) := heap_alloc_prev (by rw [made_bools]; exact heap_alloc_at _ _)
        refine ⟨?_, ?_⟩
        · rw [List.replicate_succ']
          refine (HM.out.fresh hf2).next hbs HF.out.size ?_ ?_ h1 h2 h3
          · intro e
            have := (HM.out.own.lt _ e).2
            omega
          · intro x hx e
            obtain ⟨k, hk, rfl⟩ := List.getElem_of_mem hx
            have := (HM.out.blk k _ (List.getElem?_eq_getElem hk)).2.lt
            omega
        · exact Mod.grown (S := fun _ => False) (HF.out.trans hf2) h2 (fun k hk hlt => by have := (HM.out.own.lt k hk).1; omega))
      clear hM hfr hgl
      go_wp2_with (first
        | (at_builtin; refine wpList_append_mine _ rfl _ _ 68 rfl w.heap.size 69 i0 _ 1 24 Tryz.underlying68 hi0 iz0 iz1 iz2 rfl (by decide) (.slice ao gs.length cp) gs.length _ rfl (HOB.out _ _) ⟨wr.heap.size + 1, 0, none⟩ 1 1 [bsl wr.heap.size n] rfl rfl (new_cells2 rfl) (by intro u hu; simp at hu; subst hu; rfl) (by unfold maxLen; omega) (by omega) (by simp; omega) ?_))
      intro v' w6 hown2 hgrow hblk
      have FIN := hid (HFIN.out _ v' w6 hown2 hgrow (by simpa using hblk))
      clear hown2 hgrow hblk
      go_wp2
      go_roundw
      case rel => exact ⟨i + 1, _, by go_num, by omega, FIN.out.1, FIN.out.2⟩
      case measure => exact HME.out
    · have k1 : ¬ (i : Int) < (n : Int) := by omega
      have hin : i = n := by omega
      subst hin
      clear hM hfr hgl
      go_wp2
      go_ret
      exact ⟨_, gs, rfl, HM.out, HF.out⟩
end Go.Proofs.YtcpgklcimacngaaGreat
