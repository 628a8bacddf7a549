import Derived.Test.YteneagnhihcljaaGreatDoorKn6
import Derived.Test.YteneagnhihcljaaGreatDoorTwd
import Derived.Test.YteneagnhihcljaaGreatDoorShelf
import Derived.Lib.AppendIntMem
import Derived.Test.YteneagnhihcljaaGreatDoorRows
import Derived.Test.YteneagnhihcljaaGreatDoorCards
import Derived.Test.YteneagnhihcljaaGreatDoorTie
import Derived.ProofKit
import Derived.LaidMore
import Derived.OpenShut
import Derived.ShutString
import Derived.ChangeOld
import Derived.Below
import Derived.Stop.Joined
import Derived.Lib.LaidTab
import Derived.SevenTiedAt
namespace Go.Proofs.YteneagnhihcljaaGreatDoor
open Go.RowKit
set_option linter.unusedVariables false
set_option linter.unusedSimpArgs false

/-- the table that strconv reads -/
abbrev TabP (w : World) : Prop := Go.Lib.TabIs Tryz.prog w "internal/strconv.uint64pow10" .u64 Go.Lib.pow10Tab
theorem tab_fresh {w w' : World} (h : TabP w) (hf : Fresh w w') : TabP w' := Go.Lib.tabBelow_of_tabIs h w' hf.below
theorem grow_fresh (w : World) (k : Nat) (os : Array Obj) : Fresh w (Go.Sort.grow (w.drewN k) os) := by
  refine ⟨rfl, rfl, rfl, ?_, fun i hi _ => ?_⟩
  · show w.heap.size ≤ (w.heap ++ os).size
    rw [Array.size_append]; omega
  · show (w.heap ++ os)[i]? = w.heap[i]?
    rw [Array.getElem?_append_left hi]
theorem dec_dig : ∀ (m n : Nat), n ≤ m → Go.Lib.decDigits n ≠ [] ∧ ∀ c ∈ Go.Lib.decDigits n, 48 ≤ c.toNat ∧ c.toNat ≤ 57
  | m, n, h => by
    rw [Go.Lib.decDigits]
    have one : ∀ k, k < 10 → 48 ≤ (UInt8.ofNat (48 + k)).toNat ∧ (UInt8.ofNat (48 + k)).toNat ≤ 57 := fun k hk => by
      rw [UInt8.toNat_ofNat']
      omega
    split
    · rename_i hl
      refine ⟨by simp, fun c hc => ?_⟩
      rw [List.mem_singleton] at hc
      subst hc
      exact one n hl
    · rename_i hl
      cases m with
      | zero => omega
      | succ m =>
        have ih := dec_dig m (n / 10) (by omega)
        refine ⟨by simp, fun c hc => ?_⟩
        rw [List.mem_append] at hc
        rcases hc with hc | hc
        · exact ih.2 c hc
        · rw [List.mem_singleton] at hc
          subst hc
          exact one _ (by omega)
theorem dec_len : ∀ (d n : Nat), n < 10 ^ (d + 1) → (Go.Lib.decDigits n).length ≤ d + 1
  | 0, n, h => by
    rw [Go.Lib.decDigits, dif_pos (by omega)]; simp
  | d + 1, n, h => by
    rw [Go.Lib.decDigits]
    split
    · simp
    · have ih := dec_len d (n / 10) (by
        rw [Nat.pow_succ] at h
        omega)
      rw [List.length_append, List.length_singleton]; omega
theorem itoa_dig {n : Nat} (h : n < 100000) : DigL ((Go.Lib.itoa (n : Int)).map UInt8.toNat) ∧ (Go.Lib.itoa (n : Int)).length ≤ 5 := by
  have e : Go.Lib.itoa (n : Int) = Go.Lib.decDigits n := by
    unfold Go.Lib.itoa
    rw [if_neg (by omega), Int.toNat_natCast]
  rw [e]
  have q := dec_dig n n (Nat.le_refl _)
  refine ⟨⟨by simpa using q.1, fun c hc => ?_⟩, dec_len 4 n (by simpa using h)⟩
  rw [List.mem_map] at hc
  obtain ⟨x, hx, rfl⟩ := hc
  exact q.2 x hx
set_option maxRecDepth 20000 in
set_option maxHeartbeats 2000000 in
theorem kpick_any (w : World) (c : Int) (hc : -9223372036854775808 ≤ c ∧ c ≤ 9223372036854775807) :
    Calls Tryz.prog 17 #[.int .i64 c, .int .i64 100000] w fun e w' => ∃ n : Nat, n < 100000 ∧ e = .returned (.int .i64 n) ∧ w' = w := by
  obtain ⟨hc1, hc2⟩ := hc
  by_cases h : c < 0
  · have hw1 : IntKind.i64.wrap (c + 1) = c + 1 := by rw [IntKind.wrap_i64]; omega
    have hw2 : IntKind.i64.wrap (-(c + 1)) = -(c + 1) := by rw [IntKind.wrap_i64]; omega
    obtain ⟨d, hd⟩ : ∃ d : Nat, -(c + 1) = d := ⟨(-(c + 1)).toNat, by omega⟩
    go_enter Tryz.func17, Tryz.ntmps17
    go_wp2
    go_ret
    exact ⟨d % 100000, Nat.mod_lt _ (by omega), by simp [hd], rfl⟩
  · obtain ⟨d, rfl⟩ : ∃ d : Nat, c = d := ⟨c.toNat, by omega⟩
    go_enter Tryz.func17, Tryz.ntmps17
    go_wp2
    go_ret
    exact ⟨d % 100000, Nat.mod_lt _ (by omega), by simp, rfl⟩
theorem bt_app (s t : ByteArray) : bt (s ++ t) = bt s ++ bt t := by
  unfold bt
  rw [ByteArray.data_append, Array.toList_append, List.map_append]
def SumT (t : ByteArray) (k : Nat) : Prop := ∃ ds : List (List Nat), ds.length = k ∧ (∀ d ∈ ds, DigL d) ∧ bt t = sumR ds
theorem SumT.next {t x : ByteArray} {k : Nat} (h : SumT t k) (hx : DigL (bt x)) : SumT (if 0 < k then (t ++ ⟨#[32, 43, 32]⟩) ++ x else t ++ x) (k + 1) := by
  obtain ⟨ds, h1, h2, h3⟩ := h
  refine ⟨ds ++ [bt x], by simp [h1], fun d hd => ?_, ?_⟩
  · rw [List.mem_append, List.mem_singleton] at hd
    rcases hd with hd | rfl
    · exact h2 d hd
    · exact hx
  · rw [sumR_snoc]
    cases ds with
    | nil =>
      have : k = 0 := by simpa using h1.symm
      subst this
      rw [if_neg (by omega), if_pos rfl, bt_app, h3]; rfl
    | cons a l =>
      rw [if_pos (by rw [← h1]; simp), if_neg (by simp), bt_app, bt_app, h3]; rfl
theorem size_app (s t : ByteArray) : (s ++ t).size = s.size + t.size := by
  rw [← bt_len, ← bt_len, ← bt_len, bt_app, List.length_append]
set_option maxRecDepth 20000 in
set_option maxHeartbeats 2000000 in
theorem added_any (w : World) (v : Value) (l : List Int) (hv : IntAt w v l) (hT : TabP w) (hl : l.length ≤ maxLen) (hr : ∀ z ∈ l, -9223372036854775808 ≤ z ∧ z ≤ 9223372036854775807) :
    Calls Tryz.prog 7 #[v] w fun e w' => ∃ (t : ByteArray) (k : Nat), e = .returned (.tuple #[.string t, .int .i64 k]) ∧ SumT t k ∧ k ≤ 10 ∧ t.size ≤ 80 ∧ Fresh w w' := by
  obtain ⟨ao, cap, rfl, hcap, hcell⟩ := hv
  have HC := hid hcell
  have HT := hid hT
  have HR := hid hr
  unfold maxLen at hl
  clear hcell hT hr
  go_enter Tryz.func7, Tryz.ntmps7
  go_wp2
  go_loopw [4, 5, 6, 7] (fun x4 x5 x6 _ wr => ∃ (i : Nat) (t : ByteArray), x6 = .int .i64 i ∧ x5 = .int .i64 i ∧ x4 = .string t ∧ i ≤ 10 ∧ SumT t i ∧ t.size ≤ 8 * i ∧ Fresh w wr)
      (fun _ _ x _ _ => 1001 - (intOf x).toNat)
  case atStart => exact ⟨0, ⟨#[]⟩, rfl, rfl, rfl, by omega, ⟨[], rfl, by simp, rfl⟩, by decide, Mod.refl _ _⟩
  case round =>
    obtain ⟨i, t, rfl, rfl, rfl, hi, hS, hsz, hfr⟩ := hrel
    have HME := hid (meas (B := 1001) i (by omega))
    have HS := hid hS
    have HF := hid hfr
    clear hS
    by_cases hlt : i < l.length ∧ i < 10
    · obtain ⟨h1, h2⟩ := hlt
      have k1 : (i : Int) < (l.length : Int) := by omega
      have k2 : (i : Int) < 10 := by omega
      obtain ⟨g, o, rfl, y5⟩ := HC.out i h1
      have y6 := fcell' hfr y5
      have PI := hid (fun (W : World) => kpick_any W l[i] (HR.out _ (List.getElem_mem h1)))
      have IT := hid (fun (W : World) (hW : Fresh w W) (n : Nat) (hn : n < 100000) => Tryz.strconv_Itoa (n : Int) (by omega) (by omega) W (tab_fresh HT.out hW))
      generalize l[i] = li at y6 PI
      clear y5 hfr
      rcases Nat.eq_zero_or_pos i with h0 | h0
      · subst h0
        rw [Nat.add_zero] at y6
        go_wp2_with (first
          | (go_at_call 17; refine (PI.out _).mono ?_; rintro e w1 ⟨n, hn, rfl, hw⟩; rw [hw]; clear hw; have hq5 : (⟨(Go.Lib.itoa (n : Int)).toArray⟩ : ByteArray).size ≤ 5 := (itoa_dig hn).2; have hq6 : (Go.Lib.itoa (n : Int)).length ≤ 5 := (itoa_dig hn).2)
          | (go_at_call 16; refine (IT.out _ HF.out n hn).mono ?_; rintro e w2 ⟨rfl, kk, os, hw2⟩; have HF2 : Hid (Fresh wr w2) := (by rw [hw2]; exact grow_fresh _ _ _); clear hw2))
        go_roundw
        case rel =>
          have q := itoa_dig hn
          have nx := HS.out.next (x := ⟨(Go.Lib.itoa (n : Int)).toArray⟩) q.1
          rw [if_neg (by omega)] at nx
          refine ⟨0 + 1, _, by go_num, by go_num, rfl, by omega, nx, ?_, HF.out.trans HF2.out⟩
          rw [size_app]
          have : (⟨(Go.Lib.itoa (n : Int)).toArray⟩ : ByteArray).size = (Go.Lib.itoa (n : Int)).length := rfl
          omega
        case measure => exact HME.out
      · have k3 : (0 : Int) < (i : Int) := by omega
        go_wp2_with (first
          | (go_at_call 17; refine (PI.out _).mono ?_; rintro e w1 ⟨n, hn, rfl, hw⟩; rw [hw]; clear hw; have hq5 : (⟨(Go.Lib.itoa (n : Int)).toArray⟩ : ByteArray).size ≤ 5 := (itoa_dig hn).2; have hq6 : (Go.Lib.itoa (n : Int)).length ≤ 5 := (itoa_dig hn).2)
          | (go_at_call 16; refine (IT.out _ HF.out n hn).mono ?_; rintro e w2 ⟨rfl, kk, os, hw2⟩; have HF2 : Hid (Fresh wr w2) := (by rw [hw2]; exact grow_fresh _ _ _); clear hw2))
        go_roundw
        case rel =>
          have q := itoa_dig hn
          have nx := HS.out.next (x := ⟨(Go.Lib.itoa (n : Int)).toArray⟩) q.1
          rw [if_pos h0] at nx
          refine ⟨i + 1, _, by go_num, by go_num, rfl, by omega, nx, ?_, HF.out.trans HF2.out⟩
          rw [size_app, size_app]
          have : (⟨(Go.Lib.itoa (n : Int)).toArray⟩ : ByteArray).size = (Go.Lib.itoa (n : Int)).length := rfl
          have : (⟨#[32, 43, 32]⟩ : ByteArray).size = 3 := rfl
          omega
        case measure => exact HME.out
    · by_cases h1 : i < l.length
      · have k1 : (i : Int) < (l.length : Int) := by omega
        have k2 : ¬ (i : Int) < 10 := by omega
        clear hfr
        go_wp2
        go_ret2
        exact ⟨t, i, rfl, HS.out, hi, by omega, HF.out⟩
      · have k1 : ¬ (i : Int) < (l.length : Int) := by omega
        clear hfr
        go_wp2
        go_ret2
        exact ⟨t, i, rfl, HS.out, hi, by omega, HF.out⟩
end Go.Proofs.YteneagnhihcljaaGreatDoor
namespace Go.Proofs.YteneagnhihcljaaGreatDoor
open Go.RowKit
set_option linter.unusedVariables false
set_option linter.unusedSimpArgs false

/-- a run's outcome, as far as lengths go -/
def RunK (O : ROut) (w : World) (e : Ending) (w' : World) : Prop :=
  ∃ a1 c1 a2 c2 a3 c3, e = .returned (.tuple #[.agg (outA (.slice a1 O.toks.length c1) (.slice a2 O.st.length c2) (.slice a3 O.wanted.length c3) O.place), .int .i64 O.err]) ∧ Fresh w w'
theorem balL_bd (t : ByteArray) : ∀ (m i d n : Nat), i + m ≤ t.size → (balL t m i d n).2.2 ≤ n + m ∧ (balL t m i d n).2.1 ≤ t.size
  | 0, i, d, n, h => by unfold balL; simp
  | m + 1, i, d, n, h => by
    unfold balL
    have h1 := balL_bd t m (i + 1) (d + 1) n (by omega)
    have h2 := balL_bd t m (i + 1) (d - 1) (n + 1) (by omega)
    have h3 := balL_bd t m (i + 1) d n (by omega)
    split
    · omega
    · split
      · split
        · dsimp only; omega
        · omega
      · omega
/-- what the first part says -/
structure PairK (t : ByteArray) (O : ROut) (b : Bool) (p n : Nat) : Prop where
  n60 : n ≤ 60
  p60 : p ≤ 60
  good : b = true → O.err = 0 ∧ O.st.length = 4 * n + 1 ∧ O.toks.length = 2 * n
  bad : b = false → O.err = 10 ∧ O.place = (p : Int)
theorem pair_k {t : ByteArray} (hB : BrT t) (hs : t.size ≤ 60) : PairK t (runF pairsS t) (balL t t.size 0 0 0).1 (balL t t.size 0 0 0).2.1 (balL t t.size 0 0 0).2.2 := by
  have q := run_pairs hB hs
  have b := balL_bd t t.size 0 0 0 (by omega)
  exact ⟨by omega, by omega, q.1, q.2⟩
/-- what the second part says: p of a sum, q of one with + behind it -/
structure SumK (z k : Nat) (p q : ROut) : Prop where
  qe : q.err = 10
  none : k = 0 → p.err = 10 ∧ p.place = 0 ∧ p.wanted.length = 2 ∧ q.place = 0
  some : 0 < k → p.err = 0 ∧ p.st.length = 4 * k ∧ p.toks.length = 2 * k - 1 ∧ q.place = (z : Int) + 1
theorem sum_k {t : ByteArray} {k : Nat} (h : SumT t k) (hk : k ≤ 10) (hs : t.size ≤ 80) : SumK t.size k (runF sumsS t) (runF sumsS (t ++ ⟨#[43]⟩)) := by
  obtain ⟨ds, h1, h2, h3⟩ := h
  have e : bt (t ++ ⟨#[43]⟩) = sumR ds ++ [43] := by rw [bt_app, h3]; rfl
  have hz : (t ++ ⟨#[43]⟩ : ByteArray).size = t.size + 1 := by rw [size_app]; rfl
  rcases Nat.eq_zero_or_pos k with h0 | h0
  · have hd : ds = [] := List.eq_nil_of_length_eq_zero (by omega)
    subst hd
    have q1 := run_none (t := t) h3
    have q2 := run_plus (t := t ++ ⟨#[43]⟩) e
    exact ⟨q2.1, fun _ => ⟨q1.1, q1.2.1, q1.2.2, q2.2⟩, fun q => by omega⟩
  · have hd : ds ≠ [] := by intro q; subst q; simp at h1; omega
    have q1 := run_sums h2 hd (by omega) (by omega) h3
    have q2 := run_more (t := t ++ ⟨#[43]⟩) h2 hd (by omega) (by omega) e
    rw [h1] at q1
    refine ⟨q2.1, fun q => by omega, fun _ => ⟨q1.1, q1.2.1, q1.2.2, ?_⟩⟩
    rw [q2.2, hz]; omega
end Go.Proofs.YteneagnhihcljaaGreatDoor
namespace Go.Proofs.YteneagnhihcljaaGreatDoor
open Go.ChangeShapes Go.WideShapes Go.ChangeAt Go.RowKit
open Go.ChangeMaps (open_string shut_string)
set_option linter.unusedVariables false
set_option linter.unusedSimpArgs false

theorem Tryz.own : ownKnob Tryz.prog.godebug = none := by kernel_rfl
theorem Tryz.laidOut : laidOutB Tryz.prog = true := by kernel_rfl
theorem Tryz.tabT : (Tryz.prog.globalNamed "internal/strconv.uint64pow10").bind (fun g => (Tryz.prog.globals[g]?).map (·.type)) = some 157 := by kernel_rfl
theorem known_door (os : Os) (args : Array Value) : laidMetH Tryz.prog Rows.knownRow.laid ((World.doorLaid Tryz.prog 400 os).forCall (fun _ _ => 0) ⟨#[], args, []⟩).memory :=
  laidMetH_of_parts3 (fuel := 8) (laidMet_of_run' 8 (by kernel_rfl) (by kernel_rfl)) (by kernel_rfl) (by kernel_rfl)
theorem known_tab {W : World} (h : laidMetH Tryz.prog Rows.knownRow.laid W) : TabP W := by
  rw [MakeChecks.laidMetH_plain _ _ _ (by kernel_rfl)] at h
  obtain ⟨ps, ⟨g0, t0, cs0, f0, p0, q0, hg0, ht0, hv0, hd0, ⟨g1, t1, cs1, f1, p1, q1, hg1, ht1, hv1, hd1, ⟨g2, t2, cs2, f2, p2, q2, hg2, ht2, hv2, hd2, _, _⟩, _⟩, _⟩, _, _⟩ := h
  have e := Tryz.tabT
  rw [hg2, Option.bind_some, ht2] at e
  injection e with e
  subst e
  show W.var? Tryz.prog "internal/strconv.uint64pow10" = _
  rw [hv2, ← Go.Lib.cells_of_tab (zs := Go.Lib.pow10Tab) (k := .u64) Tryz.underlying157 Tryz.underlying142 (by kernel_rfl) (by kernel_rfl) hd2]

#print axioms known_holds
end Go.Proofs.YteneagnhihcljaaGreatDoor
