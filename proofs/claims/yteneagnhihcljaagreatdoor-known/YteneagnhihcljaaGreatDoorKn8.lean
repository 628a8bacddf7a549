import Derived.Test.YteneagnhihcljaaGreatDoorKn6
import Derived.Test.YteneagnhihcljaaGreatDoorTwd
import Derived.Test.YteneagnhihcljaaGreatDoorShelf
import Derived.Lib.AppendIntMem
import Derived.Test.YteneagnhihcljaaGreatDoorRows
import Derived.Test.YteneagnhihcljaaGreatDoorCards
import Derived.Test.YteneagnhihcljaaGreatDoorTie
import Derived.ProofKit
import Derived.LaidMore
import Derived.OpenShut
import Derived.ShutString
import Derived.ChangeOld
import Derived.Below
import Derived.Stop.Joined
import Derived.Lib.LaidTab
import Derived.SevenTiedAt
namespace Go.Proofs.YteneagnhihcljaaGreatDoor
open Go.RowKit
set_option linter.unusedVariables false
set_option linter.unusedSimpArgs false

/-- the table that strconv reads -/
abbrev TabP (w : World) : Prop := Go.Lib.TabIs Tryz.prog w "internal/strconv.uint64pow10" .u64 Go.Lib.pow10Tab
theorem tab_fresh {w w' : World} (h : TabP w) (hf : Fresh w w') : TabP w' := Go.Lib.tabBelow_of_tabIs h w' hf.below
theorem grow_fresh (w : World) (k : Nat) (os : Array Obj) : Fresh w (Go.Sort.grow (w.drewN k) os) := by
  refine ⟨rfl, rfl, rfl, ?_, fun i hi _ => ?_⟩
  · show w.heap.size ≤ (w.heap ++ os).size
    rw [Array.size_append]; omega
  · show (w.heap ++ os)[i]? = w.heap[i]?
    rw [Array.getElem?_append_left hi]
theorem dec_dig : ∀ (m n : Nat), n ≤ m → Go.Lib.decDigits n ≠ [] ∧ ∀ c ∈ Go.Lib.decDigits n, 48 ≤ c.toNat ∧ c.toNat ≤ 57
  | m, n, h => by
    rw [Go.Lib.decDigits]
    have one : ∀ k, k < 10 → 48 ≤ (UInt8.ofNat (48 + k)).toNat ∧ (UInt8.ofNat (48 + k)).toNat ≤ 57 := fun k hk => by
      rw [UInt8.toNat_ofNat']
      omega
    split
    · rename_i hl
      refine ⟨by simp, fun c hc => ?_⟩
      rw [List.mem_singleton] at hc
      subst hc
      exact one n hl
    · rename_i hl
      cases m with
      | zero => omega
      | succ m =>
        have ih := dec_dig m (n / 10) (by omega)
        refine ⟨by simp, fun c hc => ?_⟩
        rw [List.mem_append] at hc
        rcases hc with hc | hc
        · exact ih.2 c hc
        · rw [List.mem_singleton] at hc
          subst hc
          exact one _ (by omega)
theorem dec_len : ∀ (d n : Nat), n < 10 ^ (d + 1) → (Go.Lib.decDigits n).length ≤ d + 1
  | 0, n, h => by
    rw [Go.Lib.decDigits, dif_pos (by omega)]; simp
  | d + 1, n, h => by
    rw [Go.Lib.decDigits]
    split
    · simp
    · have ih := dec_len d (n / 10) (by
        rw [Nat.pow_succ] at h
        omega)
      rw [List.length_append, List.length_singleton]; omega
theorem itoa_dig {n : Nat} (h : n < 100000) : DigL ((Go.Lib.itoa (n : Int)).map UInt8.toNat) ∧ (Go.Lib.itoa (n : Int)).length ≤ 5 := by
  have e : Go.Lib.itoa (n : Int) = Go.Lib.decDigits n := by
    unfold Go.Lib.itoa
    rw [if_neg (by omega), Int.toNat_natCast]
  rw [e]
  have q := dec_dig n n (Nat.le_refl _)
  refine ⟨⟨by simpa using q.1, fun c hc => ?_⟩, dec_len 4 n (by simpa using h)⟩
  rw [List.mem_map] at hc
  obtain ⟨x, hx, rfl⟩ := hc
  exact q.2 x hx
set_option maxRecDepth 20000 in
set_option maxHeartbeats 2000000 in
theorem kpick_any (w : World) (c : Int) (hc : -9223372036854775808 ≤ c ∧ c ≤ 9223372036854775807) :
    Calls Tryz.prog 17 #[.int .i64 c, .int .i64 100000] w fun e w' => ∃ n : Nat, n < 100000 ∧ e = .returned (.int .i64 n) ∧ w' = w := by
  obtain ⟨hc1, hc2⟩ := hc
  by_cases h : c < 0
  · have hw1 : IntKind.i64.wrap (c + 1) = c + 1 := by rw [IntKind.wrap_i64]; omega
    have hw2 : IntKind.i64.wrap (-(c + 1)) = -(c + 1) := by rw [IntKind.wrap_i64]; omega
    obtain ⟨d, hd⟩ : ∃ d : Nat, -(c + 1) = d := ⟨(-(c + 1)).toNat, by omega⟩
    go_enter Tryz.func17, Tryz.ntmps17
    go_wp2
    go_ret
    exact ⟨d % 100000, Nat.mod_lt _ (by omega), by simp [hd], rfl⟩
  · obtain ⟨d, rfl⟩ : ∃ d : Nat, c = d := ⟨c.toNat, by omega⟩
    go_enter Tryz.func17, Tryz.ntmps17
    go_wp2
    go_ret
    exact ⟨d % 100000, Nat.mod_lt _ (by omega), by simp, rfl⟩
theorem bt_app (s t : ByteArray) : bt (s ++ t) = bt s ++ bt t := by
  unfold bt
  rw [ByteArray.data_append, Array.toList_append, List.map_append]
def SumT (t : ByteArray) (k : Nat) : Prop := ∃ ds : List (List Nat), ds.length = k ∧ (∀ d ∈ ds, DigL d) ∧ bt t = sumR ds
theorem SumT.next {t x : ByteArray} {k : Nat} (h : SumT t k) (hx : DigL (bt x)) : SumT (if 0 < k then (t ++ ⟨#[32, 43, 32]⟩) ++ x else t ++ x) (k + 1) := by
  obtain ⟨ds, h1, h2, h3⟩ := h
  refine ⟨ds ++ [bt x], by simp [h1], fun d hd => ?_, ?_⟩
  · rw [List.mem_append, List.mem_singleton] at hd
    rcases hd with hd | rfl
    · exact h2 d hd
    · exact hx
  · rw [sumR_snoc]
    cases ds with
    | nil =>
      have : k = 0 := by simpa using h1.symm
      subst this
      rw [if_neg (by omega), if_pos rfl, bt_app, h3]; rfl
    | cons a l =>
      rw [if_pos (by rw [← h1]; simp), if_neg (by simp), bt_app, bt_app, h3]; rfl
theorem size_app (s t : ByteArray) : (s ++ t).size = s.size + t.size := by
  rw [← bt_len, ← bt_len, ← bt_len, bt_app, List.length_append]
set_option maxRecDepth 20000 in
set_option maxHeartbeats 2000000 in
theorem added_any (w : World) (v : Value) (l : List Int) (hv : IntAt w v l) (hT : TabP w) (hl : l.length ≤ maxLen) (hr : ∀ z ∈ l, -9223372036854775808 ≤ z ∧ z ≤ 9223372036854775807) :
    Calls Tryz.prog 7 #[v] w fun e w' => ∃ (t : ByteArray) (k : Nat), e = .returned (.tuple #[.string t, .int .i64 k]) ∧ SumT t k ∧ k ≤ 10 ∧ t.size ≤ 80 ∧ Fresh w w' := by
  obtain ⟨ao, cap, rfl, hcap, hcell⟩ := hv
  have HC := hid hcell
  have HT := hid hT
  have HR := hid hr
  unfold maxLen at hl
  clear hcell hT hr
  go_enter Tryz.func7, Tryz.ntmps7
  go_wp2
  go_loopw [4, 5, 6, 7] (fun x4 x5 x6 _ wr => ∃ (i : Nat) (t : ByteArray), x6 = .int .i64 i ∧ x5 = .int .i64 i ∧ x4 = .string t ∧ i ≤ 10 ∧ SumT t i ∧ t.size ≤ 8 * i ∧ Fresh w wr)
      (fun _ _ x _ _ => 1001 - (intOf x).toNat)
  case atStart => exact ⟨0, ⟨#[]⟩, rfl, rfl, rfl, by omega, ⟨[], rfl, by simp, rfl⟩, by decide, Mod.refl _ _⟩
  case round =>
    obtain ⟨i, t, rfl, rfl, rfl, hi, hS, hsz, hfr⟩ := hrel
    have HME := hid (meas (B := 1001) i (by omega))
    have HS := hid hS
    have HF := hid hfr
    clear hS
    by_cases hlt : i < l.length ∧ i < 10
    · obtain ⟨h1, h2⟩ := hlt
      have k1 : (i : Int) < (l.length : Int) := by omega
      have k2 : (i : Int) < 10 := by omega
      obtain ⟨g, o, rfl, y5⟩ := HC.out i h1
      have y6 := fcell' hfr y5
      have PI := hid (fun (W : World) => kpick_any W l[i] (HR.out _ (List.getElem_mem h1)))
      have IT := hid (fun (W : World) (hW : Fresh w W) (n : Nat) (hn : n < 100000) => Tryz.strconv_Itoa (n : Int) (by omega) (by omega) W (tab_fresh HT.out hW))
      generalize l[i] = li at y6 PI
      clear y5 hfr
      rcases Nat.eq_zero_or_pos i with h0 | h0
      · subst h0
        rw [Nat.add_zero] at y6
        go_wp2_with (first
          | (go_at_call 17; refine (PI.out _).mono ?_; rintro e w1 ⟨n, hn, rfl, hw⟩; rw [hw]; clear hw; have hq5 : (⟨(Go.Lib.itoa (n : Int)).toArray⟩ : ByteArray).size ≤ 5 := (itoa_dig hn).2; have hq6 : (Go.Lib.itoa (n : Int)).length ≤ 5 := (itoa_dig hn).2)
          | (go_at_call 16; refine (IT.out _ HF.out n hn).mono ?_; rintro e w2 ⟨rfl, kk, os, hw2⟩; have HF2 : Hid (Fresh wr w2) := (by rw [hw2]; exact grow_fresh _ _ _); clear hw2))
        go_roundw
        case rel =>
          have q := itoa_dig hn
          have nx := HS.out.next (x := ⟨(Go.Lib.itoa (n : Int)).toArray⟩) q.1
          rw [if_neg (by omega)] at nx
          refine ⟨0 + 1, _, by go_num, by go_num, rfl, by omega, nx, ?_, HF.out.trans HF2.out⟩
          rw [size_app]
          have : (⟨(Go.Lib.itoa (n : Int)).toArray⟩ : ByteArray).size = (Go.Lib.itoa (n : Int)).length := rfl
          omega
        case measure => exact HME.out
      · have k3 : (0 : Int) < (i : Int) := by omega
        go_wp2_with (first
          | (go_at_call 17; refine (PI.out _).mono ?_; rintro e w1 ⟨n, hn, rfl, hw⟩; rw [hw]; clear hw; have hq5 : (⟨(Go.Lib.itoa (n : Int)).toArray⟩ : ByteArray).size ≤ 5 := (itoa_dig hn).2; have hq6 : (Go.Lib.itoa (n : Int)).length ≤ 5 := (itoa_dig hn).2)
          | (go_at_call 16; refine (IT.out _ HF.out n hn).mono ?_; rintro e w2 ⟨rfl, kk, os, hw2⟩; have HF2 : Hid (Fresh wr w2) := (by rw [hw2]; exact grow_fresh _ _ _); clear hw2))
        go_roundw
        case rel =>
          have q := itoa_dig hn
          have nx := HS.out.next (x := ⟨(Go.Lib.itoa (n : Int)).toArray⟩) q.1
          rw [if_pos h0] at nx
          refine ⟨i + 1, _, by go_num, by go_num, rfl, by omega, nx, ?_, HF.out.trans HF2.out⟩
          rw [size_app, size_app]
          have : (⟨(Go.Lib.itoa (n : Int)).toArray⟩ : ByteArray).size = (Go.Lib.itoa (n : Int)).length := rfl
          have : (⟨#[32, 43, 32]⟩ : ByteArray).size = 3 := rfl
          omega
        case measure => exact HME.out
    · by_cases h1 : i < l.length
      · have k1 : (i : Int) < (l.length : Int) := by omega
        have k2 : ¬ (i : Int) < 10 := by omega
        clear hfr
        go_wp2
        go_ret2
        exact ⟨t, i, rfl, HS.out, hi, by omega, HF.out⟩
      · have k1 : ¬ (i : Int) < (l.length : Int) := by omega
        clear hfr
        go_wp2
        go_ret2
        exact ⟨t, i, rfl, HS.out, hi, by omega, HF.out⟩
end Go.Proofs.YteneagnhihcljaaGreatDoor
namespace Go.Proofs.YteneagnhihcljaaGreatDoor
open Go.RowKit
set_option linter.unusedVariables false
set_option linter.unusedSimpArgs false

/-- a run's outcome, as far as lengths go -/
def RunK (O : ROut) (w : World) (e : Ending) (w' : World) : Prop :=
  ∃ a1 c1 a2 c2 a3 c3, e = .returned (.tuple #[.agg (outA (.slice a1 O.toks.length c1) (.slice a2 O.st.length c2) (.slice a3 O.wanted.length c3) O.place), .int .i64 O.err]) ∧ Fresh w w'
theorem runk_any (s t : ByteArray) (w : World) (hs : s.size ≤ maxLen) (ht : t.size ≤ maxLen) : Calls Tryz.prog 5 #[.string s, .string t] w fun e w' => RunK (runF s t) w e w' := by
  refine (run_any s t w hs ht).mono ?_
  rintro e w' ⟨vt, vn, vw, rfl, hf, h1, h2, h3⟩
  obtain ⟨a1, c1, e1⟩ := own_form h1.own
  obtain ⟨a2, c2, e2⟩ := own_form h2
  obtain ⟨a3, c3, e3⟩ := own_form h3
  rw [nodesF_len] at e2
  subst e1 e2 e3
  exact ⟨a1, c1, a2, c2, a3, c3, rfl, hf⟩
theorem balL_bd (t : ByteArray) : ∀ (m i d n : Nat), i + m ≤ t.size → (balL t m i d n).2.2 ≤ n + m ∧ (balL t m i d n).2.1 ≤ t.size
  | 0, i, d, n, h => by unfold balL; simp
  | m + 1, i, d, n, h => by
    unfold balL
    have h1 := balL_bd t m (i + 1) (d + 1) n (by omega)
    have h2 := balL_bd t m (i + 1) (d - 1) (n + 1) (by omega)
    have h3 := balL_bd t m (i + 1) d n (by omega)
    split
    · omega
    · split
      · split
        · dsimp only; omega
        · omega
      · omega
/-- what the first part says -/
structure PairK (t : ByteArray) (O : ROut) (b : Bool) (p n : Nat) : Prop where
  n60 : n ≤ 60
  p60 : p ≤ 60
  good : b = true → O.err = 0 ∧ O.st.length = 4 * n + 1 ∧ O.toks.length = 2 * n
  bad : b = false → O.err = 10 ∧ O.place = (p : Int)
theorem pair_k {t : ByteArray} (hB : BrT t) (hs : t.size ≤ 60) : PairK t (runF pairsS t) (balL t t.size 0 0 0).1 (balL t t.size 0 0 0).2.1 (balL t t.size 0 0 0).2.2 := by
  have q := run_pairs hB hs
  have b := balL_bd t t.size 0 0 0 (by omega)
  exact ⟨by omega, by omega, q.1, q.2⟩
/-- what the second part says: p of a sum, q of one with + behind it -/
structure SumK (z k : Nat) (p q : ROut) : Prop where
  qe : q.err = 10
  none : k = 0 → p.err = 10 ∧ p.place = 0 ∧ p.wanted.length = 2 ∧ q.place = 0
  some : 0 < k → p.err = 0 ∧ p.st.length = 4 * k ∧ p.toks.length = 2 * k - 1 ∧ q.place = (z : Int) + 1
theorem sum_k {t : ByteArray} {k : Nat} (h : SumT t k) (hk : k ≤ 10) (hs : t.size ≤ 80) : SumK t.size k (runF sumsS t) (runF sumsS (t ++ ⟨#[43]⟩)) := by
  obtain ⟨ds, h1, h2, h3⟩ := h
  have e : bt (t ++ ⟨#[43]⟩) = sumR ds ++ [43] := by rw [bt_app, h3]; rfl
  have hz : (t ++ ⟨#[43]⟩ : ByteArray).size = t.size + 1 := by rw [size_app]; rfl
  rcases Nat.eq_zero_or_pos k with h0 | h0
  · have hd : ds = [] := List.eq_nil_of_length_eq_zero (by omega)
    subst hd
    have q1 := run_none (t := t) h3
    have q2 := run_plus (t := t ++ ⟨#[43]⟩) e
    exact ⟨q2.1, fun _ => ⟨q1.1, q1.2.1, q1.2.2, q2.2⟩, fun q => by omega⟩
  · have hd : ds ≠ [] := by intro q; subst q; simp at h1; omega
    have q1 := run_sums h2 hd (by omega) (by omega) h3
    have q2 := run_more (t := t ++ ⟨#[43]⟩) h2 hd (by omega) (by omega) e
    rw [h1] at q1
    refine ⟨q2.1, fun q => by omega, fun _ => ⟨q1.1, q1.2.1, q1.2.2, ?_⟩⟩
    rw [q2.2, hz]; omega
set_option maxRecDepth 20000 in
set_option maxHeartbeats 4000000 in
theorem known_any (raw : ByteArray) (l : List Int) (v : Value) (w : World) (hs : raw.size ≤ maxLen) (hv : IntAt w v l) (hl : l.length ≤ maxLen) (hr : ∀ z ∈ l, -9223372036854775808 ≤ z ∧ z ≤ 9223372036854775807) (hT : TabP w) :
    Calls Tryz.prog 3 #[.string raw, v] w fun e w' => e = .returned (.bool true) ∧ Fresh w w' := by
  have BR := hid (fun W => brackets_any raw W hs)
  have AD := hid (fun (W : World) (hW : Fresh w W) => added_any W v l (hv.fresh hW) (tab_fresh hT hW) hl hr)
  obtain ⟨ao, cap, rfl, hcap, hcell⟩ := hv
  have RP := hid (fun (W : World) (t : ByteArray) (h2 : t.size ≤ 60) => runk_any pairsS t W (by decide +kernel) (by unfold maxLen; omega))
  have RS := hid (fun (W : World) (t : ByteArray) (h2 : t.size ≤ 81) => runk_any sumsS t W (by decide +kernel) (by unfold maxLen; omega))
  unfold RunK at RP RS
  clear hs hcell hl hr hT
  go_enter Tryz.func3, Tryz.ntmps3
  go_upto_region 4 with (first
    | (go_at_call 4; refine (BR.out _).mono ?_; rintro e w1 ⟨t, rfl, hB, hsz, hf1⟩; have HPK := hid (pair_k hB hsz); have BAL := hid (fun W => balanced_any t W hsz); have RP1 := hid (fun W => RP.out W t hsz); generalize runF pairsS t = O at HPK RP1; generalize balL t t.size 0 0 0 = V at HPK BAL; obtain ⟨bb, pp, nn⟩ := V; dsimp only at HPK BAL; have HF1 := hid hf1; clear hf1 hB hsz BR RP)
    | (go_at_call 5; refine (RP1.out _).mono ?_; rintro e w2 ⟨a1, c1, a2, c2, a3, c3, rfl, hf2⟩; have HF2 := hid (HF1.out.trans hf2); clear hf2 RP1)
    | (go_at_call 6; refine (BAL.out _).mono ?_; rintro e w' ⟨rfl, hw⟩; rw [hw]; clear hw BAL))
  have n60 := HPK.out.n60
  have p60 := HPK.out.p60
  have wrA : IntKind.i64.wrap (4 * (nn : Int)) = 4 * (nn : Int) := by rw [IntKind.wrap_i64]; omega
  have wrB : IntKind.i64.wrap (4 * (nn : Int) + 1) = 4 * (nn : Int) + 1 := by rw [IntKind.wrap_i64]; omega
  have wrC : IntKind.i64.wrap (2 * (nn : Int)) = 2 * (nn : Int) := by rw [IntKind.wrap_i64]; omega
  obtain ⟨ot, os, ow, op, oe, HOE⟩ : ∃ ot os ow op oe, Hid (ot = O.toks.length ∧ os = O.st.length ∧ ow = O.wanted.length ∧ op = O.place ∧ oe = O.err) := ⟨_, _, _, _, _, hid ⟨rfl, rfl, rfl, rfl, rfl⟩⟩
  have hE := HOE.out
  rw [← hE.1, ← hE.2.1, ← hE.2.2.1, ← hE.2.2.2.1, ← hE.2.2.2.2]
  clear hE
  have HG : Hid (bb = true → oe = 0 ∧ os = 4 * nn + 1 ∧ ot = 2 * nn) := hid (fun h => by
    obtain ⟨h1, h2, h3, h4, h5⟩ := HOE.out
    rw [h5, h2, h1]; exact HPK.out.good h)
  have HBd : Hid (bb = false → oe = 10 ∧ op = (pp : Int)) := hid (fun h => by
    obtain ⟨h1, h2, h3, h4, h5⟩ := HOE.out
    rw [h5, h4]; exact HPK.out.bad h)
  clear HPK HOE
  have HF3 : Hid (∀ o : Obj, Fresh w (w2.alloc o)) := hid (fun o => HF2.out.alloc o)
  clear HF1 HF2
  cases bb
  · obtain ⟨rfl, rfl⟩ := HBd.out rfl
    clear HG HBd
    go_upto_region 11 with (first
      | (go_at_call 7; refine (AD.out _ (HF3.out _)).mono ?_; rintro e w4 ⟨s, k, rfl, hS, hk, hz, hf4⟩; have HSK := hid (sum_k hS hk hz); have RS1 := hid (fun W => RS.out W s (by omega)); have RS2 := hid (fun W => RS.out W (s ++ ⟨#[43]⟩) (by rw [size_app]; show s.size + 1 ≤ 81; omega)); generalize runF sumsS s = P at HSK RS1; generalize runF sumsS (s ++ ⟨#[43]⟩) = Q at HSK RS2; have HF4 := hid ((HF3.out _).trans hf4); clear hf4 hS RS AD HF3)
      | (go_at_call 5; refine (RS1.out _).mono ?_; rintro e w5 ⟨b1, d1, b2, d2, b3, d3, rfl, hf5⟩; have HF5 := hid (HF4.out.trans hf5); clear hf5 RS1)
      | (go_at_call 5; refine (RS2.out _).mono ?_; rintro e w6 ⟨f1, g1, f2, g2, f3, g3, rfl, hf6⟩; have HF6 := hid hf6; clear hf6 RS2))
    have hPb : (w6.alloc (.cells #[.slice f1 Q.toks.length g1, .slice f2 Q.st.length g2, .slice f3 Q.wanted.length g3, .int .i64 Q.place] 27)).heap[w5.heap.size]? = some (.cells #[.slice b1 P.toks.length d1, .slice b2 P.st.length d2, .slice b3 P.wanted.length d3, .int .i64 P.place] 27 (0, 0)) := heap_alloc_prev (HF6.out.at (heap_alloc_at _ _) (fun x => x))
    have hQb : (w6.alloc (.cells #[.slice f1 Q.toks.length g1, .slice f2 Q.st.length g2, .slice f3 Q.wanted.length g3, .int .i64 Q.place] 27)).heap[w6.heap.size]? = some (.cells #[.slice f1 Q.toks.length g1, .slice f2 Q.st.length g2, .slice f3 Q.wanted.length g3, .int .i64 Q.place] 27 (0, 0)) := heap_alloc_at _ _
    have HFZ : Hid (Fresh w (w6.alloc (.cells #[.slice f1 Q.toks.length g1, .slice f2 Q.st.length g2, .slice f3 Q.wanted.length g3, .int .i64 Q.place] 27))) := hid (((HF5.out.alloc _).trans HF6.out).alloc _)
    generalize w6.alloc (.cells #[.slice f1 Q.toks.length g1, .slice f2 Q.st.length g2, .slice f3 Q.wanted.length g3, .int .i64 Q.place] 27) = W9 at hPb hQb HFZ ⊢
    have z0 := cellOf hPb 0
    have z1 := cellOf hPb 1
    have z2 := cellOf hPb 2
    have z3 := cellOf hPb 3
    have y3 := cellOf hQb 3
    simp at z0 z1 z2 z3 y3
    have hqe := HSK.out.qe
    have wrS : IntKind.i64.wrap ((s.size : Int) + 1) = (s.size : Int) + 1 := by rw [IntKind.wrap_i64]; omega
    have wrE : IntKind.i64.wrap (4 * (k : Int)) = 4 * (k : Int) := by rw [IntKind.wrap_i64]; omega
    have wrF : IntKind.i64.wrap (2 * (k : Int)) = 2 * (k : Int) := by rw [IntKind.wrap_i64]; omega
    have wrG : IntKind.i64.wrap (2 * (k : Int) - 1) = 2 * (k : Int) - 1 := by rw [IntKind.wrap_i64]; omega
    clear hPb hQb HF4 HF5 HF6
    rcases Nat.eq_zero_or_pos k with h0 | h0
    · obtain ⟨e1, e2, e3, e4⟩ := HSK.out.none h0
      subst h0
      rw [e2] at z3
      rw [e3] at z2
      rw [e4] at y3
      clear HSK
      go_wp2
      go_ret
      exact ⟨ret_bool (by simp), HFZ.out⟩
    · obtain ⟨e1, e2, e3, e4⟩ := HSK.out.some h0
      have k0 : (0 : Int) < (k : Int) := by omega
      have k1 : ¬ (k : Int) = 0 := by omega
      have k2 : ((k : Int) == 0) = false := by simpa using k1
      have k3 : ((s.size : Int) + 1 != 0) = true := by simp; omega
      have k4 : ¬ (s.size : Int) + 1 = 0 := by omega
      obtain ⟨m1, hm1⟩ : ∃ m : Nat, m = P.toks.length := ⟨_, rfl⟩
      obtain ⟨m2, hm2⟩ : ∃ m : Nat, m = P.st.length := ⟨_, rfl⟩
      rw [← hm1] at z0
      rw [← hm2] at z1
      have hm3 : (m1 : Int) = 2 * (k : Int) - 1 := by omega
      have hm4 : (m2 : Int) = 4 * (k : Int) := by omega
      rw [e4] at y3
      clear HSK hm1 hm2 e2 e3 e4
      go_wp2
      go_ret
      exact ⟨ret_bool (by simp), HFZ.out⟩
  · obtain ⟨rfl, rfl, rfl⟩ := HG.out rfl
    clear HG HBd
    go_upto_region 11 with (first
      | (go_at_call 7; refine (AD.out _ (HF3.out _)).mono ?_; rintro e w4 ⟨s, k, rfl, hS, hk, hz, hf4⟩; have HSK := hid (sum_k hS hk hz); have RS1 := hid (fun W => RS.out W s (by omega)); have RS2 := hid (fun W => RS.out W (s ++ ⟨#[43]⟩) (by rw [size_app]; show s.size + 1 ≤ 81; omega)); generalize runF sumsS s = P at HSK RS1; generalize runF sumsS (s ++ ⟨#[43]⟩) = Q at HSK RS2; have HF4 := hid ((HF3.out _).trans hf4); clear hf4 hS RS AD HF3)
      | (go_at_call 5; refine (RS1.out _).mono ?_; rintro e w5 ⟨b1, d1, b2, d2, b3, d3, rfl, hf5⟩; have HF5 := hid (HF4.out.trans hf5); clear hf5 RS1)
      | (go_at_call 5; refine (RS2.out _).mono ?_; rintro e w6 ⟨f1, g1, f2, g2, f3, g3, rfl, hf6⟩; have HF6 := hid hf6; clear hf6 RS2))
    have hPb : (w6.alloc (.cells #[.slice f1 Q.toks.length g1, .slice f2 Q.st.length g2, .slice f3 Q.wanted.length g3, .int .i64 Q.place] 27)).heap[w5.heap.size]? = some (.cells #[.slice b1 P.toks.length d1, .slice b2 P.st.length d2, .slice b3 P.wanted.length d3, .int .i64 P.place] 27 (0, 0)) := heap_alloc_prev (HF6.out.at (heap_alloc_at _ _) (fun x => x))
    have hQb : (w6.alloc (.cells #[.slice f1 Q.toks.length g1, .slice f2 Q.st.length g2, .slice f3 Q.wanted.length g3, .int .i64 Q.place] 27)).heap[w6.heap.size]? = some (.cells #[.slice f1 Q.toks.length g1, .slice f2 Q.st.length g2, .slice f3 Q.wanted.length g3, .int .i64 Q.place] 27 (0, 0)) := heap_alloc_at _ _
    have HFZ : Hid (Fresh w (w6.alloc (.cells #[.slice f1 Q.toks.length g1, .slice f2 Q.st.length g2, .slice f3 Q.wanted.length g3, .int .i64 Q.place] 27))) := hid (((HF5.out.alloc _).trans HF6.out).alloc _)
    generalize w6.alloc (.cells #[.slice f1 Q.toks.length g1, .slice f2 Q.st.length g2, .slice f3 Q.wanted.length g3, .int .i64 Q.place] 27) = W9 at hPb hQb HFZ ⊢
    have z0 := cellOf hPb 0
    have z1 := cellOf hPb 1
    have z2 := cellOf hPb 2
    have z3 := cellOf hPb 3
    have y3 := cellOf hQb 3
    simp at z0 z1 z2 z3 y3
    have hqe := HSK.out.qe
    have wrS : IntKind.i64.wrap ((s.size : Int) + 1) = (s.size : Int) + 1 := by rw [IntKind.wrap_i64]; omega
    have wrE : IntKind.i64.wrap (4 * (k : Int)) = 4 * (k : Int) := by rw [IntKind.wrap_i64]; omega
    have wrF : IntKind.i64.wrap (2 * (k : Int)) = 2 * (k : Int) := by rw [IntKind.wrap_i64]; omega
    have wrG : IntKind.i64.wrap (2 * (k : Int) - 1) = 2 * (k : Int) - 1 := by rw [IntKind.wrap_i64]; omega
    clear hPb hQb HF4 HF5 HF6
    rcases Nat.eq_zero_or_pos k with h0 | h0
    · obtain ⟨e1, e2, e3, e4⟩ := HSK.out.none h0
      subst h0
      rw [e2] at z3
      rw [e3] at z2
      rw [e4] at y3
      clear HSK
      go_wp2
      go_ret
      exact ⟨ret_bool (by simp), HFZ.out⟩
    · obtain ⟨e1, e2, e3, e4⟩ := HSK.out.some h0
      have k0 : (0 : Int) < (k : Int) := by omega
      have k1 : ¬ (k : Int) = 0 := by omega
      have k2 : ((k : Int) == 0) = false := by simpa using k1
      have k3 : ((s.size : Int) + 1 != 0) = true := by simp; omega
      have k4 : ¬ (s.size : Int) + 1 = 0 := by omega
      obtain ⟨m1, hm1⟩ : ∃ m : Nat, m = P.toks.length := ⟨_, rfl⟩
      obtain ⟨m2, hm2⟩ : ∃ m : Nat, m = P.st.length := ⟨_, rfl⟩
      rw [← hm1] at z0
      rw [← hm2] at z1
      have hm3 : (m1 : Int) = 2 * (k : Int) - 1 := by omega
      have hm4 : (m2 : Int) = 4 * (k : Int) := by omega
      rw [e4] at y3
      clear HSK hm1 hm2 e2 e3 e4
      go_wp2
      go_ret
      exact ⟨ret_bool (by simp), HFZ.out⟩
end Go.Proofs.YteneagnhihcljaaGreatDoor
namespace Go.Proofs.YteneagnhihcljaaGreatDoor
open Go.ChangeShapes Go.WideShapes Go.ChangeAt Go.RowKit
open Go.ChangeMaps (open_string shut_string)
set_option linter.unusedVariables false
set_option linter.unusedSimpArgs false

theorem Tryz.own : ownKnob Tryz.prog.godebug = none := by kernel_rfl
theorem Tryz.laidOut : laidOutB Tryz.prog = true := by kernel_rfl
theorem Tryz.tabT : (Tryz.prog.globalNamed "internal/strconv.uint64pow10").bind (fun g => (Tryz.prog.globals[g]?).map (·.type)) = some 157 := by kernel_rfl
theorem known_door (os : Os) (args : Array Value) : laidMetH Tryz.prog Rows.knownRow.laid ((World.doorLaid Tryz.prog 400 os).forCall (fun _ _ => 0) ⟨#[], args, []⟩).memory :=
  laidMetH_of_parts3 (fuel := 8) (laidMet_of_run' 8 (by kernel_rfl) (by kernel_rfl)) (by kernel_rfl) (by kernel_rfl)
theorem known_tab {W : World} (h : laidMetH Tryz.prog Rows.knownRow.laid W) : TabP W := by
  rw [MakeChecks.laidMetH_plain _ _ _ (by kernel_rfl)] at h
  obtain ⟨ps, ⟨g0, t0, cs0, f0, p0, q0, hg0, ht0, hv0, hd0, ⟨g1, t1, cs1, f1, p1, q1, hg1, ht1, hv1, hd1, ⟨g2, t2, cs2, f2, p2, q2, hg2, ht2, hv2, hd2, _, _⟩, _⟩, _⟩, _, _⟩ := h
  have e := Tryz.tabT
  rw [hg2, Option.bind_some, ht2] at e
  injection e with e
  subst e
  show W.var? Tryz.prog "internal/strconv.uint64pow10" = _
  rw [hv2, ← Go.Lib.cells_of_tab (zs := Go.Lib.pow10Tab) (k := .u64) Tryz.underlying157 Tryz.underlying142 (by kernel_rfl) (by kernel_rfl) hd2]

set_option maxRecDepth 100000 in
theorem known_lifted (os : Os) (started : os.Started) (H : Type) (enc : TypeId × Value → H) :
    ReturnsInHanded {} Tryz.checked os 3 .any (fun w args => (Rows.knownSpec.pre enc Tryz.prog Tryz.f3 [] false w args ∧ laidMetH Tryz.prog Rows.knownRow.laid w) ∧ sizedMet enc Tryz.prog Tryz.f3 (OpenSpec.ofChange Rows.knownSpec) false w args)
      (Rows.knownSpec.post enc Tryz.prog Tryz.f3 false true false false) := by
  refine returnsInHanded_of_change_and (C := Tryz.checked) (X := fun w _ => laidMetH Tryz.prog Rows.knownRow.laid w) (fun _ _ _ hh h => h.of_heap hh) Tryz.own started (by kernel_rfl) Tryz.func3
    (ChangeSpec.witness_shaped (enc := enc) (C := Tryz.checked) (os := os) (X := fun w _ => laidMetH Tryz.prog Rows.knownRow.laid w) false (World.doorLaid Tryz.prog 400 os) #[.string ByteArray.empty, .slice none 0 0] 8 rfl (World.shaped_of_RefB (by kernel_rfl) (by kernel_rfl)) (by kernel_rfl) (by kernel_rfl) (by kernel_rfl) (known_door os _)) ?_
  intro W base args ds gs before hval0 hW _ _ hL _
  have hval : ∀ (j : Nat) t v, Tryz.f3.params[j]? = some t → args[j]? = some v → Value.okWide Tryz.prog W .any base t v := hval0
  have hW' := hW
  obtain ⟨p, q, hA0, hV, rfl, hfz, hnd⟩ := hW
  have hA : DataW.TrodAll enc Tryz.prog W 0 (fun _ => true) true Tryz.f3.params.toList args.toList ds p := hA0
  rw [Tryz.params3] at hA hval
  obtain ⟨v0, v1, d0, d1, p0, p1, rfl, rfl, rfl, h0, h1⟩ := trodAll_two hA
  obtain ⟨rfl, rfl⟩ := trodVars_none hV
  obtain ⟨s, rfl, rfl, rfl, ws⟩ := open_string Tryz.underlying9 (hval 0 9 v0 rfl rfl) h0
  obtain ⟨a1, len1, cap1, rfl⟩ := okWide_slice Tryz.underlying22 (hval 1 22 v1 rfl rfl)
  have k1 := h1
  have lt1 : ∀ x ∈ p1, x.block < W.heap.size := by obtain ⟨m, hm⟩ := k1; exact DataW.trod_lt m _ _ _ hm
  obtain ⟨kinds, hk, hm, hcr⟩ : ∃ kinds, IntAt W (.slice a1 len1 cap1) kinds ∧ kinds.length ≤ maxLen ∧ ∀ z ∈ kinds, -9223372036854775808 ≤ z ∧ z ≤ 9223372036854775807 := by
    obtain ⟨fuel, hf⟩ := h1
    rcases open_ints Tryz.underlying22 Tryz.underlying3 (by kernel_rfl) hf with ⟨hcs, _⟩ | ⟨x, l, c, zs, hcs, _, hl, hm, hz, _, hcell, hwz⟩
    · simp [Value.cells] at hcs
      obtain ⟨rfl, rfl, rfl⟩ := hcs
      exact ⟨[], ⟨none, 0, rfl, Nat.le_refl _, fun j hj => absurd hj (by simp)⟩, by simp, fun z hz => by (cases hz)⟩
    · simp [Value.cells] at hcs
      obtain ⟨rfl, rfl, rfl⟩ := hcs
      have hz' : zs.length = cap1 := by simpa using hz
      have hzl : (zs.take len1).length = len1 := by rw [List.length_take]; omega
      refine ⟨zs.take len1, ⟨some x, cap1, by rw [hzl], by rw [hzl]; exact hl, fun j hj => ?_⟩, by rw [hzl]; omega, fun z hz => ?_⟩
      · obtain ⟨b, off, rfl, hc⟩ := ints_at hcell (by omega)
        have hj2 : j < zs.length := by omega
        refine ⟨b, off, rfl, ?_⟩
        have := hc j hj2
        rw [List.getElem_take]
        rw [List.getD_eq_getElem?_getD, List.getElem?_eq_getElem hj2] at this
        exact this
      · have := hwz z (List.mem_of_mem_take hz)
        exact bounds_i64 this
  clear hA0 hval0
  simp only [List.append_nil] at hW'
  refine (known_any s kinds _ W ws hk hm hcr (known_tab hL)).mono fun e W' ⟨he, hF⟩ => ?_
  subst he
  have hB := hF.below
  refine ⟨_, rfl, _, _, _, [], p1, [], hW', ?_, ?_, ?_, hB.frame _, fun h => by cases h⟩
  · exact trodAll_mk1 (shut_bool Tryz.underlying4 true)
  · exact trodAll_mk2 (shut_string Tryz.underlying9 ws) (Below.trod Tryz.laidOut (by kernel_rfl) (of_decide_eq_true (by kernel_rfl)) k1 hB lt1)
  · trivial

theorem known_said : Rows.KnownSaid :=
  OpenClaim.holds_of_wide 3 Tryz.f3 rfl rfl rfl rfl rfl rfl rfl ⟨rfl, rfl, rfl, rfl, rfl⟩ rfl rfl rfl rfl rfl (by kernel_rfl) Tryz.func3 (by kernel_rfl)
    (of_decide_eq_true (by kernel_rfl)) (by unfold Func.isWrapper; first | (rw [if_pos (by decide +kernel)]; kernel_rfl) | (rw [if_neg (by decide +kernel)]; exact ⟨rfl, rfl⟩))
    (fun os started H enc _ => known_lifted os started H enc)
theorem known_holds : Rows.KnownCardSaid :=
  Claim7.holds_tied_plain_at .later [] [.data, .data, .data] true Rows.knownCard.stood.harness false
    known_said (fun _ h => by cases h) (by kernel_rfl) (fun _ h => by cases h) known_row_tie rfl ⟨rfl, rfl⟩ (by kernel_rfl) rfl
    (fun f fn hf hfn => by
      obtain rfl : f = 3 := Option.some.inj ((show Tryz.prog.funcNamed "grammar/grammarkeep.Known" = some 3 by kernel_rfl).symm.trans hf) |>.symm
      obtain rfl : fn = Tryz.f3 := (Option.some.inj (Tryz.func3.symm.trans hfn)).symm
      exact ⟨by kernel_rfl, fun j t ht => by
        rw [Tryz.params3] at ht
        have hm : t ∈ [9, 22] := by simpa using Array.mem_of_getElem? ht
        have hall : ([9, 22].all fun u => !Tryz.prog.wantsStandIn u) = true := by kernel_rfl
        exact (show Tryz.prog.wantsStandIn t = false by simpa using List.all_eq_true.1 hall t hm)⟩)
    (by kernel_rfl)
#print axioms known_holds
end Go.Proofs.YteneagnhihcljaaGreatDoor
