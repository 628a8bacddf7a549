import Derived.Test.YteneagnhihcljaaGreatDoorKn4
import Derived.Test.YteneagnhihcljaaGreatDoorTwc
import Derived.Laws.IdiomStrings
import Derived.OwnWalk
namespace Go.Proofs.YteneagnhihcljaaGreatDoor
open Go.RowKit
set_option linter.unusedVariables false
set_option linter.unusedSimpArgs false

theorem tokK_len (ks : List RK) (cl : Nat → Nat) (t : ByteArray) : ∀ (f i : Nat), i ≤ t.size → (tokK ks cl t f i).length ≤ t.size - i
  | 0, i, _ => by unfold tokK; simp
  | f + 1, i, h => by
    unfold tokK
    split
    · rename_i hi
      have bd := nxtK_bd ks cl t hi
      have ih := tokK_len ks cl t f (nxtK ks cl t i) bd.2
      rw [List.length_append]
      split
      · simp; omega
      · simp; omega
    · simp
theorem run_is {s t : ByteArray} {T : List Tk} {ps : List Pr} {hs : List Hd} {R H : Nat} (h2 : t.size ≤ 200) (hc : checkF s = (0, 0)) (hcl : clashF s = []) (hcut : cutF (rulesOf s) t = (T, 0, 0)) (hT : T.length ≤ 60) (e1 : tableOf (rLines s).1 = ps) (e2 : setsF s = hs) (e3 : (frontsOf (rLines s).1).length = R) (e4 : (headsOf (rLines s).1).length = H) :
    runF s t = if (grwF ps hs R H (T.map Tk.r) 0 [⟨true, 0⟩] []).err ≠ 0 then ⟨(grwF ps hs R H (T.map Tk.r) 0 [⟨true, 0⟩] []).err, [], [], (grwF ps hs R H (T.map Tk.r) 0 [⟨true, 0⟩] []).wanted, placeF T (grwF ps hs R H (T.map Tk.r) 0 [⟨true, 0⟩] []).place t.size⟩ else ⟨0, T, (grwF ps hs R H (T.map Tk.r) 0 [⟨true, 0⟩] []).st, [], 0⟩ := by
  subst e1 e2 e3 e4
  unfold runF
  rw [if_neg (by omega), hc, if_neg (by simp), if_neg (by rw [hcl]; simp), hcut]
  unfold runG
  dsimp only
  rw [if_neg (by simp), if_neg (by omega)]
  rfl
/-- brackets -/
theorem run_pairs {t : ByteArray} (hB : BrT t) (hs : t.size ≤ 60) :
    ((balL t t.size 0 0 0).1 = true → (runF pairsS t).err = 0 ∧ (runF pairsS t).st.length = 4 * (balL t t.size 0 0 0).2.2 + 1 ∧ (runF pairsS t).toks.length = 2 * (balL t t.size 0 0 0).2.2) ∧
    ((balL t t.size 0 0 0).1 = false → (runF pairsS t).err = 10 ∧ (runF pairsS t).place = ((balL t t.size 0 0 0).2.1 : Int)) := by
  have hl := tokK_len ksP clP t (t.size + 1) 0 (by omega)
  have sim := pairs_sim hB (t.size + 1) t.size 0 0 0 0 [] [] (by omega) (by omega) (by omega) (by omega) rfl rfl
  rw [List.nil_append] at sim
  rw [run_is (by omega) pairs_ok pairs_cl (pairs_cls hB).cutF (by omega) pairs_tab pairs_sets pairs_R pairs_H]
  rw [show stk 0 = [⟨true, 0⟩] from rfl] at sim
  generalize grwF psP hsP 3 1 ((tokK ksP clP t (t.size + 1) 0).map Tk.r) 0 [⟨true, 0⟩] [] = G at sim
  refine ⟨fun h => ?_, fun h => ?_⟩
  · obtain ⟨q1, q2, q3⟩ := sim.good h
    rw [if_neg (by rw [q1]; simp)]
    exact ⟨rfl, q2, q3⟩
  · obtain ⟨q1, q2⟩ := sim.bad h
    rw [if_pos (by rw [q1]; simp)]
    exact ⟨q1, q2⟩
/-- sums -/
theorem run_sums {t : ByteArray} {ds : List (List Nat)} (hD : ∀ d ∈ ds, DigL d) (h0 : ds ≠ []) (h10 : ds.length ≤ 10) (h2 : t.size ≤ 200) (hb : bt t = sumR ds) :
    (runF sumsS t).err = 0 ∧ (runF sumsS t).st.length = 4 * ds.length ∧ (runF sumsS t).toks.length = 2 * ds.length - 1 := by
  have hcl := sums_cls (t := t) (by rw [hb]; exact sumR_sm ds hD)
  have hk := sum_toks (t := t) (z := []) (.inl rfl) ds 0 (t.size + 1) hD h0 (by rw [List.drop_zero, hb, List.append_nil]) (by rw [List.append_nil, ← hb, bt_len]; omega)
  rw [if_pos rfl, List.append_nil] at hk
  have hn : 0 < ds.length := List.length_pos_iff.2 h0
  have hlen : (tokK ksS clS t (t.size + 1) 0).length = 2 * ds.length - 1 := by
    have := congrArg List.length hk
    rw [List.length_map, List.length_cons, kR_len] at this
    omega
  obtain ⟨st, s1, s2⟩ := sums_good (ds.length - 1)
  rw [run_is h2 sums_ok sums_cl hcl.cutF (by omega) sums_tab sums_sets sums_R sums_H, hk, s2, if_neg (by simp)]
  exact ⟨rfl, by rw [s1]; omega, hlen⟩
theorem run_more {t : ByteArray} {ds : List (List Nat)} (hD : ∀ d ∈ ds, DigL d) (h0 : ds ≠ []) (h10 : ds.length ≤ 10) (h2 : t.size ≤ 200) (hb : bt t = sumR ds ++ [43]) :
    (runF sumsS t).err = 10 ∧ (runF sumsS t).place = t.size := by
  have hcl := sums_cls (t := t) (by
    rw [hb]; intro c hc
    rw [List.mem_append] at hc
    rcases hc with hc | hc
    · exact sumR_sm ds hD c hc
    · simp at hc; subst hc; exact .inr (.inl rfl))
  have hk := sum_toks (t := t) (z := [43]) (.inr rfl) ds 0 (t.size + 1) hD h0 (by rw [List.drop_zero, hb]) (by rw [← hb, bt_len]; omega)
  rw [if_neg (by simp)] at hk
  have hn : 0 < ds.length := List.length_pos_iff.2 h0
  have hlen : (tokK ksS clS t (t.size + 1) 0).length = 2 * ds.length := by
    have := congrArg List.length hk
    rw [List.length_map, List.length_append, List.length_cons, kR_len] at this
    simp at this
    omega
  obtain ⟨s1, s2⟩ := sums_bad (ds.length - 1)
  rw [run_is h2 sums_ok sums_cl hcl.cutF (by omega) sums_tab sums_sets sums_R sums_H, hk]
  rw [if_pos (by rw [s1]; simp)]
  refine ⟨s1, ?_⟩
  dsimp only
  rw [s2]
  unfold placeF
  rw [if_neg (by omega), Int.toNat_natCast, List.getElem?_eq_none (by omega)]
theorem run_none {t : ByteArray} (hb : bt t = []) : (runF sumsS t).err = 10 ∧ (runF sumsS t).place = 0 ∧ (runF sumsS t).wanted.length = 2 := by
  have h0 : t.size = 0 := by rw [← bt_len, hb]; rfl
  have hcl := sums_cls (t := t) (by rw [hb]; simp)
  have hk : tokK ksS clS t (t.size + 1) 0 = [] := by rw [tokK, if_neg (by omega)]
  rw [run_is (by omega) sums_ok sums_cl hcl.cutF (by rw [hk]; simp) sums_tab sums_sets sums_R sums_H, hk, List.map_nil, sums_none, if_pos (by simp)]
  refine ⟨rfl, ?_, rfl⟩
  unfold placeF
  rw [h0]; rfl
theorem run_plus {t : ByteArray} (hb : bt t = [43]) : (runF sumsS t).err = 10 ∧ (runF sumsS t).place = 0 := by
  have h1 : t.size = 1 := by rw [← bt_len, hb]; rfl
  have hcl := sums_cls (t := t) (by rw [hb]; intro c hc; simp at hc; subst hc; exact .inr (.inl rfl))
  have hk : tokK ksS clS t (t.size + 1) 0 = [⟨1, 0, 1⟩] := by
    rw [tok_plus (r := []) (by rw [List.drop_zero, hb]), h1, tokK, if_neg (by omega)]
    rfl
  obtain ⟨s1, s2⟩ := sums_plus
  rw [run_is (by omega) sums_ok sums_cl hcl.cutF (by rw [hk]; simp) sums_tab sums_sets sums_R sums_H, hk]
  have e : ([⟨1, 0, 1⟩] : List Tk).map Tk.r = [1] := rfl
  rw [e, if_pos (by rw [s1]; simp)]
  refine ⟨s1, ?_⟩
  dsimp only
  rw [s2]; rfl
end Go.Proofs.YteneagnhihcljaaGreatDoor
namespace Go.Proofs.YteneagnhihcljaaGreatDoor
open Go.RowKit
set_option linter.unusedVariables false
set_option linter.unusedSimpArgs false

def bys (l : List UInt8) : List Value := l.map fun b => .int .u8 (b.toNat : Int)
theorem infoU8k : (Tryz.prog.info? 5).map (fun i => (i.zero, i.size, i.bytes)) = some (some (.int .u8 0), 1, 1) := by kernel_rfl
theorem infoU8k' : ∃ i, Tryz.prog.info? 5 = some i ∧ i.zero = some (.int .u8 0) ∧ i.size = 1 ∧ i.bytes = 1 := by
  have h := infoU8k
  cases hq : Tryz.prog.info? 5 with
  | none => simp [hq] at h
  | some i => simp [hq] at h; exact ⟨i, rfl, h.1, h.2.1, h.2.2⟩
theorem br_of {l : List UInt8} (h : ∀ c ∈ l, c.toNat = 40 ∨ c.toNat = 41 ∨ c.toNat = 32) : BrT ⟨l.toArray⟩ := by
  intro i hi
  have hi' : i < l.length := by
    have : (⟨l.toArray⟩ : ByteArray).size = l.length := rfl
    omega
  have e : atN ⟨l.toArray⟩ i = l[i].toNat := by
    unfold atN
    rw [dif_pos hi]
    rfl
  rw [e]
  exact h _ (List.getElem_mem hi')
theorem idx3 (n : Nat) (h : n < (⟨#[40, 41, 32]⟩ : ByteArray).size) : ((⟨#[40, 41, 32]⟩ : ByteArray)[n]'h).toNat = 40 ∨ ((⟨#[40, 41, 32]⟩ : ByteArray)[n]'h).toNat = 41 ∨ ((⟨#[40, 41, 32]⟩ : ByteArray)[n]'h).toNat = 32 := by
  have h3 : n < 3 := h
  rcases (show n = 0 ∨ n = 1 ∨ n = 2 by omega) with rfl | rfl | rfl
  · exact .inl rfl
  · exact .inr (.inl rfl)
  · exact .inr (.inr rfl)
theorem conv_nil (w : World) (c : Nat) : (convert 36 9 (.slice none 0 c)).run Tryz.prog w = .ok (.string ⟨#[]⟩) w := by
  rw [run_convert_bytes_string w 36 9 5 none 0 c Tryz.underlying36 Tryz.underlying5 Tryz.underlying9]
  simp [Conv.bytesToString]
  rfl
theorem conv_own {w : World} {base : Nat} {v : Value} {l : List UInt8} (h : w.ownsRow base 5 1 v l.length (bys l)) : (convert 36 9 v).run Tryz.prog w = .ok (.string ⟨l.toArray⟩) w := by
  rcases h.2 with ⟨rfl, hl⟩ | ⟨g, cap, cur, rfl, hb, hg, hn, hc, hs, ht⟩
  · have : l = [] := List.eq_nil_of_length_eq_zero hl
    subst this
    exact conv_nil w 0
  · refine run_convert_bytes_back (P := Tryz.prog) w 36 9 5 ⟨g, 0, none⟩ cap l Tryz.underlying36 Tryz.underlying5 Tryz.underlying9 (fun j hj => ?_)
    exact h.cells (g := g) rfl j _ (by unfold bys; rw [List.getElem?_map, List.getElem?_eq_getElem hj]; rfl)
set_option maxRecDepth 20000 in
set_option maxHeartbeats 2000000 in
theorem brackets_any (raw : ByteArray) (w : World) (hs : raw.size ≤ maxLen) :
    Calls Tryz.prog 4 #[.string raw] w fun e w' => ∃ t : ByteArray, e = .returned (.string t) ∧ BrT t ∧ t.size ≤ 60 ∧ Fresh w w' := by
  obtain ⟨i0, hi0, hz0, hz1, hz2⟩ := infoU8k'
  unfold maxLen at hs
  go_enter Tryz.func4, Tryz.ntmps4
  go_wp2
  go_loopw [3, 4] (fun x3 x4 wr => ∃ (i : Nat) (l : List UInt8), x4 = .int .i64 i ∧ i ≤ 60 ∧ l.length = i ∧ (∀ c ∈ l, c.toNat = 40 ∨ c.toNat = 41 ∨ c.toNat = 32) ∧ wr.ownsRow w.heap.size 5 1 x3 l.length (bys l) ∧ Fresh w wr)
      (fun _ x _ => 1001 - (intOf x).toNat)
  case atStart => exact ⟨0, [], rfl, by omega, rfl, by simp, World.ownsRow_nil _ _ _ _, Mod.refl _ _⟩
  case round =>
    obtain ⟨i, l, rfl, hi, hl, hb, hown, hfr⟩ := hrel
    have HME := hid (meas (B := 1001) i (by omega))
    have HO := hid hown
    have HF := hid hfr
    have HB := hid hb
    have HL := hid hl
    obtain ⟨ao, cp, hv⟩ := own_form hown
    subst hv
    have hlb : l.length ≤ 60 := by omega
    have hsz : w.heap.size ≤ wr.heap.size := hfr.size
    by_cases hlt : i < raw.size ∧ i < 60
    · obtain ⟨h1, h2⟩ := hlt
      have k1 : (i : Int) < (raw.size : Int) := by omega
      have k2 : (i : Int) < 60 := by omega
      have go : ∀ y : UInt8, (y.toNat = 40 ∨ y.toNat = 41 ∨ y.toNat = 32) → Hid (∀ (v9 : Value) (w4 : World), w4.ownsRow w.heap.size 5 1 v9 (l.length + 1) (bys l ++ [.int .u8 (y.toNat : Int)]) → (wr.alloc (.cells #[.int .u8 (y.toNat : Int)] 5)).grownBy w4 (Value.ownBlock (.slice ao l.length cp)) → w4.ownsRow w.heap.size 5 1 v9 (l ++ [y]).length (bys (l ++ [y])) ∧ Fresh w w4 ∧ (l ++ [y]).length = i + 1 ∧ (∀ c ∈ l ++ [y], c.toNat = 40 ∨ c.toNat = 41 ∨ c.toNat = 32)) := fun y hy => hid (fun v9 w4 q1 q2 => by
        refine ⟨by rw [List.length_append]; unfold bys; rw [List.map_append]; exact q1, Mod.grown (S := fun _ => False) (HF.out.alloc _) q2 (fun k hk hlt => by have := (HO.out.lt k hk).1; omega), by rw [List.length_append, HL.out]; rfl, fun c hc => ?_⟩
        rw [List.mem_append] at hc
        rcases hc with hc | hc
        · exact HB.out c hc
        · rw [List.mem_singleton] at hc; subst hc; exact hy)
      have GO := hid (fun y hy => (go y hy).out)
      have hwr : wrap64 (raw[i].toNat : Int) = (raw[i].toNat : Int) := by
        have := raw[i].toNat_lt
        unfold wrap64; omega
      have hx1 : 0 ≤ (wrap64 (raw[i].toNat : Int)).tmod 3 := by rw [hwr]; exact Int.tmod_nonneg _ (by omega)
      have hx2 : (wrap64 (raw[i].toNat : Int)).tmod 3 < 3 := Int.tmod_lt_of_pos _ (by omega)
      clear hwr
      clear hown hfr hb hl go
      go_wp2_with (first
        | (at_builtin; refine wpList_append_mine _ rfl _ _ 36 rfl w.heap.size 5 i0 _ 1 1 Tryz.underlying36 hi0 hz0 hz1 hz2 rfl (by decide) (.slice ao l.length cp) l.length (bys l) rfl (HO.out.alloc _) ⟨wr.heap.size, 0, none⟩ 1 1 [_] rfl rfl (new_cells rfl) (by intro u hu; simp only [List.mem_singleton] at hu; subst hu; rfl) (by unfold maxLen; omega) (by omega) (by simp; omega) ?_))
      intro v9 w4 q1 q2 q3
      have FIN := hid (GO.out _ (idx3 _ _) v9 w4 q1 q2)
      clear q1 q2 q3
      go_wp2
      go_roundw
      case rel => exact ⟨i + 1, _, by go_num, by omega, FIN.out.2.2.1, FIN.out.2.2.2, FIN.out.1, FIN.out.2.1⟩
      case measure => exact HME.out
    · have CV := conv_own HO.out
      have FIN : Hid (BrT ⟨l.toArray⟩ ∧ (⟨l.toArray⟩ : ByteArray).size ≤ 60) := hid ⟨br_of HB.out, by show l.length ≤ 60; omega⟩
      clear hown hfr hb hl
      by_cases h1 : i < raw.size
      · have k1 : (i : Int) < (raw.size : Int) := by omega
        have k2 : ¬ (i : Int) < 60 := by omega
        go_wp2
        go_ret
        exact ⟨_, rfl, FIN.out.1, FIN.out.2, HF.out⟩
      · have k1 : ¬ (i : Int) < (raw.size : Int) := by omega
        go_wp2
        go_ret
        exact ⟨_, rfl, FIN.out.1, FIN.out.2, HF.out⟩
/-- the balance, byte by byte -/
theorem balL_s (t : ByteArray) (m i d n : Nat) (h : i < m) : balL t (m - i) i d n = if atN t i = 40 then balL t (m - (i + 1)) (i + 1) (d + 1) n else if atN t i = 41 then (if d = 0 then (false, i, n) else balL t (m - (i + 1)) (i + 1) (d - 1) (n + 1)) else balL t (m - (i + 1)) (i + 1) d n := by
  rw [show m - i = (m - (i + 1)) + 1 by omega]; rfl
set_option maxRecDepth 20000 in
set_option maxHeartbeats 2000000 in
theorem balanced_any (t : ByteArray) (w : World) (hs : t.size ≤ 60) :
    Calls Tryz.prog 6 #[.string t] w fun e w' => e = .returned (.tuple #[.bool (balL t t.size 0 0 0).1, .int .i64 ((balL t t.size 0 0 0).2.1 : Nat), .int .i64 ((balL t t.size 0 0 0).2.2 : Nat)]) ∧ w' = w := by
  generalize hV : balL t t.size 0 0 0 = V
  have HV := hid hV
  clear hV
  go_enter Tryz.func6, Tryz.ntmps6
  go_wp2
  go_loopw [5, 6, 7] (fun x5 x6 x7 wr => ∃ (i d n : Nat), x7 = .int .i64 i ∧ x5 = .int .i64 d ∧ x6 = .int .i64 n ∧ wr = w ∧ i ≤ t.size ∧ d ≤ i ∧ n ≤ i ∧ balL t (t.size - i) i d n = V)
      (fun _ _ x _ => 1001 - (intOf x).toNat)
  case atStart => exact ⟨0, 0, 0, rfl, rfl, rfl, rfl, by omega, by omega, by omega, HV.out⟩
  case round =>
    obtain ⟨i, d, n, rfl, rfl, rfl, rfl, hi, hd, hn, hrec⟩ := hrel
    have HME := hid (meas (B := 1001) i (by omega))
    by_cases hlt : i < t.size
    · have k1 : (i : Int) < (t.size : Int) := by omega
      rw [balL_s _ _ _ _ _ hlt] at hrec
      have hat : atN t i = t[i].toNat := by unfold atN; rw [dif_pos hlt]
      rw [hat] at hrec
      have hb : t[i].toNat ≤ 255 := by have := t[i].toNat_lt; omega
      by_cases c1 : t[i].toNat = 40
      · rw [if_pos c1] at hrec
        have HREC := hid hrec
        clear hrec hat
        go_wp2
        go_roundw
        case rel => exact ⟨i + 1, d + 1, n, by go_num, by go_num, rfl, by first | rfl | trivial, by omega, by omega, by omega, HREC.out⟩
        case measure => exact HME.out
      · rw [if_neg c1] at hrec
        have c1' : ¬ ((t[i].toNat : Int) = 40) := by omega
        by_cases c2 : t[i].toNat = 41
        · rw [if_pos c2] at hrec
          by_cases c3 : d = 0
          · rw [if_pos c3] at hrec
            subst c3
            have HREC := hid hrec
            clear hrec hat
            go_wp2
            go_ret3
            rw [← HREC.out]
            exact ⟨rfl, rfl⟩
          · rw [if_neg c3] at hrec
            have c3' : ¬ ((d : Int) = 0) := by omega
            have HREC := hid hrec
            clear hrec hat
            go_wp2
            go_roundw
            case rel => exact ⟨i + 1, d - 1, n + 1, by go_num, by go_num, by go_num, by first | rfl | trivial, by omega, by omega, by omega, HREC.out⟩
            case measure => exact HME.out
        · rw [if_neg c2] at hrec
          have c2' : ¬ ((t[i].toNat : Int) = 41) := by omega
          have HREC := hid hrec
          clear hrec hat
          go_wp2
          go_roundw
          case rel => exact ⟨i + 1, d, n, by go_num, rfl, rfl, by first | rfl | trivial, by omega, by omega, by omega, HREC.out⟩
          case measure => exact HME.out
    · have k1 : ¬ (i : Int) < (t.size : Int) := by omega
      rw [show t.size - i = 0 by omega] at hrec
      have HREC := hid hrec
      clear hrec
      go_wp2
      go_ret3
      rw [← HREC.out]
      unfold balL
      refine ⟨?_, rfl⟩
      by_cases c : d = 0
      · subst c; rfl
      · simp [c]
end Go.Proofs.YteneagnhihcljaaGreatDoor
