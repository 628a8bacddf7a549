import Derived.Test.YteneagnhihcljaaGreatDoorKn1
import Derived.Test.YteneagnhihcljaaGreatDoorGt4
import Derived.Test.YteneagnhihcljaaGreatDoorSg2
import Derived.Test.YteneagnhihcljaaGreatDoorGt2
import Derived.Test.YteneagnhihcljaaGreatDoorLx3
import Derived.Test.YteneagnhihcljaaGreatDoorPd5
namespace Go.Proofs.YteneagnhihcljaaGreatDoor
open Go.RowKit
set_option linter.unusedVariables false
set_option linter.unusedSimpArgs false

/-- a text's bytes -/
def bt (t : ByteArray) : List Nat := t.data.toList.map UInt8.toNat
theorem bt_len (t : ByteArray) : (bt t).length = t.size := by unfold bt; rw [List.length_map, Array.length_toList]; rfl
theorem atN_bt (t : ByteArray) (i : Nat) : atN t i = (bt t).getD i 0 := by
  unfold atN bt
  rw [List.getD_eq_getElem?_getD, List.getElem?_map]
  split
  · rename_i h
    have h' : i < t.data.toList.length := by rw [Array.length_toList]; exact h
    rw [List.getElem?_eq_getElem h']
    simp only [Option.map_some, Option.getD_some, Array.getElem_toList]
    rfl
  · rename_i h
    rw [List.getElem?_eq_none (by rw [Array.length_toList]; exact Nat.le_of_not_lt h)]; rfl
theorem atN_drop {t : ByteArray} {i c : Nat} {r : List Nat} (h : (bt t).drop i = c :: r) : atN t i = c ∧ i < t.size ∧ (bt t).drop (i + 1) = r := by
  have hl : i < (bt t).length := by
    rcases Nat.lt_or_ge i (bt t).length with q | q
    · exact q
    · rw [List.drop_eq_nil_of_le q] at h; cases h
  rw [List.drop_eq_getElem_cons hl, List.cons.injEq] at h
  refine ⟨?_, by rw [← bt_len]; exact hl, h.2⟩
  rw [atN_bt, List.getD_eq_getElem?_getD, List.getElem?_eq_getElem hl, Option.getD_some]; exact h.1
theorem endR_list (C : Nat → Bool) (t : ByteArray) : ∀ (d r : List Nat) (m i : Nat), (bt t).drop i = d ++ r → (∀ c ∈ d, C c = true) → (∀ c, r.head? = some c → C c = false) → d.length ≤ m → (r = [] → m = d.length) → endR C t m i = i + d.length
  | [], r, 0, i, h, h1, h2, hm, hz => rfl
  | [], r, m + 1, i, h, h1, h2, hm, hz => by
    rw [List.nil_append] at h
    cases r with
    | nil => have := hz rfl; simp at this
    | cons c r =>
      unfold endR
      rw [(atN_drop h).1, if_neg (by rw [h2 c rfl]; simp)]; rfl
  | c :: d, r, 0, i, h, h1, h2, hm, hz => by simp at hm
  | c :: d, r, m + 1, i, h, h1, h2, hm, hz => by
    unfold endR
    obtain ⟨e1, e2, e3⟩ := atN_drop h
    rw [e1, if_pos (h1 c (by simp)), endR_list C t d r m (i + 1) e3 (fun x hx => h1 x (by simp [hx])) h2 (by simp at hm; omega) (fun q => by have := hz q; simp at this; omega)]
    simp; omega
/-- of sums -/
def sumsS : ByteArray := ⟨#[110, 117, 109, 61, 91, 48, 45, 57, 93, 43, 10, 112, 108, 117, 115, 61, 92, 43, 10, 111, 112, 101, 110, 61, 92, 40, 10, 99, 108, 111, 115, 101, 61, 92, 41, 10, 103, 97, 112, 126, 32, 43, 10, 83, 117, 109, 58, 32, 80, 97, 114, 116, 32, 82, 101, 115, 116, 10, 82, 101, 115, 116, 58, 32, 112, 108, 117, 115, 32, 80, 97, 114, 116, 32, 82, 101, 115, 116, 10, 82, 101, 115, 116, 58, 10, 80, 97, 114, 116, 58, 32, 110, 117, 109, 10, 80, 97, 114, 116, 58, 32, 111, 112, 101, 110, 32, 83, 117, 109, 32, 99, 108, 111, 115, 101, 10]⟩
def wsD : List Int := [287948901175001088, 0, 0, 0]
def ksS : List RK := [⟨wsD, true, false⟩, ⟨[8796093022208, 0, 0, 0], false, false⟩, ⟨[1099511627776, 0, 0, 0], false, false⟩, ⟨[2199023255552, 0, 0, 0], false, false⟩, ⟨[4294967296, 0, 0, 0], true, true⟩]
def psS : List Pr := [⟨0, [⟨true, 2⟩, ⟨true, 1⟩]⟩, ⟨1, [⟨false, 1⟩, ⟨true, 2⟩, ⟨true, 1⟩]⟩, ⟨1, []⟩, ⟨2, [⟨false, 0⟩]⟩, ⟨2, [⟨false, 2⟩, ⟨true, 0⟩, ⟨false, 3⟩]⟩]
def hsS : List Hd := [⟨false, true, true, [true, false, true, false, false, false, false, false, false], [false, false, false, true, false, true, false, false, false]⟩, ⟨true, true, true, [false, true, false, false, false, false, false, false, false], [false, false, false, true, false, true, false, false, false]⟩, ⟨false, true, true, [true, false, true, false, false, false, false, false, false], [false, true, false, true, false, true, false, false, false]⟩]
set_option maxRecDepth 100000 in
theorem sums_ok : checkF sumsS = (0, 0) := by kernel_rfl
set_option maxRecDepth 100000 in
theorem sums_tab : tableOf (rLines sumsS).1 = psS := by kernel_rfl
set_option maxRecDepth 100000 in
theorem sums_R : (frontsOf (rLines sumsS).1).length = 5 := by kernel_rfl
set_option maxRecDepth 100000 in
theorem sums_H : (headsOf (rLines sumsS).1).length = 3 := by kernel_rfl
set_option maxRecDepth 100000 in
theorem sums_cl : clashF sumsS = [] := by kernel_rfl
set_option maxRecDepth 100000 in
theorem sums_sets : setsF sumsS = hsS := by kernel_rfl
set_option maxRecDepth 100000 in
theorem sums_rules : (rulesOf sumsS).map (fun x => (x.skip, x.ns, x.st, x.en)) = ksS.map (fun k => (k.sk, if k.run = true then rnN k.ws else chN k.ws, if k.run = true then (2 : Int) else 1, if k.run = true then (3 : Int) else 0)) := by kernel_rfl
def clS (c : Nat) : Nat := if c = 43 then 1 else if c = 40 then 2 else if c = 41 then 3 else if c = 32 then 4 else 0
/-- bytes of sums -/
def SmB (c : Nat) : Prop := (48 ≤ c ∧ c ≤ 57) ∨ c = 43 ∨ c = 32
theorem sm_cases {c : Nat} (h : SmB c) : c ∈ [48, 49, 50, 51, 52, 53, 54, 55, 56, 57, 43, 32] := by
  simp only [List.mem_cons, List.not_mem_nil, or_false]
  unfold SmB at h
  omega
theorem sm_all : ([48, 49, 50, 51, 52, 53, 54, 55, 56, 57, 43, 32].all fun c => decide (clS c < 5) && (List.range 5).all fun j => decide (hasB (kOf ksS j).ws c = true ↔ clS c = j)) = true := by decide +kernel
theorem sm_one {c : Nat} (h : SmB c) : clS c < 5 ∧ ∀ j, j < 5 → (hasB (kOf ksS j).ws c = true ↔ clS c = j) := by
  have := List.all_eq_true.1 sm_all c (sm_cases h)
  rw [Bool.and_eq_true, decide_eq_true_eq] at this
  refine ⟨this.1, fun j hj => ?_⟩
  have := List.all_eq_true.1 this.2 j (List.mem_range.2 hj)
  exact of_decide_eq_true this
theorem sums_cls {t : ByteArray} (h : ∀ c ∈ bt t, SmB c) : Cls ksS (rulesOf sumsS) clS t := by
  obtain ⟨h1, h2⟩ := ks_is (ks := ksS) (lns := rulesOf sumsS) sums_rules
  have hb : ∀ i, i < t.size → SmB (atN t i) := fun i hi => by
    rw [atN_bt, List.getD_eq_getElem?_getD, List.getElem?_eq_getElem (by rw [bt_len]; exact hi)]
    exact h _ (List.getElem_mem _)
  refine ⟨h1, h2, fun i hi => (sm_one (hb i hi)).1, fun i j k hi hk => ?_⟩
  have hj : j < 5 := (List.getElem?_eq_some_iff.1 hk).1
  have e : kOf ksS j = k := by unfold kOf; rw [List.getD_eq_getElem?_getD, hk]; rfl
  have := (sm_one (hb i hi)).2 j hj
  rw [e] at this
  exact this
theorem dig_cls {c : Nat} (h : 48 ≤ c ∧ c ≤ 57) : clS c = 0 := by
  unfold clS
  rw [if_neg (by omega), if_neg (by omega), if_neg (by omega), if_neg (by omega)]
theorem dig_has {c : Nat} (h : 48 ≤ c ∧ c ≤ 57) : hasB wsD c = true := ((sm_one (.inl h)).2 0 (by omega)).2 (dig_cls h)
theorem tok_num {t : ByteArray} {i f : Nat} {d r : List Nat} (h : (bt t).drop i = d ++ r) (hd : d ≠ []) (h1 : ∀ c ∈ d, 48 ≤ c ∧ c ≤ 57) (h2 : ∀ c, r.head? = some c → hasB wsD c = false) :
    tokK ksS clS t (f + 1) i = ⟨0, i, ((i + d.length : Nat) : Int)⟩ :: tokK ksS clS t f (i + d.length) := by
  cases d with
  | nil => exact absurd rfl hd
  | cons c d =>
    obtain ⟨e1, e2, e3⟩ := atN_drop h
    have hc := h1 c (by simp)
    have hn : nxtK ksS clS t i = i + (c :: d).length := by
      unfold nxtK
      rw [e1, dig_cls hc]
      rw [show kOf ksS 0 = ⟨wsD, true, false⟩ from rfl]
      dsimp only
      rw [if_pos rfl]
      have e3' : (bt t).drop (i + 1) = d ++ r := e3
      have hlen : (d ++ r).length = t.size - (i + 1) := by rw [← e3', List.length_drop, bt_len]
      rw [List.length_append] at hlen
      rw [endR_list (hasB wsD) t d r (t.size - (i + 1)) (i + 1) e3 (fun x hx => dig_has (h1 x (by simp [hx]))) h2 (by omega) (fun q => by subst q; simp at hlen; omega)]
      simp; omega
    rw [tokK, if_pos e2, hn, e1, dig_cls hc, show (kOf ksS 0).sk = false from rfl, if_neg (by simp)]
    rfl
theorem tok_plus {t : ByteArray} {i f : Nat} {r : List Nat} (h : (bt t).drop i = 43 :: r) : tokK ksS clS t (f + 1) i = ⟨1, i, ((i + 1 : Nat) : Int)⟩ :: tokK ksS clS t f (i + 1) := by
  obtain ⟨e1, e2, e3⟩ := atN_drop h
  have hn : nxtK ksS clS t i = i + 1 := by unfold nxtK; rw [e1]; rfl
  rw [tokK, if_pos e2, hn, e1]
  rfl
theorem tok_blank {t : ByteArray} {i f : Nat} {r : List Nat} (h : (bt t).drop i = 32 :: r) (h2 : ∀ c, r.head? = some c → hasB [4294967296, 0, 0, 0] c = false) (hr : r ≠ []) : tokK ksS clS t (f + 1) i = tokK ksS clS t f (i + 1) := by
  obtain ⟨e1, e2, e3⟩ := atN_drop h
  have hn : nxtK ksS clS t i = i + 1 := by
    unfold nxtK
    rw [e1, show kOf ksS (clS 32) = ⟨[4294967296, 0, 0, 0], true, true⟩ from rfl]
    dsimp only
    rw [if_pos rfl]
    exact endR_list _ t [] r _ (i + 1) e3 (by simp) h2 (by simp) (fun q => absurd q hr)
  rw [tokK, if_pos e2, hn, e1, show (kOf ksS (clS 32)).sk = true from rfl, if_pos rfl, List.nil_append]
end Go.Proofs.YteneagnhihcljaaGreatDoor
namespace Go.Proofs.YteneagnhihcljaaGreatDoor
open Go.RowKit
set_option linter.unusedVariables false
set_option linter.unusedSimpArgs false

/-- numbers with + between them -/
def sumR : List (List Nat) → List Nat
  | [] => []
  | d :: r => d ++ (if r = [] then [] else [32, 43, 32] ++ sumR r)
def DigL (d : List Nat) : Prop := d ≠ [] ∧ ∀ c ∈ d, 48 ≤ c ∧ c ≤ 57
theorem sumR_snoc : ∀ (ds : List (List Nat)) (d : List Nat), sumR (ds ++ [d]) = if ds = [] then d else sumR ds ++ [32, 43, 32] ++ d
  | [], d => by simp [sumR]
  | [e], d => by simp [sumR]
  | e :: x :: l, d => by
    have ih := sumR_snoc (x :: l) d
    rw [if_neg (by simp)] at ih
    rw [if_neg (by simp)]
    show e ++ (if (x :: l) ++ [d] = [] then [] else [32, 43, 32] ++ sumR ((x :: l) ++ [d])) = (e ++ (if x :: l = [] then [] else [32, 43, 32] ++ sumR (x :: l))) ++ [32, 43, 32] ++ d
    rw [if_neg (by simp), if_neg (by simp), ih]
    simp only [List.append_assoc]
theorem sumR_sm : ∀ (ds : List (List Nat)), (∀ d ∈ ds, DigL d) → ∀ c ∈ sumR ds, SmB c
  | [], _, c, hc => by simp [sumR] at hc
  | d :: r, h, c, hc => by
    unfold sumR at hc
    rw [List.mem_append] at hc
    rcases hc with hc | hc
    · exact .inl ((h d (by simp)).2 c hc)
    · split at hc
      · cases hc
      · rw [List.mem_append] at hc
        rcases hc with hc | hc
        · simp only [List.mem_cons, List.not_mem_nil, or_false] at hc
          unfold SmB; omega
        · exact sumR_sm r (fun x hx => h x (by simp [hx])) c hc
def kR : Nat → List Int
  | 0 => []
  | k + 1 => 1 :: 0 :: kR k
theorem hasB_32 : hasB wsD 32 = false := by decide +kernel
theorem hasB_43 : hasB wsD 43 = false := by decide +kernel
theorem hasB_b43 : hasB [4294967296, 0, 0, 0] 43 = false := by decide +kernel
theorem dig_nb {c : Nat} (h : 48 ≤ c ∧ c ≤ 57) : hasB [4294967296, 0, 0, 0] c = false := by
  have := (sm_one (.inl h)).2 4 (by omega)
  rw [dig_cls h] at this
  have e : (kOf ksS 4).ws = [4294967296, 0, 0, 0] := rfl
  rw [e] at this
  cases hq : hasB [4294967296, 0, 0, 0] c with
  | false => rfl
  | true => have := this.1 hq; omega
/-- the kinds of a sum -/
theorem sum_toks {t : ByteArray} {z : List Nat} (hz : z = [] ∨ z = [43]) : ∀ (ds : List (List Nat)) (i f : Nat), (∀ d ∈ ds, DigL d) → ds ≠ [] → (bt t).drop i = sumR ds ++ z → (sumR ds ++ z).length < f →
    (tokK ksS clS t f i).map Tk.r = 0 :: kR (ds.length - 1) ++ (if z = [] then [] else [1])
  | [], i, f, _, h0, _, _ => absurd rfl h0
  | [d], i, f, hD, h0, h, hf => by
    have hd := hD d (by simp)
    have e : sumR [d] = d := by simp [sumR]
    rw [e] at h hf
    rw [List.length_append] at hf
    obtain ⟨f', rfl⟩ : ∃ f', f = f' + 1 := ⟨f - 1, by omega⟩
    have hdl : 0 < d.length := List.length_pos_iff.2 hd.1
    rw [tok_num h hd.1 hd.2 (fun c hc => by
      rcases hz with rfl | rfl
      · simp at hc
      · simp at hc; subst hc; exact hasB_43), List.map_cons]
    have h2 : (bt t).drop (i + d.length) = z := by rw [← List.drop_drop, h, List.drop_left]
    obtain ⟨g, rfl⟩ : ∃ g, f' = g + 1 := ⟨f' - 1, by omega⟩
    rcases hz with rfl | rfl
    · have hs : ¬ i + d.length < t.size := by
        intro q
        have := congrArg List.length h2
        rw [List.length_drop, bt_len] at this
        simp at this; omega
      rw [tokK, if_neg hs]; rfl
    · rw [tok_plus h2, List.map_cons]
      have h3 := (atN_drop h2).2.2
      have hs : ¬ i + d.length + 1 < t.size := by
        intro q
        have := congrArg List.length h3
        rw [List.length_drop, bt_len] at this
        simp at this; omega
      cases g with
      | zero => rfl
      | succ g => rw [tokK, if_neg hs]; rfl
  | d :: d2 :: r, i, f, hD, h0, h, hf => by
    have hd := hD d (by simp)
    have hd2 := hD d2 (by simp)
    have e : sumR (d :: d2 :: r) ++ z = d ++ (32 :: 43 :: 32 :: (sumR (d2 :: r) ++ z)) := by
      rw [sumR, if_neg (by simp)]; simp
    rw [e] at h hf
    rw [List.length_append] at hf
    simp only [List.length_cons] at hf
    have hdl : 0 < d.length := List.length_pos_iff.2 hd.1
    obtain ⟨f', rfl⟩ : ∃ f', f = f' + 1 + 1 + 1 + 1 := ⟨f - 4, by omega⟩
    rw [tok_num h hd.1 hd.2 (fun c hc => by simp at hc; subst hc; exact hasB_32), List.map_cons]
    have h2 : (bt t).drop (i + d.length) = 32 :: 43 :: 32 :: (sumR (d2 :: r) ++ z) := by rw [← List.drop_drop, h, List.drop_left]
    rw [tok_blank h2 (fun c hc => by simp at hc; subst hc; exact hasB_b43) (by simp)]
    have h3 := (atN_drop h2).2.2
    rw [tok_plus h3, List.map_cons]
    have h4 := (atN_drop h3).2.2
    obtain ⟨x, l, hx⟩ : ∃ x l, d2 = x :: l := by
      cases hq : d2 with
      | nil => exact absurd hq hd2.1
      | cons x l => exact ⟨x, l, rfl⟩
    have hhead : (sumR (d2 :: r) ++ z).head? = some x := by rw [sumR, hx]; rfl
    rw [tok_blank h4 (fun c hc => by
      rw [hhead, Option.some.injEq] at hc
      subst hc
      exact dig_nb (hd2.2 x (by rw [hx]; simp))) (by intro q; rw [q] at hhead; cases hhead)]
    have h5 := (atN_drop h4).2.2
    rw [sum_toks hz (d2 :: r) _ f' (fun y hy => hD y (by simp at hy ⊢; exact .inr hy)) (by simp) h5 (by omega)]
    simp [kR]
theorem wanS_s : wanB hsS 5 [⟨true, 0⟩] = [true, false, true, false, false, false, false, false, false] := by kernel_rfl
theorem wanS_r : wanB hsS 5 [⟨true, 1⟩] = [false, true, false, false, false, true, false, false, false] := by kernel_rfl
theorem wanS_p : wanB hsS 5 [⟨true, 2⟩, ⟨true, 1⟩] = [true, false, true, false, false, false, false, false, false] := by kernel_rfl
theorem chS00 : chF hsS psS 0 0 = 0 := by kernel_rfl
theorem chS20 : chF hsS psS 2 0 = 3 := by kernel_rfl
theorem chS11 : chF hsS psS 1 1 = 1 := by kernel_rfl
theorem chS15 : chF hsS psS 1 5 = 2 := by kernel_rfl
theorem enoughS (n : Nat) : 4 ≤ enough 3 n := by
  unfold enough
  have : 4 ≤ szF (szN 3) 3 + 1 := by decide +kernel
  omega
theorem gToS {t : Nat} {k : List Sy} {st : List St} {r : List Sy × List St} (h : gTo psS (chF hsS psS) t 4 k st = some r) : gToF psS hsS 3 t k st = r := by
  unfold gToF
  rw [gTo_mono 4 _ _ _ h _ (enoughS _)]; rfl
theorem gS_s (st : List St) : gToF psS hsS 3 0 [⟨true, 0⟩] st = ([⟨true, 1⟩], st ++ [⟨false, 0⟩] ++ [⟨false, 3⟩] ++ [⟨true, 0⟩]) := by
  refine gToS ?_
  rw [gTo, if_neg (by simp), chS00, if_pos (by omega)]
  show gTo psS (chF hsS psS) 0 3 (⟨true, 2⟩ :: [⟨true, 1⟩]) (st ++ [⟨false, 0⟩]) = _
  rw [gTo, if_neg (by simp), chS20, if_pos (by omega)]
  rfl
theorem gS_r (st : List St) : gToF psS hsS 3 1 [⟨true, 1⟩] st = ([⟨true, 2⟩, ⟨true, 1⟩], st ++ [⟨false, 1⟩] ++ [⟨true, 1⟩]) := by
  refine gToS ?_
  rw [gTo, if_neg (by simp), chS11, if_pos (by omega)]
  rfl
theorem gS_p (st : List St) : gToF psS hsS 3 0 [⟨true, 2⟩, ⟨true, 1⟩] st = ([⟨true, 1⟩], st ++ [⟨false, 3⟩] ++ [⟨true, 0⟩]) := by
  refine gToS ?_
  rw [gTo, if_neg (by simp), chS20, if_pos (by omega)]
  rfl
theorem gS_e (st : List St) : gToF psS hsS 3 5 [⟨true, 1⟩] st = ([], st ++ [⟨false, 2⟩]) := by
  refine gToS ?_
  rw [gTo, if_neg (by simp), chS15, if_pos (by omega)]
  rfl
theorem sums_grow : ∀ (k a : Nat) (l : List Int) (st : List St), ∃ st', st'.length = st.length + 4 * k ∧ grwF psS hsS 5 3 (kR k ++ l) a [⟨true, 1⟩] st = grwF psS hsS 5 3 l (a + 2 * k) [⟨true, 1⟩] st'
  | 0, a, l, st => ⟨st, by simp, rfl⟩
  | k + 1, a, l, st => by
    obtain ⟨st', h1, h2⟩ := sums_grow k (a + 1 + 1) l (st ++ [⟨false, 1⟩] ++ [⟨true, 1⟩] ++ [⟨false, 3⟩] ++ [⟨true, 0⟩])
    refine ⟨st', by rw [h1]; simp; omega, ?_⟩
    rw [show kR (k + 1) = 1 :: 0 :: kR k from rfl, List.cons_append, List.cons_append, grwF, wanS_r, if_pos (by decide), show (1 : Int).toNat = 1 from rfl, gS_r]
    dsimp only
    rw [grwF, wanS_p, if_pos (by decide), show (0 : Int).toNat = 0 from rfl, gS_p]
    dsimp only
    rw [h2, show a + 1 + 1 + 2 * k = a + 2 * (k + 1) by omega]
/-- a sum is taken -/
theorem sums_good (k : Nat) : ∃ st : List St, st.length = 4 * (k + 1) ∧ grwF psS hsS 5 3 (0 :: kR k) 0 [⟨true, 0⟩] [] = ⟨0, [], 0, st⟩ := by
  obtain ⟨st', h1, h2⟩ := sums_grow k 1 [] ([] ++ [⟨false, 0⟩] ++ [⟨false, 3⟩] ++ [⟨true, 0⟩])
  rw [List.append_nil] at h2
  refine ⟨st' ++ [⟨false, 2⟩], by simp at h1 ⊢; omega, ?_⟩
  rw [grwF, wanS_s, if_pos (by decide), show (0 : Int).toNat = 0 from rfl, gS_s]
  dsimp only
  rw [show (0 + 1 : Nat) = 1 from rfl, h2, grwF, wanS_r, if_pos (by decide), gS_e]
/-- a sum with + behind it is not -/
theorem sums_bad (k : Nat) : (grwF psS hsS 5 3 (0 :: kR k ++ [1]) 0 [⟨true, 0⟩] []).err = 10 ∧ (grwF psS hsS 5 3 (0 :: kR k ++ [1]) 0 [⟨true, 0⟩] []).place = 2 * k + 2 := by
  obtain ⟨st', h1, h2⟩ := sums_grow k 1 [1] ([] ++ [⟨false, 0⟩] ++ [⟨false, 3⟩] ++ [⟨true, 0⟩])
  have e : grwF psS hsS 5 3 (0 :: kR k ++ [1]) 0 [⟨true, 0⟩] [] = ⟨10, listT (wanB hsS 5 [⟨true, 2⟩, ⟨true, 1⟩]), 1 + 2 * k + 1, []⟩ := by
    rw [List.cons_append, grwF, wanS_s, if_pos (by decide), show (0 : Int).toNat = 0 from rfl, gS_s]
    dsimp only
    rw [show (0 + 1 : Nat) = 1 from rfl, h2, grwF, wanS_r, if_pos (by decide), show (1 : Int).toNat = 1 from rfl, gS_r]
    dsimp only
    rw [grwF, wanS_p, if_neg (by decide)]
  rw [e]
  exact ⟨rfl, by dsimp only; omega⟩
theorem sums_none : grwF psS hsS 5 3 [] 0 [⟨true, 0⟩] [] = ⟨10, [0, 2], 0, []⟩ := by kernel_rfl
theorem sums_plus : (grwF psS hsS 5 3 [1] 0 [⟨true, 0⟩] []).err = 10 ∧ (grwF psS hsS 5 3 [1] 0 [⟨true, 0⟩] []).place = 0 := by constructor <;> kernel_rfl
theorem kR_len : ∀ k, (kR k).length = 2 * k
  | 0 => rfl
  | k + 1 => by unfold kR; simp [kR_len k]; omega
end Go.Proofs.YteneagnhihcljaaGreatDoor
namespace Go.Proofs.YteneagnhihcljaaGreatDoor
open Go.RowKit
set_option linter.unusedVariables false
set_option linter.unusedSimpArgs false

def gdA (fp : Value) (L : List Int) : Array Value := (fp :: nums L).toArray
theorem gd_at {fp : Value} {L : List Int} {j : Nat} (h : j < L.length) : (gdA fp L)[1 + j]? = some (.int .i64 (L.getD j 0)) := by
  unfold gdA
  rw [List.getElem?_toArray, Nat.add_comm, List.getElem?_cons_succ, List.getElem?_map, List.getElem?_eq_getElem h]
  simp [h]
set_option maxRecDepth 20000 in
set_option maxHeartbeats 2000000 in
theorem choose_any (w : World) (gb : Nat) (fp : Value) (L : List Int) (hL : L.length = 72) (hb : w.heap[gb]? = some (.cells (gdA fp L) 108 (0, 0))) (n t : Nat) (hn : n < 8) (ht : t < 9) :
    Calls Tryz.prog 49 #[bptr gb, .int .i64 n, .int .i64 t] w fun e w' => e = .returned (.int .i64 (L.getD (n * 9 + t) 0)) ∧ w' = w := by
  have c1 : w.cell? ⟨gb, 1 + n * 9 + t, none⟩ = some (.int .i64 (L.getD (n * 9 + t) 0)) := by
    rw [cellOf hb, Nat.add_assoc, gd_at (by omega)]
  generalize L.getD (n * 9 + t) 0 = V at c1
  have h1 : (n : Int) < 8 := by omega
  have h2 : (t : Int) < 9 := by omega
  clear hb hL
  go_enter Tryz.func49, Tryz.ntmps49
  go_wp2
  go_ret
  exact ⟨rfl, rfl⟩
end Go.Proofs.YteneagnhihcljaaGreatDoor
namespace Go.Proofs.YteneagnhihcljaaGreatDoor
open Go.RowKit
set_option linter.unusedVariables false
set_option linter.unusedSimpArgs false

def St.cells (s : St) : List Value := [.bool s.leaf, .int .i8 s.num]
abbrev StOwn (w : World) (base : Nat) (v : Value) (l : List St) : Prop := w.ownsRow base 121 2 v l.length (flatC St.cells l)
theorem infoSt : (Tryz.prog.info? 121).map (fun i => (i.zero, i.size, i.bytes)) = some (some (.agg #[.bool false, .int .i8 0]), 2, 2) := by kernel_rfl
theorem infoSt' : ∃ i, Tryz.prog.info? 121 = some i ∧ i.zero = some (.agg #[.bool false, .int .i8 0]) ∧ i.size = 2 ∧ i.bytes = 2 := by
  have h := infoSt
  cases hq : Tryz.prog.info? 121 with
  | none => simp [hq] at h
  | some i => simp [hq] at h; exact ⟨i, rfl, h.1, h.2.1, h.2.2⟩
theorem flatC_snoc {α : Type} (f : α → List Value) (l : List α) (x : α) : flatC f (l ++ [x]) = flatC f l ++ f x := by simp [flatC]
/-- the grower in memory: B: below it nothing is changed -/
structure GA (w : World) (b B : Nat) (R H : Int) (vp vg vk vs : Value) (k : List Sy) (st : List St) : Prop where
  lo : B ≤ b
  blk : w.heap[b]? = some (.cells #[.int .i64 R, .int .i64 H, vp, vg, vk, vs] 88 (0, 0))
  ks : SyOwn w B vk k.reverse
  ss : StOwn w B vs st
  kb : vk.ownBlock ≠ some b
  sb : vs.ownBlock ≠ some b
  ap : ∀ j, vk.ownBlock = some j → vs.ownBlock ≠ some j
section
variable {w W w1 : World} {b B : Nat} {R H : Int} {vp vg vk vs v' : Value} {k : List Sy} {st : List St}
theorem GA.lt (h : GA w b B R H vp vg vk vs k st) : b < w.heap.size := heap_lt h.blk
theorem GA.cell (h : GA w b B R H vp vg vk vs k st) (o : Nat) : w.cell? ⟨b, o, none⟩ = #[.int .i64 R, .int .i64 H, vp, vg, vk, vs][o]? := cellOf h.blk o
theorem GA.frozen (h : GA w b B R H vp vg vk vs k st) (o : Nat) : w.frozen? ⟨b, o, none⟩ = false := frozenOf h.blk o
theorem GA.fresh (h : GA w b B R H vp vg vk vs k st) (hf : Fresh w W) : GA W b B R H vp vg vk vs k st :=
  ⟨h.lo, hf.at h.blk (fun x => x), ownsRow_other h.ks (fun g hg => hf.block g (h.ks.lt g hg).2 (fun x => x)), ownsRow_other h.ss (fun g hg => hf.block g (h.ss.lt g hg).2 (fun x => x)), h.kb, h.sb, h.ap⟩
theorem GA.grown5 (h : GA w b B R H vp vg vk vs k st) (hW : Fresh w W) (hg : W.grownBy w1 vs.ownBlock) : w1.heap[b]? = some (.cells #[.int .i64 R, .int .i64 H, vp, vg, vk, vs] 88 (0, 0)) := by
  have hbb := hW.at h.blk (fun x => x)
  rw [hg.block b (heap_lt hbb) (fun e => h.sb e.symm)]; exact hbb
theorem GA.grown4 (h : GA w b B R H vp vg vk vs k st) (hW : Fresh w W) (hg : W.grownBy w1 vk.ownBlock) : w1.heap[b]? = some (.cells #[.int .i64 R, .int .i64 H, vp, vg, vk, vs] 88 (0, 0)) := by
  have hbb := hW.at h.blk (fun x => x)
  rw [hg.block b (heap_lt hbb) (fun e => h.kb e.symm)]; exact hbb
/-- one step more -/
theorem GA.step (h : GA w b B R H vp vg vk vs k st) (hW : Fresh w W) {x : St} (hown : w1.ownsRow B 121 2 v' (st.length + 1) (flatC St.cells st ++ x.cells)) (hg : W.grownBy w1 vs.ownBlock)
    (hb : ∀ j, v'.ownBlock = some j → vs.ownBlock = some j ∨ W.heap.size ≤ j) :
    GA (w1.setCell ⟨b, 5, none⟩ v') b B R H vp vg vk v' k (st ++ [x]) ∧ UpB B w (w1.setCell ⟨b, 5, none⟩ v') := by
  have h1 := h.grown5 hW hg
  have hlt := h.lt
  have hsz := hW.size
  have hv'b : v'.ownBlock ≠ some b := fun e => by
    rcases hb b e with h2 | h2
    · exact h.sb h2
    · omega
  refine ⟨⟨h.lo, ?_, ?_, ?_, h.kb, hv'b, ?_⟩, ?_⟩
  · rw [Proofs.YteneagnhihcljaaGreatDoor.heap_setCell_same h1 5 v']; rfl
  · refine ownsRow_other h.ks (fun g hg' => ?_)
    have hl := h.ks.lt g hg'
    rw [Proofs.YteneagnhihcljaaGreatDoor.heap_setCell_other _ (by intro e; exact h.kb (by rw [hg']; exact congrArg some e)), hg.block g (by omega) (fun e => h.ap g hg' e.symm), hW.block g hl.2 (fun x => x)]
  · show World.ownsRow _ _ _ _ _ (st ++ [x]).length _
    rw [flatC_snoc, List.length_append, List.length_singleton]
    exact ownsRow_other hown (fun g hg' => by rw [Proofs.YteneagnhihcljaaGreatDoor.heap_setCell_other _ (by intro e; exact hv'b (by rw [hg']; exact congrArg some e))])
  · intro j hj hj'
    rcases hb j hj' with h2 | h2
    · exact h.ap j hj h2
    · have := (h.ks.lt j hj).2; omega
  · have m1 : UpB B w W := hW.mono (fun _ _ x => x.elim)
    exact (m1.grown hg (fun j hj _ => (h.ss.lt j hj).1)).setCell (fun _ => h.lo) _
/-- one symbol more on the stack -/
theorem GA.push (h : GA w b B R H vp vg vk vs k st) (hW : Fresh w W) {x : Sy} (hown : w1.ownsRow B 84 2 v' (k.reverse.length + 1) (flatC Sy.cells k.reverse ++ x.cells)) (hg : W.grownBy w1 vk.ownBlock)
    (hb : ∀ j, v'.ownBlock = some j → vk.ownBlock = some j ∨ W.heap.size ≤ j) :
    GA (w1.setCell ⟨b, 4, none⟩ v') b B R H vp vg v' vs (x :: k) st ∧ UpB B w (w1.setCell ⟨b, 4, none⟩ v') := by
  have h1 := h.grown4 hW hg
  have hlt := h.lt
  have hsz := hW.size
  have hv'b : v'.ownBlock ≠ some b := fun e => by
    rcases hb b e with h2 | h2
    · exact h.kb h2
    · omega
  refine ⟨⟨h.lo, ?_, ?_, ?_, hv'b, h.sb, ?_⟩, ?_⟩
  · rw [Proofs.YteneagnhihcljaaGreatDoor.heap_setCell_same h1 4 v']; rfl
  · show World.ownsRow _ _ _ _ _ (x :: k).reverse.length _
    rw [List.reverse_cons, flatC_snoc, List.length_append, List.length_singleton]
    exact ownsRow_other hown (fun g hg' => by rw [Proofs.YteneagnhihcljaaGreatDoor.heap_setCell_other _ (by intro e; exact hv'b (by rw [hg']; exact congrArg some e))])
  · refine ownsRow_other h.ss (fun g hg' => ?_)
    have hl := h.ss.lt g hg'
    rw [Proofs.YteneagnhihcljaaGreatDoor.heap_setCell_other _ (by intro e; exact h.sb (by rw [hg']; exact congrArg some e)), hg.block g (by omega) (fun e => h.ap g e.symm hg'), hW.block g hl.2 (fun x => x)]
  · intro j hj hj'
    rcases hb j hj with h2 | h2
    · exact h.ap j h2 hj'
    · have := (h.ss.lt j hj').2; omega
  · have m1 : UpB B w W := hW.mono (fun _ _ x => x.elim)
    exact (m1.grown hg (fun j hj _ => (h.ks.lt j hj).1)).setCell (fun _ => h.lo) _
/-- a row without its last -/
theorem ownsRow_pop {e : TypeId} {size n cap : Nat} {ao : Option Addr} {xs ys : List Value} (h : w.ownsRow B e size (.slice ao (n + 1) cap) (n + 1) (xs ++ ys)) (hy : ys.length = size) : w.ownsRow B e size (.slice ao n cap) n xs := by
  obtain ⟨h1, h2⟩ := h
  have hx : xs.length = n * size := by
    rw [List.length_append, hy, Nat.add_mul, Nat.one_mul] at h1; omega
  refine ⟨hx, ?_⟩
  rcases h2 with ⟨_, h0⟩ | ⟨g, cap', cur, hv, hb, hg, hnc, hcm, hcs, ht⟩
  · omega
  · rw [Value.slice.injEq] at hv
    obtain ⟨rfl, _, rfl⟩ := hv
    refine .inr ⟨g, cap, cur, rfl, hb, hg, by omega, hcm, hcs, ?_⟩
    have e1 : (xs ++ ys).take (n * size) = xs := by rw [List.take_append_of_le_length (by omega), List.take_of_length_le (by omega)]
    rw [← ht, List.take_take, Nat.min_eq_left (by rw [Nat.add_mul]; omega)] at e1
    exact e1
theorem GA.pop {ao : Option Addr} {cap : Nat} {s : Sy} (h : GA w b B R H vp vg (.slice ao (k.length + 1) cap) vs (s :: k) st) :
    GA (w.setCell ⟨b, 4, none⟩ (.slice ao k.length cap)) b B R H vp vg (.slice ao k.length cap) vs k st ∧ UpB B w (w.setCell ⟨b, 4, none⟩ (.slice ao k.length cap)) := by
  have hks := h.ks
  unfold SyOwn at hks
  rw [List.reverse_cons, flatC_snoc, List.length_append, List.length_singleton, List.length_reverse] at hks
  have hp := ownsRow_pop hks rfl
  have hob : Value.ownBlock (.slice ao k.length cap) = Value.ownBlock (.slice ao (k.length + 1) cap) := by cases ao <;> rfl
  refine ⟨⟨h.lo, ?_, ?_, ?_, by rw [hob]; exact h.kb, h.sb, fun j hj => h.ap j (by rw [hob] at hj; exact hj)⟩, (Mod.refl _ w).setCell (fun _ => h.lo) _⟩
  · rw [Proofs.YteneagnhihcljaaGreatDoor.heap_setCell_same h.blk 4 _]; rfl
  · show World.ownsRow _ _ _ _ _ k.reverse.length _
    rw [List.length_reverse]
    exact ownsRow_other hp (fun g hg' => by rw [Proofs.YteneagnhihcljaaGreatDoor.heap_setCell_other _ (by intro e; exact h.kb (by rw [← hob, hg']; exact congrArg some e))])
  · exact ownsRow_other h.ss (fun g hg' => by rw [Proofs.YteneagnhihcljaaGreatDoor.heap_setCell_other _ (by intro e; exact h.sb (by rw [hg']; exact congrArg some e))])
end
end Go.Proofs.YteneagnhihcljaaGreatDoor
