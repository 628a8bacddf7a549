import Derived.Test.YtddkcfpbonfoiaaGreatTwb
import Derived.Test.YtddkcfpbonfoiaaGreatTwe
namespace Go.Proofs.YtddkcfpbonfoiaaGreat
open Go.RowKit
set_option linter.unusedVariables false
set_option linter.unusedSimpArgs false

/-- the kinds taken one behind the other -/
def thr (ps : List Pr) (hs : List Hd) (R H : Nat) : List Int → List Sy → List St → Option (List Sy × List St)
  | [], k, st => some (k, st)
  | t :: l, k, st => if (wanB hs R k).getD t.toNat false then thr ps hs R H l (gToF ps hs H t.toNat k st).1 (gToF ps hs H t.toNat k st).2 else none
section
variable {ps : List Pr} {hs : List Hd} {R H : Nat}
theorem grwF_thr : ∀ (l m : List Int) (a : Nat) (k : List Sy) (st : List St) (r : List Sy × List St), thr ps hs R H l k st = some r → grwF ps hs R H (l ++ m) a k st = grwF ps hs R H m (a + l.length) r.1 r.2
  | [], m, a, k, st, r, h => by cases h; rfl
  | t :: l, m, a, k, st, r, h => by
    unfold thr at h
    split at h
    · rename_i hw
      rw [List.cons_append, grwF, if_pos hw, grwF_thr l m (a + 1) _ _ r h, List.length_cons, show a + 1 + l.length = a + (l.length + 1) by omega]
    · cases h
theorem thr_take : ∀ (l : List Int) (k : List Sy) (st : List St) (r : List Sy × List St), thr ps hs R H l k st = some r → ∀ j, ∃ r', thr ps hs R H (l.take j) k st = some r'
  | [], k, st, r, h, j => ⟨_, by rw [List.take_nil]; rfl⟩
  | t :: l, k, st, r, h, 0 => ⟨_, rfl⟩
  | t :: l, k, st, r, h, j + 1 => by
    unfold thr at h
    split at h
    · rename_i hw
      obtain ⟨r', h'⟩ := thr_take l _ _ r h j
      exact ⟨r', by rw [List.take_succ_cons, thr, if_pos hw]; exact h'⟩
    · cases h
/-- how far the kinds come -/
theorem grwF_far : ∀ (l : List Int) (a : Nat) (k : List Sy) (st : List St), ∃ (n : Nat) (r : List Sy × List St), n ≤ l.length ∧ thr ps hs R H (l.take n) k st = some r ∧
    ((n = l.length ∧ (wanB hs R r.1).getD R false = true ∧ (grwF ps hs R H l a k st).err = 0) ∨
     ((grwF ps hs R H l a k st).err = 10 ∧ (grwF ps hs R H l a k st).place = a + n ∧ (grwF ps hs R H l a k st).st = [] ∧ (grwF ps hs R H l a k st).wanted = listT (wanB hs R r.1) ∧
      (∀ h : n < l.length, (wanB hs R r.1).getD l[n].toNat false = false) ∧ (n = l.length → (wanB hs R r.1).getD R false = false)))
  | [], a, k, st => by
    refine ⟨0, (k, st), Nat.le_refl _, rfl, ?_⟩
    unfold grwF
    split
    · rename_i hw; exact .inl ⟨rfl, hw, rfl⟩
    · rename_i hw; exact .inr ⟨rfl, rfl, rfl, rfl, fun h => absurd h (by simp), fun _ => by simpa using hw⟩
  | t :: l, a, k, st => by
    unfold grwF
    split
    · rename_i hw
      obtain ⟨n, r, h1, h2, h3⟩ := grwF_far l (a + 1) (gToF ps hs H t.toNat k st).1 (gToF ps hs H t.toNat k st).2
      refine ⟨n + 1, r, by simpa using h1, by rw [List.take_succ_cons, thr, if_pos hw]; exact h2, ?_⟩
      rcases h3 with ⟨e1, e2, e3⟩ | ⟨e1, e2, e3, e4, e5, e6⟩
      · exact .inl ⟨by simp [e1], e2, e3⟩
      · exact .inr ⟨e1, by rw [e2]; omega, e3, e4, fun h => by simpa using e5 (by simpa using h), fun h => e6 (by simpa using h)⟩
    · rename_i hw
      exact ⟨0, (k, st), Nat.zero_le _, rfl, .inr ⟨rfl, rfl, rfl, rfl, fun _ => by simpa using hw, fun h => by simp at h⟩⟩
end
theorem parse_grow' {s : ByteArray} (hc : (checkF s).1 = 0) (hcl : clashF s = []) (l : List Int) (hk : kindsOk (nR s) l = true) (hl : l.length ≤ 60) : parseF s l = growS s l := by
  unfold parseF
  rw [if_neg (by omega), if_neg (by simp [hc]), if_neg (by simp [hk]), if_neg (by simp [hcl])]
theorem kinds_take {R : Int} {l : List Int} (h : kindsOk R l = true) (n : Nat) : kindsOk R (l.take n) = true := by
  unfold kindsOk at h ⊢
  rw [List.all_eq_true] at h ⊢
  exact fun x hx => h x (List.mem_of_mem_take hx)
theorem kinds_add {R : Int} {l : List Int} (h : kindsOk R l = true) {t : Int} (h0 : 0 ≤ t) (h1 : t < R) : kindsOk R (l ++ [t]) = true := by
  unfold kindsOk at h ⊢
  rw [List.all_append, h]
  simp [h0, h1]
/-- what Viable asks of Parse -/
structure Via (s : ByteArray) (kinds : List Int) (n : Nat) : Prop where
  le : n ≤ kinds.length
  each : ∀ k, k < n → (parseF s (kinds.take k)).err = 0 ∨ ((parseF s (kinds.take k)).err = 10 ∧ (parseF s (kinds.take k)).place = k)
structure ViaBad (s : ByteArray) (kinds : List Int) (n : Nat) (W : List Int) : Prop where
  next : ∀ h : n < kinds.length, W.any (· == kinds[n]) = false
  none : n = kinds.length → W.any (· == (nR s : Int)) = false
  stands : n < 60 → ∀ t : Nat, t < nR s → W.any (· == (t : Int)) = true → (parseF s (kinds.take n ++ [(t : Int)])).err = 0 ∨ ((parseF s (kinds.take n ++ [(t : Int)])).err = 10 ∧ (parseF s (kinds.take n ++ [(t : Int)])).place = n + 1)
  falls : n < 60 → ∀ t : Nat, t < nR s → W.any (· == (t : Int)) = false → ((parseF s (kinds.take n ++ [(t : Int)])).err = 10 ∧ (parseF s (kinds.take n ++ [(t : Int)])).place = n)
  whole : W.any (· == (nR s : Int)) = decide ((parseF s (kinds.take n)).err = 0)
theorem via_of {s : ByteArray} (hc : (checkF s).1 = 0) (hcl : clashF s = []) (kinds : List Int) (hk : kindsOk (nR s) kinds = true) (hl : kinds.length ≤ 60) :
    ((parseF s kinds).err = 0 ∧ Via s kinds kinds.length) ∨ ((parseF s kinds).err = 10 ∧ Via s kinds (parseF s kinds).place ∧ ViaBad s kinds (parseF s kinds).place (parseF s kinds).wanted) := by
  have hok := sets_ok hc
  have hT := tab_of hc hcl
  rw [parse_grow' hc hcl kinds hk hl]
  obtain ⟨n, r, h1, h2, h3⟩ := grwF_far (ps := tabF s) (hs := setsF s) (R := nR s) (H := nH s) kinds 0 [⟨true, 0⟩] []
  have each : ∀ k, k ≤ n → (parseF s (kinds.take k)).err = 0 ∨ ((parseF s (kinds.take k)).err = 10 ∧ (parseF s (kinds.take k)).place = k) := fun k hkn => by
    obtain ⟨r', h'⟩ := thr_take _ _ _ _ h2 k
    rw [List.take_take, Nat.min_eq_left hkn] at h'
    have e := grwF_thr _ [] 0 _ _ _ h'
    rw [List.append_nil] at e
    rw [parse_grow' hc hcl _ (kinds_take hk k) (by rw [List.length_take]; omega)]
    unfold growS
    rw [e, Nat.zero_add, List.length_take, Nat.min_eq_left (by omega)]
    unfold grwF
    split
    · exact .inl rfl
    · exact .inr ⟨rfl, rfl⟩
  rcases h3 with ⟨e1, e2, e3⟩ | ⟨e1, e2, e3, e4, e5, e6⟩
  · exact .inl ⟨e3, Nat.le_refl _, fun k hk => each k (by omega)⟩
  · refine .inr ⟨e1, ?_⟩
    have e2 : (growS s kinds).place = n := by have : (growS s kinds).place = 0 + n := e2; omega
    have e4 : (growS s kinds).wanted = listT (wanB (setsF s) (nR s) r.1) := e4
    rw [e2, e4]
    have hlen := wanB_len hok (nR s) r.1
    have has : ∀ t : Nat, (listT (wanB (setsF s) (nR s) r.1)).any (· == (t : Int)) = (wanB (setsF s) (nR s) r.1).getD t false := listT_has hlen
    have more : ∀ t : Nat, t < nR s → n < 60 → parseF s (kinds.take n ++ [(t : Int)]) = grwF (tabF s) (setsF s) (nR s) (nH s) [(t : Int)] n r.1 r.2 := fun t ht hn => by
      rw [parse_grow' hc hcl _ (kinds_add (kinds_take hk n) (by omega) (by omega)) (by rw [List.length_append, List.length_take]; simp; omega)]
      unfold growS
      rw [grwF_thr _ _ 0 _ _ _ h2, Nat.zero_add, List.length_take, Nat.min_eq_left h1]
    refine ⟨⟨h1, fun k hk => each k (by omega)⟩, ?_, ?_, ?_, ?_, ?_⟩
    · intro h
      have hkn : 0 ≤ kinds[n] := by
        unfold kindsOk at hk
        rw [List.all_eq_true] at hk
        have := hk kinds[n] (by simp)
        simp at this; exact this.1
      have := has kinds[n].toNat
      rw [e5 h, show ((kinds[n].toNat : Nat) : Int) = kinds[n] by omega] at this
      exact this
    · intro h; rw [has]; exact e6 h
    · intro hn t ht hw
      rw [has] at hw
      rw [more t ht hn]
      unfold grwF
      rw [Int.toNat_natCast, if_pos hw]
      unfold grwF
      split
      · exact .inl rfl
      · exact .inr ⟨rfl, rfl⟩
    · intro hn t ht hw
      rw [has] at hw
      rw [more t ht hn]
      unfold grwF
      rw [Int.toNat_natCast, if_neg (by rw [hw]; simp)]
      exact ⟨rfl, rfl⟩
    · rw [has, parse_grow' hc hcl _ (kinds_take hk n) (by rw [List.length_take]; omega)]
      have e := grwF_thr _ [] 0 _ _ _ h2
      rw [List.append_nil] at e
      unfold growS
      rw [e]
      unfold grwF
      cases hw : (wanB (setsF s) (nR s) r.1).getD (nR s) false <;> simp
end Go.Proofs.YtddkcfpbonfoiaaGreat
namespace Go.Proofs.YtddkcfpbonfoiaaGreat
open Go.RowKit
set_option linter.unusedVariables false
set_option linter.unusedSimpArgs false

theorem IntAt.take {w : World} {ao : Option Addr} {c : Nat} {l : List Int} (h : IntAt w (.slice ao l.length c) l) {n : Nat} (hn : n ≤ l.length) : IntAt w (.slice ao n c) (l.take n) := by
  obtain ⟨ao', c', h1, h2, h3⟩ := h
  rw [Value.slice.injEq] at h1
  obtain ⟨rfl, _, rfl⟩ := h1
  have hl : (l.take n).length = n := by rw [List.length_take]; omega
  refine ⟨ao, c, by rw [hl], by omega, fun j hj => ?_⟩
  obtain ⟨g, o, h4, h5⟩ := h3 j (by omega)
  exact ⟨g, o, h4, by rw [List.getElem_take]; exact h5⟩

set_option maxRecDepth 20000 in
set_option maxHeartbeats 4000000 in
theorem kbegins_any (w : World) (vk : Value) (kinds : List Int) (n : Nat) (t : Int) (h : IntAt w vk kinds) (hl : kinds.length ≤ 1000) (hn : n ≤ kinds.length) :
    Calls Tryz.prog 14 #[vk, .int .i64 n, .int .i64 t] w fun e w' => ∃ v', e = .returned v' ∧ Fresh w w' ∧ IntOwn w' w.heap.size v' (kinds.take n ++ [t]) := by
  have HI := hid h
  obtain ⟨ao, cap, rfl, hc, hcell⟩ := h
  have HT := hid (HI.out.take hn)
  obtain ⟨i0, hi0, iz0, iz1, iz2⟩ := infoI'
  have hn1 : (n : Int) ≤ (cap : Int) := by omega
  have hn2 : n ≤ cap := by omega
  have hn3 : n ≤ 1000 := by omega
  have HTL : Hid ((kinds.take n).length = n) := by unfold Hid; rw [List.length_take]; omega
  generalize hK : kinds.take n = kt at HT HTL
  clear hK
  cases ao with
  | none =>
    have hk0 : kinds.length = 0 := by
      by_cases h0 : 0 < kinds.length
      · obtain ⟨g, o, h1, _⟩ := hcell 0 h0; cases h1
      · omega
    have hn0 : n = 0 := by omega
    subst hn0
    have hkt : kt = [] := List.eq_nil_of_length_eq_zero HTL.out
    subst hkt
    clear hcell hn hn1 hn2 hn3
    go_enter Tryz.func14, Tryz.ntmps14
    go_wp2_with (first
      | (at_builtin; refine wpList_append_mine _ rfl (.tmp 13) (.tmp 15) 22 rfl w.heap.size 3 i0 _ 1 8 Tryz.underlying22 hi0 iz0 iz1 iz2 rfl (by decide) (.slice none 0 0) 0 [] rfl (World.ownsRow_nil _ _ _ _) ⟨w.heap.size, 0, none⟩ 1 1 [.int .i64 t] rfl rfl (new_cells rfl) (by intro u hu; simp at hu; subst hu; rfl) (by unfold maxLen; omega) (by omega) (by simp) ?_))
    intro v' w2 hown hgrow hblk
    have HO := hid hown
    have HF : Hid (Fresh w w2) := ((Mod.refl _ w).alloc _).grown hgrow (fun k hk hlt => by simp [Value.ownBlock] at hk)
    clear hown hgrow hblk
    go_wp2
    go_ret
    exact ⟨v', rfl, HF.out, HO.out⟩
  | some ad =>
    have HN : Hid (∀ j u, (kt.map (Value.int .i64))[j]? = some u → w.cell? (ad.add j) = some u) := by
      intro j u hj
      obtain ⟨ao, c, h1, h2, h3⟩ := HT.out
      rw [Value.slice.injEq] at h1
      obtain ⟨rfl, _, _⟩ := h1
      rw [List.getElem?_map] at hj
      have hjl : j < kt.length := by
        by_cases h : j < kt.length
        · exact h
        · rw [List.getElem?_eq_none (by omega)] at hj; cases hj
      rw [List.getElem?_eq_getElem hjl] at hj
      obtain ⟨g, o, h4, h5⟩ := h3 j hjl
      cases h4
      rw [Addr.add_mid, h5]
      exact hj
    have HL : Hid ((kt.map (Value.int .i64)).length = n * 1) := by unfold Hid; rw [List.length_map, HTL.out]; omega
    clear hcell hn hn1
    have hn1 : (n : Int) ≤ (cap : Int) := by omega
    go_enter Tryz.func14, Tryz.ntmps14
    go_wp2_with (first
      | (at_builtin; refine wpList_append_mine _ rfl (.tmp 8) (.tmp 11) 22 rfl w.heap.size 3 i0 _ 1 8 Tryz.underlying22 hi0 iz0 iz1 iz2 rfl (by decide) (.slice none 0 0) 0 [] rfl (World.ownsRow_nil _ _ _ _) ad n cap (kt.map (Value.int .i64)) rfl HL.out HN.out (by intro u hu; simp at hu; obtain ⟨z, _, rfl⟩ := hu; rfl) (by unfold maxLen; omega) (by omega) (Nat.le_refl _) ?_))
    intro v1 w1 hown hgrow hblk
    have HO1 : Hid (w1.ownsRow w.heap.size 3 1 v1 n (kt.map (Value.int .i64))) := by unfold Hid; simpa using hown
    have HF1 : Hid (Fresh w w1) := (Mod.refl _ w).grown hgrow (fun k hk hlt => by simp [Value.ownBlock] at hk)
    obtain ⟨ra, rc, hro⟩ := own_form HO1.out
    subst hro
    clear hown hgrow hblk
    go_wp2_with (first
      | (at_builtin; refine wpList_append_mine _ rfl (.tmp 13) (.tmp 15) 22 rfl w.heap.size 3 i0 _ 1 8 Tryz.underlying22 hi0 iz0 iz1 iz2 rfl (by decide) _ _ _ rfl (HO1.out.alloc _) ⟨w1.heap.size, 0, none⟩ 1 1 [.int .i64 t] rfl rfl (new_cells rfl) (by intro u hu; simp at hu; subst hu; rfl) (by unfold maxLen; omega) (by omega) (by have h3 := HF1.out.size; simp; omega) ?_))
    intro v' w2 hown hgrow hblk
    have HO : Hid (IntOwn w2 w.heap.size v' (kt ++ [t])) := by
      unfold Hid IntOwn
      rw [List.length_append, HTL.out]
      simpa [nums] using hown
    have HF : Hid (Fresh w w2) := (HF1.out.alloc _).grown hgrow (fun k hk hlt => by have := (HO1.out.lt k hk).1; omega)
    clear hown hgrow hblk
    go_wp2
    go_ret
    exact ⟨v', rfl, HF.out, HO.out⟩
end Go.Proofs.YtddkcfpbonfoiaaGreat
namespace Go.Proofs.YtddkcfpbonfoiaaGreat
open Go.RowKit
set_option linter.unusedVariables false
set_option linter.unusedSimpArgs false

def PRet (s : ByteArray) (l : List Int) (w : World) (e : Ending) (w' : World) : Prop :=
  ∃ na nc wa wc, e = .returned (.tuple #[.agg (parA (.slice na (nodesF (tabF s) (parseF s l).st).length nc) (.slice wa (parseF s l).wanted.length wc) (parseF s l).place), .int .i64 (parseF s l).err]) ∧ Fresh w w' ∧ IntAt w' (.slice wa (parseF s l).wanted.length wc) (parseF s l).wanted
theorem parse_ret (s : ByteArray) (l : List Int) (vk : Value) (w : World) (hs : s.size ≤ maxLen) (hk : IntAt w vk l) (hm : l.length ≤ 1000) :
    Calls Tryz.prog 5 #[.string s, vk] w fun e w' => PRet s l w e w' :=
  (parse_any s l vk w hs hk (by unfold maxLen; omega)).mono fun e w' ⟨vn, vw, h1, h2, h3, h4⟩ => by
    obtain ⟨na, nc, hvn⟩ := own_form h3
    obtain ⟨wa, wc, hvw⟩ := own_form h4
    subst hvn hvw
    exact ⟨na, nc, wa, wc, h1, h2, h4.at'⟩

set_option maxRecDepth 20000 in
set_option maxHeartbeats 8000000 in
theorem choices_good (s : ByteArray) (kinds W : List Int) (vk vw : Value) (n R : Nat) (w : World) (hs : s.size ≤ maxLen) (hk : IntAt w vk kinds) (hl : kinds.length ≤ 60) (hn : n ≤ kinds.length) (hw : IntAt w vw W) (hwl : W.length ≤ 100) (hR : nR s = R) (hR8 : R ≤ 8) (hv : ViaBad s kinds n W) :
    Calls Tryz.prog 7 #[.string s, .int .i64 R, vk, .int .i64 n, vw] w fun e w' => e = .returned (.bool true) ∧ Fresh w w' := by
  obtain ⟨_, _, hst, hfa, hwh⟩ := hv
  rw [hR] at hst hfa hwh
  have HK := hid hk
  have HW := hid hw
  obtain ⟨ka, kc, rfl, hkc, _⟩ := hk
  obtain ⟨wa, wc, rfl, hwc, _⟩ := hw
  have PT := hid (fun (t : Int) (V : World) (v : Value) (h : IntAt V v (kinds.take n ++ [t])) => parse_ret s (kinds.take n ++ [t]) v V hs h (by rw [List.length_append, List.length_take]; simp; omega))
  have PN := hid (fun (V : World) (v : Value) (h : IntAt V v (kinds.take n)) => parse_ret s (kinds.take n) v V hs h (by rw [List.length_take]; omega))
  have BG := hid (fun (t : Int) (V : World) (h : IntAt V (.slice ka kinds.length kc) kinds) => kbegins_any V _ kinds n t h (by omega) hn)
  have HA := hid (fun (V : World) (t : Int) (h : IntAt V (.slice wa W.length wc) W) => khas_any V _ W t h (by omega))
  have HKN : Hid (∀ V, IntAt V (.slice ka kinds.length kc) kinds → IntAt V (.slice ka n kc) (kinds.take n)) := fun V h => h.take hn
  have HST := hid hst
  have HFA := hid hfa
  have HWH := hid hwh
  clear hst hfa hwh
  have hn1 : (n : Int) ≤ (kc : Int) := by omega
  have hn2 : n ≤ kc := by omega
  unfold PRet at PT PN
  by_cases h60 : n < 60
  · have h61 : (n : Int) < 60 := by omega
    go_enter Tryz.func7, Tryz.ntmps7
    go_wp2
    go_loopw [11, 12, 13, 14, 15, 16] (fun x11 _ _ _ _ _ wr => ∃ (i : Nat), x11 = .int .i64 i ∧ i ≤ R ∧ Fresh w wr)
        (fun x _ _ _ _ _ _ => 1001 - (intOf x).toNat)
    case atStart => exact ⟨0, rfl, by omega, Mod.refl _ _⟩
    case round =>
      obtain ⟨i, rfl, hi, hfr⟩ := hrel
      have HFR := hid hfr
      have HME := hid (meas (B := 1001) i (by omega))
      clear hfr
      by_cases hlt : i < R
      · have hi1 : (i : Int) < (R : Int) := by omega
        have PTI := hid (fun V v h => PT.out (i : Int) V v h)
        cases hb : W.any (· == (i : Int))
        · obtain ⟨e1, e2⟩ := HFA.out h60 i hlt hb
          rw [e1, e2] at PTI
          have HBB := hid hb
          clear hb e1 e2
          go_wp2_with (first
            | (go_at_call 6; have stage := HF2.out; refine (HA.out _ _ (HW.out.fresh (HF2.out.alloc _))).mono ?_; rintro e w6 ⟨rfl, rfl⟩; rw [HBB.out])
            | (go_at_call 5; have stage := HF1.out; refine (PTI.out _ _ HI1.out).mono ?_; rintro e w2 ⟨na, nc, xa, xc, rfl, hf2, _⟩; have HF2 := hid (HF1.out.trans hf2); clear hf2)
            | (go_at_call 14; refine (BG.out _ _ (HK.out.fresh HFR.out)).mono ?_; rintro e w1 ⟨v1, rfl, hf1, ho1⟩; have HI1 := hid ho1.at'; have HF1 := hid (HFR.out.trans hf1); clear hf1 ho1))
          go_roundw
          case rel => exact ⟨i + 1, by go_num, by omega, HF2.out.alloc _⟩
          case measure => exact HME.out
        · have HBB := hid hb
          rcases HST.out h60 i hlt hb with e1 | ⟨e1, e2⟩
          · rw [e1] at PTI
            clear hb e1
            go_wp2_with (first
              | (go_at_call 6; have stage := HF2.out; refine (HA.out _ _ (HW.out.fresh (HF2.out.alloc _))).mono ?_; rintro e w6 ⟨rfl, rfl⟩; rw [HBB.out])
              | (go_at_call 5; have stage := HF1.out; refine (PTI.out _ _ HI1.out).mono ?_; rintro e w2 ⟨na, nc, xa, xc, rfl, hf2, _⟩; have HF2 := hid (HF1.out.trans hf2); clear hf2)
              | (go_at_call 14; refine (BG.out _ _ (HK.out.fresh HFR.out)).mono ?_; rintro e w1 ⟨v1, rfl, hf1, ho1⟩; have HI1 := hid ho1.at'; have HF1 := hid (HFR.out.trans hf1); clear hf1 ho1))
            go_roundw
            case rel => exact ⟨i + 1, by go_num, by omega, HF2.out.alloc _⟩
            case measure => exact HME.out
          · rw [e1, e2] at PTI
            clear hb e1 e2
            go_wp2_with (first
              | (go_at_call 6; have stage := HF2.out; refine (HA.out _ _ (HW.out.fresh (HF2.out.alloc _))).mono ?_; rintro e w6 ⟨rfl, rfl⟩; rw [HBB.out])
              | (go_at_call 5; have stage := HF1.out; refine (PTI.out _ _ HI1.out).mono ?_; rintro e w2 ⟨na, nc, xa, xc, rfl, hf2, _⟩; have HF2 := hid (HF1.out.trans hf2); clear hf2)
              | (go_at_call 14; refine (BG.out _ _ (HK.out.fresh HFR.out)).mono ?_; rintro e w1 ⟨v1, rfl, hf1, ho1⟩; have HI1 := hid ho1.at'; have HF1 := hid (HFR.out.trans hf1); clear hf1 ho1))
            go_roundw
            case rel => exact ⟨i + 1, by go_num, by omega, HF2.out.alloc _⟩
            case measure => exact HME.out
      · have hie : i = R := by omega
        have hi1 : ¬ (i : Int) < (R : Int) := by omega
        clear hie
        by_cases he : (parseF s (kinds.take n)).err = 0
        · have hb : W.any (· == (R : Int)) = true := by rw [HWH.out]; simpa using he
          rw [he] at PN
          have HBB := hid hb
          clear he hb
          go_wp2_with (first
            | (go_at_call 6; have stage := HF5.out; refine (HA.out _ _ (HW.out.fresh (HF5.out.alloc _))).mono ?_; rintro e w6 ⟨rfl, rfl⟩; rw [HBB.out])
            | (go_at_call 5; refine (PN.out _ _ (HKN.out _ (HK.out.fresh HFR.out))).mono ?_; rintro e w5 ⟨na, nc, xa, xc, rfl, hf5, _⟩; have HF5 := hid (HFR.out.trans hf5); clear hf5))
          go_ret
          exact ⟨rfl, HF5.out.alloc _⟩
        · have hb : W.any (· == (R : Int)) = false := by rw [HWH.out]; simpa using he
          have HBB := hid hb
          have he2 : ((parseF s (kinds.take n)).err == 0) = false := by simpa using he
          generalize (parseF s (kinds.take n)).err = E at PN he2
          clear he hb
          go_wp2_with (first
            | (go_at_call 6; have stage := HF5.out; refine (HA.out _ _ (HW.out.fresh (HF5.out.alloc _))).mono ?_; rintro e w6 ⟨rfl, rfl⟩; rw [HBB.out])
            | (go_at_call 5; refine (PN.out _ _ (HKN.out _ (HK.out.fresh HFR.out))).mono ?_; rintro e w5 ⟨na, nc, xa, xc, rfl, hf5, _⟩; have HF5 := hid (HFR.out.trans hf5); clear hf5))
          go_ret
          exact ⟨by simp, HF5.out.alloc _⟩
  · have h61 : ¬ (n : Int) < 60 := by omega
    go_enter Tryz.func7, Tryz.ntmps7
    go_wp2
    go_loopw [11, 12, 13, 14, 15, 16] (fun x11 _ _ _ _ _ wr => x11 = .int .i64 0 ∧ Fresh w wr)
        (fun x _ _ _ _ _ _ => 0)
    case atStart => exact ⟨rfl, Mod.refl _ _⟩
    case round =>
      obtain ⟨rfl, hfr⟩ := hrel
      have HFR := hid hfr
      clear hfr
      by_cases he : (parseF s (kinds.take n)).err = 0
      · have hb : W.any (· == (R : Int)) = true := by rw [HWH.out]; simpa using he
        rw [he] at PN
        have HBB := hid hb
        clear he hb
        go_wp2_with (first
          | (go_at_call 6; have stage := HF5.out; refine (HA.out _ _ (HW.out.fresh (HF5.out.alloc _))).mono ?_; rintro e w6 ⟨rfl, rfl⟩; rw [HBB.out])
          | (go_at_call 5; refine (PN.out _ _ (HKN.out _ (HK.out.fresh HFR.out))).mono ?_; rintro e w5 ⟨na, nc, xa, xc, rfl, hf5, _⟩; have HF5 := hid (HFR.out.trans hf5); clear hf5))
        all_goals (go_ret; exact ⟨rfl, HF5.out.alloc _⟩)
      · have hb : W.any (· == (R : Int)) = false := by rw [HWH.out]; simpa using he
        have HBB := hid hb
        have he2 : ((parseF s (kinds.take n)).err == 0) = false := by simpa using he
        generalize (parseF s (kinds.take n)).err = E at PN he2
        clear he hb
        go_wp2_with (first
          | (go_at_call 6; have stage := HF5.out; refine (HA.out _ _ (HW.out.fresh (HF5.out.alloc _))).mono ?_; rintro e w6 ⟨rfl, rfl⟩; rw [HBB.out])
          | (go_at_call 5; refine (PN.out _ _ (HKN.out _ (HK.out.fresh HFR.out))).mono ?_; rintro e w5 ⟨na, nc, xa, xc, rfl, hf5, _⟩; have HF5 := hid (HFR.out.trans hf5); clear hf5))
        all_goals (go_ret; exact ⟨by simp, HF5.out.alloc _⟩)
end Go.Proofs.YtddkcfpbonfoiaaGreat
