import Derived.Test.YtakkooidejdfkaaGreatTwb
import Derived.Test.YtakkooidejdfkaaGreatTwe
namespace Go.Proofs.YtakkooidejdfkaaGreat
open Go.RowKit
set_option linter.unusedVariables false
set_option linter.unusedSimpArgs false

/-- the kinds taken one behind the other -/
def thr (ps : List Pr) (hs : List Hd) (R H : Nat) : List Int → List Sy → List St → Option (List Sy × List St)
  | [], k, st => some (k, st)
  | t :: l, k, st => if (wanB hs R k).getD t.toNat false then thr ps hs R H l (gToF ps hs H t.toNat k st).1 (gToF ps hs H t.toNat k st).2 else none
section
variable {ps : List Pr} {hs : List Hd} {R H : Nat}
theorem grwF_thr : ∀ (l m : List Int) (a : Nat) (k : List Sy) (st : List St) (r : List Sy × List St), thr ps hs R H l k st = some r → grwF ps hs R H (l ++ m) a k st = grwF ps hs R H m (a + l.length) r.1 r.2
  | [], m, a, k, st, r, h => by cases h; rfl
  | t :: l, m, a, k, st, r, h => by
    unfold thr at h
    split at h
    · rename_i hw
      rw [List.cons_append, grwF, if_pos hw, grwF_thr l m (a + 1) _ _ r h, List.length_cons, show a + 1 + l.length = a + (l.length + 1) by omega]
    · cases h
theorem thr_take : ∀ (l : List Int) (k : List Sy) (st : List St) (r : List Sy × List St), thr ps hs R H l k st = some r → ∀ j, ∃ r', thr ps hs R H (l.take j) k st = some r'
  | [], k, st, r, h, j => ⟨_, by rw [List.take_nil]; rfl⟩
  | t :: l, k, st, r, h, 0 => ⟨_, rfl⟩
  | t :: l, k, st, r, h, j + 1 => by
    unfold thr at h
    split at h
    · rename_i hw
      obtain ⟨r', h'⟩ := thr_take l _ _ r h j
      exact ⟨r', by rw [List.take_succ_cons, thr, if_pos hw]; exact h'⟩
    · cases h
/-- how far the kinds come -/
theorem grwF_far : ∀ (l : List Int) (a : Nat) (k : List Sy) (st : List St), ∃ (n : Nat) (r : List Sy × List St), n ≤ l.length ∧ thr ps hs R H (l.take n) k st = some r ∧
    ((n = l.length ∧ (wanB hs R r.1).getD R false = true ∧ (grwF ps hs R H l a k st).err = 0) ∨
     ((grwF ps hs R H l a k st).err = 10 ∧ (grwF ps hs R H l a k st).place = a + n ∧ (grwF ps hs R H l a k st).st = [] ∧ (grwF ps hs R H l a k st).wanted = listT (wanB hs R r.1) ∧
      (∀ h : n < l.length, (wanB hs R r.1).getD l[n].toNat false = false) ∧ (n = l.length → (wanB hs R r.1).getD R false = false)))
  | [], a, k, st => by
    refine ⟨0, (k, st), Nat.le_refl _, rfl, ?_⟩
    unfold grwF
    split
    · rename_i hw; exact .inl ⟨rfl, hw, rfl⟩
    · rename_i hw; exact .inr ⟨rfl, rfl, rfl, rfl, fun h => absurd h (by simp), fun _ => by simpa using hw⟩
  | t :: l, a, k, st => by
    unfold grwF
    split
    · rename_i hw
      obtain ⟨n, r, h1, h2, h3⟩ := grwF_far l (a + 1) (gToF ps hs H t.toNat k st).1 (gToF ps hs H t.toNat k st).2
      refine ⟨n + 1, r, by simpa using h1, by rw [List.take_succ_cons, thr, if_pos hw]; exact h2, ?_⟩
      rcases h3 with ⟨e1, e2, e3⟩ | ⟨e1, e2, e3, e4, e5, e6⟩
      · exact .inl ⟨by simp [e1], e2, e3⟩
      · exact .inr ⟨e1, by rw [e2]; omega, e3, e4, fun h => by simpa using e5 (by simpa using h), fun h => e6 (by simpa using h)⟩
    · rename_i hw
      exact ⟨0, (k, st), Nat.zero_le _, rfl, .inr ⟨rfl, rfl, rfl, rfl, fun _ => by simpa using hw, fun h => by simp at h⟩⟩
end
theorem parse_grow' {s : ByteArray} (hc : (checkF s).1 = 0) (hcl : clashF s = []) (l : List Int) (hk : kindsOk (nR s) l = true) (hl : l.length ≤ 60) : parseF s l = growS s l := by
  unfold parseF
  rw [if_neg (by omega), if_neg (by simp [hc]), if_neg (by simp [hk]), if_neg (by simp [hcl])]
theorem kinds_take {R : Int} {l : List Int} (h : kindsOk R l = true) (n : Nat) : kindsOk R (l.take n) = true := by
  unfold kindsOk at h ⊢
  rw [List.all_eq_true] at h ⊢
  exact fun x hx => h x (List.mem_of_mem_take hx)
theorem kinds_add {R : Int} {l : List Int} (h : kindsOk R l = true) {t : Int} (h0 : 0 ≤ t) (h1 : t < R) : kindsOk R (l ++ [t]) = true := by
  unfold kindsOk at h ⊢
  rw [List.all_append, h]
  simp [h0, h1]
/-- what Viable asks of Parse -/
structure Via (s : ByteArray) (kinds : List Int) (n : Nat) : Prop where
  le : n ≤ kinds.length
  each : ∀ k, k < n → (parseF s (kinds.take k)).err = 0 ∨ ((parseF s (kinds.take k)).err = 10 ∧ (parseF s (kinds.take k)).place = k)
structure ViaBad (s : ByteArray) (kinds : List Int) (n : Nat) (W : List Int) : Prop where
  next : ∀ h : n < kinds.length, W.any (· == kinds[n]) = false
  none : n = kinds.length → W.any (· == (nR s : Int)) = false
  stands : n < 60 → ∀ t : Nat, t < nR s → W.any (· == (t : Int)) = true → (parseF s (kinds.take n ++ [(t : Int)])).err = 0 ∨ ((parseF s (kinds.take n ++ [(t : Int)])).err = 10 ∧ (parseF s (kinds.take n ++ [(t : Int)])).place = n + 1)
  falls : n < 60 → ∀ t : Nat, t < nR s → W.any (· == (t : Int)) = false → ((parseF s (kinds.take n ++ [(t : Int)])).err = 10 ∧ (parseF s (kinds.take n ++ [(t : Int)])).place = n)
  whole : W.any (· == (nR s : Int)) = decide ((parseF s (kinds.take n)).err = 0)
theorem via_of {s : ByteArray} (hc : (checkF s).1 = 0) (hcl : clashF s = []) (kinds : List Int) (hk : kindsOk (nR s) kinds = true) (hl : kinds.length ≤ 60) :
    ((parseF s kinds).err = 0 ∧ Via s kinds kinds.length) ∨ ((parseF s kinds).err = 10 ∧ Via s kinds (parseF s kinds).place ∧ ViaBad s kinds (parseF s kinds).place (parseF s kinds).wanted) := by
  have hok := sets_ok hc
  have hT := tab_of hc hcl
  rw [parse_grow' hc hcl kinds hk hl]
  obtain ⟨n, r, h1, h2, h3⟩ := grwF_far (ps := tabF s) (hs := setsF s) (R := nR s) (H := nH s) kinds 0 [⟨true, 0⟩] []
  have each : ∀ k, k ≤ n → (parseF s (kinds.take k)).err = 0 ∨ ((parseF s (kinds.take k)).err = 10 ∧ (parseF s (kinds.take k)).place = k) := fun k hkn => by
    obtain ⟨r', h'⟩ := thr_take _ _ _ _ h2 k
    rw [List.take_take, Nat.min_eq_left hkn] at h'
    have e := grwF_thr _ [] 0 _ _ _ h'
    rw [List.append_nil] at e
    rw [parse_grow' hc hcl _ (kinds_take hk k) (by rw [List.length_take]; omega)]
    unfold growS
    rw [e, Nat.zero_add, List.length_take, Nat.min_eq_left (by omega)]
    unfold grwF
    split
    · exact .inl rfl
    · exact .inr ⟨rfl, rfl⟩
  rcases h3 with ⟨e1, e2, e3⟩ | ⟨e1, e2, e3, e4, e5, e6⟩
  · exact .inl ⟨e3, Nat.le_refl _, fun k hk => each k (by omega)⟩
  · refine .inr ⟨e1, ?_⟩
    have e2 : (growS s kinds).place = n := by have : (growS s kinds).place = 0 + n := e2; omega
    have e4 : (growS s kinds).wanted = listT (wanB (setsF s) (nR s) r.1) := e4
    rw [e2, e4]
    have hlen := wanB_len hok (nR s) r.1
    have has : ∀ t : Nat, (listT (wanB (setsF s) (nR s) r.1)).any (· == (t : Int)) = (wanB (setsF s) (nR s) r.1).getD t false := listT_has hlen
    have more : ∀ t : Nat, t < nR s → n < 60 → parseF s (kinds.take n ++ [(t : Int)]) = grwF (tabF s) (setsF s) (nR s) (nH s) [(t : Int)] n r.1 r.2 := fun t ht hn => by
      rw [parse_grow' hc hcl _ (kinds_add (kinds_take hk n) (by omega) (by omega)) (by rw [List.length_append, List.length_take]; simp; omega)]
      unfold growS
      rw [grwF_thr _ _ 0 _ _ _ h2, Nat.zero_add, List.length_take, Nat.min_eq_left h1]
    refine ⟨⟨h1, fun k hk => each k (by omega)⟩, ?_, ?_, ?_, ?_, ?_⟩
    · intro h
      have hkn : 0 ≤ kinds[n] := by
        unfold kindsOk at hk
        rw [List.all_eq_true] at hk
        have := hk kinds[n] (by simp)
        simp at this; exact this.1
      have := has kinds[n].toNat
      rw [e5 h, show ((kinds[n].toNat : Nat) : Int) = kinds[n] by omega] at this
      exact this
    · intro h; rw [has]; exact e6 h
    · intro hn t ht hw
      rw [has] at hw
      rw [more t ht hn]
      unfold grwF
      rw [Int.toNat_natCast, if_pos hw]
      unfold grwF
      split
      · exact .inl rfl
      · exact .inr ⟨rfl, rfl⟩
    · intro hn t ht hw
      rw [has] at hw
      rw [more t ht hn]
      unfold grwF
      rw [Int.toNat_natCast, if_neg (by rw [hw]; simp)]
      exact ⟨rfl, rfl⟩
    · rw [has, parse_grow' hc hcl _ (kinds_take hk n) (by rw [List.length_take]; omega)]
      have e := grwF_thr _ [] 0 _ _ _ h2
      rw [List.append_nil] at e
      unfold growS
      rw [e]
      unfold grwF
      cases hw : (wanB (setsF s) (nR s) r.1).getD (nR s) false <;> simp
end Go.Proofs.YtakkooidejdfkaaGreat
namespace Go.Proofs.YtakkooidejdfkaaGreat
open Go.RowKit
set_option linter.unusedVariables false
set_option linter.unusedSimpArgs false

theorem IntAt.take {w : World} {ao : Option Addr} {c : Nat} {l : List Int} (h : IntAt w (.slice ao l.length c) l) {n : Nat} (hn : n ≤ l.length) : IntAt w (.slice ao n c) (l.take n) := by
  obtain ⟨ao', c', h1, h2, h3⟩ := h
  rw [Value.slice.injEq] at h1
  obtain ⟨rfl, _, rfl⟩ := h1
  have hl : (l.take n).length = n := by rw [List.length_take]; omega
  refine ⟨ao, c, by rw [hl], by omega, fun j hj => ?_⟩
  obtain ⟨g, o, h4, h5⟩ := h3 j (by omega)
  exact ⟨g, o, h4, by rw [List.getElem_take]; exact h5⟩

set_option maxRecDepth 20000 in
set_option maxHeartbeats 4000000 in
theorem kbegins_any (w : World) (vk : Value) (kinds : List Int) (n : Nat) (t : Int) (h : IntAt w vk kinds) (hl : kinds.length ≤ 1000) (hn : n ≤ kinds.length) :
    Calls Tryz.prog 20 #[vk, .int .i64 n, .int .i64 t] w fun e w' => ∃ v', e = .returned v' ∧ Fresh w w' ∧ IntOwn w' w.heap.size v' (kinds.take n ++ [t]) := by
  have HI := hid h
  obtain ⟨ao, cap, rfl, hc, hcell⟩ := h
  have HT := hid (HI.out.take hn)
  obtain ⟨i0, hi0, iz0, iz1, iz2⟩ := infoI'
  have hn1 : (n : Int) ≤ (cap : Int) := by omega
  have hn2 : n ≤ cap := by omega
  have hn3 : n ≤ 1000 := by omega
  have HTL : Hid ((kinds.take n).length = n) := by unfold Hid; rw [List.length_take]; omega
  generalize hK : kinds.take n = kt at HT HTL
  clear hK
  cases ao with
  | none =>
    have hk0 : kinds.length = 0 := by
      by_cases h0 : 0 < kinds.length
      · obtain ⟨g, o, h1, _⟩ := hcell 0 h0; cases h1
      · omega
    have hn0 : n = 0 := by omega
    subst hn0
    have hkt : kt = [] := List.eq_nil_of_length_eq_zero HTL.out
    subst hkt
    clear hcell hn hn1 hn2 hn3
    go_enter Tryz.func20, Tryz.ntmps20
    go_wp2_with (first
      | (at_builtin; refine wpList_append_mine _ rfl (.tmp 13) (.tmp 15) 22 rfl w.heap.size 3 i0 _ 1 8 Tryz.underlying22 hi0 iz0 iz1 iz2 rfl (by decide) (.slice none 0 0) 0 [] rfl (World.ownsRow_nil _ _ _ _) ⟨w.heap.size, 0, none⟩ 1 1 [.int .i64 t] rfl rfl (new_cells rfl) (by intro u hu; simp at hu; subst hu; rfl) (by unfold maxLen; omega) (by omega) (by simp) ?_))
    intro v' w2 hown hgrow hblk
    have HO := hid hown
    have HF : Hid (Fresh w w2) := ((Mod.refl _ w).alloc _).grown hgrow (fun k hk hlt => by simp [Value.ownBlock] at hk)
    clear hown hgrow hblk
    go_wp2
    go_ret
    exact ⟨v', rfl, HF.out, HO.out⟩
  | some ad =>
    have HN : Hid (∀ j u, (kt.map (Value.int .i64))[j]? = some u → w.cell? (ad.add j) = some u) := by
      intro j u hj
      obtain ⟨ao, c, h1, h2, h3⟩ := HT.out
      rw [Value.slice.injEq] at h1
      obtain ⟨rfl, _, _⟩ := h1
      rw [List.getElem?_map] at hj
      have hjl : j < kt.length := by
        by_cases h : j < kt.length
        · exact h
        · rw [List.getElem?_eq_none (by omega)] at hj; cases hj
      rw [List.getElem?_eq_getElem hjl] at hj
      obtain ⟨g, o, h4, h5⟩ := h3 j hjl
      cases h4
      rw [Addr.add_mid, h5]
      exact hj
    have HL : Hid ((kt.map (Value.int .i64)).length = n * 1) := by unfold Hid; rw [List.length_map, HTL.out]; omega
    clear hcell hn hn1
    have hn1 : (n : Int) ≤ (cap : Int) := by omega
    go_enter Tryz.func20, Tryz.ntmps20
    go_wp2_with (first
      | (at_builtin; refine wpList_append_mine _ rfl (.tmp 8) (.tmp 11) 22 rfl w.heap.size 3 i0 _ 1 8 Tryz.underlying22 hi0 iz0 iz1 iz2 rfl (by decide) (.slice none 0 0) 0 [] rfl (World.ownsRow_nil _ _ _ _) ad n cap (kt.map (Value.int .i64)) rfl HL.out HN.out (by intro u hu; simp at hu; obtain ⟨z, _, rfl⟩ := hu; rfl) (by unfold maxLen; omega) (by omega) (Nat.le_refl _) ?_))
    intro v1 w1 hown hgrow hblk
    have HO1 : Hid (w1.ownsRow w.heap.size 3 1 v1 n (kt.map (Value.int .i64))) := by unfold Hid; simpa using hown
    have HF1 : Hid (Fresh w w1) := (Mod.refl _ w).grown hgrow (fun k hk hlt => by simp [Value.ownBlock] at hk)
    obtain ⟨ra, rc, hro⟩ := own_form HO1.out
    subst hro
    clear hown hgrow hblk
    go_wp2_with (first
      | (at_builtin; refine wpList_append_mine _ rfl (.tmp 13) (.tmp 15) 22 rfl w.heap.size 3 i0 _ 1 8 Tryz.underlying22 hi0 iz0 iz1 iz2 rfl (by decide) _ _ _ rfl (HO1.out.alloc _) ⟨w1.heap.size, 0, none⟩ 1 1 [.int .i64 t] rfl rfl (new_cells rfl) (by intro u hu; simp at hu; subst hu; rfl) (by unfold maxLen; omega) (by omega) (by have h3 := HF1.out.size; simp; omega) ?_))
    intro v' w2 hown hgrow hblk
    have HO : Hid (IntOwn w2 w.heap.size v' (kt ++ [t])) := by
      unfold Hid IntOwn
      rw [List.length_append, HTL.out]
      simpa [nums] using hown
    have HF : Hid (Fresh w w2) := (HF1.out.alloc _).grown hgrow (fun k hk hlt => by have := (HO1.out.lt k hk).1; omega)
    clear hown hgrow hblk
    go_wp2
    go_ret
    exact ⟨v', rfl, HF.out, HO.out⟩
end Go.Proofs.YtakkooidejdfkaaGreat
namespace Go.Proofs.YtakkooidejdfkaaGreat
open Go.RowKit
set_option linter.unusedVariables false
set_option linter.unusedSimpArgs false

def PRet (s : ByteArray) (l : List Int) (w : World) (e : Ending) (w' : World) : Prop :=
  ∃ na nc wa wc, e = .returned (.tuple #[.agg (parA (.slice na (nodesF (tabF s) (parseF s l).st).length nc) (.slice wa (parseF s l).wanted.length wc) (parseF s l).place), .int .i64 (parseF s l).err]) ∧ Fresh w w' ∧ IntAt w' (.slice wa (parseF s l).wanted.length wc) (parseF s l).wanted
theorem parse_ret (s : ByteArray) (l : List Int) (vk : Value) (w : World) (hs : s.size ≤ maxLen) (hk : IntAt w vk l) (hm : l.length ≤ 1000) :
    Calls Tryz.prog 6 #[.string s, vk] w fun e w' => PRet s l w e w' :=
  (parse_any s l vk w hs hk (by unfold maxLen; omega)).mono fun e w' ⟨vn, vw, h1, h2, h3, h4⟩ => by
    obtain ⟨na, nc, hvn⟩ := own_form h3
    obtain ⟨wa, wc, hvw⟩ := own_form h4
    subst hvn hvw
    exact ⟨na, nc, wa, wc, h1, h2, h4.at'⟩

set_option maxRecDepth 20000 in
set_option maxHeartbeats 8000000 in
theorem choices_good (s : ByteArray) (kinds W : List Int) (vk vw : Value) (n R : Nat) (w : World) (hs : s.size ≤ maxLen) (hk : IntAt w vk kinds) (hl : kinds.length ≤ 60) (hn : n ≤ kinds.length) (hw : IntAt w vw W) (hwl : W.length ≤ 100) (hR : nR s = R) (hR8 : R ≤ 8) (hv : ViaBad s kinds n W) :
    Calls Tryz.prog 11 #[.string s, .int .i64 R, vk, .int .i64 n, vw] w fun e w' => e = .returned (.bool true) ∧ Fresh w w' := by
  obtain ⟨_, _, hst, hfa, hwh⟩ := hv
  rw [hR] at hst hfa hwh
  have HK := hid hk
  have HW := hid hw
  obtain ⟨ka, kc, rfl, hkc, _⟩ := hk
  obtain ⟨wa, wc, rfl, hwc, _⟩ := hw
  have PT := hid (fun (t : Int) (V : World) (v : Value) (h : IntAt V v (kinds.take n ++ [t])) => parse_ret s (kinds.take n ++ [t]) v V hs h (by rw [List.length_append, List.length_take]; simp; omega))
  have PN := hid (fun (V : World) (v : Value) (h : IntAt V v (kinds.take n)) => parse_ret s (kinds.take n) v V hs h (by rw [List.length_take]; omega))
  have BG := hid (fun (t : Int) (V : World) (h : IntAt V (.slice ka kinds.length kc) kinds) => kbegins_any V _ kinds n t h (by omega) hn)
  have HA := hid (fun (V : World) (t : Int) (h : IntAt V (.slice wa W.length wc) W) => khas_any V _ W t h (by omega))
  have HKN : Hid (∀ V, IntAt V (.slice ka kinds.length kc) kinds → IntAt V (.slice ka n kc) (kinds.take n)) := fun V h => h.take hn
  have HST := hid hst
  have HFA := hid hfa
  have HWH := hid hwh
  clear hst hfa hwh
  have hn1 : (n : Int) ≤ (kc : Int) := by omega
  have hn2 : n ≤ kc := by omega
  unfold PRet at PT PN
  by_cases h60 : n < 60
  · have h61 : (n : Int) < 60 := by omega
    go_enter Tryz.func11, Tryz.ntmps11
    go_wp2
    go_loopw [11, 12, 13, 14, 15, 16] (fun x11 _ _ _ _ _ wr => ∃ (i : Nat), x11 = .int .i64 i ∧ i ≤ R ∧ Fresh w wr)
        (fun x _ _ _ _ _ _ => 1001 - (intOf x).toNat)
    case atStart => exact ⟨0, rfl, by omega, Mod.refl _ _⟩
    case round =>
      obtain ⟨i, rfl, hi, hfr⟩ := hrel
      have HFR := hid hfr
      have HME := hid (meas (B := 1001) i (by omega))
      clear hfr
      by_cases hlt : i < R
      · have hi1 : (i : Int) < (R : Int) := by omega
        have PTI := hid (fun V v h => PT.out (i : Int) V v h)
        cases hb : W.any (· == (i : Int))
        · obtain ⟨e1, e2⟩ := HFA.out h60 i hlt hb
          rw [e1, e2] at PTI
          have HBB := hid hb
          clear hb e1 e2
          go_wp2_with (first
            | (go_at_call 10; have stage := HF2.out; refine (HA.out _ _ (HW.out.fresh (HF2.out.alloc _))).mono ?_; rintro e w6 ⟨rfl, rfl⟩; rw [HBB.out])
            | (go_at_call 6; have stage := HF1.out; refine (PTI.out _ _ HI1.out).mono ?_; rintro e w2 ⟨na, nc, xa, xc, rfl, hf2, _⟩; have HF2 := hid (HF1.out.trans hf2); clear hf2)
            | (go_at_call 20; refine (BG.out _ _ (HK.out.fresh HFR.out)).mono ?_; rintro e w1 ⟨v1, rfl, hf1, ho1⟩; have HI1 := hid ho1.at'; have HF1 := hid (HFR.out.trans hf1); clear hf1 ho1))
          go_roundw
          case rel => exact ⟨i + 1, by go_num, by omega, HF2.out.alloc _⟩
          case measure => exact HME.out
        · have HBB := hid hb
          rcases HST.out h60 i hlt hb with e1 | ⟨e1, e2⟩
          · rw [e1] at PTI
            clear hb e1
            go_wp2_with (first
              | (go_at_call 10; have stage := HF2.out; refine (HA.out _ _ (HW.out.fresh (HF2.out.alloc _))).mono ?_; rintro e w6 ⟨rfl, rfl⟩; rw [HBB.out])
              | (go_at_call 6; have stage := HF1.out; refine (PTI.out _ _ HI1.out).mono ?_; rintro e w2 ⟨na, nc, xa, xc, rfl, hf2, _⟩; have HF2 := hid (HF1.out.trans hf2); clear hf2)
              | (go_at_call 20; refine (BG.out _ _ (HK.out.fresh HFR.out)).mono ?_; rintro e w1 ⟨v1, rfl, hf1, ho1⟩; have HI1 := hid ho1.at'; have HF1 := hid (HFR.out.trans hf1); clear hf1 ho1))
            go_roundw
            case rel => exact ⟨i + 1, by go_num, by omega, HF2.out.alloc _⟩
            case measure => exact HME.out
          · rw [e1, e2] at PTI
            clear hb e1 e2
            go_wp2_with (first
              | (go_at_call 10; have stage := HF2.out; refine (HA.out _ _ (HW.out.fresh (HF2.out.alloc _))).mono ?_; rintro e w6 ⟨rfl, rfl⟩; rw [HBB.out])
              | (go_at_call 6; have stage := HF1.out; refine (PTI.out _ _ HI1.out).mono ?_; rintro e w2 ⟨na, nc, xa, xc, rfl, hf2, _⟩; have HF2 := hid (HF1.out.trans hf2); clear hf2)
              | (go_at_call 20; refine (BG.out _ _ (HK.out.fresh HFR.out)).mono ?_; rintro e w1 ⟨v1, rfl, hf1, ho1⟩; have HI1 := hid ho1.at'; have HF1 := hid (HFR.out.trans hf1); clear hf1 ho1))
            go_roundw
            case rel => exact ⟨i + 1, by go_num, by omega, HF2.out.alloc _⟩
            case measure => exact HME.out
      · have hie : i = R := by omega
        have hi1 : ¬ (i : Int) < (R : Int) := by omega
        clear hie
        by_cases he : (parseF s (kinds.take n)).err = 0
        · have hb : W.any (· == (R : Int)) = true := by rw [HWH.out]; simpa using he
          rw [he] at PN
          have HBB := hid hb
          clear he hb
          go_wp2_with (first
            | (go_at_call 10; have stage := HF5.out; refine (HA.out _ _ (HW.out.fresh (HF5.out.alloc _))).mono ?_; rintro e w6 ⟨rfl, rfl⟩; rw [HBB.out])
            | (go_at_call 6; refine (PN.out _ _ (HKN.out _ (HK.out.fresh HFR.out))).mono ?_; rintro e w5 ⟨na, nc, xa, xc, rfl, hf5, _⟩; have HF5 := hid (HFR.out.trans hf5); clear hf5))
          go_ret
          exact ⟨rfl, HF5.out.alloc _⟩
        · have hb : W.any (· == (R : Int)) = false := by rw [HWH.out]; simpa using he
          have HBB := hid hb
          have he2 : ((parseF s (kinds.take n)).err == 0) = false := by simpa using he
          generalize (parseF s (kinds.take n)).err = E at PN he2
          clear he hb
          go_wp2_with (first
            | (go_at_call 10; have stage := HF5.out; refine (HA.out _ _ (HW.out.fresh (HF5.out.alloc _))).mono ?_; rintro e w6 ⟨rfl, rfl⟩; rw [HBB.out])
            | (go_at_call 6; refine (PN.out _ _ (HKN.out _ (HK.out.fresh HFR.out))).mono ?_; rintro e w5 ⟨na, nc, xa, xc, rfl, hf5, _⟩; have HF5 := hid (HFR.out.trans hf5); clear hf5))
          go_ret
          exact ⟨by simp, HF5.out.alloc _⟩
  · have h61 : ¬ (n : Int) < 60 := by omega
    go_enter Tryz.func11, Tryz.ntmps11
    go_wp2
    go_loopw [11, 12, 13, 14, 15, 16] (fun x11 _ _ _ _ _ wr => x11 = .int .i64 0 ∧ Fresh w wr)
        (fun x _ _ _ _ _ _ => 0)
    case atStart => exact ⟨rfl, Mod.refl _ _⟩
    case round =>
      obtain ⟨rfl, hfr⟩ := hrel
      have HFR := hid hfr
      clear hfr
      by_cases he : (parseF s (kinds.take n)).err = 0
      · have hb : W.any (· == (R : Int)) = true := by rw [HWH.out]; simpa using he
        rw [he] at PN
        have HBB := hid hb
        clear he hb
        go_wp2_with (first
          | (go_at_call 10; have stage := HF5.out; refine (HA.out _ _ (HW.out.fresh (HF5.out.alloc _))).mono ?_; rintro e w6 ⟨rfl, rfl⟩; rw [HBB.out])
          | (go_at_call 6; refine (PN.out _ _ (HKN.out _ (HK.out.fresh HFR.out))).mono ?_; rintro e w5 ⟨na, nc, xa, xc, rfl, hf5, _⟩; have HF5 := hid (HFR.out.trans hf5); clear hf5))
        all_goals (go_ret; exact ⟨rfl, HF5.out.alloc _⟩)
      · have hb : W.any (· == (R : Int)) = false := by rw [HWH.out]; simpa using he
        have HBB := hid hb
        have he2 : ((parseF s (kinds.take n)).err == 0) = false := by simpa using he
        generalize (parseF s (kinds.take n)).err = E at PN he2
        clear he hb
        go_wp2_with (first
          | (go_at_call 10; have stage := HF5.out; refine (HA.out _ _ (HW.out.fresh (HF5.out.alloc _))).mono ?_; rintro e w6 ⟨rfl, rfl⟩; rw [HBB.out])
          | (go_at_call 6; refine (PN.out _ _ (HKN.out _ (HK.out.fresh HFR.out))).mono ?_; rintro e w5 ⟨na, nc, xa, xc, rfl, hf5, _⟩; have HF5 := hid (HFR.out.trans hf5); clear hf5))
        all_goals (go_ret; exact ⟨by simp, HF5.out.alloc _⟩)
end Go.Proofs.YtakkooidejdfkaaGreat
namespace Go.Proofs.YtakkooidejdfkaaGreat
open Go.RowKit
set_option linter.unusedVariables false
set_option linter.unusedSimpArgs false

/-- a step that is a node -/
theorem runS_node {ps : List Pr} {s : St} {l : List St} {k r : List Sy} (hs : s.leaf = false) (h : runS ps (s :: l) k = some r) :
    ∃ y k' p, k = y :: k' ∧ y.isH = true ∧ 0 ≤ s.num ∧ ps[s.num.toNat]? = some p ∧ p.head = y.num ∧ runS ps l (p.syms ++ k') = some r := by
  cases k with
  | nil => simp [runS] at h
  | cons y k =>
    simp only [runS, hs, Bool.false_eq_true, if_false] at h
    split at h
    · rename_i hy
      cases hp : ps[s.num.toNat]? with
      | none => rw [hp] at h; cases h
      | some p =>
        rw [hp] at h
        simp only [] at h
        split at h
        · rename_i hh
          exact ⟨y, k, p, rfl, hy.1, hy.2, rfl, hh, h⟩
        · cases h
    · cases h
theorem runS_leaf {ps : List Pr} {s : St} {l : List St} {k r : List Sy} (hs : s.leaf = true) (h : runS ps (s :: l) k = some r) :
    ∃ y k', k = y :: k' ∧ y.isH = false ∧ y.num = s.num ∧ runS ps l k' = some r := by
  cases k with
  | nil => simp [runS] at h
  | cons y k =>
    simp only [runS, hs, if_true] at h
    split at h
    · rename_i hy
      exact ⟨y, k, rfl, hy.1, hy.2, h⟩
    · cases h
theorem run_in {ps : List Pr} {R H : Nat} (hT : TabOk ps R H) : ∀ (A : List St) (k r : List Sy), StkIn R H k → runS ps A k = some r → ∀ x ∈ A, 0 ≤ x.num ∧ (x.leaf = true → x.num < R) ∧ (x.leaf = false → x.num < ps.length)
  | [], _, _, _, _, x, hx => by cases hx
  | s :: A, k, r, hk, h, x, hx => by
    cases hs : s.leaf
    · obtain ⟨y, k', p, rfl, h1, h2, h3, h4, h5⟩ := runS_node hs h
      rcases List.mem_cons.1 hx with rfl | hx
      · have := (List.getElem?_eq_some_iff.1 h3).1
        exact ⟨h2, fun e => by rw [hs] at e; (cases e), fun _ => by omega⟩
      · refine run_in hT A (p.syms ++ k') r (fun z hz => ?_) h5 x hx
        rcases List.mem_append.1 hz with hz | hz
        · exact hT.sy p (List.mem_of_getElem? h3) z hz
        · exact hk z (List.mem_cons_of_mem _ hz)
    · obtain ⟨y, k', rfl, h1, h2, h3⟩ := runS_leaf hs h
      rcases List.mem_cons.1 hx with rfl | hx
      · have := hk y (by simp)
        rw [h1, h2] at this
        exact ⟨this.1, fun _ => by simpa using this.2, fun e => by rw [hs] at e; (cases e)⟩
      · exact run_in hT A k' r (fun z hz => hk z (List.mem_cons_of_mem _ hz)) h3 x hx
theorem run_stk {ps : List Pr} {R H : Nat} (hT : TabOk ps R H) : ∀ (A : List St) (k r : List Sy), StkIn R H k → runS ps A k = some r → StkIn R H r
  | [], _, _, hk, h => by cases h; exact hk
  | s :: A, k, r, hk, h => by
    cases hs : s.leaf
    · obtain ⟨y, k', p, rfl, h1, h2, h3, h4, h5⟩ := runS_node hs h
      refine run_stk hT A (p.syms ++ k') r (fun z hz => ?_) h5
      rcases List.mem_append.1 hz with hz | hz
      · exact hT.sy p (List.mem_of_getElem? h3) z hz
      · exact hk z (List.mem_cons_of_mem _ hz)
    · obtain ⟨y, k', rfl, h1, h2, h3⟩ := runS_leaf hs h
      exact run_stk hT A k' r (fun z hz => hk z (List.mem_cons_of_mem _ hz)) h3
section
variable {ps : List Pr} {R H : Nat} {N : Int → Bool} {F O : Int → Nat → Bool} {ch : Int → Nat → Int}
theorem LLG.runNull (g : LLG ps R H N F O ch) : ∀ (B : List St) (k : List Sy), (∀ x ∈ B, x.leaf = false) → runS ps B k = some [] → k.all (nulS N) = true
  | [], k, _, h => by cases h; rfl
  | s :: B, k, hl, h => by
    obtain ⟨y, k', p, rfl, h1, h2, h3, h4, h5⟩ := runS_node (hl s (by simp)) h
    have := g.runNull B _ (fun x hx => hl x (List.mem_cons_of_mem _ hx)) h5
    rw [List.all_append, Bool.and_eq_true] at this
    have hn := g.clN p (List.mem_of_getElem? h3) this.1
    rw [List.all_cons, this.2, nulS, h1, ← h4, hn]; rfl
theorem LLG.runFirst (g : LLG ps R H N F O ch) {t : Nat} {C : List St} : ∀ (B : List St) (k r : List Sy), (∀ x ∈ B, x.leaf = false) → runS ps (B ++ ⟨true, t⟩ :: C) k = some r → begX N (fun X => F X t) t k = true
  | [], k, r, _, h => by
    obtain ⟨y, k', rfl, h1, h2, h3⟩ := runS_leaf rfl h
    simp only [begX, h1, Bool.false_eq_true, if_false, h2]
    simp
  | s :: B, k, r, hl, h => by
    obtain ⟨y, k', p, rfl, h1, h2, h3, h4, h5⟩ := runS_node (hl s (by simp)) h
    have := g.runFirst B _ r (fun x hx => hl x (List.mem_cons_of_mem _ hx)) h5
    rw [begX_append, Bool.or_eq_true, Bool.and_eq_true] at this
    simp only [begX, h1, if_true, Bool.true_and]
    rcases this with h6 | ⟨h6, h7⟩
    · rw [← h4, g.clF p (List.mem_of_getElem? h3) t h6]; rfl
    · rw [← h4, g.clN p (List.mem_of_getElem? h3) h6, h7]; simp
/-- each choice is forced: up to the next leaf -/
theorem LLG.runTo (g : LLG ps R H N F O ch) {t : Nat} (ht : t ≤ R) {C : List St} : ∀ (B : List St) (k r : List Sy) (st : List St), StkOk N F O R k → (∀ x ∈ B, x.leaf = false) → runS ps (B ++ ⟨true, t⟩ :: C) k = some r →
    ∃ f k', runS ps C k' = some r ∧ gTo ps ch t f k st = some (k', st ++ (B ++ [⟨true, t⟩]))
  | [], k, r, st, hk, _, h => by
    obtain ⟨y, k', rfl, h1, h2, h3⟩ := runS_leaf rfl h
    refine ⟨1, k', h3, ?_⟩
    simp only [gTo, h1, if_true, h2, List.nil_append]
  | s :: B, k, r, st, hk, hl, h => by
    have hs := hl s (by simp)
    have hB := fun x hx => hl x (List.mem_cons_of_mem s hx)
    obtain ⟨y, k', p, rfl, h1, h2, h3, h4, h5⟩ := runS_node hs h
    have hb := g.runFirst B _ r hB h5
    rw [begX_append, Bool.or_eq_true, Bool.and_eq_true] at hb
    have ha : ahd N F O p t = true := by
      unfold ahd
      rcases hb with hb | ⟨hb, hc⟩
      · rw [hb]; rfl
      · rw [hb, h4, hk [] y k' rfl h1 t (by unfold wanT; rw [hc]; rfl)]; simp
    have hch := g.one s.num.toNat p h3 t ht ha
    rw [h4] at hch
    obtain ⟨f, k2, e1, e2⟩ := g.runTo ht B (p.syms ++ k') r (st ++ [s]) (g.stkOpen (List.mem_of_getElem? h3) h1 h4 hk) hB h5
    refine ⟨f + 1, k2, e1, ?_⟩
    have hse : s = ⟨false, ch y.num t⟩ := by
      obtain ⟨sl, sn⟩ := s
      dsimp only at hs hch h2 ⊢
      rw [hch, hs]; congr 1; omega
    rw [gTo, if_neg (by simp [h1]), if_pos (by omega)]
    have : (ch y.num t).toNat = s.num.toNat := by omega
    rw [this, h3]
    simp only []
    rw [← hse, e2]
    simp
theorem LLG.runEnd (g : LLG ps R H N F O ch) : ∀ (B : List St) (k : List Sy) (st : List St), StkOk N F O R k → (∀ x ∈ B, x.leaf = false) → runS ps B k = some [] → ∃ f, gTo ps ch R f k st = some ([], st ++ B)
  | [], k, st, hk, _, h => by
    cases h
    exact ⟨1, by simp [gTo]⟩
  | s :: B, k, st, hk, hl, h => by
    have hs := hl s (by simp)
    have hB := fun x hx => hl x (List.mem_cons_of_mem s hx)
    obtain ⟨y, k', p, rfl, h1, h2, h3, h4, h5⟩ := runS_node hs h
    have hb := g.runNull B _ hB h5
    rw [List.all_append, Bool.and_eq_true] at hb
    have ha : ahd N F O p R = true := by
      unfold ahd
      rw [hb.1, h4, hk [] y k' rfl h1 R (by unfold wanT; rw [hb.2]; simp)]; simp
    have hch := g.one s.num.toNat p h3 R (Nat.le_refl _) ha
    rw [h4] at hch
    obtain ⟨f, e2⟩ := g.runEnd B (p.syms ++ k') (st ++ [s]) (g.stkOpen (List.mem_of_getElem? h3) h1 h4 hk) hB h5
    refine ⟨f + 1, ?_⟩
    have hse : s = ⟨false, ch y.num R⟩ := by
      obtain ⟨sl, sn⟩ := s
      dsimp only at hs hch h2 ⊢
      rw [hch, hs]; congr 1; omega
    rw [gTo, if_neg (by simp [h1]), if_pos (by omega)]
    have : (ch y.num R).toNat = s.num.toNat := by omega
    rw [this, h3]
    simp only []
    rw [← hse, e2]
    simp
end
theorem leaves_nil {A : List St} (h : leavesS A = []) : ∀ x ∈ A, x.leaf = false := by
  intro x hx
  unfold leavesS at h
  rw [List.map_eq_nil_iff, List.filter_eq_nil_iff] at h
  simpa using h x hx
theorem leaves_cons : ∀ {A : List St} {t : Int} {l : List Int}, leavesS A = t :: l → ∃ B C, A = B ++ ⟨true, t⟩ :: C ∧ (∀ x ∈ B, x.leaf = false) ∧ leavesS C = l
  | [], t, l, h => by simp [leavesS] at h
  | s :: A, t, l, h => by
    obtain ⟨sl, sn⟩ := s
    cases sl
    · have e : leavesS (⟨false, sn⟩ :: A) = leavesS A := by simp [leavesS]
      rw [e] at h
      obtain ⟨B, C, h1, h2, h3⟩ := leaves_cons h
      refine ⟨⟨false, sn⟩ :: B, C, by rw [h1]; rfl, fun x hx => ?_, h3⟩
      rcases List.mem_cons.1 hx with rfl | hx
      · rfl
      · exact h2 x hx
    · have e : leavesS (⟨true, sn⟩ :: A) = sn :: leavesS A := by simp [leavesS]
      rw [e, List.cons.injEq] at h
      exact ⟨[], A, by rw [h.1]; rfl, fun x hx => by (cases hx), h.2⟩
/-- whatever tree there is of the stack, it is the one that grows -/
theorem grwF_all {ps : List Pr} {R H : Nat} {hs : List Hd} (h : Tab ps R H hs) : ∀ (l : List Int) (A : List St) (a : Nat) (k : List Sy) (st : List St), leavesS A = l → StkOk (hN hs) (hF hs) (hO hs) R k → StkIn R H k → (∀ s ∈ st, 0 ≤ s.num ∧ s.num ≤ 127) → runS ps A k = some [] →
    grwF ps hs R H l a k st = ⟨0, [], 0, st ++ A⟩
  | [], A, a, k, st, hl, h1, h2, h3, hru => by
    have hA := leaves_nil hl
    have hnul := h.g.runNull A k hA hru
    have hw2 : wanT (hN hs) (hF hs) R k R = true := by unfold wanT; rw [hnul]; simp
    have hw : (wanB hs R k).getD R false = true := by rw [wanB_at h.ok h.hR k h2 R]; exact hw2
    obtain ⟨s1, _⟩ := h.step (Nat.le_refl _) h1 h2 h3 hw
    rw [gTo_congr (R := R) (H := H) (t := R) (ch := chL (tabL (ps.zip (aheadsF hs ps)) 72)) (ch' := chF hs ps) (fun X x0 x1 => chL_eq x0 (by have := h.hH; omega) (by have := h.hR; omega)) (fun p hp => (h.syms p hp).2) _ _ _ h2] at s1
    obtain ⟨f, e⟩ := h.g.runEnd A k st h1 hA hru
    have m1 := gTo_mono _ _ _ _ s1 (max f (enough H k.length)) (by omega)
    have m2 := gTo_mono _ _ _ _ e (max f (enough H k.length)) (by omega)
    rw [m1, Option.some.injEq] at m2
    unfold grwF
    rw [if_pos hw, m2]
  | t :: l, A, a, k, st, hl, h1, h2, h3, hru => by
    obtain ⟨B, C, rfl, hB, hC⟩ := leaves_cons hl
    have hin := run_in h.g.tab _ _ _ h2 hru ⟨true, t⟩ (by simp)
    obtain ⟨n, rfl⟩ : ∃ n : Nat, t = n := ⟨t.toNat, by have := hin.1; dsimp only at this; omega⟩
    have hnR : n ≤ R := by have := hin.2.1 rfl; dsimp only at this; omega
    have hw2 : wanT (hN hs) (hF hs) R k n = true := by unfold wanT; rw [h.g.runFirst B k _ hB hru]; rfl
    have hw : (wanB hs R k).getD n false = true := by rw [wanB_at h.ok h.hR k h2 n]; exact hw2
    obtain ⟨s1, _, _, s4, s5, s6, _⟩ := h.step hnR h1 h2 h3 hw
    rw [gTo_congr (R := R) (H := H) (t := n) (ch := chL (tabL (ps.zip (aheadsF hs ps)) 72)) (ch' := chF hs ps) (fun X x0 x1 => chL_eq x0 (by have := h.hH; omega) (by have := h.hR; omega)) (fun p hp => (h.syms p hp).2) _ _ _ h2] at s1
    obtain ⟨f, k', e1, e⟩ := h.g.runTo hnR B k [] st h1 hB hru
    have m1 := gTo_mono _ _ _ _ s1 (max f (enough H k.length)) (by omega)
    have m2 := gTo_mono _ _ _ _ e (max f (enough H k.length)) (by omega)
    rw [m1, Option.some.injEq] at m2
    rw [m2] at s4 s5 s6
    unfold grwF
    rw [Int.toNat_natCast, if_pos hw, m2]
    rw [grwF_all h l C (a + 1) k' _ hC s4 s5 s6 e1]
    simp
/-- a tree from the START is what Parse finds -/
theorem parse_all {s : ByteArray} (hc : (checkF s).1 = 0) (hcl : clashF s = []) {A : List St} (hA : runS (tabF s) A [⟨true, 0⟩] = some []) (hl : (leavesS A).length ≤ 60) : parseF s (leavesS A) = ⟨0, [], 0, A⟩ := by
  have hT := tab_of hc hcl
  have h0 : StkIn (nR s) (nH s) [⟨true, 0⟩] := hT.start.2
  have hk : kindsOk (nR s) (leavesS A) = true := by
    unfold kindsOk
    rw [List.all_eq_true]
    intro x hx
    unfold leavesS at hx
    obtain ⟨y, hy, rfl⟩ := List.mem_map.1 hx
    obtain ⟨hy, hyl⟩ := List.mem_filter.1 hy
    have := run_in hT.g.tab A _ _ h0 hA y hy
    have h1 := this.1
    have h2 := this.2.1 hyl
    simp only [Bool.and_eq_true, decide_eq_true_eq]
    exact ⟨h1, h2⟩
  unfold parseF
  rw [if_neg (by omega), if_neg (by simp [hc]), if_neg (by simp [hk]), if_neg (by simp [hcl])]
  have := grwF_all hT (leavesS A) A 0 [⟨true, 0⟩] [] rfl hT.g.stk0 h0 (fun s hs => by (cases hs)) hA
  rw [List.nil_append] at this
  exact this
/-- the nodes of some steps behind c leaves -/
def nodesT (ps : List Pr) (A : List St) (c : Nat) : List Nd := List.zipWith setSz (ndL A c) (sizesF ps (ndL A c))
theorem nodesT_len (ps : List Pr) (A : List St) (c : Nat) : (nodesT ps A c).length = A.length := by simp [nodesT, ndL_len, sizesF_len]
theorem nodesT_zero (ps : List Pr) (A : List St) : nodesT ps A 0 = nodesF ps A := rfl
theorem sizes_app (ps : List Pr) : ∀ (A B : List St) (ys : List Sy) (c : Nat), runS ps A ys = some [] → sizesF ps (ndL (A ++ B) c) = sizesF ps (ndL A c) ++ sizesF ps (ndL B (c + (leavesS A).length))
  | [], B, ys, c, h => by simp [ndL, sizesF, leavesS]
  | s :: A, B, ys, c, h => by
    have key : ∃ ys', runS ps A ys' = some [] := by
      cases hs : s.leaf
      · obtain ⟨y, k', p, _, _, _, _, _, h5⟩ := runS_node hs h; exact ⟨_, h5⟩
      · obtain ⟨y, k', _, _, _, h5⟩ := runS_leaf hs h; exact ⟨_, h5⟩
    obtain ⟨ys', hA⟩ := key
    have hhead : (sizesF ps (ndL (s :: A ++ B) c))[0]? = (sizesF ps (ndL (s :: A) c))[0]? := by
      cases ys with
      | nil => simp [runS] at h
      | cons y ys =>
        obtain ⟨T, A2, e, h1, h2⟩ := runS_split ps (s :: A) [y] ys h
        have q1 := size_tree ps _ T (A2 ++ B) y c (Nat.le_refl _) h1
        have q2 := size_tree ps _ T A2 y c (Nat.le_refl _) h1
        rw [e, List.append_assoc, q1, q2]
    have htail : ∀ c', sizesF ps (ndL (A ++ B) c') = sizesF ps (ndL A c') ++ sizesF ps (ndL B (c' + (leavesS A).length)) := fun c' => sizes_app ps A B ys' c' hA
    cases hl : s.leaf
    · have e : leavesS (s :: A) = leavesS A := by simp [leavesS, hl]
      simp only [List.cons_append, ndL, hl, Bool.false_eq_true, if_false, sizesF, List.getElem?_cons_zero, Option.some.injEq, e] at hhead ⊢
      rw [hhead, htail]
    · have e : (leavesS (s :: A)).length = (leavesS A).length + 1 := by simp [leavesS, hl]
      simp only [List.cons_append, ndL, hl, if_true, sizesF, List.getElem?_cons_zero, Option.some.injEq, e] at hhead ⊢
      rw [hhead, htail, show c + 1 + (leavesS A).length = c + ((leavesS A).length + 1) by omega]
theorem nodesT_app (ps : List Pr) {A B : List St} {ys : List Sy} (c : Nat) (h : runS ps A ys = some []) : nodesT ps (A ++ B) c = nodesT ps A c ++ nodesT ps B (c + (leavesS A).length) := by
  unfold nodesT
  rw [sizes_app ps A B ys c h, ndL_app, List.zipWith_append (by rw [sizesF_len])]
theorem nodesT_node (ps : List Pr) {A : List St} {n : Int} {y : Sy} (c : Nat) (h : runS ps (⟨false, n⟩ :: A) [y] = some []) : nodesT ps (⟨false, n⟩ :: A) c = ⟨n, -1, c, A.length + 1⟩ :: nodesT ps A c := by
  have q := size_tree ps _ (⟨false, n⟩ :: A) [] y c (Nat.le_refl _) h
  rw [List.append_nil] at q
  unfold nodesT
  simp only [ndL, Bool.false_eq_true, if_false, sizesF, List.getElem?_cons_zero, Option.some.injEq, List.zipWith_cons_cons] at q ⊢
  rw [q]; simp [setSz]
theorem nodesT_leaf (ps : List Pr) (n : Int) (c : Nat) : nodesT ps [⟨true, n⟩] c = [⟨-1, n, c, 1⟩] := by
  have q := size_tree ps 1 [⟨true, n⟩] [] ⟨false, n⟩ c (Nat.le_refl _) (by simp [runS])
  rw [List.append_nil] at q
  unfold nodesT
  simp only [ndL, if_true, sizesF, List.getElem?_cons_zero, Option.some.injEq, List.zipWith_cons_cons] at q ⊢
  rw [q]; simp [setSz, ndL, sizesF]
end Go.Proofs.YtakkooidejdfkaaGreat
namespace Go.Proofs.YtakkooidejdfkaaGreat
open Go.RowKit
set_option linter.unusedVariables false
set_option linter.unusedSimpArgs false

/-- the least height of a tree whose root has these symbols -/
def hiL (hts : List Nat) : List Sy → Nat → Nat
  | [], h => h
  | s :: l, h => if s.isH = false then hiL hts l h else if hts.getD s.num.toNat 0 = 0 then 0 else hiL hts l (if h < hts.getD s.num.toNat 0 + 1 then hts.getD s.num.toNat 0 + 1 else h)
def hiP (hts : List Nat) (p : Pr) : Nat := hiL hts p.syms 1
theorem hiL_ge (hts : List Nat) : ∀ (l : List Sy) (h : Nat), hiL hts l h = 0 ∨ h ≤ hiL hts l h
  | [], h => .inr (Nat.le_refl _)
  | s :: l, h => by
    unfold hiL
    split
    · exact hiL_ge hts l h
    · split
      · exact .inl rfl
      · rcases hiL_ge hts l (if h < hts.getD s.num.toNat 0 + 1 then hts.getD s.num.toNat 0 + 1 else h) with e | e
        · exact .inl e
        · right; split at e <;> split <;> omega
/-- of what has a height all heads have, and lower ones -/
theorem hiL_low (hts : List Nat) : ∀ (l : List Sy) (h : Nat), hiL hts l h ≠ 0 → ∀ s ∈ l, s.isH = true → hts.getD s.num.toNat 0 ≠ 0 ∧ hts.getD s.num.toNat 0 < hiL hts l h
  | [], h, _, s, hs, _ => by cases hs
  | y :: l, h, hn, s, hs, hh => by
    unfold hiL at hn ⊢
    split
    · rename_i e
      rw [if_pos e] at hn
      rcases List.mem_cons.1 hs with rfl | hs
      · rw [hh] at e; cases e
      · exact hiL_low hts l h hn s hs hh
    · rename_i e
      rw [if_neg e] at hn
      split
      · rename_i e2; rw [if_pos e2] at hn; exact absurd rfl hn
      · rename_i e2
        rw [if_neg e2] at hn
        rcases List.mem_cons.1 hs with rfl | hs
        · refine ⟨e2, ?_⟩
          rcases hiL_ge hts l (if h < hts.getD s.num.toNat 0 + 1 then hts.getD s.num.toNat 0 + 1 else h) with q | q
          · exact absurd q hn
          · generalize hiL hts l (if h < hts.getD s.num.toNat 0 + 1 then hts.getD s.num.toNat 0 + 1 else h) = V at q ⊢
            split at q <;> omega
        · exact hiL_low hts l _ hn s hs hh
theorem hiL_le (hts : List Nat) {n : Nat} : ∀ (l : List Sy) (h : Nat), 0 < h → h ≤ n → (∀ s ∈ l, s.isH = true → hts.getD s.num.toNat 0 ≠ 0 ∧ hts.getD s.num.toNat 0 < n) → 0 < hiL hts l h ∧ hiL hts l h ≤ n
  | [], h, h0, h1, _ => ⟨h0, h1⟩
  | y :: l, h, h0, h1, hl => by
    unfold hiL
    split
    · exact hiL_le hts l h h0 h1 (fun s hs => hl s (List.mem_cons_of_mem _ hs))
    · rename_i e
      obtain ⟨q1, q2⟩ := hl y (by simp) (by simpa using e)
      rw [if_neg q1]
      exact hiL_le hts l _ (by split <;> omega) (by split <;> omega) (fun s hs => hl s (List.mem_cons_of_mem _ hs))
theorem getD_set_self {α : Type} {l : List α} {i : Nat} {v d : α} (h : i < l.length) : (l.set i v).getD i d = v := by simp [List.getD, h]
theorem getD_set_ne {α : Type} {l : List α} {i j : Nat} {v d : α} (h : i ≠ j) : (l.set i v).getD j d = l.getD j d := by simp [List.getD, h]
/-- one head more has its height -/
theorem hiL_set {hts : List Nat} {X r : Nat} (hX : X < hts.length) (h0 : hts.getD X 0 = 0) : ∀ (l : List Sy) (h : Nat), (hiL hts l h ≠ 0 → hiL (hts.set X r) l h = hiL hts l h) ∧ (hiL hts l h = 0 → 0 < h → hiL (hts.set X r) l h = 0 ∨ r + 1 ≤ hiL (hts.set X r) l h)
  | [], h => ⟨fun _ => rfl, fun e h0 => by unfold hiL at e; omega⟩
  | s :: l, h => by
    unfold hiL
    split
    · exact hiL_set hX h0 l h
    · by_cases hs : s.num.toNat = X
      · rw [hs, h0, if_pos rfl, getD_set_self hX]
        refine ⟨fun e => absurd rfl e, fun _ hh => ?_⟩
        split
        · exact .inl rfl
        · rcases hiL_ge (hts.set X r) l (if h < r + 1 then r + 1 else h) with e | e
          · exact .inl e
          · right; split at e <;> split <;> omega
      · rw [getD_set_ne (fun e => hs e.symm)]
        split
        · exact ⟨fun e => absurd rfl e, fun _ _ => .inl rfl⟩
        · have := hiL_set hX h0 l (if h < hts.getD s.num.toNat 0 + 1 then hts.getD s.num.toNat 0 + 1 else h) (r := r)
          exact ⟨this.1, fun e hh => this.2 e (by split <;> omega)⟩
def stepH (r : Nat) (hts : List Nat) (p : Pr) : List Nat := if hiP hts p = r ∧ hts.getD p.head.toNat 0 = 0 then hts.set p.head.toNat r else hts
def rndH (ps : List Pr) (r : Nat) (hts : List Nat) : List Nat := ps.foldl (stepH r) hts
def allH (ps : List Pr) (H : Nat) : Nat → List Nat
  | 0 => List.replicate H 0
  | r + 1 => rndH ps (r + 1) (allH ps H r)
structure HtI (ps : List Pr) (H : Nat) (hts : List Nat) (r : Nat) (done : List Pr) : Prop where
  len : hts.length = H
  le : ∀ X, hts.getD X 0 ≤ r + 1
  from_ : ∀ X, hts.getD X 0 ≠ 0 → ∃ p ∈ ps, p.head.toNat = X ∧ hiP hts p = hts.getD X 0
  old : ∀ p ∈ ps, 0 < hiP hts p → hiP hts p ≤ r → hts.getD p.head.toNat 0 ≠ 0
  new : ∀ p ∈ done, 0 < hiP hts p → hiP hts p ≤ r + 1 → hts.getD p.head.toNat 0 ≠ 0
  least : ∀ p ∈ ps, 0 < hiP hts p → hts.getD p.head.toNat 0 ≤ hiP hts p
section
variable {ps : List Pr} {R H : Nat}
theorem HtI.step (hT : TabOk ps R H) {hts : List Nat} {r : Nat} {done : List Pr} (h : HtI ps H hts r done) {p : Pr} (hp : p ∈ ps) : HtI ps H (stepH (r + 1) hts p) r (done ++ [p]) := by
  unfold stepH
  split
  · rename_i hc
    obtain ⟨hc1, hc2⟩ := hc
    have hX : p.head.toNat < hts.length := by have := hT.hd p hp; rw [h.len]; omega
    have key : ∀ q : Pr, (hiP hts q ≠ 0 → hiP (hts.set p.head.toNat (r + 1)) q = hiP hts q) ∧ (hiP hts q = 0 → hiP (hts.set p.head.toNat (r + 1)) q = 0 ∨ r + 2 ≤ hiP (hts.set p.head.toNat (r + 1)) q) := fun q =>
      ⟨(hiL_set hX hc2 q.syms 1).1, fun e => (hiL_set hX hc2 q.syms 1).2 e (by omega)⟩
    have keep : ∀ Y, hts.getD Y 0 ≠ 0 → (hts.set p.head.toNat (r + 1)).getD Y 0 = hts.getD Y 0 := fun Y hY => getD_set_ne (fun e => hY (by rw [← e]; exact hc2))
    refine ⟨by rw [List.length_set]; exact h.len, fun X => ?_, fun X hX' => ?_, fun q hq h1 h2 => ?_, fun q hq h1 h2 => ?_, fun q hq h1 => ?_⟩
    · by_cases e : p.head.toNat = X
      · rw [← e, getD_set_self hX]; omega
      · rw [getD_set_ne e]; exact h.le X
    · by_cases e : p.head.toNat = X
      · refine ⟨p, hp, e, ?_⟩
        rw [(key p).1 (by omega), hc1, ← e, getD_set_self hX]
      · rw [getD_set_ne e] at hX' ⊢
        obtain ⟨q, hq, e1, e2⟩ := h.from_ X hX'
        exact ⟨q, hq, e1, by rw [(key q).1 (by omega)]; exact e2⟩
    · by_cases e : hiP hts q = 0
      · rcases (key q).2 e with e2 | e2 <;> omega
      · rw [(key q).1 e] at h1 h2
        have := h.old q hq h1 h2
        rw [keep _ this]; exact this
    · by_cases e : hiP hts q = 0
      · rcases (key q).2 e with e2 | e2 <;> omega
      · rw [(key q).1 e] at h1 h2
        rcases List.mem_append.1 hq with hq | hq
        · have := h.new q hq h1 h2
          rw [keep _ this]; exact this
        · have : q = p := by simpa using hq
          subst this
          rw [getD_set_self hX]; omega
    · by_cases eX : p.head.toNat = q.head.toNat
      · rw [← eX, getD_set_self hX]
        by_cases e : hiP hts q = 0
        · rcases (key q).2 e with e2 | e2 <;> omega
        · rw [(key q).1 e]
          by_cases e3 : hiP hts q ≤ r
          · have := h.old q hq (by omega) e3
            rw [← eX] at this
            exact absurd hc2 this
          · omega
      · rw [getD_set_ne eX]
        by_cases e : hiP hts q = 0
        · have := h.le q.head.toNat
          rcases (key q).2 e with e2 | e2 <;> omega
        · rw [(key q).1 e] at h1 ⊢
          exact h.least q hq h1
  · rename_i hc
    refine ⟨h.len, h.le, h.from_, h.old, fun q hq h1 h2 => ?_, h.least⟩
    rcases List.mem_append.1 hq with hq | hq
    · exact h.new q hq h1 h2
    · have : q = p := by simpa using hq
      subst this
      intro e
      by_cases e3 : hiP hts q = r + 1
      · exact hc ⟨e3, e⟩
      · exact h.old q hp h1 (by omega) e
theorem HtI.fold (hT : TabOk ps R H) {r : Nat} : ∀ (l : List Pr) (hts : List Nat) (done : List Pr), (∀ p ∈ l, p ∈ ps) → HtI ps H hts r done → HtI ps H (l.foldl (stepH (r + 1)) hts) r (done ++ l)
  | [], hts, done, _, h => by simpa using h
  | p :: l, hts, done, hl, h => by
    have := HtI.fold hT l _ _ (fun q hq => hl q (List.mem_cons_of_mem _ hq)) (h.step hT (hl p (by simp)))
    simpa using this
theorem allH_ok (hT : TabOk ps R H) : ∀ r, HtI ps H (allH ps H r) r []
  | 0 => by
    have hz : ∀ X, (allH ps H 0).getD X 0 = 0 := fun X => by
      unfold allH
      by_cases h : X < H
      · simp [List.getD, h]
      · rw [List.getD, List.getElem?_eq_none (by simp; omega)]; rfl
    exact ⟨by simp [allH], fun X => by rw [hz]; omega, fun X h => absurd (hz X) h, fun p _ h1 h2 => by omega, fun p hp => by (cases hp), fun p _ _ => by rw [hz]; omega⟩
  | r + 1 => by
    have h := HtI.fold hT ps _ [] (fun p hp => hp) (allH_ok hT r)
    exact ⟨h.len, fun X => by have := h.le X; show (rndH ps (r + 1) (allH ps H r)).getD X 0 ≤ _; unfold rndH; omega, h.from_, fun p hp h1 h2 => h.new p (by simpa using hp) h1 h2, fun p hp => by (cases hp), h.least⟩
theorem NS_high (hT : TabOk ps R H) : ∀ (n m : Nat) (X : Int), n ≤ m → NS ps n X = true → (allH ps H m).getD X.toNat 0 ≠ 0 ∧ (allH ps H m).getD X.toNat 0 ≤ n
  | 0, m, X, _, h => by cases h
  | n + 1, m, X, hm, h => by
    unfold NS at h
    rw [List.any_eq_true] at h
    obtain ⟨p, hp, h⟩ := h
    rw [Bool.and_eq_true, List.all_eq_true] at h
    have hX : p.head = X := by simpa using h.1
    have hI := allH_ok hT m
    have hb := hiL_le (allH ps H m) (n := n + 1) p.syms 1 (by omega) (by omega) (fun s hs hh => by
      have := h.2 s hs
      rw [hh, Bool.true_and] at this
      have := NS_high hT n m s.num (by omega) this
      omega)
    have h1 := hI.old p hp hb.1 (by have := hb.2; unfold hiP; omega)
    have h2 := hI.least p hp hb.1
    rw [hX] at h1 h2
    refine ⟨h1, ?_⟩
    have := hb.2
    unfold hiP at h2
    omega
end
/-- the sizes of trees -/
def bdN : Nat → Nat
  | 0 => 1
  | n + 1 => 1 + 6 * bdN n
theorem bdN_mono : ∀ n, bdN n ≤ bdN (n + 1)
  | 0 => by decide
  | n + 1 => by have := bdN_mono n; show 1 + 6 * bdN n ≤ 1 + 6 * bdN (n + 1); omega
theorem bdN_le {n m : Nat} (h : n ≤ m) : bdN n ≤ bdN m := by
  induction m with
  | zero => have : n = 0 := by omega
            subst this; exact Nat.le_refl _
  | succ m ih =>
    by_cases e : n = m + 1
    · subst e; exact Nat.le_refl _
    · exact Nat.le_trans (ih (by omega)) (bdN_mono m)
theorem bdN_ten : bdN 10 = 72559411 := by decide
end Go.Proofs.YtakkooidejdfkaaGreat
namespace Go.Proofs.YtakkooidejdfkaaGreat
open Go.RowKit
set_option linter.unusedVariables false
set_option linter.unusedSimpArgs false

/-- this block and those above a bound are turned -/
abbrev MT (b B : Nat) : World → World → Prop := Mod (fun k => k = b ∨ B ≤ k)
/-- the tree that grows, in memory -/
structure TA (w : World) (b B : Nat) (vx vc vh : Value) (u : Nat) (vn vk : Value) (NL : List Nd) (KL : List Int) : Prop where
  lo : b < B
  blk : w.heap[b]? = some (.cells #[vx, vc, .int .i64 u, vn, vk, vh] 34 (0, 0))
  ns : NdOwn w B vn NL
  ks : IntOwn w B vk KL
  ap : ∀ j, vk.ownBlock = some j → vn.ownBlock ≠ some j
section
variable {w W w1 : World} {b B u u' : Nat} {vx vc vh vn vk v' : Value} {NL : List Nd} {KL : List Int}
theorem TA.lt (h : TA w b B vx vc vh u vn vk NL KL) : b < w.heap.size := heap_lt h.blk
theorem TA.cell (h : TA w b B vx vc vh u vn vk NL KL) (o : Nat) : w.cell? ⟨b, o, none⟩ = #[vx, vc, .int .i64 u, vn, vk, vh][o]? := cellOf h.blk o
theorem TA.frozen (h : TA w b B vx vc vh u vn vk NL KL) (o : Nat) : w.frozen? ⟨b, o, none⟩ = false := frozenOf h.blk o
theorem TA.nb (h : TA w b B vx vc vh u vn vk NL KL) : vn.ownBlock ≠ some b := fun e => by have := (h.ns.lt b e).1; have := h.lo; omega
theorem TA.kb (h : TA w b B vx vc vh u vn vk NL KL) : vk.ownBlock ≠ some b := fun e => by have := (h.ks.lt b e).1; have := h.lo; omega
theorem TA.fresh (h : TA w b B vx vc vh u vn vk NL KL) (hf : Fresh w W) : TA W b B vx vc vh u vn vk NL KL :=
  ⟨h.lo, hf.at h.blk (fun x => x), ownsRow_other h.ns (fun g hg => hf.block g (h.ns.lt g hg).2 (fun x => x)), ownsRow_other h.ks (fun g hg => hf.block g (h.ks.lt g hg).2 (fun x => x)), h.ap⟩
theorem TA.grownN (h : TA w b B vx vc vh u vn vk NL KL) (hW : Fresh w W) (hg : W.grownBy w1 vn.ownBlock) : w1.heap[b]? = some (.cells #[vx, vc, .int .i64 u, vn, vk, vh] 34 (0, 0)) := by
  have hbb := hW.at h.blk (fun x => x)
  rw [hg.block b (heap_lt hbb) (fun e => h.nb e.symm)]; exact hbb
theorem TA.grownK (h : TA w b B vx vc vh u vn vk NL KL) (hW : Fresh w W) (hg : W.grownBy w1 vk.ownBlock) : w1.heap[b]? = some (.cells #[vx, vc, .int .i64 u, vn, vk, vh] 34 (0, 0)) := by
  have hbb := hW.at h.blk (fun x => x)
  rw [hg.block b (heap_lt hbb) (fun e => h.kb e.symm)]; exact hbb
/-- one node more -/
theorem TA.addN (h : TA w b B vx vc vh u vn vk NL KL) (hW : Fresh w W) {x : Nd} (hown : w1.ownsRow B 59 4 v' (NL.length + 1) (flatC Nd.cells NL ++ x.cells)) (hg : W.grownBy w1 vn.ownBlock)
    (hb : ∀ j, v'.ownBlock = some j → vn.ownBlock = some j ∨ W.heap.size ≤ j) :
    TA (w1.setCell ⟨b, 3, none⟩ v') b B vx vc vh u v' vk (NL ++ [x]) KL ∧ MT b B w (w1.setCell ⟨b, 3, none⟩ v') := by
  have h1 := h.grownN hW hg
  have hlt := h.lt
  have hsz := hW.size
  have hv'b : v'.ownBlock ≠ some b := fun e => by
    rcases hb b e with h2 | h2
    · exact h.nb h2
    · omega
  refine ⟨⟨h.lo, ?_, ?_, ?_, ?_⟩, ?_⟩
  · rw [Proofs.YtakkooidejdfkaaGreat.heap_setCell_same h1 3 v']; rfl
  · show World.ownsRow _ _ _ _ _ (NL ++ [x]).length _
    rw [flatC_snoc, List.length_append, List.length_singleton]
    exact ownsRow_other hown (fun g hg' => by rw [Proofs.YtakkooidejdfkaaGreat.heap_setCell_other _ (by intro e; exact hv'b (by rw [hg']; exact congrArg some e))])
  · refine ownsRow_other h.ks (fun g hg' => ?_)
    have hl := h.ks.lt g hg'
    rw [Proofs.YtakkooidejdfkaaGreat.heap_setCell_other _ (by intro e; exact h.kb (by rw [hg']; exact congrArg some e)), hg.block g (by omega) (fun e => h.ap g hg' e.symm), hW.block g hl.2 (fun x => x)]
  · intro j hj hj'
    rcases hb j hj' with h2 | h2
    · exact h.ap j hj h2
    · have := (h.ks.lt j hj).2; omega
  · have m1 : MT b B w W := hW.mono (fun _ _ x => x.elim)
    exact (m1.grown hg (fun j hj _ => .inr (h.ns.lt j hj).1)).setCell (fun _ => .inl rfl) _
/-- one kind more -/
theorem TA.addK (h : TA w b B vx vc vh u vn vk NL KL) (hW : Fresh w W) {x : Int} (hown : w1.ownsRow B 3 1 v' (KL.length + 1) (nums KL ++ [.int .i64 x])) (hg : W.grownBy w1 vk.ownBlock)
    (hb : ∀ j, v'.ownBlock = some j → vk.ownBlock = some j ∨ W.heap.size ≤ j) :
    TA (w1.setCell ⟨b, 4, none⟩ v') b B vx vc vh u vn v' NL (KL ++ [x]) ∧ MT b B w (w1.setCell ⟨b, 4, none⟩ v') := by
  have h1 := h.grownK hW hg
  have hlt := h.lt
  have hsz := hW.size
  have hv'b : v'.ownBlock ≠ some b := fun e => by
    rcases hb b e with h2 | h2
    · exact h.kb h2
    · omega
  refine ⟨⟨h.lo, ?_, ?_, ?_, ?_⟩, ?_⟩
  · rw [Proofs.YtakkooidejdfkaaGreat.heap_setCell_same h1 4 v']; rfl
  · refine ownsRow_other h.ns (fun g hg' => ?_)
    have hl := h.ns.lt g hg'
    rw [Proofs.YtakkooidejdfkaaGreat.heap_setCell_other _ (by intro e; exact h.nb (by rw [hg']; exact congrArg some e)), hg.block g (by omega) (fun e => h.ap g e.symm hg'), hW.block g hl.2 (fun x => x)]
  · show World.ownsRow _ _ _ _ _ (KL ++ [x]).length _
    rw [List.length_append, List.length_singleton, show nums (KL ++ [x]) = nums KL ++ [.int .i64 x] by simp [nums]]
    exact ownsRow_other hown (fun g hg' => by rw [Proofs.YtakkooidejdfkaaGreat.heap_setCell_other _ (by intro e; exact hv'b (by rw [hg']; exact congrArg some e))])
  · intro j hj hj'
    rcases hb j hj with h2 | h2
    · exact h.ap j h2 hj'
    · have := (h.ns.lt j hj').2; omega
  · have m1 : MT b B w W := hW.mono (fun _ _ x => x.elim)
    exact (m1.grown hg (fun j hj _ => .inr (h.ks.lt j hj).1)).setCell (fun _ => .inl rfl) _
theorem TA.used (h : TA w b B vx vc vh u vn vk NL KL) : TA (w.setCell ⟨b, 2, none⟩ (.int .i64 (u' : Nat))) b B vx vc vh u' vn vk NL KL ∧ MT b B w (w.setCell ⟨b, 2, none⟩ (.int .i64 (u' : Nat))) := by
  refine ⟨⟨h.lo, ?_, ?_, ?_, h.ap⟩, (Mod.refl _ w).setCell (fun _ => .inl rfl) _⟩
  · rw [Proofs.YtakkooidejdfkaaGreat.heap_setCell_same h.blk 2 _]; rfl
  · exact ownsRow_other h.ns (fun g hg' => by rw [Proofs.YtakkooidejdfkaaGreat.heap_setCell_other _ (by intro e; exact h.nb (by rw [hg']; exact congrArg some e))])
  · exact ownsRow_other h.ks (fun g hg' => by rw [Proofs.YtakkooidejdfkaaGreat.heap_setCell_other _ (by intro e; exact h.kb (by rw [hg']; exact congrArg some e))])
/-- a node's size is set -/
theorem TA.size {g cap : Nat} (h : TA w b B vx vc vh u (.slice (some ⟨g, 0, none⟩) NL.length cap) vk NL KL) {i z : Nat} (hi : i < NL.length) :
    TA (w.setCell ⟨g, i * 4 + 3, none⟩ (.int .i64 z)) b B vx vc vh u (.slice (some ⟨g, 0, none⟩) NL.length cap) vk (NL.set i (setSz NL[i] z)) KL ∧ MT b B w (w.setCell ⟨g, i * 4 + 3, none⟩ (.int .i64 z)) := by
  have hl := h.ns.lt g rfl
  have hlo := h.lo
  refine ⟨⟨h.lo, ?_, ?_, ?_, h.ap⟩, (Mod.refl _ w).setCell (fun _ => .inr hl.1) _⟩
  · rw [Proofs.YtakkooidejdfkaaGreat.heap_setCell_other _ (by simp; omega)]; exact h.blk
  · have := own_setC (k := 4) Nd.cells_len (by omega) h.ns (i := i) (o := 3) hi (by omega) (.int .i64 z) (setSz NL[i] z) rfl
    exact this
  · exact ownsRow_other h.ks (fun g' hg' => by rw [Proofs.YtakkooidejdfkaaGreat.heap_setCell_other _ (by intro e; exact h.ap g' hg' (congrArg some e.symm))])
end
end Go.Proofs.YtakkooidejdfkaaGreat
