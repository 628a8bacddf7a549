import Derived.Test.YteneagnhihcljaaGreatDoorTwc
namespace Go.Proofs.YteneagnhihcljaaGreatDoor
open Go.RowKit
set_option linter.unusedVariables false
set_option linter.unusedSimpArgs false
theorem own_type {w : World} {B k n : Nat} {e : TypeId} {v : Value} {xs : List Value} (h : w.ownsRow B e k v n xs) {g : Nat} (hg : v.ownBlock = some g) : ∃ cur, w.heap[g]? = some (.cells cur e (0, 0)) := by
  rcases h.2 with ⟨rfl, _⟩ | ⟨g', cap, cur, rfl, _, hb, _⟩
  · simp [Value.ownBlock] at hg
  · simp [Value.ownBlock] at hg
    subst hg
    exact ⟨cur, hb⟩

set_option maxRecDepth 20000 in
set_option maxHeartbeats 8000000 in
theorem run_syn (s t : ByteArray) (w : World) (hs : s.size ≤ maxLen) (hl : t.size ≤ 200) (hc : (checkF s).1 = 0) (hcl : clashF s = []) (he : (cutF (rulesOf s) t).2.1 = 0) (hm : (cutF (rulesOf s) t).1.length ≤ 60) (hge : (growS s ((cutF (rulesOf s) t).1.map Tk.r)).err ≠ 0) :
    Calls Tryz.prog 5 #[.string s, .string t] w fun e w' => RunRet s (⟨(growS s ((cutF (rulesOf s) t).1.map Tk.r)).err, [], [], (growS s ((cutF (rulesOf s) t).1.map Tk.r)).wanted, placeF (cutF (rulesOf s) t).1 (growS s ((cutF (rulesOf s) t).1.map Tk.r)).place t.size⟩) w e w' := by
  have SC := hid (fun w => sheetCheck_any s w hs)
  unfold CheckRet at SC
  have H0 := hid hc
  have hle := (rLines_ok s).1
  have hok := (rLines_ok s).2
  have hsb := rLines_sb s
  have hsz := check_sz hc
  have hl1 : ¬ (200 : Int) < (t.size : Int) := by omega
  have PRD : Hid (∀ (W : World) (v : Value) (xs : List LV), LinesAt W v xs → xs.map LV.ln = (rLines s).1 → Calls Tryz.prog 9 #[v] W fun e w' => ∃ vp pvs, e = .returned (.agg #[.int .i64 (nR s), .int .i64 (nH s), vp]) ∧ Fresh W w' ∧ pvs.map PV.pr = tableOf (rLines s).1 ∧ PrsAt w' w'.heap.size vp pvs) := fun W v xs hL hx => by
    have h1 : xs.length = (rLines s).1.length := by rw [← hx]; simp
    have h := pread_any W v xs hL (by omega) (fun x hxx => by
      have hm : x.ln ∈ (rLines s).1 := by rw [← hx]; exact List.mem_map.2 ⟨x, hxx, rfl⟩
      exact ⟨(hok x.ln hm).fb, hsb x.ln hm, by have := (hok x.ln hm).sb; omega⟩)
    rw [hx] at h
    exact h
  have RUL : Hid (∀ (W : World) (v : Value) (xs : List LV), LinesAt W v xs → xs.map LV.ln = (rLines s).1 → Calls Tryz.prog 11 #[v] W fun e w' => ∃ v' ys, e = .returned v' ∧ LinesAt w' v' ys ∧ ys.map LV.ln = rulesOf s ∧ ys.length ≤ 1000 ∧ Fresh W w') := fun W v xs hL hx => by
    have h1 : xs.length = (rLines s).1.length := by rw [← hx]; simp
    refine (rules_any W v xs hL (by omega) (fun x hxx => (hok x.ln (by rw [← hx]; exact List.mem_map.2 ⟨x, hxx, rfl⟩)).fb)).mono ?_
    rintro e w' ⟨v', he, hL', hf⟩
    refine ⟨v', _, he, hL', by rw [filter_ln, hx]; rfl, ?_, hf⟩
    have := List.length_filter_le (fun x : LV => ruleB x.ln) xs
    omega
  have CUT : Hid (∀ (W : World) (v : Value) (ys : List LV), LinesAt W v ys → ys.map LV.ln = rulesOf s → ys.length ≤ 1000 → Calls Tryz.prog 12 #[v, .string t] W fun e w' => ∃ v', e = .returned (.tuple #[v', .int .i64 (cutF (rulesOf s) t).2.1, .int .i64 (cutF (rulesOf s) t).2.2]) ∧ Fresh W w' ∧ ToksAt w' v' (cutF (rulesOf s) t).1) := fun W v ys hL hy hn => by
    have h := cut_any W v ys t hL hn hl
    rw [hy] at h
    exact h
  have IC : Hid (∀ (W : World) (vp : Value) (pvs : List PV), pvs.map PV.pr = tableOf (rLines s).1 → PrsAt W W.heap.size vp pvs → Calls Tryz.prog 10 #[.agg #[.int .i64 (nR s), .int .i64 (nH s), vp]] W fun e w' => e = .returned (.bool (decide (0 < (clashF s).length))) ∧ Fresh W w') := fun W vp pvs hm hp => by
    obtain ⟨h1, h2, h3, h4, h5⟩ := table_calls s hc hm
    have h := isClashing_any W (nR s) (nH s) vp pvs hp h2 h3 h4 (by rw [← h5]; exact sets_ok hc)
    rw [clash_len s hc hm] at h
    exact h
  have HCL : Hid (decide (0 < (clashF s).length) = false) := by unfold Hid; simp [hcl]
  have hkk := cut_kinds s t
  have hT := tab_of hc hcl
  have hml : (cutF (rulesOf s) t).1.length ≤ 1000 := by omega
  generalize hCE : cutF (rulesOf s) t = C at CUT he hm hml hkk hge ⊢
  have hm1 : ¬ (60 : Int) < (C.1.length : Int) := by omega
  rw [he] at CUT
  have GR : Hid (∀ (W : World) (vp vk : Value) (pvs : List PV), pvs.map PV.pr = tableOf (rLines s).1 → PrsAt W W.heap.size vp pvs → IntAt W vk (C.1.map Tk.r) → Calls Tryz.prog 14 #[.agg #[.int .i64 (nR s), .int .i64 (nH s), vp], vk] W fun e w' => ∃ vn vw, e = .returned (.tuple #[.agg (parA vn vw (growS s (C.1.map Tk.r)).place), .int .i64 (growS s (C.1.map Tk.r)).err]) ∧ Fresh W w' ∧ NdOwn w' W.heap.size vn (nodesF (tabF s) (growS s (C.1.map Tk.r)).st) ∧ IntOwn w' W.heap.size vw (growS s (C.1.map Tk.r)).wanted) := fun W vp vk pvs hmp hp hk => by
    obtain ⟨h1, h2, h3, h4, h5⟩ := table_calls s hc hmp
    have h := grow_any W (nR s) (nH s) vp vk pvs (C.1.map Tk.r) (setsF s) hp hk (by simpa using hm) hkk (by rw [h1]; exact hT) h5
    rw [h1] at h
    exact h
  generalize growS s (C.1.map Tk.r) = G at GR hge ⊢
  have c0 : (G.err != 0) = true := by simpa using hge
  generalize nR s = R at *
  generalize nH s = H at *
  clear hle hok hsb hsz hc hcl he hge hkk hT hCE
  go_enter Tryz.func5, Tryz.ntmps5
  go_wp2_with (first
    | (refine wpList_store_row rfl 27 _ _ rfl w.heap.size (outA (.slice none 0 0) (.slice none 0 0) (.slice wa G.wanted.length wc) (placeF C.1 G.place t.size)) rfl rfl _ _ hP8.out szOut rfl (out_one _ _ _ _ rfl rfl rfl) ?_)
    | (go_at_call 15; have stage := HF7.out; refine (placeOf_any _ _ C.1 G.place t HT7.out hml).mono ?_; rintro e w8 ⟨rfl, hf8⟩; have HF8 := hid ((HF7.out.alloc _).trans hf8); have hP8 := hid (hf8.at hP7.out (fun x => x)); have HX8 := hid (hf8.at (heap_alloc_at w7 _) (fun x => x)); have y1 := cellOf HX8.out 1; simp at y1; have HG8 := hid (Mod.trans ((Mod.refl (fun _ => False) w7).alloc _) hf8); clear hf8)
    | (go_at_call 14; have stage := HF6.out; refine (GR.out _ _ _ pvs HMAP.out (HPRS.out _ HX6.out) HK6.out).mono ?_; rintro e w7 ⟨vn, vw, rfl, hf7, hn7, hw7⟩; obtain ⟨na, nc, hvn⟩ := own_form hn7; subst hvn; obtain ⟨wa, wc, hvw⟩ := own_form hw7; subst hvw; have HN7 := hid hn7; have HW7 := hid hw7; have HF7 := hid (HF6.out.trans hf7); have hP7 : Hid ((w7.alloc (.cells (parA (.slice na (nodesF (tabF s) G.st).length nc) (.slice wa G.wanted.length wc) G.place) 50 (0, 0))).heap[w.heap.size]? = some (.cells nil3 27 (0, 0))) := heap_alloc_prev (hf7.at hP6.out (fun x => x)); have HT7 := hid ((HT6.out.fresh hf7).fresh ((Mod.refl _ w7).alloc (.cells (parA (.slice na (nodesF (tabF s) G.st).length nc) (.slice wa G.wanted.length wc) G.place) 50 (0, 0)))); have hs67 := hf7.size; clear hf7 hn7 hw7)
    | (go_at_call 13; have stage := HF5.out; refine (kindsOf_any _ _ C.1 HT5.out hml).mono ?_; rintro e w6 ⟨vk, rfl, hf6, ho6⟩; have HK6 := hid (IntOwn.at' ho6); obtain ⟨ka, kc, hvk⟩ := own_form ho6; rw [List.length_map] at hvk; subst hvk; have HF6 := hid (HF5.out.trans hf6); have HX6 := hid (HX5.out.trans hf6); have hP6 := hid (hf6.at hP5.out (fun x => x)); have HB6 := hid (hf6.at HB5.out (fun x => x)); have HT6 := hid (HT5.out.fresh hf6); have t0 := cellOf HB6.out 0; have t1 := cellOf HB6.out 1; have t2 := cellOf HB6.out 2; simp at t0 t1 t2; clear ho6 hf6)
    | (go_at_call 12; have stage := HF4.out; refine (CUT.out _ v' ys HL4.out HY.out hyl).mono ?_; rintro e w5 ⟨vt, rfl, hf5, hT5⟩; obtain ⟨ta, tc, hvt⟩ := own_form hT5.own; subst hvt; have HT5 := hid hT5; have HF5 := hid (HF4.out.trans hf5); have HX5 := hid (HX4.out.trans hf5); have hP5 := hid (hf5.at hP4.out (fun x => x)); have HB5 := hid (hf5.at HT4.out (fun x => x)); clear hT5 hf5)
    | (go_at_call 11; have stage := HF3.out; refine (RUL.out _ v xs HL3.out HX.out).mono ?_; rintro e w4 ⟨v', ys, rfl, hL4, hy, hyl, hf4⟩; have HL4 := hid hL4; have HY := hid hy; have HF4 := hid (HF3.out.trans hf4); have HX4 := hid (HX3.out.trans hf4); have hP4 := hid (hf4.at hP3.out (fun x => x)); have HT4 := hid (hf4.at HT3.out (fun x => x)); clear hL4 hy hf4)
    | (go_at_call 10; have stage := HF2.out; refine (IC.out _ _ pvs HMAP.out (HPRS.out _ (Mod.refl _ _))).mono ?_; rw [HCL.out]; rintro e w3 ⟨rfl, hf3⟩; have HF3 := hid (HF2.out.trans hf3); have HX3 := hid hf3; have hP3 := hid (hf3.at hP2.out (fun x => x)); have HT3 := hid (hf3.at (heap_alloc_at w2 _) (fun x => x)); have HL3 := hid (HL2.out.fresh hf3); clear hf3)
    | (go_at_call 9; have stage := HX.out; refine (PRD.out _ v xs HL.out HX.out).mono ?_; rintro e w2 ⟨vp, pvs, rfl, hf2, hmap, hprs⟩; obtain ⟨ra, rc, hvp⟩ := own_form hprs.row.own; subst hvp; have HMAP := hid hmap; have HPRS : Hid (∀ W, Fresh (w2.alloc (.cells #[.int .i64 R, .int .i64 H, .slice ra pvs.length rc] 42 (0, 0))) W → PrsAt W W.heap.size (.slice ra pvs.length rc) pvs) := fun W hW => (hprs.kept (Nat.le_refl _) (Mod.trans ((Mod.refl (fun _ => False) w2).alloc _) hW) (fun _ _ x => x)).up (Mod.trans ((Mod.refl (fun _ => False) w2).alloc _) hW).size; have HF2 : Hid (Fresh w (w2.alloc (.cells #[.int .i64 R, .int .i64 H, .slice ra pvs.length rc] 42 (0, 0)))) := (HF1.out.trans hf2).alloc _; have hP2 : Hid ((w2.alloc (.cells #[.int .i64 R, .int .i64 H, .slice ra pvs.length rc] 42 (0, 0))).heap[w.heap.size]? = some (.cells nil3 27 (0, 0))) := heap_alloc_prev (hf2.at hP1.out (fun x => x)); have HL2 := hid ((HL.out.fresh hf2).fresh ((Mod.refl _ w2).alloc (.cells #[.int .i64 R, .int .i64 H, .slice ra pvs.length rc] 42 (0, 0)))); clear hf2 hmap hprs)
    | (go_at_call 8; refine (SC.out _).mono ?_; rintro e w1 ⟨v, rfl, hf1, xs, hL, hxs⟩; rw [H0.out]; have HX := hid (hxs.elim (fun h => absurd H0.out h.1) (fun h => h.2)); have HL := hid hL; have HF1 : Hid (Fresh w w1) := Mod.trans ((Mod.refl _ w).alloc _) hf1; have hP1 : Hid (w1.heap[w.heap.size]? = some (.cells nil3 27 (0, 0))) := hf1.at (heap_alloc_at w _) (fun x => x); clear hxs hL hf1))
  refine bodyPost_ret (results_row1 rfl _ _ w.heap.size 27 (outA (.slice none 0 0) (.slice none 0 0) (.slice wa G.wanted.length wc) (placeF C.1 G.place t.size)) (0, 0) _ rfl (setRow_heap _ _ _ _ _ _ hP8.out) Tryz.underlying27 rfl szOut) rfl ?_
  have hlt := heap_lt hP6.out
  have h6 := HF6.out.size
  refine ⟨.slice none 0 0, .slice none 0 0, .slice wa G.wanted.length wc, rfl, HF8.out.setRow (fun h => absurd h (Nat.lt_irrefl _)) _, RowAt.nil _ _ _ _, World.ownsRow_nil _ _ _ _, ?_⟩
  refine ownsRow_base (ownsRow_other HW7.out (fun g hg => ?_)) h6
  have hg1 := HW7.out.lt g hg
  rw [setRow_other _ _ _ _ (by omega)]
  exact HG8.out.block g hg1.2 (fun x => x)

set_option maxRecDepth 20000 in
set_option maxHeartbeats 8000000 in
theorem run_ok (s t : ByteArray) (w : World) (hs : s.size ≤ maxLen) (hl : t.size ≤ 200) (hc : (checkF s).1 = 0) (hcl : clashF s = []) (he : (cutF (rulesOf s) t).2.1 = 0) (hm : (cutF (rulesOf s) t).1.length ≤ 60) (hge : (growS s ((cutF (rulesOf s) t).1.map Tk.r)).err = 0) :
    Calls Tryz.prog 5 #[.string s, .string t] w fun e w' => RunRet s (⟨0, (cutF (rulesOf s) t).1, (growS s ((cutF (rulesOf s) t).1.map Tk.r)).st, [], 0⟩) w e w' := by
  have SC := hid (fun w => sheetCheck_any s w hs)
  unfold CheckRet at SC
  have H0 := hid hc
  have hle := (rLines_ok s).1
  have hok := (rLines_ok s).2
  have hsb := rLines_sb s
  have hsz := check_sz hc
  have hl1 : ¬ (200 : Int) < (t.size : Int) := by omega
  have PRD : Hid (∀ (W : World) (v : Value) (xs : List LV), LinesAt W v xs → xs.map LV.ln = (rLines s).1 → Calls Tryz.prog 9 #[v] W fun e w' => ∃ vp pvs, e = .returned (.agg #[.int .i64 (nR s), .int .i64 (nH s), vp]) ∧ Fresh W w' ∧ pvs.map PV.pr = tableOf (rLines s).1 ∧ PrsAt w' w'.heap.size vp pvs) := fun W v xs hL hx => by
    have h1 : xs.length = (rLines s).1.length := by rw [← hx]; simp
    have h := pread_any W v xs hL (by omega) (fun x hxx => by
      have hm : x.ln ∈ (rLines s).1 := by rw [← hx]; exact List.mem_map.2 ⟨x, hxx, rfl⟩
      exact ⟨(hok x.ln hm).fb, hsb x.ln hm, by have := (hok x.ln hm).sb; omega⟩)
    rw [hx] at h
    exact h
  have RUL : Hid (∀ (W : World) (v : Value) (xs : List LV), LinesAt W v xs → xs.map LV.ln = (rLines s).1 → Calls Tryz.prog 11 #[v] W fun e w' => ∃ v' ys, e = .returned v' ∧ LinesAt w' v' ys ∧ ys.map LV.ln = rulesOf s ∧ ys.length ≤ 1000 ∧ Fresh W w') := fun W v xs hL hx => by
    have h1 : xs.length = (rLines s).1.length := by rw [← hx]; simp
    refine (rules_any W v xs hL (by omega) (fun x hxx => (hok x.ln (by rw [← hx]; exact List.mem_map.2 ⟨x, hxx, rfl⟩)).fb)).mono ?_
    rintro e w' ⟨v', he, hL', hf⟩
    refine ⟨v', _, he, hL', by rw [filter_ln, hx]; rfl, ?_, hf⟩
    have := List.length_filter_le (fun x : LV => ruleB x.ln) xs
    omega
  have CUT : Hid (∀ (W : World) (v : Value) (ys : List LV), LinesAt W v ys → ys.map LV.ln = rulesOf s → ys.length ≤ 1000 → Calls Tryz.prog 12 #[v, .string t] W fun e w' => ∃ v', e = .returned (.tuple #[v', .int .i64 (cutF (rulesOf s) t).2.1, .int .i64 (cutF (rulesOf s) t).2.2]) ∧ Fresh W w' ∧ ToksAt w' v' (cutF (rulesOf s) t).1) := fun W v ys hL hy hn => by
    have h := cut_any W v ys t hL hn hl
    rw [hy] at h
    exact h
  have IC : Hid (∀ (W : World) (vp : Value) (pvs : List PV), pvs.map PV.pr = tableOf (rLines s).1 → PrsAt W W.heap.size vp pvs → Calls Tryz.prog 10 #[.agg #[.int .i64 (nR s), .int .i64 (nH s), vp]] W fun e w' => e = .returned (.bool (decide (0 < (clashF s).length))) ∧ Fresh W w') := fun W vp pvs hm hp => by
    obtain ⟨h1, h2, h3, h4, h5⟩ := table_calls s hc hm
    have h := isClashing_any W (nR s) (nH s) vp pvs hp h2 h3 h4 (by rw [← h5]; exact sets_ok hc)
    rw [clash_len s hc hm] at h
    exact h
  have HCL : Hid (decide (0 < (clashF s).length) = false) := by unfold Hid; simp [hcl]
  have hkk := cut_kinds s t
  have hT := tab_of hc hcl
  have hml : (cutF (rulesOf s) t).1.length ≤ 1000 := by omega
  generalize hCE : cutF (rulesOf s) t = C at CUT he hm hml hkk hge ⊢
  have hm1 : ¬ (60 : Int) < (C.1.length : Int) := by omega
  rw [he] at CUT
  have GR : Hid (∀ (W : World) (vp vk : Value) (pvs : List PV), pvs.map PV.pr = tableOf (rLines s).1 → PrsAt W W.heap.size vp pvs → IntAt W vk (C.1.map Tk.r) → Calls Tryz.prog 14 #[.agg #[.int .i64 (nR s), .int .i64 (nH s), vp], vk] W fun e w' => ∃ vn vw, e = .returned (.tuple #[.agg (parA vn vw (growS s (C.1.map Tk.r)).place), .int .i64 (growS s (C.1.map Tk.r)).err]) ∧ Fresh W w' ∧ NdOwn w' W.heap.size vn (nodesF (tabF s) (growS s (C.1.map Tk.r)).st) ∧ IntOwn w' W.heap.size vw (growS s (C.1.map Tk.r)).wanted) := fun W vp vk pvs hmp hp hk => by
    obtain ⟨h1, h2, h3, h4, h5⟩ := table_calls s hc hmp
    have h := grow_any W (nR s) (nH s) vp vk pvs (C.1.map Tk.r) (setsF s) hp hk (by simpa using hm) hkk (by rw [h1]; exact hT) h5
    rw [h1] at h
    exact h
  generalize growS s (C.1.map Tk.r) = G at GR hge ⊢
  rw [hge] at GR
  generalize nR s = R at *
  generalize nH s = H at *
  clear hle hok hsb hsz hc hcl he hge hkk hT hCE
  go_enter Tryz.func5, Tryz.ntmps5
  go_wp2_with (first
    | (refine wpList_store_row rfl 27 _ _ rfl w.heap.size (outA (.slice ta C.1.length tc) (.slice na (nodesF (tabF s) G.st).length nc) (.slice none 0 0) 0) rfl rfl _ _ hP7.out szOut rfl (out_one _ _ _ _ rfl rfl rfl) ?_)
    | (go_at_call 14; have stage := HF6.out; refine (GR.out _ _ _ pvs HMAP.out (HPRS.out _ HX6.out) HK6.out).mono ?_; rintro e w7 ⟨vn, vw, rfl, hf7, hn7, hw7⟩; obtain ⟨na, nc, hvn⟩ := own_form hn7; subst hvn; obtain ⟨wa, wc, hvw⟩ := own_form hw7; subst hvw; have HN7 := hid hn7; have HW7 := hid hw7; have HF7 := hid (HF6.out.trans hf7); have hP7 : Hid ((w7.alloc (.cells (parA (.slice na (nodesF (tabF s) G.st).length nc) (.slice wa G.wanted.length wc) G.place) 50 (0, 0))).heap[w.heap.size]? = some (.cells nil3 27 (0, 0))) := heap_alloc_prev (hf7.at hP6.out (fun x => x)); have HT7 := hid ((HT6.out.fresh hf7).fresh ((Mod.refl _ w7).alloc (.cells (parA (.slice na (nodesF (tabF s) G.st).length nc) (.slice wa G.wanted.length wc) G.place) 50 (0, 0)))); have hs67 := hf7.size; clear hf7 hn7 hw7)
    | (go_at_call 13; have stage := HF5.out; refine (kindsOf_any _ _ C.1 HT5.out hml).mono ?_; rintro e w6 ⟨vk, rfl, hf6, ho6⟩; have HK6 := hid (IntOwn.at' ho6); obtain ⟨ka, kc, hvk⟩ := own_form ho6; rw [List.length_map] at hvk; subst hvk; have HF6 := hid (HF5.out.trans hf6); have HX6 := hid (HX5.out.trans hf6); have hP6 := hid (hf6.at hP5.out (fun x => x)); have HB6 := hid (hf6.at HB5.out (fun x => x)); have HT6 := hid (HT5.out.fresh hf6); have t0 := cellOf HB6.out 0; have t1 := cellOf HB6.out 1; have t2 := cellOf HB6.out 2; simp at t0 t1 t2; clear ho6 hf6)
    | (go_at_call 12; have stage := HF4.out; refine (CUT.out _ v' ys HL4.out HY.out hyl).mono ?_; rintro e w5 ⟨vt, rfl, hf5, hT5⟩; obtain ⟨ta, tc, hvt⟩ := own_form hT5.own; subst hvt; have HT5 := hid hT5; have HF5 := hid (HF4.out.trans hf5); have HX5 := hid (HX4.out.trans hf5); have hP5 := hid (hf5.at hP4.out (fun x => x)); have HB5 := hid (hf5.at HT4.out (fun x => x)); clear hT5 hf5)
    | (go_at_call 11; have stage := HF3.out; refine (RUL.out _ v xs HL3.out HX.out).mono ?_; rintro e w4 ⟨v', ys, rfl, hL4, hy, hyl, hf4⟩; have HL4 := hid hL4; have HY := hid hy; have HF4 := hid (HF3.out.trans hf4); have HX4 := hid (HX3.out.trans hf4); have hP4 := hid (hf4.at hP3.out (fun x => x)); have HT4 := hid (hf4.at HT3.out (fun x => x)); clear hL4 hy hf4)
    | (go_at_call 10; have stage := HF2.out; refine (IC.out _ _ pvs HMAP.out (HPRS.out _ (Mod.refl _ _))).mono ?_; rw [HCL.out]; rintro e w3 ⟨rfl, hf3⟩; have HF3 := hid (HF2.out.trans hf3); have HX3 := hid hf3; have hP3 := hid (hf3.at hP2.out (fun x => x)); have HT3 := hid (hf3.at (heap_alloc_at w2 _) (fun x => x)); have HL3 := hid (HL2.out.fresh hf3); clear hf3)
    | (go_at_call 9; have stage := HX.out; refine (PRD.out _ v xs HL.out HX.out).mono ?_; rintro e w2 ⟨vp, pvs, rfl, hf2, hmap, hprs⟩; obtain ⟨ra, rc, hvp⟩ := own_form hprs.row.own; subst hvp; have HMAP := hid hmap; have HPRS : Hid (∀ W, Fresh (w2.alloc (.cells #[.int .i64 R, .int .i64 H, .slice ra pvs.length rc] 42 (0, 0))) W → PrsAt W W.heap.size (.slice ra pvs.length rc) pvs) := fun W hW => (hprs.kept (Nat.le_refl _) (Mod.trans ((Mod.refl (fun _ => False) w2).alloc _) hW) (fun _ _ x => x)).up (Mod.trans ((Mod.refl (fun _ => False) w2).alloc _) hW).size; have HF2 : Hid (Fresh w (w2.alloc (.cells #[.int .i64 R, .int .i64 H, .slice ra pvs.length rc] 42 (0, 0)))) := (HF1.out.trans hf2).alloc _; have hP2 : Hid ((w2.alloc (.cells #[.int .i64 R, .int .i64 H, .slice ra pvs.length rc] 42 (0, 0))).heap[w.heap.size]? = some (.cells nil3 27 (0, 0))) := heap_alloc_prev (hf2.at hP1.out (fun x => x)); have HL2 := hid ((HL.out.fresh hf2).fresh ((Mod.refl _ w2).alloc (.cells #[.int .i64 R, .int .i64 H, .slice ra pvs.length rc] 42 (0, 0)))); clear hf2 hmap hprs)
    | (go_at_call 8; refine (SC.out _).mono ?_; rintro e w1 ⟨v, rfl, hf1, xs, hL, hxs⟩; rw [H0.out]; have HX := hid (hxs.elim (fun h => absurd H0.out h.1) (fun h => h.2)); have HL := hid hL; have HF1 : Hid (Fresh w w1) := Mod.trans ((Mod.refl _ w).alloc _) hf1; have hP1 : Hid (w1.heap[w.heap.size]? = some (.cells nil3 27 (0, 0))) := hf1.at (heap_alloc_at w _) (fun x => x); clear hxs hL hf1))
  refine bodyPost_ret (results_row1 rfl _ _ w.heap.size 27 (outA (.slice ta C.1.length tc) (.slice na (nodesF (tabF s) G.st).length nc) (.slice none 0 0) 0) (0, 0) _ rfl (setRow_heap _ _ _ _ _ _ hP7.out) Tryz.underlying27 rfl szOut) rfl ?_
  have hlt := heap_lt hP6.out
  have h6 := HF6.out.size
  refine ⟨.slice ta C.1.length tc, .slice na (nodesF (tabF s) G.st).length nc, .slice none 0 0, rfl, (HF7.out.alloc _).setRow (fun h => absurd h (Nat.lt_irrefl _)) _, ?_, ?_, World.ownsRow_nil _ _ _ _⟩
  · refine HT7.out.kept (S := fun k => k = w.heap.size) (Mod.setRow (S := fun k => k = w.heap.size) (Mod.refl _ _) (g := w.heap.size) (fun _ => rfl) _) (fun b hb hbe => ?_)
    subst hbe
    obtain ⟨cur, hcur⟩ := own_type HT7.out.own hb
    rw [hP7.out] at hcur
    simp at hcur
  · refine ownsRow_base (ownsRow_other HN7.out (fun g hg => ?_)) h6
    have hg1 := HN7.out.lt g hg
    rw [setRow_other _ _ _ _ (by omega)]
    exact heap_alloc_old' hg1.2

theorem cutL_len (lns : List Ln) (t : ByteArray) (ht : t.size ≤ 200) : ∀ (f i : Nat) (toks : List Tk), toks.length ≤ i → i ≤ t.size → (cutL lns t f i toks).1.length ≤ t.size
  | 0, _, _, _, _ => by simp [cutL]
  | f + 1, i, toks, h, hi => by
    unfold cutL
    have hb := bestF_bd lns t i
    split
    · split
      · simp
      · rename_i h1 h2
        have hlen : (if skipB lns (bestF lns t i).1 then toks else toks ++ [⟨(bestF lns t i).1, i, (bestF lns t i).2⟩]).length ≤ toks.length + 1 := by
          split
          · omega
          · simp
        refine cutL_len lns t ht f _ _ ?_ ?_
        · omega
        · omega
    · show toks.length ≤ t.size
      omega
theorem cut_len (s t : ByteArray) (ht : t.size ≤ 200) : (cutF (rulesOf s) t).1.length ≤ 1000 := by
  have := cutL_len (rulesOf s) t ht (t.size + 1) 0 [] (by simp) (by omega)
  unfold cutF; omega

theorem run_any (s t : ByteArray) (w : World) (hs : s.size ≤ maxLen) (ht : t.size ≤ maxLen) :
    Calls Tryz.prog 5 #[.string s, .string t] w fun e w' => RunRet s (runF s t) w e w' := by
  unfold runF
  by_cases hl : 200 < t.size
  · rw [if_pos hl]; exact run_long s t w ht hl
  · rw [if_neg hl]
    have hl2 : t.size ≤ 200 := by omega
    by_cases hc : (checkF s).1 = 0
    · rw [if_neg (by simp [hc])]
      by_cases hcl : clashF s = []
      · rw [if_neg (by simp [hcl])]
        unfold runG
        by_cases he : (cutF (rulesOf s) t).2.1 = 0
        · rw [if_neg (by simp [he])]
          by_cases hm : 60 < (cutF (rulesOf s) t).1.length
          · rw [if_pos hm]; exact run_many s t w hs hl2 hc hcl he hm (cut_len s t hl2)
          · rw [if_neg hm]
            by_cases hge : (growS s ((cutF (rulesOf s) t).1.map Tk.r)).err = 0
            · rw [if_neg (by simp [hge])]; exact run_ok s t w hs hl2 hc hcl he (by omega) hge
            · rw [if_pos hge]; exact run_syn s t w hs hl2 hc hcl he (by omega) hge
        · rw [if_pos he]; exact run_lex s t w hs hl2 hc hcl he
      · rw [if_pos hcl]; exact run_clash s t w hs hl2 hc hcl
    · rw [if_pos hc]; exact run_bad s t w hs hl2 hc
end Go.Proofs.YteneagnhihcljaaGreatDoor
