import Derived.Test.YteneagnhihcljaaGreatDoorTwa
namespace Go.Proofs.YteneagnhihcljaaGreatDoor
open Go.RowKit
set_option linter.unusedVariables false
set_option linter.unusedSimpArgs false

theorem bestL_rule (lns : List Ln) (t : ByteArray) (i : Nat) : ∀ (f k : Nat) (b : Int × Int), (b.2 ≤ i ∨ (0 ≤ b.1 ∧ b.1 < lns.length)) → ((bestL lns t i f k b).2 ≤ i ∨ (0 ≤ (bestL lns t i f k b).1 ∧ (bestL lns t i f k b).1 < lns.length))
  | 0, _, b, h => h
  | f + 1, k, b, h => by
    unfold bestL
    cases hq : lns[k]? with
    | none => exact h
    | some x =>
      simp only []
      refine bestL_rule lns t i f (k + 1) _ ?_
      split
      · right
        have := (List.getElem?_eq_some_iff.1 hq).1
        dsimp only; omega
      · exact h
theorem cutL_rules (lns : List Ln) (t : ByteArray) : ∀ (f i : Nat) (toks : List Tk), (∀ x ∈ toks, 0 ≤ x.r ∧ x.r < lns.length) → ∀ x ∈ (cutL lns t f i toks).1, 0 ≤ x.r ∧ x.r < lns.length
  | 0, _, _, _, x, hx => by simp [cutL] at hx
  | f + 1, i, toks, h, x, hx => by
    unfold cutL at hx
    split at hx
    · split at hx
      · simp at hx
      · rename_i hb
        refine cutL_rules lns t f _ _ ?_ x hx
        split
        · exact h
        · intro y hy
          rcases List.mem_append.1 hy with hy | hy
          · exact h y hy
          · simp only [List.mem_singleton] at hy
            subst hy
            rcases bestL_rule lns t i (lns.length + 1) 0 (0, i) (.inl (Int.le_refl _)) with h1 | h1
            · exact absurd h1 hb
            · exact h1
    · exact h x hx
theorem rules_len (s : ByteArray) : (rulesOf s).length = nR s := by unfold rulesOf nR frontsOf; rw [List.length_map]
theorem cut_kinds (s t : ByteArray) : kindsOk (nR s) ((cutF (rulesOf s) t).1.map Tk.r) = true := by
  unfold kindsOk
  rw [List.all_eq_true]
  intro k hk
  obtain ⟨x, hx, rfl⟩ := List.mem_map.1 hk
  have := cutL_rules (rulesOf s) t _ _ _ (by simp) x hx
  rw [rules_len] at this
  simp; exact this
structure ROut where
  err : Int
  toks : List Tk
  st : List St
  wanted : List Int
  place : Int
def badR (e p : Int) : ROut := ⟨e, [], [], [], p⟩
def runG (s t : ByteArray) (C : List Tk × Int × Int) : ROut :=
  if C.2.1 ≠ 0 then badR C.2.1 C.2.2
  else if 60 < C.1.length then badR 1 0
  else if (growS s (C.1.map Tk.r)).err ≠ 0 then ⟨(growS s (C.1.map Tk.r)).err, [], [], (growS s (C.1.map Tk.r)).wanted, placeF C.1 (growS s (C.1.map Tk.r)).place t.size⟩
  else ⟨0, C.1, (growS s (C.1.map Tk.r)).st, [], 0⟩
def runF (s t : ByteArray) : ROut :=
  if 200 < t.size then badR 1 0
  else if (checkF s).1 ≠ 0 then badR (checkF s).1 0
  else if clashF s ≠ [] then badR 8 0
  else runG s t (cutF (rulesOf s) t)
abbrev outA (vt vn vw : Value) (a : Int) : Array Value := #[vt, vn, vw, .int .i64 a]
theorem szOut : (Tryz.prog.info? 27).map (·.size) = some 4 := by kernel_rfl
theorem out_one (vt vn vw : Value) (a : Int) (h1 : vt.oneCell' = true) (h2 : vn.oneCell' = true) (h3 : vw.oneCell' = true) : (#[vt, vn, vw, Value.int .i64 a] : Array Value).all (·.oneCell') = true :=
  all_oneCell_toArray (cs := [vt, vn, vw, .int .i64 a]) (by intro v hv; simp only [List.mem_cons, List.not_mem_nil, or_false] at hv; rcases hv with rfl | rfl | rfl | rfl; exact h1; exact h2; exact h3; rfl)
def RunRet (s : ByteArray) (O : ROut) (w : World) (e : Ending) (w' : World) : Prop :=
  ∃ vt vn vw, e = .returned (.tuple #[.agg (outA vt vn vw O.place), .int .i64 O.err]) ∧ Fresh w w' ∧ ToksAt w' vt O.toks ∧ NdOwn w' w.heap.size vn (nodesF (tabF s) O.st) ∧ IntOwn w' w.heap.size vw O.wanted
theorem RunRet.bad {s : ByteArray} {e p : Int} {w w' : World} (hf : Fresh w w') : RunRet s (badR e p) w (.returned (.tuple #[.agg (outA (.slice none 0 0) (.slice none 0 0) (.slice none 0 0) p), .int .i64 e])) w' :=
  ⟨_, _, _, rfl, hf, RowAt.nil _ _ _ _, World.ownsRow_nil _ _ _ _, World.ownsRow_nil _ _ _ _⟩
abbrev nil3 : Array Value := outA (.slice none 0 0) (.slice none 0 0) (.slice none 0 0) 0

set_option maxRecDepth 20000 in
set_option maxHeartbeats 4000000 in
theorem run_long (s t : ByteArray) (w : World) (ht : t.size ≤ maxLen) (hl : 200 < t.size) :
    Calls Tryz.prog 5 #[.string s, .string t] w fun e w' => RunRet s (badR 1 0) w e w' := by
  unfold maxLen at ht
  have hl1 : (200 : Int) < (t.size : Int) := by omega
  go_enter Tryz.func5, Tryz.ntmps5
  go_wp2
  exact bodyPost_ret (results_row1 rfl _ _ w.heap.size 27 nil3 (0, 0) _ rfl (heap_alloc_at _ _) Tryz.underlying27 rfl szOut) rfl (RunRet.bad ((Mod.refl _ w).alloc _))

set_option maxRecDepth 20000 in
set_option maxHeartbeats 4000000 in
theorem run_bad (s t : ByteArray) (w : World) (hs : s.size ≤ maxLen) (hl : t.size ≤ 200) (hc : (checkF s).1 ≠ 0) :
    Calls Tryz.prog 5 #[.string s, .string t] w fun e w' => RunRet s (badR (checkF s).1 0) w e w' := by
  have SC := hid (fun w => sheetCheck_any s w hs)
  unfold CheckRet at SC
  have c0 : ((checkF s).1 != 0) = true := by simpa using hc
  have hl1 : ¬ (200 : Int) < (t.size : Int) := by omega
  generalize checkF s = E at SC c0 hc
  go_enter Tryz.func5, Tryz.ntmps5
  go_wp2_with (first
    | (refine wpList_store_row rfl 27 _ _ rfl w.heap.size nil3 rfl rfl _ _ hP1.out szOut rfl (out_one _ _ _ _ rfl rfl rfl) ?_)
    | (go_at_call 8; refine (SC.out _).mono ?_; rintro e w1 ⟨v, rfl, hf1, _⟩; have HF1 : Hid (Fresh w w1) := Mod.trans ((Mod.refl _ w).alloc _) hf1; have hP1 : Hid (w1.heap[w.heap.size]? = some (.cells nil3 27 (0, 0))) := hf1.at (heap_alloc_at w _) (fun x => x); clear hf1))
  refine bodyPost_ret (results_row1 rfl _ _ w.heap.size 27 nil3 (0, 0) _ rfl (setRow_heap _ _ _ _ _ _ hP1.out) Tryz.underlying27 rfl szOut) rfl (RunRet.bad ?_)
  exact HF1.out.setRow (fun h => absurd h (Nat.lt_irrefl _)) _

set_option maxRecDepth 20000 in
set_option maxHeartbeats 8000000 in
theorem run_clash (s t : ByteArray) (w : World) (hs : s.size ≤ maxLen) (hl : t.size ≤ 200) (hc : (checkF s).1 = 0) (hcl : clashF s ≠ []) :
    Calls Tryz.prog 5 #[.string s, .string t] w fun e w' => RunRet s (badR 8 0) w e w' := by
  have SC := hid (fun w => sheetCheck_any s w hs)
  unfold CheckRet at SC
  have H0 := hid hc
  have hle := (rLines_ok s).1
  have hok := (rLines_ok s).2
  have hsb := rLines_sb s
  have hsz := check_sz hc
  have hl1 : ¬ (200 : Int) < (t.size : Int) := by omega
  have PRD : Hid (∀ (W : World) (v : Value) (xs : List LV), LinesAt W v xs → xs.map LV.ln = (rLines s).1 → Calls Tryz.prog 9 #[v] W fun e w' => ∃ vp pvs, e = .returned (.agg #[.int .i64 (nR s), .int .i64 (nH s), vp]) ∧ Fresh W w' ∧ pvs.map PV.pr = tableOf (rLines s).1 ∧ PrsAt w' w'.heap.size vp pvs) := fun W v xs hL hx => by
    have h1 : xs.length = (rLines s).1.length := by rw [← hx]; simp
    have h := pread_any W v xs hL (by omega) (fun x hxx => by
      have hm : x.ln ∈ (rLines s).1 := by rw [← hx]; exact List.mem_map.2 ⟨x, hxx, rfl⟩
      exact ⟨(hok x.ln hm).fb, hsb x.ln hm, by have := (hok x.ln hm).sb; omega⟩)
    rw [hx] at h
    exact h
  have RUL : Hid (∀ (W : World) (v : Value) (xs : List LV), LinesAt W v xs → xs.map LV.ln = (rLines s).1 → Calls Tryz.prog 11 #[v] W fun e w' => ∃ v' ys, e = .returned v' ∧ LinesAt w' v' ys ∧ ys.map LV.ln = rulesOf s ∧ ys.length ≤ 1000 ∧ Fresh W w') := fun W v xs hL hx => by
    have h1 : xs.length = (rLines s).1.length := by rw [← hx]; simp
    refine (rules_any W v xs hL (by omega) (fun x hxx => (hok x.ln (by rw [← hx]; exact List.mem_map.2 ⟨x, hxx, rfl⟩)).fb)).mono ?_
    rintro e w' ⟨v', he, hL', hf⟩
    refine ⟨v', _, he, hL', by rw [filter_ln, hx]; rfl, ?_, hf⟩
    have := List.length_filter_le (fun x : LV => ruleB x.ln) xs
    omega
  have CUT : Hid (∀ (W : World) (v : Value) (ys : List LV), LinesAt W v ys → ys.map LV.ln = rulesOf s → ys.length ≤ 1000 → Calls Tryz.prog 12 #[v, .string t] W fun e w' => ∃ v', e = .returned (.tuple #[v', .int .i64 (cutF (rulesOf s) t).2.1, .int .i64 (cutF (rulesOf s) t).2.2]) ∧ Fresh W w' ∧ ToksAt w' v' (cutF (rulesOf s) t).1) := fun W v ys hL hy hn => by
    have h := cut_any W v ys t hL hn hl
    rw [hy] at h
    exact h
  have IC : Hid (∀ (W : World) (vp : Value) (pvs : List PV), pvs.map PV.pr = tableOf (rLines s).1 → PrsAt W W.heap.size vp pvs → Calls Tryz.prog 10 #[.agg #[.int .i64 (nR s), .int .i64 (nH s), vp]] W fun e w' => e = .returned (.bool (decide (0 < (clashF s).length))) ∧ Fresh W w') := fun W vp pvs hm hp => by
    obtain ⟨h1, h2, h3, h4, h5⟩ := table_calls s hc hm
    have h := isClashing_any W (nR s) (nH s) vp pvs hp h2 h3 h4 (by rw [← h5]; exact sets_ok hc)
    rw [clash_len s hc hm] at h
    exact h
  have HCL : Hid (decide (0 < (clashF s).length) = true) := by unfold Hid; simp; exact List.length_pos_iff.2 hcl
  generalize nR s = R at *
  generalize nH s = H at *
  clear hle hok hsb hsz hc hcl RUL CUT
  go_enter Tryz.func5, Tryz.ntmps5
  go_wp2_with (first
    | (refine wpList_store_row rfl 27 _ _ rfl w.heap.size (nil3) rfl rfl _ _ hP3.out szOut rfl (out_one _ _ _ _ rfl rfl rfl) ?_)
    | (go_at_call 10; have stage := HF2.out; refine (IC.out _ _ pvs HMAP.out (HPRS.out _ (Mod.refl _ _))).mono ?_; rw [HCL.out]; rintro e w3 ⟨rfl, hf3⟩; have HF3 := hid (HF2.out.trans hf3); have HX3 := hid hf3; have hP3 := hid (hf3.at hP2.out (fun x => x)); have HT3 := hid (hf3.at (heap_alloc_at w2 _) (fun x => x)); have HL3 := hid (HL2.out.fresh hf3); clear hf3)
    | (go_at_call 9; have stage := HX.out; refine (PRD.out _ v xs HL.out HX.out).mono ?_; rintro e w2 ⟨vp, pvs, rfl, hf2, hmap, hprs⟩; obtain ⟨ra, rc, hvp⟩ := own_form hprs.row.own; subst hvp; have HMAP := hid hmap; have HPRS : Hid (∀ W, Fresh (w2.alloc (.cells #[.int .i64 R, .int .i64 H, .slice ra pvs.length rc] 42 (0, 0))) W → PrsAt W W.heap.size (.slice ra pvs.length rc) pvs) := fun W hW => (hprs.kept (Nat.le_refl _) (Mod.trans ((Mod.refl (fun _ => False) w2).alloc _) hW) (fun _ _ x => x)).up (Mod.trans ((Mod.refl (fun _ => False) w2).alloc _) hW).size; have HF2 : Hid (Fresh w (w2.alloc (.cells #[.int .i64 R, .int .i64 H, .slice ra pvs.length rc] 42 (0, 0)))) := (HF1.out.trans hf2).alloc _; have hP2 : Hid ((w2.alloc (.cells #[.int .i64 R, .int .i64 H, .slice ra pvs.length rc] 42 (0, 0))).heap[w.heap.size]? = some (.cells nil3 27 (0, 0))) := heap_alloc_prev (hf2.at hP1.out (fun x => x)); have HL2 := hid ((HL.out.fresh hf2).fresh ((Mod.refl _ w2).alloc (.cells #[.int .i64 R, .int .i64 H, .slice ra pvs.length rc] 42 (0, 0)))); clear hf2 hmap hprs)
    | (go_at_call 8; refine (SC.out _).mono ?_; rintro e w1 ⟨v, rfl, hf1, xs, hL, hxs⟩; rw [H0.out]; have HX := hid (hxs.elim (fun h => absurd H0.out h.1) (fun h => h.2)); have HL := hid hL; have HF1 : Hid (Fresh w w1) := Mod.trans ((Mod.refl _ w).alloc _) hf1; have hP1 : Hid (w1.heap[w.heap.size]? = some (.cells nil3 27 (0, 0))) := hf1.at (heap_alloc_at w _) (fun x => x); clear hxs hL hf1))
  refine bodyPost_ret (results_row1 rfl _ _ w.heap.size 27 (nil3) (0, 0) _ rfl (setRow_heap _ _ _ _ _ _ hP3.out) Tryz.underlying27 rfl szOut) rfl ?_
  exact RunRet.bad (HF3.out.setRow (fun h => absurd h (Nat.lt_irrefl _)) _)

set_option maxRecDepth 20000 in
set_option maxHeartbeats 8000000 in
theorem run_lex (s t : ByteArray) (w : World) (hs : s.size ≤ maxLen) (hl : t.size ≤ 200) (hc : (checkF s).1 = 0) (hcl : clashF s = []) (he : (cutF (rulesOf s) t).2.1 ≠ 0) :
    Calls Tryz.prog 5 #[.string s, .string t] w fun e w' => RunRet s (badR (cutF (rulesOf s) t).2.1 (cutF (rulesOf s) t).2.2) w e w' := by
  have SC := hid (fun w => sheetCheck_any s w hs)
  unfold CheckRet at SC
  have H0 := hid hc
  have hle := (rLines_ok s).1
  have hok := (rLines_ok s).2
  have hsb := rLines_sb s
  have hsz := check_sz hc
  have hl1 : ¬ (200 : Int) < (t.size : Int) := by omega
  have PRD : Hid (∀ (W : World) (v : Value) (xs : List LV), LinesAt W v xs → xs.map LV.ln = (rLines s).1 → Calls Tryz.prog 9 #[v] W fun e w' => ∃ vp pvs, e = .returned (.agg #[.int .i64 (nR s), .int .i64 (nH s), vp]) ∧ Fresh W w' ∧ pvs.map PV.pr = tableOf (rLines s).1 ∧ PrsAt w' w'.heap.size vp pvs) := fun W v xs hL hx => by
    have h1 : xs.length = (rLines s).1.length := by rw [← hx]; simp
    have h := pread_any W v xs hL (by omega) (fun x hxx => by
      have hm : x.ln ∈ (rLines s).1 := by rw [← hx]; exact List.mem_map.2 ⟨x, hxx, rfl⟩
      exact ⟨(hok x.ln hm).fb, hsb x.ln hm, by have := (hok x.ln hm).sb; omega⟩)
    rw [hx] at h
    exact h
  have RUL : Hid (∀ (W : World) (v : Value) (xs : List LV), LinesAt W v xs → xs.map LV.ln = (rLines s).1 → Calls Tryz.prog 11 #[v] W fun e w' => ∃ v' ys, e = .returned v' ∧ LinesAt w' v' ys ∧ ys.map LV.ln = rulesOf s ∧ ys.length ≤ 1000 ∧ Fresh W w') := fun W v xs hL hx => by
    have h1 : xs.length = (rLines s).1.length := by rw [← hx]; simp
    refine (rules_any W v xs hL (by omega) (fun x hxx => (hok x.ln (by rw [← hx]; exact List.mem_map.2 ⟨x, hxx, rfl⟩)).fb)).mono ?_
    rintro e w' ⟨v', he, hL', hf⟩
    refine ⟨v', _, he, hL', by rw [filter_ln, hx]; rfl, ?_, hf⟩
    have := List.length_filter_le (fun x : LV => ruleB x.ln) xs
    omega
  have CUT : Hid (∀ (W : World) (v : Value) (ys : List LV), LinesAt W v ys → ys.map LV.ln = rulesOf s → ys.length ≤ 1000 → Calls Tryz.prog 12 #[v, .string t] W fun e w' => ∃ v', e = .returned (.tuple #[v', .int .i64 (cutF (rulesOf s) t).2.1, .int .i64 (cutF (rulesOf s) t).2.2]) ∧ Fresh W w' ∧ ToksAt w' v' (cutF (rulesOf s) t).1) := fun W v ys hL hy hn => by
    have h := cut_any W v ys t hL hn hl
    rw [hy] at h
    exact h
  have IC : Hid (∀ (W : World) (vp : Value) (pvs : List PV), pvs.map PV.pr = tableOf (rLines s).1 → PrsAt W W.heap.size vp pvs → Calls Tryz.prog 10 #[.agg #[.int .i64 (nR s), .int .i64 (nH s), vp]] W fun e w' => e = .returned (.bool (decide (0 < (clashF s).length))) ∧ Fresh W w') := fun W vp pvs hm hp => by
    obtain ⟨h1, h2, h3, h4, h5⟩ := table_calls s hc hm
    have h := isClashing_any W (nR s) (nH s) vp pvs hp h2 h3 h4 (by rw [← h5]; exact sets_ok hc)
    rw [clash_len s hc hm] at h
    exact h
  have HCL : Hid (decide (0 < (clashF s).length) = false) := by unfold Hid; simp [hcl]
  have c0 : ((cutF (rulesOf s) t).2.1 != 0) = true := by simpa using he
  generalize cutF (rulesOf s) t = C at CUT c0 ⊢
  generalize nR s = R at *
  generalize nH s = H at *
  clear hle hok hsb hsz hc hcl he
  go_enter Tryz.func5, Tryz.ntmps5
  go_wp2_with (first
    | (refine wpList_store_row rfl 27 _ _ rfl w.heap.size (outA (.slice none 0 0) (.slice none 0 0) (.slice none 0 0) C.2.2) rfl rfl _ _ hP5.out szOut rfl (out_one _ _ _ _ rfl rfl rfl) ?_)
    | (go_at_call 12; have stage := HF4.out; refine (CUT.out _ v' ys HL4.out HY.out hyl).mono ?_; rintro e w5 ⟨vt, rfl, hf5, hT5⟩; obtain ⟨ta, tc, hvt⟩ := own_form hT5.own; subst hvt; have HT5 := hid hT5; have HF5 := hid (HF4.out.trans hf5); have HX5 := hid (HX4.out.trans hf5); have hP5 := hid (hf5.at hP4.out (fun x => x)); have HB5 := hid (hf5.at HT4.out (fun x => x)); clear hT5 hf5)
    | (go_at_call 11; have stage := HF3.out; refine (RUL.out _ v xs HL3.out HX.out).mono ?_; rintro e w4 ⟨v', ys, rfl, hL4, hy, hyl, hf4⟩; have HL4 := hid hL4; have HY := hid hy; have HF4 := hid (HF3.out.trans hf4); have HX4 := hid (HX3.out.trans hf4); have hP4 := hid (hf4.at hP3.out (fun x => x)); have HT4 := hid (hf4.at HT3.out (fun x => x)); clear hL4 hy hf4)
    | (go_at_call 10; have stage := HF2.out; refine (IC.out _ _ pvs HMAP.out (HPRS.out _ (Mod.refl _ _))).mono ?_; rw [HCL.out]; rintro e w3 ⟨rfl, hf3⟩; have HF3 := hid (HF2.out.trans hf3); have HX3 := hid hf3; have hP3 := hid (hf3.at hP2.out (fun x => x)); have HT3 := hid (hf3.at (heap_alloc_at w2 _) (fun x => x)); have HL3 := hid (HL2.out.fresh hf3); clear hf3)
    | (go_at_call 9; have stage := HX.out; refine (PRD.out _ v xs HL.out HX.out).mono ?_; rintro e w2 ⟨vp, pvs, rfl, hf2, hmap, hprs⟩; obtain ⟨ra, rc, hvp⟩ := own_form hprs.row.own; subst hvp; have HMAP := hid hmap; have HPRS : Hid (∀ W, Fresh (w2.alloc (.cells #[.int .i64 R, .int .i64 H, .slice ra pvs.length rc] 42 (0, 0))) W → PrsAt W W.heap.size (.slice ra pvs.length rc) pvs) := fun W hW => (hprs.kept (Nat.le_refl _) (Mod.trans ((Mod.refl (fun _ => False) w2).alloc _) hW) (fun _ _ x => x)).up (Mod.trans ((Mod.refl (fun _ => False) w2).alloc _) hW).size; have HF2 : Hid (Fresh w (w2.alloc (.cells #[.int .i64 R, .int .i64 H, .slice ra pvs.length rc] 42 (0, 0)))) := (HF1.out.trans hf2).alloc _; have hP2 : Hid ((w2.alloc (.cells #[.int .i64 R, .int .i64 H, .slice ra pvs.length rc] 42 (0, 0))).heap[w.heap.size]? = some (.cells nil3 27 (0, 0))) := heap_alloc_prev (hf2.at hP1.out (fun x => x)); have HL2 := hid ((HL.out.fresh hf2).fresh ((Mod.refl _ w2).alloc (.cells #[.int .i64 R, .int .i64 H, .slice ra pvs.length rc] 42 (0, 0)))); clear hf2 hmap hprs)
    | (go_at_call 8; refine (SC.out _).mono ?_; rintro e w1 ⟨v, rfl, hf1, xs, hL, hxs⟩; rw [H0.out]; have HX := hid (hxs.elim (fun h => absurd H0.out h.1) (fun h => h.2)); have HL := hid hL; have HF1 : Hid (Fresh w w1) := Mod.trans ((Mod.refl _ w).alloc _) hf1; have hP1 : Hid (w1.heap[w.heap.size]? = some (.cells nil3 27 (0, 0))) := hf1.at (heap_alloc_at w _) (fun x => x); clear hxs hL hf1))
  refine bodyPost_ret (results_row1 rfl _ _ w.heap.size 27 (outA (.slice none 0 0) (.slice none 0 0) (.slice none 0 0) C.2.2) (0, 0) _ rfl (setRow_heap _ _ _ _ _ _ hP5.out) Tryz.underlying27 rfl szOut) rfl ?_
  exact RunRet.bad (HF5.out.setRow (fun h => absurd h (Nat.lt_irrefl _)) _)

set_option maxRecDepth 20000 in
set_option maxHeartbeats 8000000 in
theorem run_many (s t : ByteArray) (w : World) (hs : s.size ≤ maxLen) (hl : t.size ≤ 200) (hc : (checkF s).1 = 0) (hcl : clashF s = []) (he : (cutF (rulesOf s) t).2.1 = 0) (hm : 60 < (cutF (rulesOf s) t).1.length) (hml : (cutF (rulesOf s) t).1.length ≤ 1000) :
    Calls Tryz.prog 5 #[.string s, .string t] w fun e w' => RunRet s (badR 1 0) w e w' := by
  have SC := hid (fun w => sheetCheck_any s w hs)
  unfold CheckRet at SC
  have H0 := hid hc
  have hle := (rLines_ok s).1
  have hok := (rLines_ok s).2
  have hsb := rLines_sb s
  have hsz := check_sz hc
  have hl1 : ¬ (200 : Int) < (t.size : Int) := by omega
  have PRD : Hid (∀ (W : World) (v : Value) (xs : List LV), LinesAt W v xs → xs.map LV.ln = (rLines s).1 → Calls Tryz.prog 9 #[v] W fun e w' => ∃ vp pvs, e = .returned (.agg #[.int .i64 (nR s), .int .i64 (nH s), vp]) ∧ Fresh W w' ∧ pvs.map PV.pr = tableOf (rLines s).1 ∧ PrsAt w' w'.heap.size vp pvs) := fun W v xs hL hx => by
    have h1 : xs.length = (rLines s).1.length := by rw [← hx]; simp
    have h := pread_any W v xs hL (by omega) (fun x hxx => by
      have hm : x.ln ∈ (rLines s).1 := by rw [← hx]; exact List.mem_map.2 ⟨x, hxx, rfl⟩
      exact ⟨(hok x.ln hm).fb, hsb x.ln hm, by have := (hok x.ln hm).sb; omega⟩)
    rw [hx] at h
    exact h
  have RUL : Hid (∀ (W : World) (v : Value) (xs : List LV), LinesAt W v xs → xs.map LV.ln = (rLines s).1 → Calls Tryz.prog 11 #[v] W fun e w' => ∃ v' ys, e = .returned v' ∧ LinesAt w' v' ys ∧ ys.map LV.ln = rulesOf s ∧ ys.length ≤ 1000 ∧ Fresh W w') := fun W v xs hL hx => by
    have h1 : xs.length = (rLines s).1.length := by rw [← hx]; simp
    refine (rules_any W v xs hL (by omega) (fun x hxx => (hok x.ln (by rw [← hx]; exact List.mem_map.2 ⟨x, hxx, rfl⟩)).fb)).mono ?_
    rintro e w' ⟨v', he, hL', hf⟩
    refine ⟨v', _, he, hL', by rw [filter_ln, hx]; rfl, ?_, hf⟩
    have := List.length_filter_le (fun x : LV => ruleB x.ln) xs
    omega
  have CUT : Hid (∀ (W : World) (v : Value) (ys : List LV), LinesAt W v ys → ys.map LV.ln = rulesOf s → ys.length ≤ 1000 → Calls Tryz.prog 12 #[v, .string t] W fun e w' => ∃ v', e = .returned (.tuple #[v', .int .i64 (cutF (rulesOf s) t).2.1, .int .i64 (cutF (rulesOf s) t).2.2]) ∧ Fresh W w' ∧ ToksAt w' v' (cutF (rulesOf s) t).1) := fun W v ys hL hy hn => by
    have h := cut_any W v ys t hL hn hl
    rw [hy] at h
    exact h
  have IC : Hid (∀ (W : World) (vp : Value) (pvs : List PV), pvs.map PV.pr = tableOf (rLines s).1 → PrsAt W W.heap.size vp pvs → Calls Tryz.prog 10 #[.agg #[.int .i64 (nR s), .int .i64 (nH s), vp]] W fun e w' => e = .returned (.bool (decide (0 < (clashF s).length))) ∧ Fresh W w') := fun W vp pvs hm hp => by
    obtain ⟨h1, h2, h3, h4, h5⟩ := table_calls s hc hm
    have h := isClashing_any W (nR s) (nH s) vp pvs hp h2 h3 h4 (by rw [← h5]; exact sets_ok hc)
    rw [clash_len s hc hm] at h
    exact h
  have HCL : Hid (decide (0 < (clashF s).length) = false) := by unfold Hid; simp [hcl]
  generalize cutF (rulesOf s) t = C at CUT he hm hml ⊢
  have hm1 : (60 : Int) < (C.1.length : Int) := by omega
  rw [he] at CUT
  generalize nR s = R at *
  generalize nH s = H at *
  clear hle hok hsb hsz hc hcl he
  go_enter Tryz.func5, Tryz.ntmps5
  go_wp2_with (first
    | (refine wpList_store_row rfl 27 _ _ rfl w.heap.size (nil3) rfl rfl _ _ hP5.out szOut rfl (out_one _ _ _ _ rfl rfl rfl) ?_)
    | (go_at_call 12; have stage := HF4.out; refine (CUT.out _ v' ys HL4.out HY.out hyl).mono ?_; rintro e w5 ⟨vt, rfl, hf5, hT5⟩; obtain ⟨ta, tc, hvt⟩ := own_form hT5.own; subst hvt; have HT5 := hid hT5; have HF5 := hid (HF4.out.trans hf5); have HX5 := hid (HX4.out.trans hf5); have hP5 := hid (hf5.at hP4.out (fun x => x)); have HB5 := hid (hf5.at HT4.out (fun x => x)); clear hT5 hf5)
    | (go_at_call 11; have stage := HF3.out; refine (RUL.out _ v xs HL3.out HX.out).mono ?_; rintro e w4 ⟨v', ys, rfl, hL4, hy, hyl, hf4⟩; have HL4 := hid hL4; have HY := hid hy; have HF4 := hid (HF3.out.trans hf4); have HX4 := hid (HX3.out.trans hf4); have hP4 := hid (hf4.at hP3.out (fun x => x)); have HT4 := hid (hf4.at HT3.out (fun x => x)); clear hL4 hy hf4)
    | (go_at_call 10; have stage := HF2.out; refine (IC.out _ _ pvs HMAP.out (HPRS.out _ (Mod.refl _ _))).mono ?_; rw [HCL.out]; rintro e w3 ⟨rfl, hf3⟩; have HF3 := hid (HF2.out.trans hf3); have HX3 := hid hf3; have hP3 := hid (hf3.at hP2.out (fun x => x)); have HT3 := hid (hf3.at (heap_alloc_at w2 _) (fun x => x)); have HL3 := hid (HL2.out.fresh hf3); clear hf3)
    | (go_at_call 9; have stage := HX.out; refine (PRD.out _ v xs HL.out HX.out).mono ?_; rintro e w2 ⟨vp, pvs, rfl, hf2, hmap, hprs⟩; obtain ⟨ra, rc, hvp⟩ := own_form hprs.row.own; subst hvp; have HMAP := hid hmap; have HPRS : Hid (∀ W, Fresh (w2.alloc (.cells #[.int .i64 R, .int .i64 H, .slice ra pvs.length rc] 42 (0, 0))) W → PrsAt W W.heap.size (.slice ra pvs.length rc) pvs) := fun W hW => (hprs.kept (Nat.le_refl _) (Mod.trans ((Mod.refl (fun _ => False) w2).alloc _) hW) (fun _ _ x => x)).up (Mod.trans ((Mod.refl (fun _ => False) w2).alloc _) hW).size; have HF2 : Hid (Fresh w (w2.alloc (.cells #[.int .i64 R, .int .i64 H, .slice ra pvs.length rc] 42 (0, 0)))) := (HF1.out.trans hf2).alloc _; have hP2 : Hid ((w2.alloc (.cells #[.int .i64 R, .int .i64 H, .slice ra pvs.length rc] 42 (0, 0))).heap[w.heap.size]? = some (.cells nil3 27 (0, 0))) := heap_alloc_prev (hf2.at hP1.out (fun x => x)); have HL2 := hid ((HL.out.fresh hf2).fresh ((Mod.refl _ w2).alloc (.cells #[.int .i64 R, .int .i64 H, .slice ra pvs.length rc] 42 (0, 0)))); clear hf2 hmap hprs)
    | (go_at_call 8; refine (SC.out _).mono ?_; rintro e w1 ⟨v, rfl, hf1, xs, hL, hxs⟩; rw [H0.out]; have HX := hid (hxs.elim (fun h => absurd H0.out h.1) (fun h => h.2)); have HL := hid hL; have HF1 : Hid (Fresh w w1) := Mod.trans ((Mod.refl _ w).alloc _) hf1; have hP1 : Hid (w1.heap[w.heap.size]? = some (.cells nil3 27 (0, 0))) := hf1.at (heap_alloc_at w _) (fun x => x); clear hxs hL hf1))
  refine bodyPost_ret (results_row1 rfl _ _ w.heap.size 27 (nil3) (0, 0) _ rfl (setRow_heap _ _ _ _ _ _ hP5.out) Tryz.underlying27 rfl szOut) rfl ?_
  exact RunRet.bad (HF5.out.setRow (fun h => absurd h (Nat.lt_irrefl _)) _)
end Go.Proofs.YteneagnhihcljaaGreatDoor
