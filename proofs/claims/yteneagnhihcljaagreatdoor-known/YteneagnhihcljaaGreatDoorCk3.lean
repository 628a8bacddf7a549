import Derived.Test.YteneagnhihcljaaGreatDoorSh7
namespace Go.Proofs.YteneagnhihcljaaGreatDoor
open Go.RowKit
set_option linter.unusedVariables false
set_option linter.unusedSimpArgs false

/-- The first byte of the front word is a byte. -/
def FB (x : LV) : Prop := 0 ≤ x.ln.front.ls.getD 0 0 ∧ x.ln.front.ls.getD 0 0 ≤ 255
def ruleB (x : Ln) : Bool := !headB x.front
def cntRules (lns : List Ln) (i : Nat) : Nat := ((lns.take i).filter ruleB).length
def cntProds (lns : List Ln) (i : Nat) : Nat := ((lns.take i).filter (fun x => !ruleB x)).length
def cntHeads (lns : List Ln) : Nat → Nat
  | 0 => 0
  | i + 1 => cntHeads lns i + (match lns[i]? with | some x => if ruleB x || aheadB lns i then 0 else 1 | none => 0)
/-- is line i (the counts behind it) too much? -/
def overB (lns : List Ln) (i : Nat) (x : Ln) : Bool := decide (8 < cntRules lns (i + 1)) || decide (20 < cntProds lns (i + 1)) || decide (8 < cntHeads lns (i + 1)) || decide (6 < x.syms.length)
def tooManyL (lns : List Ln) : Nat → Nat → Int
  | 0, _ => -1
  | f + 1, i => match lns[i]? with | some x => if overB lns i x then x.front.place else tooManyL lns f (i + 1) | none => -1
def tooMany (lns : List Ln) : Int := tooManyL lns (lns.length + 1) 0
theorem cntRules_succ (lns : List Ln) (i : Nat) (hi : i < lns.length) : cntRules lns (i + 1) = cntRules lns i + if ruleB lns[i] then 1 else 0 := by
  unfold cntRules; rw [List.take_add_one, List.filter_append, List.length_append, List.getElem?_eq_getElem hi]
  cases h : ruleB lns[i] <;> simp [List.filter_cons, h]
theorem cntProds_succ (lns : List Ln) (i : Nat) (hi : i < lns.length) : cntProds lns (i + 1) = cntProds lns i + if ruleB lns[i] then 0 else 1 := by
  unfold cntProds; rw [List.take_add_one, List.filter_append, List.length_append, List.getElem?_eq_getElem hi]
  cases h : ruleB lns[i] <;> simp [List.filter_cons, h]
theorem cntHeads_succ (lns : List Ln) (i : Nat) (hi : i < lns.length) : cntHeads lns (i + 1) = cntHeads lns i + if ruleB lns[i] || aheadB lns i then 0 else 1 := by
  rw [cntHeads, List.getElem?_eq_getElem hi]
theorem cnt_le (lns : List Ln) (i : Nat) (hi : i ≤ lns.length) : cntRules lns i ≤ i ∧ cntProds lns i ≤ i ∧ cntHeads lns i ≤ i := by
  induction i with
  | zero => simp [cntRules, cntProds, cntHeads]
  | succ i ih =>
    have := ih (by omega)
    rw [cntRules_succ _ _ (by omega), cntProds_succ _ _ (by omega), cntHeads_succ _ _ (by omega)]
    refine ⟨?_, ?_, ?_⟩ <;> split <;> omega

set_option maxRecDepth 20000 in
set_option maxHeartbeats 4000000 in
theorem tooMany_any (w : World) (v : Value) (xs : List LV) (hL : LinesAt w v xs) (hn : xs.length ≤ 1000) (hfb : ∀ x ∈ xs, FB x) :
    Calls Tryz.prog 19 #[v] w fun e w' => e = .returned (.int .i64 (tooMany (xs.map LV.ln))) ∧ Fresh w w' := by
  obtain ⟨ao, cap, hv⟩ := own_form hL.own
  subst hv
  have HL := hid hL
  have HFB := hid hfb
  generalize hR : tooMany (xs.map LV.ln) = R
  have HR : Hid (tooManyL (xs.map LV.ln) ((xs.map LV.ln).length + 1) 0 = R) := hR
  clear hL hfb hR
  go_enter Tryz.func19, Tryz.ntmps19
  go_wp2
  go_loopw [3, 4, 5, 10] (fun x3 x4 x5 x10 wr => ∃ (f i : Nat), (x3 = .int .i64 (cntRules (xs.map LV.ln) i) ∧ x4 = .int .i64 (cntProds (xs.map LV.ln) i) ∧ x5 = .int .i64 (cntHeads (xs.map LV.ln) i) ∧ x10 = .int .i64 i) ∧ tooManyL (xs.map LV.ln) f i = R ∧ xs.length + 1 ≤ f + i ∧ i ≤ xs.length ∧ Fresh w wr)
      (fun _ _ _ x _ => 1001 - (intOf x).toNat)
  case atStart => exact ⟨_, 0, ⟨rfl, rfl, rfl, rfl⟩, HR.out, by simp, by omega, Mod.refl _ _⟩
  case round =>
    obtain ⟨f, i, ⟨rfl, rfl, rfl, rfl⟩, hR, hfu, hi, hfr⟩ := hrel
    obtain ⟨f, rfl⟩ : ∃ g, f = g + 1 := ⟨f - 1, by omega⟩
    unfold tooManyL at hR
    have HME := hid (meas (B := 1001) i (by omega))
    by_cases hlt : i < xs.length
    · have hlt' : i < (xs.map LV.ln).length := by simpa using hlt
      rw [List.getElem?_eq_getElem hlt'] at hR
      simp only [List.getElem_map] at hR
      obtain ⟨c1, c2, c3⟩ := cnt_le (xs.map LV.ln) i (by omega)
      have s1 := cntRules_succ (xs.map LV.ln) i hlt'
      have s2 := cntProds_succ (xs.map LV.ln) i hlt'
      have s3 := cntHeads_succ (xs.map LV.ln) i hlt'
      simp only [List.getElem_map] at s1 s2 s3
      unfold overB at hR
      obtain ⟨g, cap', hv'⟩ := Joins.ownsRow_form HL.out.own (by omega)
      rw [Value.slice.injEq] at hv'
      obtain ⟨rfl, _, rfl⟩ := hv'
      have HL1 := hid (HL.out.fresh hfr)
      have RG := hid (HL1.out.row.range i hlt)
      have hA := HL1.out.each xs[i] (by simp)
      have HA := hid hA
      have HFr := hid hA.front
      have HFi := hid (HFB.out xs[i] (by simp))
      obtain ⟨so, sc, hvs⟩ := own_form hA.syms.own
      have HAH := hid (fun w hL => ahead_any w (.slice (some ⟨g, 0, none⟩) xs.length cap) xs i hL (by omega) hlt)
      have k13 := LV.at13 hA.front
      have k0 := LV.at0 xs[i]
      rw [hvs] at k13
      generalize hX : xs[i] = x at *
      clear hA hX
      generalize cntRules (xs.map LV.ln) i = n1 at *
      generalize cntProds (xs.map LV.ln) i = n2 at *
      generalize cntHeads (xs.map LV.ln) i = n3 at *
      have hrb : Hid (ruleB x.ln = !headB x.ln.front) := rfl
      have RU := hid (fun w => isRule_any x w HFr.out HFi.out)
      rw [← hrb.out] at RU
      cases hr : ruleB x.ln
      · rw [hr] at s1 s2 s3 RU
        cases hah : aheadB (xs.map LV.ln) i
        · rw [hah] at s3
          simp only [Bool.or_self, Bool.false_eq_true, if_false] at s1 s2 s3
          rw [s1, s2, s3] at hR
          have S1 := hid s1
          have S2 := hid s2
          have S3 := hid s3
          clear s1 s2 s3
          cases hov : (decide (8 < n1 + 0) || decide (20 < n2 + 1) || decide (8 < n3 + 1) || decide (6 < x.ln.syms.length))
          · rw [hov] at hR
            simp only [Bool.or_eq_false_iff, decide_eq_false_iff_not] at hov
            obtain ⟨⟨⟨o1, o2⟩, o3⟩, o4⟩ := hov
            have HRR := hid hR
            clear hR
            go_wp2_with (first
              | (go_at_call 25; refine (RU.out _).mono ?_; rintro e w1 ⟨rfl, hf⟩; have HL2 := hid ((HL1.out.fresh ((Mod.refl _ wr).alloc (.cells x.cells.toArray 69 (0, 0)))).fresh hf))
              | (go_at_call 37; refine (HAH.out _ HL2.out).mono ?_; rw [hah]; rintro e w2 ⟨rfl, hf2⟩; have kc := cellOf (hf2.at (hf.at (heap_alloc_at _ _) (fun x => x)) (fun x => x)))
              | (refine wpList_load_mid rfl 69 _ rfl g (i * 14) rfl x.cells _ RG.out Tryz.underlying69 rfl (by rw [LV.cells_len HFr.out]; exact szLine) ?_)
              | (refine wpList_store_new rfl 69 _ _ rfl wr _ _ _ rfl rfl rfl (szLineOf HFr.out) (sameSize rfl (LV.size HFr.out)) HA.out.one ?_)
              | (refine wpList_load_row rfl 69 _ rfl wr.heap.size rfl _ _ _ _ (heap_alloc_at _ _) Tryz.underlying69 rfl (szLineOf HFr.out) ?_))
            go_roundw
            case rel => exact ⟨f, i + 1, ⟨by rw [S1.out]; go_num, by rw [S2.out]; go_num, by rw [S3.out]; go_num, by go_num⟩, HRR.out, by omega, by omega, ((hfr.alloc _).trans hf).trans hf2⟩
            case measure => exact HME.out
          · rw [hov] at hR
            simp only [if_true] at hR
            have HRR := hid hR
            have hov' : 8 < n1 + 0 ∨ (¬ 8 < n1 + 0 ∧ 20 < n2 + 1) ∨ (¬ 8 < n1 + 0 ∧ ¬ 20 < n2 + 1 ∧ 8 < n3 + 1) ∨ (¬ 8 < n1 + 0 ∧ ¬ 20 < n2 + 1 ∧ ¬ 8 < n3 + 1 ∧ 6 < x.ln.syms.length) := by
              simp only [Bool.or_eq_true, decide_eq_true_eq] at hov; omega
            clear hR hov
            rcases hov' with o1 | ⟨o1, o2⟩ | ⟨o1, o2, o3⟩ | ⟨o1, o2, o3, o4⟩
            all_goals
              go_wp2_with (first
                | (go_at_call 25; refine (RU.out _).mono ?_; rintro e w1 ⟨rfl, hf⟩; have HL2 := hid ((HL1.out.fresh ((Mod.refl _ wr).alloc (.cells x.cells.toArray 69 (0, 0)))).fresh hf))
                | (go_at_call 37; refine (HAH.out _ HL2.out).mono ?_; rw [hah]; rintro e w2 ⟨rfl, hf2⟩; have kc := cellOf (hf2.at (hf.at (heap_alloc_at _ _) (fun x => x)) (fun x => x)))
                | (refine wpList_load_mid rfl 69 _ rfl g (i * 14) rfl x.cells _ RG.out Tryz.underlying69 rfl (by rw [LV.cells_len HFr.out]; exact szLine) ?_)
                | (refine wpList_store_new rfl 69 _ _ rfl wr _ _ _ rfl rfl rfl (szLineOf HFr.out) (sameSize rfl (LV.size HFr.out)) HA.out.one ?_)
                | (refine wpList_load_row rfl 69 _ rfl wr.heap.size rfl _ _ _ _ (heap_alloc_at _ _) Tryz.underlying69 rfl (szLineOf HFr.out) ?_))
              go_ret
              exact ⟨ret_int HRR.out, ((hfr.alloc _).trans hf).trans hf2⟩
        · rw [hah] at s3
          simp only [Bool.or_true, Bool.false_eq_true, if_false, if_true] at s1 s2 s3
          rw [s1, s2, s3] at hR
          have S1 := hid s1
          have S2 := hid s2
          have S3 := hid s3
          clear s1 s2 s3
          cases hov : (decide (8 < n1 + 0) || decide (20 < n2 + 1) || decide (8 < n3 + 0) || decide (6 < x.ln.syms.length))
          · rw [hov] at hR
            simp only [Bool.or_eq_false_iff, decide_eq_false_iff_not] at hov
            obtain ⟨⟨⟨o1, o2⟩, o3⟩, o4⟩ := hov
            have HRR := hid hR
            clear hR
            go_wp2_with (first
              | (go_at_call 25; refine (RU.out _).mono ?_; rintro e w1 ⟨rfl, hf⟩; have HL2 := hid ((HL1.out.fresh ((Mod.refl _ wr).alloc (.cells x.cells.toArray 69 (0, 0)))).fresh hf))
              | (go_at_call 37; refine (HAH.out _ HL2.out).mono ?_; rw [hah]; rintro e w2 ⟨rfl, hf2⟩; have kc := cellOf (hf2.at (hf.at (heap_alloc_at _ _) (fun x => x)) (fun x => x)))
              | (refine wpList_load_mid rfl 69 _ rfl g (i * 14) rfl x.cells _ RG.out Tryz.underlying69 rfl (by rw [LV.cells_len HFr.out]; exact szLine) ?_)
              | (refine wpList_store_new rfl 69 _ _ rfl wr _ _ _ rfl rfl rfl (szLineOf HFr.out) (sameSize rfl (LV.size HFr.out)) HA.out.one ?_)
              | (refine wpList_load_row rfl 69 _ rfl wr.heap.size rfl _ _ _ _ (heap_alloc_at _ _) Tryz.underlying69 rfl (szLineOf HFr.out) ?_))
            go_roundw
            case rel => exact ⟨f, i + 1, ⟨by rw [S1.out]; go_num, by rw [S2.out]; go_num, by rw [S3.out]; go_num, by go_num⟩, HRR.out, by omega, by omega, ((hfr.alloc _).trans hf).trans hf2⟩
            case measure => exact HME.out
          · rw [hov] at hR
            simp only [if_true] at hR
            have HRR := hid hR
            have hov' : 8 < n1 + 0 ∨ (¬ 8 < n1 + 0 ∧ 20 < n2 + 1) ∨ (¬ 8 < n1 + 0 ∧ ¬ 20 < n2 + 1 ∧ 8 < n3 + 0) ∨ (¬ 8 < n1 + 0 ∧ ¬ 20 < n2 + 1 ∧ ¬ 8 < n3 + 0 ∧ 6 < x.ln.syms.length) := by
              simp only [Bool.or_eq_true, decide_eq_true_eq] at hov; omega
            clear hR hov
            rcases hov' with o1 | ⟨o1, o2⟩ | ⟨o1, o2, o3⟩ | ⟨o1, o2, o3, o4⟩
            all_goals
              go_wp2_with (first
                | (go_at_call 25; refine (RU.out _).mono ?_; rintro e w1 ⟨rfl, hf⟩; have HL2 := hid ((HL1.out.fresh ((Mod.refl _ wr).alloc (.cells x.cells.toArray 69 (0, 0)))).fresh hf))
                | (go_at_call 37; refine (HAH.out _ HL2.out).mono ?_; rw [hah]; rintro e w2 ⟨rfl, hf2⟩; have kc := cellOf (hf2.at (hf.at (heap_alloc_at _ _) (fun x => x)) (fun x => x)))
                | (refine wpList_load_mid rfl 69 _ rfl g (i * 14) rfl x.cells _ RG.out Tryz.underlying69 rfl (by rw [LV.cells_len HFr.out]; exact szLine) ?_)
                | (refine wpList_store_new rfl 69 _ _ rfl wr _ _ _ rfl rfl rfl (szLineOf HFr.out) (sameSize rfl (LV.size HFr.out)) HA.out.one ?_)
                | (refine wpList_load_row rfl 69 _ rfl wr.heap.size rfl _ _ _ _ (heap_alloc_at _ _) Tryz.underlying69 rfl (szLineOf HFr.out) ?_))
              go_ret
              exact ⟨ret_int HRR.out, ((hfr.alloc _).trans hf).trans hf2⟩
      · rw [hr] at s1 s2 s3 RU
        simp only [Bool.true_or, if_true] at s1 s2 s3
        rw [s1, s2, s3] at hR
        have S1 := hid s1
        have S2 := hid s2
        have S3 := hid s3
        clear s1 s2 s3
        cases hov : (decide (8 < n1 + 1) || decide (20 < n2 + 0) || decide (8 < n3 + 0) || decide (6 < x.ln.syms.length))
        · rw [hov] at hR
          simp only [Bool.or_eq_false_iff, decide_eq_false_iff_not] at hov
          obtain ⟨⟨⟨o1, o2⟩, o3⟩, o4⟩ := hov
          have HRR := hid hR
          clear hR
          go_wp2_with (first
            | (go_at_call 25; refine (RU.out _).mono ?_; rintro e w1 ⟨rfl, hf⟩; have kc := cellOf (hf.at (heap_alloc_at _ _) (fun x => x)))
            | (refine wpList_load_mid rfl 69 _ rfl g (i * 14) rfl x.cells _ RG.out Tryz.underlying69 rfl (by rw [LV.cells_len HFr.out]; exact szLine) ?_)
            | (refine wpList_store_new rfl 69 _ _ rfl wr _ _ _ rfl rfl rfl (szLineOf HFr.out) (sameSize rfl (LV.size HFr.out)) HA.out.one ?_)
            | (refine wpList_load_row rfl 69 _ rfl wr.heap.size rfl _ _ _ _ (heap_alloc_at _ _) Tryz.underlying69 rfl (szLineOf HFr.out) ?_))
          go_roundw
          case rel => exact ⟨f, i + 1, ⟨by rw [S1.out]; go_num, by rw [S2.out]; go_num, by rw [S3.out]; go_num, by go_num⟩, HRR.out, by omega, by omega, (hfr.alloc _).trans hf⟩
          case measure => exact HME.out
        · rw [hov] at hR
          simp only [if_true] at hR
          have HRR := hid hR
          have hov' : 8 < n1 + 1 ∨ (¬ 8 < n1 + 1 ∧ 20 < n2 + 0) ∨ (¬ 8 < n1 + 1 ∧ ¬ 20 < n2 + 0 ∧ 8 < n3 + 0) ∨ (¬ 8 < n1 + 1 ∧ ¬ 20 < n2 + 0 ∧ ¬ 8 < n3 + 0 ∧ 6 < x.ln.syms.length) := by
            simp only [Bool.or_eq_true, decide_eq_true_eq] at hov; omega
          clear hR hov
          rcases hov' with o1 | ⟨o1, o2⟩ | ⟨o1, o2, o3⟩ | ⟨o1, o2, o3, o4⟩
          all_goals
            go_wp2_with (first
              | (go_at_call 25; refine (RU.out _).mono ?_; rintro e w1 ⟨rfl, hf⟩; have kc := cellOf (hf.at (heap_alloc_at _ _) (fun x => x)))
              | (refine wpList_load_mid rfl 69 _ rfl g (i * 14) rfl x.cells _ RG.out Tryz.underlying69 rfl (by rw [LV.cells_len HFr.out]; exact szLine) ?_)
              | (refine wpList_store_new rfl 69 _ _ rfl wr _ _ _ rfl rfl rfl (szLineOf HFr.out) (sameSize rfl (LV.size HFr.out)) HA.out.one ?_)
              | (refine wpList_load_row rfl 69 _ rfl wr.heap.size rfl _ _ _ _ (heap_alloc_at _ _) Tryz.underlying69 rfl (szLineOf HFr.out) ?_))
            go_ret
            exact ⟨ret_int HRR.out, (hfr.alloc _).trans hf⟩
    · rw [List.getElem?_eq_none (by simp; omega)] at hR
      have HRR := hid hR
      clear hR
      go_wp2
      go_ret
      exact ⟨ret_int HRR.out, hfr⟩
end Go.Proofs.YteneagnhihcljaaGreatDoor
