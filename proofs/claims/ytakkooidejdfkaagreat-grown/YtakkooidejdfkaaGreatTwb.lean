import Derived.Test.YtakkooidejdfkaaGreatGm2
import Derived.Test.YtakkooidejdfkaaGreatSg1
namespace Go.Proofs.YtakkooidejdfkaaGreat
open Go.RowKit
set_option linter.unusedVariables false
set_option linter.unusedSimpArgs false

/-- what a right specification without clashes gives -/
theorem tab_of {s : ByteArray} (hc : (checkF s).1 = 0) (hcl : clashF s = []) : Tab (tableOf (rLines s).1) (frontsOf (rLines s).1).length (headsOf (rLines s).1).length (setsF s) := by
  have hc2 := check_zero hc
  obtain ⟨h1, h2, h3, h4, h5⟩ := check_parts hc2
  have hI := linesInv hc2
  have hI2 := linesInv2 hc2
  have hT := tabOk h3 hI.places hI2.mem
  have hR := rules_le (fun y hy => (hI.places y hy).1) h5
  obtain ⟨c1, c2, c3⟩ := counts_le (fun y hy => (hI.places y hy).1) h5
  have hS := allF_ok hT hR
  have hH0 : 0 < (headsOf (rLines s).1).length := by
    unfold hasProd at h4
    rw [List.any_eq_true] at h4
    obtain ⟨y, hy, hq⟩ := h4
    have := hI2.mem y (List.mem_filter.2 ⟨hy, hq⟩)
    omega
  exact ⟨llg hT hR hH0 c3 hcl, hS.ok, hR, c1, hH0, c2⟩
theorem sets_ok {s : ByteArray} (hc : (checkF s).1 = 0) : ∀ x ∈ setsF s, x.ok := by
  have hc2 := check_zero hc
  obtain ⟨h1, h2, h3, h4, h5⟩ := check_parts hc2
  have hI := linesInv hc2
  have hI2 := linesInv2 hc2
  exact (allF_ok (tabOk h3 hI.places hI2.mem) (rules_le (fun y hy => (hI.places y hy).1) h5)).ok

set_option maxRecDepth 20000 in
set_option maxHeartbeats 4000000 in
theorem isClashing_any (w : World) (R H : Nat) (vp : Value) (ps : List PV) (hp : PrsAt w w.heap.size vp ps) (hps : ps.length ≤ 1000) (hH : H ≤ 1000) (hR : R ≤ 1000) (hok : ∀ x ∈ allF (prsOf ps) (initH R H), x.ok) :
    Calls Tryz.prog 16 #[.agg #[.int .i64 R, .int .i64 H, vp]] w fun e w' => e = .returned (.bool (decide (0 < (clashL ((prsOf ps).zip (aheadsF (allF (prsOf ps) (initH R H)) (prsOf ps))) R H).length))) ∧ Fresh w w' := by
  obtain ⟨pa, pc, hvp⟩ := own_form hp.row.own
  subst hvp
  have CA := hid (Clashes_any (w.alloc (.cells #[.int .i64 R, .int .i64 H, .slice pa ps.length pc] 51 (0, 0))) R H (.slice pa ps.length pc) ps ((hp.kept (Nat.le_refl _) ((Mod.refl (fun _ => False) w).alloc _) (fun _ _ x => x)).up (by simp)) hps hH hR hok)
  generalize clashL ((prsOf ps).zip (aheadsF (allF (prsOf ps) (initH R H)) (prsOf ps))) R H = CL at CA
  clear hp hok
  go_enter Tryz.func16, Tryz.ntmps16
  go_wp2_with (first
    | (go_at_call 24; refine CA.out.mono ?_; rintro e w1 ⟨v, rfl, hf1, ho⟩; obtain ⟨ca, cc, hv⟩ := own_form ho; subst hv; clear ho))
  go_ret
  refine ⟨?_, Mod.trans ((Mod.refl _ w).alloc _) hf1⟩
  show Ending.returned (Value.bool _) = _
  congr 2

def nR (s : ByteArray) : Nat := (frontsOf (rLines s).1).length
def nH (s : ByteArray) : Nat := (headsOf (rLines s).1).length
def tabF (s : ByteArray) : List Pr := tableOf (rLines s).1
def growS (s : ByteArray) (kinds : List Int) : GOut := grwF (tabF s) (setsF s) (nR s) (nH s) kinds 0 [⟨true, 0⟩] []
def badG (e : Int) : GOut := ⟨e, [], 0, []⟩
def parseF (s : ByteArray) (kinds : List Int) : GOut :=
  if 60 < kinds.length then badG 1
  else if (checkF s).1 ≠ 0 then badG (checkF s).1
  else if kindsOk (nR s) kinds = false then badG 7
  else if clashF s ≠ [] then badG 8
  else growS s kinds
def ParRet (s : ByteArray) (G : GOut) (w : World) (e : Ending) (w' : World) : Prop :=
  ∃ vn vw, e = .returned (.tuple #[.agg (parA vn vw G.place), .int .i64 G.err]) ∧ Fresh w w' ∧ NdOwn w' w.heap.size vn (nodesF (tabF s) G.st) ∧ IntOwn w' w.heap.size vw G.wanted
theorem ParRet.bad {s : ByteArray} {e : Int} {w w' : World} (hf : Fresh w w') : ParRet s (badG e) w (.returned (.tuple #[.agg (parA (.slice none 0 0) (.slice none 0 0) 0), .int .i64 e])) w' :=
  ⟨_, _, rfl, hf, World.ownsRow_nil _ _ _ _, World.ownsRow_nil _ _ _ _⟩

set_option maxRecDepth 20000 in
set_option maxHeartbeats 4000000 in
theorem parse_long (s : ByteArray) (kinds : List Int) (vk : Value) (w : World) (hk : IntAt w vk kinds) (hl : 60 < kinds.length) (hm : kinds.length ≤ maxLen) :
    Calls Tryz.prog 6 #[.string s, vk] w fun e w' => ParRet s (badG 1) w e w' := by
  obtain ⟨ka, kc, rfl, hkc, _⟩ := hk
  unfold maxLen at hm
  have hl1 : (60 : Int) < (kinds.length : Int) := by omega
  go_enter Tryz.func6, Tryz.ntmps6
  go_wp2
  exact bodyPost_ret (results_row1 rfl _ _ w.heap.size 28 (parA (.slice none 0 0) (.slice none 0 0) 0) (0, 0) _ rfl (heap_alloc_at _ _) Tryz.underlying28 rfl szPar) rfl (ParRet.bad ((Mod.refl _ w).alloc _))

set_option maxRecDepth 20000 in
set_option maxHeartbeats 4000000 in
theorem parse_bad (s : ByteArray) (kinds : List Int) (vk : Value) (w : World) (hs : s.size ≤ maxLen) (hk : IntAt w vk kinds) (hl : kinds.length ≤ 60) (hc : (checkF s).1 ≠ 0) :
    Calls Tryz.prog 6 #[.string s, vk] w fun e w' => ParRet s (badG (checkF s).1) w e w' := by
  obtain ⟨ka, kc, rfl, hkc, _⟩ := hk
  have TB := hid (fun w => table_bad s w hs hc)
  have c0 : ((checkF s).1 != 0) = true := by simpa using hc
  have hl1 : ¬ (60 : Int) < (kinds.length : Int) := by omega
  generalize (checkF s).1 = E at TB c0
  clear hc
  go_enter Tryz.func6, Tryz.ntmps6
  go_wp2_with (first
    | (refine wpList_store_row rfl 28 _ _ rfl w.heap.size (parA (.slice none 0 0) (.slice none 0 0) 0) rfl rfl _ _ hPb.out szPar rfl (par_one _ _ _ rfl rfl) ?_)
    | (go_at_call 14; refine (TB.out _).mono ?_; rintro e w1 ⟨rfl, hf1⟩; have HF1 := hid hf1; have hPb : Hid ((w1.alloc (.cells #[.int .i64 0, .int .i64 0, .slice none 0 0] 51 (0, 0))).heap[w.heap.size]? = some (.cells (parA (.slice none 0 0) (.slice none 0 0) 0) 28 (0, 0))) := heap_alloc_prev (hf1.at (heap_alloc_at w _) (fun x => x)); clear hf1))
  refine bodyPost_ret (results_row1 rfl _ _ w.heap.size 28 (parA (.slice none 0 0) (.slice none 0 0) 0) (0, 0) _ rfl (setRow_heap _ _ _ _ _ _ hPb.out) Tryz.underlying28 rfl szPar) rfl (ParRet.bad ?_)
  exact ((Mod.trans ((Mod.refl _ w).alloc _) HF1.out).alloc _).setRow (fun h => absurd h (Nat.lt_irrefl _)) _

/-- the table, and what the calls on it answer -/
theorem table_calls (s : ByteArray) (hc : (checkF s).1 = 0) {pvs : List PV} (hm : pvs.map PV.pr = tableOf (rLines s).1) : prsOf pvs = tabF s ∧ pvs.length ≤ 1000 ∧ nH s ≤ 1000 ∧ nR s ≤ 1000 ∧ setsF s = allF (prsOf pvs) (initH (nR s) (nH s)) := by
  obtain ⟨z1, z2, z3⟩ := tab_sizes hc
  have h1 : pvs.length = (tableOf (rLines s).1).length := by rw [← hm]; simp
  refine ⟨hm, by omega, by unfold nH; omega, by unfold nR; omega, ?_⟩
  unfold setsF prsOf nR nH
  rw [hm]
theorem clash_len (s : ByteArray) (hc : (checkF s).1 = 0) {pvs : List PV} (hm : pvs.map PV.pr = tableOf (rLines s).1) : clashL ((prsOf pvs).zip (aheadsF (allF (prsOf pvs) (initH (nR s) (nH s))) (prsOf pvs))) (nR s) (nH s) = clashF s := by
  obtain ⟨h1, _, _, _, h5⟩ := table_calls s hc hm
  rw [← h5, h1]; rfl

set_option maxRecDepth 20000 in
set_option maxHeartbeats 8000000 in
theorem parse_good (s : ByteArray) (kinds : List Int) (vk : Value) (w : World) (hs : s.size ≤ maxLen) (hk : IntAt w vk kinds) (hl : kinds.length ≤ 60) (hc : (checkF s).1 = 0) :
    Calls Tryz.prog 6 #[.string s, vk] w fun e w' => ParRet s (parseF s kinds) w e w' := by
  have TB := hid (fun w => table_good s w hs hc)
  unfold TableRet at TB
  have HK := hid hk
  have TC := hid (fun (pvs : List PV) (hm : pvs.map PV.pr = tableOf (rLines s).1) => table_calls s hc hm)
  have AR : Hid (∀ (W : World) (vp : Value), IntAt W vk kinds → Calls Tryz.prog 15 #[.agg #[.int .i64 (nR s), .int .i64 (nH s), vp], vk] W fun e w' => e = .returned (.bool (kindsOk (nR s) kinds)) ∧ Fresh W w') := fun W vp h => areRules_any W (nR s) (nH s) vp vk kinds h (by omega)
  have IC : Hid (∀ (W : World) (vp : Value) (pvs : List PV), pvs.map PV.pr = tableOf (rLines s).1 → PrsAt W W.heap.size vp pvs → Calls Tryz.prog 16 #[.agg #[.int .i64 (nR s), .int .i64 (nH s), vp]] W fun e w' => e = .returned (.bool (decide (0 < (clashF s).length))) ∧ Fresh W w') := fun W vp pvs hm hp => by
    obtain ⟨h1, h2, h3, h4, h5⟩ := table_calls s hc hm
    have h := isClashing_any W (nR s) (nH s) vp pvs hp h2 h3 h4 (by rw [← h5]; exact sets_ok hc)
    rw [clash_len s hc hm] at h
    exact h
  have GR : Hid (∀ (W : World) (vp : Value) (pvs : List PV), pvs.map PV.pr = tableOf (rLines s).1 → PrsAt W W.heap.size vp pvs → IntAt W vk kinds → kindsOk (nR s) kinds = true → clashF s = [] → Calls Tryz.prog 17 #[.agg #[.int .i64 (nR s), .int .i64 (nH s), vp], vk] W fun e w' => ParRet s (growS s kinds) W e w') := fun W vp pvs hm hp hk hkk hcl => by
    obtain ⟨h1, h2, h3, h4, h5⟩ := table_calls s hc hm
    have hT := tab_of hc hcl
    have h := grow_any W (nR s) (nH s) vp vk pvs kinds (setsF s) hp hk hl hkk (by rw [h1]; exact hT) h5
    rw [h1] at h
    exact h
  have SIM : Hid (∀ W : World, Fresh w W → IntAt W vk kinds) := fun W hW => hk.fresh hW
  have e1 : ((frontsOf (rLines s).1).length : Nat) = nR s := rfl
  have e2 : ((headsOf (rLines s).1).length : Nat) = nH s := rfl
  rw [e1, e2] at TB
  obtain ⟨ka, kc, hvk, hkc, _⟩ := hk
  have hPF : parseF s kinds = if kindsOk (nR s) kinds = false then badG 7 else if clashF s ≠ [] then badG 8 else growS s kinds := by
    unfold parseF
    rw [if_neg (by omega), if_neg (by simp [hc])]
  rw [hPF]
  have hl1 : ¬ (60 : Int) < (kinds.length : Int) := by omega
  generalize nR s = R at *
  generalize nH s = H at *
  clear hPF e1 e2 hc
  subst hvk
  generalize kindsOk R kinds = KO at *
  cases KO
  · simp only [if_true]
    go_enter Tryz.func6, Tryz.ntmps6
    go_wp2_with (first
      | (refine wpList_store_row rfl 28 _ _ rfl w.heap.size (parA (.slice none 0 0) (.slice none 0 0) 0) rfl rfl _ _ hPb.out szPar rfl (par_one _ _ _ rfl rfl) ?_)
      | (go_at_call 15; refine (AR.out _ _ (SIM.out _ HFT.out)).mono ?_; rintro e w2 ⟨rfl, hf2⟩; have HF2 := hid (HFT.out.trans hf2); have hPb := hid (hf2.at HPT.out (fun x => x)))
      | (go_at_call 14; refine (TB.out _).mono ?_; rintro e w1 ⟨vp, pvs, rfl, hf1, hmap, hprs⟩; obtain ⟨ra, rc, hvp⟩ := own_form hprs.row.own; subst hvp; have HFT : Hid (Fresh w (w1.alloc (.cells #[.int .i64 R, .int .i64 H, .slice ra pvs.length rc] 51 (0, 0)))) := (Mod.trans ((Mod.refl _ w).alloc _) hf1).alloc _; have HPT : Hid ((w1.alloc (.cells #[.int .i64 R, .int .i64 H, .slice ra pvs.length rc] 51 (0, 0))).heap[w.heap.size]? = some (.cells (parA (.slice none 0 0) (.slice none 0 0) 0) 28 (0, 0))) := heap_alloc_prev (hf1.at (heap_alloc_at w _) (fun x => x)); clear hf1))
    refine bodyPost_ret (results_row1 rfl _ _ w.heap.size 28 (parA (.slice none 0 0) (.slice none 0 0) 0) (0, 0) _ rfl (setRow_heap _ _ _ _ _ _ hPb.out) Tryz.underlying28 rfl szPar) rfl (ParRet.bad ?_)
    exact HF2.out.setRow (fun h => absurd h (Nat.lt_irrefl _)) _
  · simp only [Bool.true_eq_false, if_false]
    by_cases hcl : clashF s = []
    · rw [if_neg (by simp [hcl])]
      have HCL : Hid (decide (0 < (clashF s).length) = false) := by unfold Hid; simp [hcl]
      have hcl0 := hid hcl
      generalize hGS : growS s kinds = GS at GR ⊢
      clear hcl hGS
      go_enter Tryz.func6, Tryz.ntmps6
      go_wp2_with (first
        | (refine wpList_store_row rfl 28 _ _ rfl w.heap.size (parA (.slice na (nodesF (tabF s) GS.st).length nc) (.slice wa GS.wanted.length wc) GS.place) rfl rfl _ _ hPd.out szPar rfl (par_one _ _ _ rfl rfl) ?_)
        | (go_at_call 17; have stage := HF3.out; refine (GR.out _ _ pvs HMAP.out (HPRS.out _ HFX3.out) (SIM.out _ HF3.out) (by first | rfl | trivial) hcl0.out).mono ?_; rintro e w4 ⟨vn, vw, rfl, hf4, hn4, hw4⟩; obtain ⟨na, nc, hvn⟩ := own_form hn4; subst hvn; obtain ⟨wa, wc, hvw⟩ := own_form hw4; subst hvw; have HN4 := hid hn4; have HW4 := hid hw4; have HF4 := hid hf4; have hPd := hid (hf4.at hPc.out (fun x => x)); clear hn4 hw4 hf4)
        | (go_at_call 16; have stage := HF2.out; refine (IC.out _ _ pvs HMAP.out (HPRS.out _ HFX.out)).mono ?_; rw [HCL.out]; rintro e w3 ⟨rfl, hf3⟩; have HF3 := hid (HF2.out.trans hf3); have HFX3 := hid (HFX.out.trans hf3); have hPc := hid (hf3.at hPb.out (fun x => x)); have HTc := hid (hf3.at HTb.out (fun x => x)); have u0 := cellOf HTc.out 0; have u1 := cellOf HTc.out 1; have u2 := cellOf HTc.out 2; simp at u0 u1 u2; clear hf3)
        | (go_at_call 15; refine (AR.out _ _ (SIM.out _ HFT.out)).mono ?_; rintro e w2 ⟨rfl, hf2⟩; have HF2 := hid (HFT.out.trans hf2); have HFX := hid hf2; have hPb := hid (hf2.at HPT.out (fun x => x)); have HTb := hid (hf2.at (heap_alloc_at w1 _) (fun x => x)); have t0 := cellOf HTb.out 0; have t1 := cellOf HTb.out 1; have t2 := cellOf HTb.out 2; simp at t0 t1 t2; clear hf2)
        | (go_at_call 14; refine (TB.out _).mono ?_; rintro e w1 ⟨vp, pvs, rfl, hf1, hmap, hprs⟩; obtain ⟨ra, rc, hvp⟩ := own_form hprs.row.own; subst hvp; have HMAP := hid hmap; have HPRS : Hid (∀ W, Fresh (w1.alloc (.cells #[.int .i64 R, .int .i64 H, .slice ra pvs.length rc] 51 (0, 0))) W → PrsAt W W.heap.size (.slice ra pvs.length rc) pvs) := fun W hW => (hprs.kept (Nat.le_refl _) (Mod.trans ((Mod.refl (fun _ => False) w1).alloc _) hW) (fun _ _ x => x)).up (Mod.trans ((Mod.refl (fun _ => False) w1).alloc _) hW).size; have HFT : Hid (Fresh w (w1.alloc (.cells #[.int .i64 R, .int .i64 H, .slice ra pvs.length rc] 51 (0, 0)))) := (Mod.trans ((Mod.refl _ w).alloc _) hf1).alloc _; have HPT : Hid ((w1.alloc (.cells #[.int .i64 R, .int .i64 H, .slice ra pvs.length rc] 51 (0, 0))).heap[w.heap.size]? = some (.cells (parA (.slice none 0 0) (.slice none 0 0) 0) 28 (0, 0))) := heap_alloc_prev (hf1.at (heap_alloc_at w _) (fun x => x)); clear hf1 hmap hprs))
      refine bodyPost_ret (results_row1 rfl _ _ w.heap.size 28 (parA (.slice na (nodesF (tabF s) GS.st).length nc) (.slice wa GS.wanted.length wc) GS.place) (0, 0) _ rfl (setRow_heap _ _ _ _ _ _ hPd.out) Tryz.underlying28 rfl szPar) rfl ?_
      have hsz := HF3.out.size
      have hlt := heap_lt hPc.out
      refine ⟨_, _, rfl, (HF3.out.trans HF4.out).setRow (fun h => absurd h (Nat.lt_irrefl _)) _, ?_, ?_⟩
      · refine ownsRow_base (ownsRow_other HN4.out (fun g hg => ?_)) hsz
        have := (HN4.out.lt g hg).1
        exact setRow_other _ _ _ _ (by omega)
      · refine ownsRow_base (ownsRow_other HW4.out (fun g hg => ?_)) hsz
        have := (HW4.out.lt g hg).1
        exact setRow_other _ _ _ _ (by omega)
    · rw [if_pos hcl]
      have HCL : Hid (decide (0 < (clashF s).length) = true) := by unfold Hid; simp; exact List.length_pos_iff.2 hcl
      clear hcl
      go_enter Tryz.func6, Tryz.ntmps6
      go_wp2_with (first
        | (refine wpList_store_row rfl 28 _ _ rfl w.heap.size (parA (.slice none 0 0) (.slice none 0 0) 0) rfl rfl _ _ hPc.out szPar rfl (par_one _ _ _ rfl rfl) ?_)
        | (go_at_call 16; have stage := HF2.out; refine (IC.out _ _ pvs HMAP.out (HPRS.out _ HFX.out)).mono ?_; rw [HCL.out]; rintro e w3 ⟨rfl, hf3⟩; have HF3 := hid (HF2.out.trans hf3); have HFX3 := hid (HFX.out.trans hf3); have hPc := hid (hf3.at hPb.out (fun x => x)); have HTc := hid (hf3.at HTb.out (fun x => x)); have u0 := cellOf HTc.out 0; have u1 := cellOf HTc.out 1; have u2 := cellOf HTc.out 2; simp at u0 u1 u2; clear hf3)
        | (go_at_call 15; refine (AR.out _ _ (SIM.out _ HFT.out)).mono ?_; rintro e w2 ⟨rfl, hf2⟩; have HF2 := hid (HFT.out.trans hf2); have HFX := hid hf2; have hPb := hid (hf2.at HPT.out (fun x => x)); have HTb := hid (hf2.at (heap_alloc_at w1 _) (fun x => x)); have t0 := cellOf HTb.out 0; have t1 := cellOf HTb.out 1; have t2 := cellOf HTb.out 2; simp at t0 t1 t2; clear hf2)
        | (go_at_call 14; refine (TB.out _).mono ?_; rintro e w1 ⟨vp, pvs, rfl, hf1, hmap, hprs⟩; obtain ⟨ra, rc, hvp⟩ := own_form hprs.row.own; subst hvp; have HMAP := hid hmap; have HPRS : Hid (∀ W, Fresh (w1.alloc (.cells #[.int .i64 R, .int .i64 H, .slice ra pvs.length rc] 51 (0, 0))) W → PrsAt W W.heap.size (.slice ra pvs.length rc) pvs) := fun W hW => (hprs.kept (Nat.le_refl _) (Mod.trans ((Mod.refl (fun _ => False) w1).alloc _) hW) (fun _ _ x => x)).up (Mod.trans ((Mod.refl (fun _ => False) w1).alloc _) hW).size; have HFT : Hid (Fresh w (w1.alloc (.cells #[.int .i64 R, .int .i64 H, .slice ra pvs.length rc] 51 (0, 0)))) := (Mod.trans ((Mod.refl _ w).alloc _) hf1).alloc _; have HPT : Hid ((w1.alloc (.cells #[.int .i64 R, .int .i64 H, .slice ra pvs.length rc] 51 (0, 0))).heap[w.heap.size]? = some (.cells (parA (.slice none 0 0) (.slice none 0 0) 0) 28 (0, 0))) := heap_alloc_prev (hf1.at (heap_alloc_at w _) (fun x => x)); clear hf1 hmap hprs))
      refine bodyPost_ret (results_row1 rfl _ _ w.heap.size 28 (parA (.slice none 0 0) (.slice none 0 0) 0) (0, 0) _ rfl (setRow_heap _ _ _ _ _ _ hPc.out) Tryz.underlying28 rfl szPar) rfl (ParRet.bad ?_)
      exact HF3.out.setRow (fun h => absurd h (Nat.lt_irrefl _)) _
end Go.Proofs.YtakkooidejdfkaaGreat
namespace Go.Proofs.YtakkooidejdfkaaGreat
open Go.RowKit
set_option linter.unusedVariables false
set_option linter.unusedSimpArgs false

theorem bestL_rule (lns : List Ln) (t : ByteArray) (i : Nat) : ∀ (f k : Nat) (b : Int × Int), (b.2 ≤ i ∨ (0 ≤ b.1 ∧ b.1 < lns.length)) → ((bestL lns t i f k b).2 ≤ i ∨ (0 ≤ (bestL lns t i f k b).1 ∧ (bestL lns t i f k b).1 < lns.length))
  | 0, _, b, h => h
  | f + 1, k, b, h => by
    unfold bestL
    cases hq : lns[k]? with
    | none => exact h
    | some x =>
      simp only []
      refine bestL_rule lns t i f (k + 1) _ ?_
      split
      · right
        have := (List.getElem?_eq_some_iff.1 hq).1
        dsimp only; omega
      · exact h
theorem cutL_rules (lns : List Ln) (t : ByteArray) : ∀ (f i : Nat) (toks : List Tk), (∀ x ∈ toks, 0 ≤ x.r ∧ x.r < lns.length) → ∀ x ∈ (cutL lns t f i toks).1, 0 ≤ x.r ∧ x.r < lns.length
  | 0, _, _, _, x, hx => by simp [cutL] at hx
  | f + 1, i, toks, h, x, hx => by
    unfold cutL at hx
    split at hx
    · split at hx
      · simp at hx
      · rename_i hb
        refine cutL_rules lns t f _ _ ?_ x hx
        split
        · exact h
        · intro y hy
          rcases List.mem_append.1 hy with hy | hy
          · exact h y hy
          · simp only [List.mem_singleton] at hy
            subst hy
            rcases bestL_rule lns t i (lns.length + 1) 0 (0, i) (.inl (Int.le_refl _)) with h1 | h1
            · exact absurd h1 hb
            · exact h1
    · exact h x hx
theorem cutL_err (lns : List Ln) (t : ByteArray) : ∀ (f i : Nat) (toks : List Tk), ((cutL lns t f i toks).2.1 = 9 ∧ (cutL lns t f i toks).1 = []) ∨ ((cutL lns t f i toks).2.1 = 0 ∧ (cutL lns t f i toks).2.2 = 0)
  | 0, _, _ => .inl ⟨rfl, rfl⟩
  | f + 1, i, toks => by
    unfold cutL
    split
    · split
      · exact .inl ⟨rfl, rfl⟩
      · exact cutL_err lns t f _ _
    · exact .inr ⟨rfl, rfl⟩
theorem rules_len (s : ByteArray) : (rulesOf s).length = nR s := by unfold rulesOf nR frontsOf; rw [List.length_map]
theorem cut_kinds (s t : ByteArray) : kindsOk (nR s) ((cutF (rulesOf s) t).1.map Tk.r) = true := by
  unfold kindsOk
  rw [List.all_eq_true]
  intro k hk
  obtain ⟨x, hx, rfl⟩ := List.mem_map.1 hk
  have := cutL_rules (rulesOf s) t _ _ _ (by simp) x hx
  rw [rules_len] at this
  simp; exact this
theorem grwF_err (ps : List Pr) (hs : List Hd) (R H : Nat) : ∀ (l : List Int) (a : Nat) (k : List Sy) (st : List St), ((grwF ps hs R H l a k st).err = 0 ∧ (grwF ps hs R H l a k st).wanted = [] ∧ (grwF ps hs R H l a k st).place = 0) ∨ ((grwF ps hs R H l a k st).err = 10 ∧ (grwF ps hs R H l a k st).st = [])
  | [], a, k, st => by
    unfold grwF
    split
    · exact .inl ⟨rfl, rfl, rfl⟩
    · exact .inr ⟨rfl, rfl⟩
  | t :: l, a, k, st => by
    unfold grwF
    split
    · exact grwF_err ps hs R H l _ _ _
    · exact .inr ⟨rfl, rfl⟩

structure ROut where
  err : Int
  toks : List Tk
  st : List St
  wanted : List Int
  place : Int
def badR (e p : Int) : ROut := ⟨e, [], [], [], p⟩
def runG (s t : ByteArray) (C : List Tk × Int × Int) : ROut :=
  if C.2.1 ≠ 0 then badR C.2.1 C.2.2
  else if 60 < C.1.length then badR 1 0
  else if (growS s (C.1.map Tk.r)).err ≠ 0 then ⟨(growS s (C.1.map Tk.r)).err, [], [], (growS s (C.1.map Tk.r)).wanted, placeF C.1 (growS s (C.1.map Tk.r)).place t.size⟩
  else ⟨0, C.1, (growS s (C.1.map Tk.r)).st, [], 0⟩
def runF (s t : ByteArray) : ROut :=
  if 200 < t.size then badR 1 0
  else if (checkF s).1 ≠ 0 then badR (checkF s).1 0
  else if clashF s ≠ [] then badR 8 0
  else runG s t (cutF (rulesOf s) t)
abbrev outA (vt vn vw : Value) (a : Int) : Array Value := #[vt, vn, vw, .int .i64 a]
theorem out_one (vt vn vw : Value) (a : Int) (h1 : vt.oneCell' = true) (h2 : vn.oneCell' = true) (h3 : vw.oneCell' = true) : (#[vt, vn, vw, Value.int .i64 a] : Array Value).all (·.oneCell') = true :=
  all_oneCell_toArray (cs := [vt, vn, vw, .int .i64 a]) (by intro v hv; simp only [List.mem_cons, List.not_mem_nil, or_false] at hv; rcases hv with rfl | rfl | rfl | rfl; exact h1; exact h2; exact h3; rfl)
abbrev nil3 : Array Value := outA (.slice none 0 0) (.slice none 0 0) (.slice none 0 0) 0

end Go.Proofs.YtakkooidejdfkaaGreat
namespace Go.Proofs.YtakkooidejdfkaaGreat
open Go.RowKit
set_option linter.unusedVariables false
set_option linter.unusedSimpArgs false
theorem own_type {w : World} {B k n : Nat} {e : TypeId} {v : Value} {xs : List Value} (h : w.ownsRow B e k v n xs) {g : Nat} (hg : v.ownBlock = some g) : ∃ cur, w.heap[g]? = some (.cells cur e (0, 0)) := by
  rcases h.2 with ⟨rfl, _⟩ | ⟨g', cap, cur, rfl, _, hb, _⟩
  · simp [Value.ownBlock] at hg
  · simp [Value.ownBlock] at hg
    subst hg
    exact ⟨cur, hb⟩

theorem cutL_len (lns : List Ln) (t : ByteArray) (ht : t.size ≤ 200) : ∀ (f i : Nat) (toks : List Tk), toks.length ≤ i → i ≤ t.size → (cutL lns t f i toks).1.length ≤ t.size
  | 0, _, _, _, _ => by simp [cutL]
  | f + 1, i, toks, h, hi => by
    unfold cutL
    have hb := bestF_bd lns t i
    split
    · split
      · simp
      · rename_i h1 h2
        have hlen : (if skipB lns (bestF lns t i).1 then toks else toks ++ [⟨(bestF lns t i).1, i, (bestF lns t i).2⟩]).length ≤ toks.length + 1 := by
          split
          · omega
          · simp
        refine cutL_len lns t ht f _ _ ?_ ?_
        · omega
        · omega
    · show toks.length ≤ t.size
      omega
theorem cut_len (s t : ByteArray) (ht : t.size ≤ 200) : (cutF (rulesOf s) t).1.length ≤ 1000 := by
  have := cutL_len (rulesOf s) t ht (t.size + 1) 0 [] (by simp) (by omega)
  unfold cutF; omega

theorem parse_any (s : ByteArray) (kinds : List Int) (vk : Value) (w : World) (hs : s.size ≤ maxLen) (hk : IntAt w vk kinds) (hm : kinds.length ≤ maxLen) :
    Calls Tryz.prog 6 #[.string s, vk] w fun e w' => ParRet s (parseF s kinds) w e w' := by
  by_cases hl : 60 < kinds.length
  · have e : parseF s kinds = badG 1 := by unfold parseF; rw [if_pos hl]
    rw [e]; exact parse_long s kinds vk w hk hl hm
  · by_cases hc : (checkF s).1 = 0
    · exact parse_good s kinds vk w hs hk (by omega) hc
    · have e : parseF s kinds = badG (checkF s).1 := by unfold parseF; rw [if_neg hl, if_pos hc]
      rw [e]; exact parse_bad s kinds vk w hs hk (by omega) hc
end Go.Proofs.YtakkooidejdfkaaGreat
