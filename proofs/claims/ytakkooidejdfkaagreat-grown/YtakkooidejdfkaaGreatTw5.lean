import Derived.Test.YtakkooidejdfkaaGreatSg1
import Derived.Laws.MakeOwn
namespace Go.Proofs.YtakkooidejdfkaaGreat
open Go.RowKit
set_option linter.unusedVariables false
set_option linter.unusedSimpArgs false

/-- how many steps the grower has taken -/
def lenV (v : Value) : Nat := match v with
  | .slice _ n _ => n
  | _ => 0
def stW (b : Nat) (w : World) : Nat := match w.heap[b]? with
  | some (.cells c _ _) => lenV (c.getD 5 undef)
  | _ => 0
theorem GA.stW {w : World} {b B : Nat} {R H : Int} {vp vg vk vs : Value} {k : List Sy} {st : List St} (h : GA w b B R H vp vg vk vs k st) : stW b w = st.length := by
  obtain ⟨a, c, hv⟩ := own_form h.ss
  unfold Proofs.YtakkooidejdfkaaGreat.stW
  rw [h.blk, hv]; rfl
/-- the guide in memory, below B -/
structure GdAt (w : World) (gb B : Nat) (fp : Value) (L : List Int) : Prop where
  lt : gb < B
  blk : w.heap[gb]? = some (.cells (gdA fp L) 113 (0, 0))
  len : L.length = 72
theorem GdAt.up {w w' : World} {gb B : Nat} {fp : Value} {L : List Int} (h : GdAt w gb B fp L) (hu : UpB B w w') : GdAt w' gb B fp L :=
  ⟨h.lt, by rw [hu.block gb (heap_lt h.blk) (by have := h.lt; omega)]; exact h.blk, h.len⟩
/-- the choices by the list -/
def chL (L : List Int) (X : Int) (t : Nat) : Int := if 0 ≤ X ∧ X < 8 ∧ t < 9 then L.getD (X.toNat * 9 + t) 0 else -1
/-- the symbols on the stack are symbols -/
def StkIn (R H : Int) (k : List Sy) : Prop := ∀ s ∈ k, 0 ≤ s.num ∧ s.num < (if s.isH then H else R)

attribute [local go_sem ↓] ldY_rule
attribute [local go_sem ↓] apS_rule
set_option maxRecDepth 20000 in
set_option maxHeartbeats 8000000 in
theorem growTo_any (w : World) (b B gb : Nat) (fp : Value) (L : List Int) (R H : Nat) (vp vk vs : Value) (k : List Sy) (st : List St) (ps : List PV) (t F : Nat) (r : List Sy × List St)
    (h : GA w b B R H vp (bptr gb) vk vs k st) (hgd : GdAt w gb B fp L) (hp : PrsAt w B vp ps) (hps : ps.length ≤ 100) (hsy : ∀ p ∈ ps, p.pr.syms.length ≤ 6 ∧ StkIn R H p.pr.syms) (hk0 : StkIn R H k)
    (hR : R ≤ 8) (hH : H ≤ 8) (ht : t < 9) (hB : B ≤ w.heap.size) (hrun : gTo (prsOf ps) (chL L) t F k st = some r) (hrl : r.2.length ≤ 1000000000000) (hkl : k.length + 6 * r.2.length ≤ 100000000000 + 6 * st.length) :
    Calls Tryz.prog 30 #[bptr b, .int .i64 t] w fun e w' => e = .returned (.tuple #[]) ∧ ∃ vk' vs', GA w' b B R H vp (bptr gb) vk' vs' r.1 r.2 ∧ UpB B w w' := by
  obtain ⟨is, his, sz0, sz1, sz2⟩ := infoSt'
  have HG0 := hid h
  have HGD := hid hgd
  have HP := hid hp
  have HSY := hid hsy
  have HRL := hid hrl
  have HRUN := hid hrun
  have HKL := hid hkl
  have HK0 := hid hk0
  have hb0 := h.lt
  have hbB := h.lo
  clear h hgd hp hsy hrl hrun hkl hk0
  go_enter Tryz.func30, Tryz.ntmps30
  go_wp2
  go_loopw [4, 5, 6] (fun _ _ _ wr => ∃ (f : Nat) (k' : List Sy) (st' : List St) (vk' vs' : Value), gTo (prsOf ps) (chL L) t f k' st' = some r ∧ GA wr b B R H vp (bptr gb) vk' vs' k' st' ∧ UpB B w wr ∧ StkIn R H k' ∧ k'.length + 6 * r.2.length ≤ 100000000000 + 6 * st'.length)
      (fun _ _ _ wr => r.2.length + 1 - stW b wr)
  case atStart => exact ⟨F, k, st, vk, vs, HRUN.out, HG0.out, Mod.refl _ w, HK0.out, HKL.out⟩
  case round =>
    obtain ⟨f, k', st', vk', vs', hrun, hG, hU, hKI, hKL⟩ := hrel
    have hst : st'.length ≤ r.2.length := gTo_len _ _ _ _ hrun
    have hrl := HRL.out
    obtain ⟨f, rfl⟩ : ∃ f', f = f' + 1 := by
      cases f with
      | zero => cases hrun
      | succ f => exact ⟨f, rfl⟩
    have hks := hG.ks
    unfold SyOwn at hks
    rw [List.length_reverse] at hks
    obtain ⟨ka, kc, hvk⟩ := own_form hks
    subst hvk
    have k4 := hG.cell 4
    simp at k4
    have hwb := hG.lt
    have hwB : B ≤ wr.heap.size := by have := hU.size; omega
    have HUr := hid hU
    have HGr := hid hG
    cases k' with
    | nil =>
      have hr : r = ([], st') := by simpa [gTo] using hrun.symm
      simp only [List.length_nil] at k4
      have HR := hid hr
      clear hr hrun hG hU hks
      go_wp2
      exact bodyPost_end (results_none rfl _ _ _) rfl ⟨rfl, _, vs', by rw [HR.out]; exact HGr.out, HUr.out⟩
    | cons s K =>
      obtain ⟨sh, sn⟩ := s
      have hs0 := hKI ⟨sh, sn⟩ (by simp)
      have HKI : Hid (StkIn R H K) := fun x hx => hKI x (by simp [hx])
      have hkn : K.length ≤ 100000000000 := by simp at hKL; omega
      have HKLK : Hid (K.length + 1 + 6 * r.2.length ≤ 100000000000 + 6 * st'.length) := by unfold Hid; simpa using hKL
      simp only [List.length_cons] at k4 hks
      have hkl1 : ((K.length : Int) + 1 - 1) = (K.length : Int) := by omega
      obtain ⟨g, cap', hv'⟩ := Joins.ownsRow_form hks (by omega)
      rw [Value.slice.injEq] at hv'
      obtain ⟨rfl, _, rfl⟩ := hv'
      have hkc : K.length + 1 ≤ kc := by
        rcases hks.2 with ⟨h1, _⟩ | ⟨g', c', cur, h1, _, _, h2, _⟩
        · cases h1
        · rw [Value.slice.injEq] at h1
          obtain ⟨_, _, rfl⟩ := h1
          exact h2
      have hkc1 : (K.length : Int) ≤ (kc : Int) := by omega
      have RG : Hid (wr.rangeAt g (K.length * 2) [.bool sh, .int .i64 sn]) := by
        have hrow : RowAt Sy.cells 2 74 wr (.slice (some ⟨g, 0, none⟩) (K.length + 1) kc) (K.reverse ++ [⟨sh, sn⟩]) := ⟨by
          have := ownsRow_base hks (Nat.zero_le B)
          rw [List.length_append, List.length_singleton, List.length_reverse]
          simpa using this, fun _ _ => rfl⟩
        have := hrow.range K.length (by simp)
        unfold Hid
        simpa [Sy.cells] using this
      have hGa := hG.fresh ((Mod.refl _ wr).alloc (.cells #[.bool sh, .int .i64 sn] 74 (0, 0)))
      obtain ⟨G1, U1⟩ := GA.pop (ao := some ⟨g, 0, none⟩) (cap := kc) hGa
      have z4 := hGa.frozen 4
      have y4 := hGa.cell 4
      simp at y4
      generalize hW1 : (wr.alloc (.cells #[.bool sh, .int .i64 sn] 74 (0, 0))).setCell ⟨b, 4, none⟩ (.slice (some ⟨g, 0, none⟩) K.length kc) = W1 at G1 U1
      have hb1 : W1.heap[wr.heap.size]? = some (.cells #[.bool sh, .int .i64 sn] 74 (0, 0)) := by
        rw [← hW1, Proofs.YtakkooidejdfkaaGreat.heap_setCell_other _ (by simp; omega)]; exact heap_alloc_at _ _
      have c0 := cellOf hb1 0
      have c1 := cellOf hb1 1
      simp at c0 c1
      have HG1 := hid G1
      have HU1 : Hid (UpB B wr W1) := Mod.trans ((Mod.refl _ wr).alloc _) U1
      have hW1B : B ≤ W1.heap.size := by have := HU1.out.size; omega
      have hW1b := G1.lt
      have HME : Hid (st'.length < r.2.length → True) := fun _ => trivial
      obtain ⟨sa, sc, hvs⟩ := own_form G1.ss
      subst hvs
      have j5 := G1.cell 5
      have j3 := G1.cell 3
      simp at j5 j3
      have z5 := G1.frozen 5
      have HSS := hid G1.ss
      have hgB := HGD.out.lt
      have hgd1 : W1.heap[gb]? = some (.cells (gdA fp L) 113 (0, 0)) := (HGD.out.up (Mod.trans HUr.out HU1.out)).blk
      have HGD1 := hid hgd1
      clear G1 U1 hGa hG hU hks hb1 hKI hKL HME hgd1
      cases sh
      · simp only [gTo, if_true, Option.some.injEq] at hrun
        have HR := hid hrun.symm
        have hR2 : r.2.length = st'.length + 1 := by rw [HR.out]; simp
        simp only [Bool.false_eq_true, if_false] at hs0
        have h127 : sn ≤ 127 := by omega
        have h00 := hs0.1
        clear hrun hs0
        go_wp2_with (first
          | (refine wpList_load_mid rfl 74 _ rfl g (K.length * 2) rfl [.bool false, .int .i64 sn] _ RG.out Tryz.underlying74 rfl szSy2 ?_))
        have FW : Hid (∀ o : Obj, Fresh W1 (W1.alloc o).drew) := fun o => ((Mod.refl _ W1).alloc o).drew
        obtain ⟨v', w2, hrun, hown, hgrow, hblk⟩ := apS_mine (P := Tryz.prog) (W1.alloc (.cells #[.bool true, .int .i8 sn] 126)).drew B 77 77 126 is _ 2 2 Tryz.underlying77 his sz0 sz1 sz2 rfl (by decide) (.slice sa st'.length sc) st'.length (flatC St.cells st') (ownsRow_other HSS.out (fun g hg => (FW.out _).block g (HSS.out.lt g hg).2 (fun x => x))) ⟨W1.heap.size, 0, none⟩ 1 1 [.bool true, .int .i8 sn] rfl (new_cells rfl) (by intro u hu; simp at hu; rcases hu with rfl | rfl <;> rfl) (by unfold maxLen; omega) (by omega) (by simp [World.drew]; omega)
        have HB := HG1.out.grown5 (FW.out _) hgrow
        have hc2 : w2.cell? ⟨b, 5, none⟩ = some (.slice sa st'.length sc) := (cellOf HB 5)
        have hf2 := frozenOf HB 5
        have HO2 := hid hown
        have HG2 := hid hgrow
        have HBK := hid hblk
        obtain ⟨a', cap', hv'⟩ := own_form hown
        clear hown hgrow hblk HB hW1
        subst hv'
        go_region
        all_goals
          obtain ⟨G3, U3⟩ := HG1.out.step (x := ⟨true, sn⟩) (FW.out _) HO2.out HG2.out HBK.out
          generalize hWW : w2.setCell _ _ = W3 at G3 U3 ⊢
          have HG3 := hid G3
          have HU3 := hid U3
          clear G3 U3 hWW hc2 hf2 hrun
          go_wp2
          exact bodyPost_ret (results_none rfl _ _ _) rfl ⟨rfl, _, _, by rw [HR.out]; exact HG3.out, Mod.trans HUr.out (Mod.trans HU1.out HU3.out)⟩
      · simp only [if_true] at hs0
        obtain ⟨n, rfl⟩ : ∃ n : Nat, sn = n := ⟨sn.toNat, by omega⟩
        have hn8 : n < 8 := by omega
        have hch : chL L n t = L.getD (n * 9 + t) 0 := by
          unfold chL; rw [if_pos ⟨by omega, by omega, ht⟩, Int.toNat_natCast]
        rw [gTo, if_neg (by simp)] at hrun
        simp only [hch] at hrun
        by_cases hc0 : 0 ≤ L.getD (n * 9 + t) 0
        · rw [if_pos hc0] at hrun
          obtain ⟨i, hi⟩ : ∃ i : Nat, L.getD (n * 9 + t) 0 = i := ⟨(L.getD (n * 9 + t) 0).toNat, by omega⟩
          rw [hi, Int.toNat_natCast] at hrun
          cases hpi : (prsOf ps)[i]? with
          | none => rw [hpi] at hrun; cases hrun
          | some p =>
            rw [hpi] at hrun
            simp only [] at hrun
            have hil : i < ps.length := by
              have := (List.getElem?_eq_some_iff.1 hpi).1
              simpa [prsOf] using this
            have hpe : ps[i].pr = p := by
              have := (List.getElem?_eq_some_iff.1 hpi).2
              simpa [prsOf] using this
            have hst1 : st'.length + 1 ≤ r.2.length := by have := gTo_len _ _ _ _ hrun; simpa using this
            have CH : Hid (∀ W : World, W.heap[gb]? = some (.cells (gdA fp L) 113 (0, 0)) → Calls Tryz.prog 52 #[bptr gb, .int .i64 n, .int .i64 t] W fun e w' => e = .returned (.int .i64 i) ∧ w' = W) := fun W hW => by
              have := choose_any W gb fp L HGD.out.len hW n t hn8 ht
              rw [hi] at this; exact this
            have HPe := hid hpe
            have HRUN' := hid hrun
            have hp6 := (HSY.out ps[i] (by simp)).1
            have hpIn := hid (HSY.out ps[i] (by simp)).2
            have hU1s := HU1.out.size
            have OP : Hid (∀ W : World, Fresh W1 W → Calls Tryz.prog 53 #[bptr b, .int .i64 i] W fun e w' => e = .returned (.tuple #[]) ∧ ∃ vk' vs', GA w' b B R H vp (bptr gb) vk' vs' (ps[i].pr.syms ++ K) (st' ++ [⟨false, i⟩]) ∧ UpB B W w') := fun W hW =>
              open_any W b B R H vp (bptr gb) _ _ K st' ps i (HG1.out.fresh hW) ((HP.out.kept hB (Mod.trans HUr.out HU1.out) (fun j h1 h2 => by omega)).kept (by have := HUr.out.size; omega) hW (fun _ _ x => x)) hil hps (by omega) hkn hp6 (by have := hW.size; omega)
            clear hrun hpi hc0 hi hch hpe hs0
            go_wp2_with (first
              | (refine wpList_load_mid rfl 74 _ rfl g (K.length * 2) rfl [.bool true, .int .i64 n] _ RG.out Tryz.underlying74 rfl szSy2 ?_))
            clear hW1
            go_quiet (first
              | (go_at_call 52; refine Calls.quiet_of_same (CH.out _ HGD1.out)))
            go_wp2_with (first
              | (go_at_call 53; refine (OP.out _ (fdrewN' W1 _)).mono ?_; rintro e w' ⟨rfl, vk2, vs2, hG2, hU2⟩; have HGx := hid hG2; have HUx := hid hU2; clear hG2 hU2))
            have HUt : Hid (UpB B w w') := Mod.trans HUr.out (Mod.trans HU1.out (Mod.trans ((fdrewN' W1 nq).mono (fun _ _ x => x.elim)) HUx.out))
            go_roundw
            case rel =>
              refine ⟨f, ps[i].pr.syms ++ K, st' ++ [⟨false, i⟩], vk2, vs2, ?_, HGx.out, HUt.out, ?_, ?_⟩
              · rw [HPe.out]; exact HRUN'.out
              · intro x hx
                rcases List.mem_append.1 hx with hx | hx
                · exact hpIn.out x hx
                · exact HKI.out x hx
              · have := HKLK.out
                simp only [List.length_append, List.length_singleton]; omega
            case measure =>
              rw [HGx.out.stW, HGr.out.stW, List.length_append, List.length_singleton]; omega
        · rw [if_neg hc0] at hrun; cases hrun
end Go.Proofs.YtakkooidejdfkaaGreat
namespace Go.Proofs.YtakkooidejdfkaaGreat
open Go.RowKit
set_option linter.unusedVariables false
set_option linter.unusedSimpArgs false

def hdOr (l : List Int) : Int := match l with
  | [] => -1
  | a :: _ => a
def chT (z : List (Pr × List Bool)) (j : Nat) : Int := hdOr (ovL ((j / 9 : Nat) : Int) ((j % 9 : Nat) : Int) z 0)
def tabL (z : List (Pr × List Bool)) (j : Nat) : List Int := (List.range j).map (chT z) ++ List.replicate (72 - j) 0
theorem tabL_len (z : List (Pr × List Bool)) {j : Nat} (h : j ≤ 72) : (tabL z j).length = 72 := by simp [tabL]; omega
theorem tabL_set (z : List (Pr × List Bool)) {j : Nat} (h : j < 72) : (tabL z j).set j (chT z j) = tabL z (j + 1) := by
  unfold tabL
  rw [List.set_append_right _ _ (by simp)]
  simp only [List.length_map, List.length_range, Nat.sub_self]
  rw [show 72 - j = (72 - (j + 1)) + 1 by omega, List.replicate_succ, List.set_cons_zero, List.range_succ, List.map_append, List.append_assoc]
  rfl
theorem tabL_at (z : List (Pr × List Bool)) {n t : Nat} (hn : n < 8) (ht : t < 9) : (tabL z 72).getD (n * 9 + t) 0 = hdOr (ovL (n : Int) (t : Int) z 0) := by
  have h1 : n * 9 + t < 72 := by omega
  unfold tabL
  simp only [Nat.sub_self, List.replicate_zero, List.append_nil]
  rw [List.getD_eq_getElem?_getD, List.getElem?_map, List.getElem?_range h1]
  simp only [Option.map_some, Option.getD_some, chT]
  rw [show (n * 9 + t) / 9 = n by omega, show (n * 9 + t) % 9 = t by omega]
theorem gd_set (fp : Value) (L : List Int) (j : Nat) (v : Int) : (gdA fp L).setIfInBounds (1 + j) (.int .i64 v) = gdA fp (L.set j v) := by
  unfold gdA
  rw [Nat.add_comm]
  simp [List.map_set]

theorem gd_zero0 : Tryz.zeroCells113.toList.drop 1 = nums (List.replicate 72 0) := by kernel_rfl
theorem gd_zero (b : Nat) : Tryz.zeroCells113.setIfInBounds 0 (bptr b) = gdA (bptr b) (List.replicate 72 0) := by
  apply Array.ext'
  unfold gdA
  rw [Array.toList_setIfInBounds]
  have h := gd_zero0
  cases hq : Tryz.zeroCells113.toList with
  | nil => rw [hq] at h; simp at h
  | cons x l => rw [hq] at h; simp only [List.drop_succ_cons, List.drop_zero] at h; rw [h]; rfl

set_option maxRecDepth 40000 in
set_option maxHeartbeats 8000000 in
theorem newGuide_any (w : World) (R H : Nat) (vp : Value) (ps : List PV) (hp : PrsAt w w.heap.size vp ps) (hps : ps.length ≤ 1000) (hH : H ≤ 1000) (hR : R ≤ 1000) (hok : ∀ x ∈ allF (prsOf ps) (initH R H), x.ok) :
    Calls Tryz.prog 27 #[.agg #[.int .i64 R, .int .i64 H, vp]] w fun e w' => ∃ gb fb vh, e = .returned (bptr gb) ∧ Fresh w w' ∧
      w'.heap[gb]? = some (.cells (gdA (bptr fb) (tabL ((prsOf ps).zip (aheadsF (allF (prsOf ps) (initH R H)) (prsOf ps))) 72)) 113 (0, 0)) ∧ FA w' fb R H vp vh ps (allF (prsOf ps) (initH R H)) := by
  obtain ⟨pa, pc, hvp⟩ := own_form hp.row.own
  subst hvp
  have HP := hid hp
  have FI := hid (find_any' (w.alloc (.cells #[.int .i64 R, .int .i64 H, .slice pa ps.length pc] 51 (0, 0))) R H (.slice pa ps.length pc) ps ((hp.kept (Nat.le_refl _) ((Mod.refl (fun _ => False) w).alloc _) (fun _ _ x => x)).up (by simp)) hps hH hR)
  generalize allF (prsOf ps) (initH R H) = AL at FI hok
  have hzl : ((prsOf ps).zip (aheadsF AL (prsOf ps))).length ≤ 1000 := by simp [aheadsF, prsOf]; omega
  have hal : (aheadsF AL (prsOf ps)).length = ps.length := by simp [aheadsF, prsOf]
  have ha9 : ∀ a ∈ aheadsF AL (prsOf ps), a.length = 9 := fun a ha => by
    obtain ⟨p, _, rfl⟩ := List.mem_map.1 ha
    exact folB_len hok _ _
  generalize hz : (prsOf ps).zip (aheadsF AL (prsOf ps)) = z at hzl ⊢
  have HZ := hid hz
  clear hp hok hz
  go_enter Tryz.func27, Tryz.ntmps27
  go_wp2_with (first
    | (go_at_call 37; refine (findAhead_any w1 b R H (.slice pa ps.length pc) vh ps AL hF1 hps).mono ?_; rintro e w2 ⟨va, rfl, hf2, hoa⟩)
    | (go_at_call 36; refine FI.out.mono ?_; rintro e w1 ⟨b, vh, rfl, hf1, hF1⟩))
  have HBT := hid (hf2.at (hf1.at (heap_alloc_at _ _) (fun x => x)) (fun x => x))
  have HF2 : Hid (Fresh w w2) := Mod.trans ((Mod.refl _ w).alloc _) (hf1.trans hf2)
  have HFA := hid (hF1.fresh hf2)
  have PO := hid (fun (W : World) (hW : Fresh w2 W) (n t : Nat) => prodsOver_any W R H (.slice pa ps.length pc) ps ((HP.out.kept (Nat.le_refl _) (HF2.out.trans hW) (fun _ _ x => x)).up ((HF2.out.trans hW).size)) hps _ (aheadsF AL (prsOf ps)) _ (ownsRow_other hoa (fun g hg => hW.block g (hoa.lt g hg).2 (fun x => x))) hal ha9 (n : Int) (t : Int))
  have hzo := hf2.size
  have hzw := HF2.out.size
  have hwl : w.heap.size < w2.heap.size := heap_lt HBT.out
  rw [HZ.out] at PO
  clear hoa hF1 hf1 hf2 FI hal ha9
  have HGZ := hid (gd_zero b)
  generalize Tryz.zeroCells113.setIfInBounds 0 (bptr b) = GZ at HGZ ⊢
  go_loopw [16] (fun x16 wr => ∃ (n : Nat), x16 = .int .i64 n ∧ n ≤ 8 ∧ Fresh w2 wr ∧ wr.heap[w2.heap.size]? = some (.cells (gdA (bptr b) (tabL z (n * 9))) 113 (0, 0)))
      (fun x _ => 9 - (intOf x).toNat)
  case atStart => exact ⟨0, rfl, by omega, (Mod.refl _ w2).alloc _, by rw [heap_alloc_at, HGZ.out]; rfl⟩
  case round =>
    obtain ⟨n, rfl, hn, hfr, hgb⟩ := hrel
    have HMN := hid (meas (B := 9) n (by omega))
    have HFR := hid hfr
    have HGB := hid hgb
    clear hfr hgb
    by_cases hlt : n < 8
    · have hn1 : (n : Int) < 8 := by omega
      go_wp2
      obtain ⟨wn, hwn⟩ : ∃ wn, wn = wr := ⟨_, rfl⟩
      subst hwn
      go_loopw [19] (fun x19 wr => ∃ (t : Nat), x19 = .int .i64 t ∧ t ≤ 9 ∧ Fresh w2 wr ∧ wr.heap[w2.heap.size]? = some (.cells (gdA (bptr b) (tabL z (n * 9 + t))) 113 (0, 0)))
          (fun x _ => 10 - (intOf x).toNat)
      case atStart => exact ⟨0, rfl, by omega, HFR.out, HGB.out⟩
      case round =>
        obtain ⟨t, rfl, ht, hfr, hgb⟩ := hrel
        have HMT := hid (meas (B := 10) t (by omega))
        have HFT := hid hfr
        have HGT := hid hgb
        by_cases hlt2 : t < 9
        · have ht1 : (t : Int) < 9 := by omega
          have hj : n * 9 + t < 72 := by omega
          have c1 : wr.cell? ⟨w2.heap.size, 1 + n * 9 + t, none⟩ = some (.int .i64 ((tabL z (n * 9 + t)).getD (n * 9 + t) 0)) := by
            rw [cellOf hgb, Nat.add_assoc, gd_at (by rw [tabL_len _ (by omega)]; omega)]
          have z1 := frozenOf hgb (1 + n * 9 + t)
          generalize (tabL z (n * 9 + t)).getD (n * 9 + t) 0 = V0 at c1
          have hb1 : (wr.setCell ⟨w2.heap.size, 1 + n * 9 + t, none⟩ (.int .i64 (-1))).heap[w2.heap.size]? = some (.cells (gdA (bptr b) ((tabL z (n * 9 + t)).set (n * 9 + t) (-1))) 113 (0, 0)) := by
            rw [Proofs.YtakkooidejdfkaaGreat.heap_setCell_same hgb, Nat.add_assoc, gd_set]
          have hf1 : Fresh w2 (wr.setCell ⟨w2.heap.size, 1 + n * 9 + t, none⟩ (.int .i64 (-1))) := hfr.setCell (fun h => absurd h (Nat.lt_irrefl _)) _
          have hsetE : ∀ v, ((tabL z (n * 9 + t)).set (n * 9 + t) (-1)).set (n * 9 + t) v = (tabL z (n * 9 + t)).set (n * 9 + t) v := fun v => List.set_set _
          have HSE := hid hsetE
          have HTS : Hid ((tabL z (n * 9 + t)).set (n * 9 + t) (hdOr (ovL (n : Int) (t : Int) z 0)) = tabL z (n * 9 + t + 1)) := by
            have := tabL_set z hj
            unfold chT at this
            rw [show (n * 9 + t) / 9 = n by omega, show (n * 9 + t) % 9 = t by omega] at this
            exact this
          have hls : ((tabL z (n * 9 + t)).set (n * 9 + t) (-1)).length = 72 := by rw [List.length_set, tabL_len _ (by omega)]
          clear hsetE
          generalize hWW : wr.setCell ⟨w2.heap.size, 1 + n * 9 + t, none⟩ (.int .i64 (-1)) = W1 at hb1 hf1
          have HB1 := hid hb1
          have HF1 := hid hf1
          have POT := hid (PO.out W1 hf1 n t)
          have hbt := hid (hf1.at HBT.out (fun x => x))
          generalize ovL (n : Int) (t : Int) z 0 = able at POT HTS
          clear hfr hgb hf1 hb1
          have t0 := cellOf hbt.out 0
          have t1 := cellOf hbt.out 1
          have t2 := cellOf hbt.out 2
          simp at t0 t1 t2
          cases able with
          | nil =>
            go_wp2_with (first
              | (go_at_call 38; refine POT.out.mono ?_; rintro e w3 ⟨v8, rfl, hf3, ho8⟩; obtain ⟨a8, c8, e8⟩ := own_form ho8; simp only [List.length_nil] at e8; subst e8; have HF3 := hid hf3; clear ho8 hf3 hWW))
            go_roundw
            case rel =>
              refine ⟨t + 1, by go_num, by omega, HF1.out.trans HF3.out, ?_⟩
              rw [← Nat.add_assoc, ← HTS.out]
              exact HF3.out.at HB1.out (fun x => x)
            case measure => exact HMT.out
          | cons a r =>
            have hrl : (0 : Int) < (r.length : Int) + 1 := by omega
            go_wp2_with (first
              | (go_at_call 38; refine POT.out.mono ?_; rintro e w3 ⟨v8, rfl, hf3, ho8⟩; obtain ⟨a8, c8, e8⟩ := own_form ho8; simp only [List.length_cons] at e8; subst e8; have HO8 := hid ho8; have HF3 := hid hf3; clear ho8 hf3 hWW))
            obtain ⟨g8, c8', hv8⟩ := Joins.ownsRow_form HO8.out (by simp)
            rw [Value.slice.injEq] at hv8
            obtain ⟨rfl, hx8, rfl⟩ := hv8
            clear hx8
            have d0 : w3.cell? ⟨g8, 0, none⟩ = some (.int .i64 a) := intOwn_cell HO8.out 0 (by simp)
            have hb3 := HF3.out.at HB1.out (fun x => x)
            have d1 : w3.cell? ⟨w2.heap.size, 1 + n * 9 + t, none⟩ = some (.int .i64 (((tabL z (n * 9 + t)).set (n * 9 + t) (-1)).getD (n * 9 + t) 0)) := by
              rw [cellOf hb3, Nat.add_assoc, gd_at (by omega)]
            have y1 := frozenOf hb3 (1 + n * 9 + t)
            have HB3 := hid hb3
            generalize ((tabL z (n * 9 + t)).set (n * 9 + t) (-1)).getD (n * 9 + t) 0 = V1 at d1
            clear hb3
            go_region
            all_goals
              go_wp2
              go_roundw
              case rel =>
                refine ⟨t + 1, by go_num, by omega, ?_, ?_⟩
                · exact ((HF1.out.trans HF3.out).setCell (fun h => absurd h (Nat.lt_irrefl _)) _).drew
                · rw [← Nat.add_assoc, ← HTS.out]
                  show (w3.setCell _ _).heap[w2.heap.size]? = _
                  rw [Proofs.YtakkooidejdfkaaGreat.heap_setCell_same HB3.out, Nat.add_assoc, gd_set, HSE.out]
                  rfl
              case measure => exact HMT.out
        · have ht9 : t = 9 := by omega
          have ht2 : ¬ ((t : Int) < 9) := by omega
          clear hfr hgb
          go_wp2
          go_roundw
          case rel => exact ⟨n + 1, by go_num, by omega, HFT.out, by rw [show (n + 1) * 9 = n * 9 + t by omega]; exact HGT.out⟩
          case measure => exact HMN.out
    · have hn8 : n = 8 := by omega
      subst hn8
      go_wp2
      go_ret
      exact ⟨_, b, vh, rfl, HF2.out.trans HFR.out, HGB.out, HFA.out.fresh HFR.out⟩
end Go.Proofs.YtakkooidejdfkaaGreat
namespace Go.Proofs.YtakkooidejdfkaaGreat
open Go.RowKit
set_option linter.unusedVariables false
set_option linter.unusedSimpArgs false

section
variable {α : Type} {cells : α → List Value} {k : Nat}
theorem flat_setX {l : List α} (hw : ∀ x, (cells x).length = k) (hk0 : 0 < k) {x : α} {i : Nat} (hi : i < l.length) (j : Nat) :
    (flatC cells (l.set i x))[j]? = if i * k ≤ j ∧ j < i * k + k then (cells x)[j - i * k]? else (flatC cells l)[j]? := by
  have l1 := flat_len cells k (xs := l) (fun x _ => hw x)
  have l2 := flat_len cells k (xs := l.set i x) (fun x _ => hw x)
  rw [List.length_set] at l2
  have hik : i * k + k ≤ l.length * k := by
    have : (i + 1) * k ≤ l.length * k := Nat.mul_le_mul_right k hi
    rw [Nat.add_mul, Nat.one_mul] at this; exact this
  by_cases hj : j < l.length * k
  · have hq : j / k < l.length := Nat.div_lt_of_lt_mul (by rw [Nat.mul_comm]; exact hj)
    have hr : j % k < k := Nat.mod_lt _ hk0
    have e : j / k * k + j % k = j := by rw [Nat.mul_comm]; exact Nat.div_add_mod j k
    have a1 := flat_at cells k (xs := l) (fun x _ => hw x) (j / k) (j % k) hq hr
    have a2 := flat_at cells k (xs := l.set i x) (fun x _ => hw x) (j / k) (j % k) (by simpa using hq) hr
    rw [e] at a1 a2
    rw [a1, a2, List.getElem_set]
    by_cases hk2 : i = j / k
    · rw [if_pos hk2, if_pos ⟨by rw [hk2]; omega, by rw [hk2]; omega⟩]
      congr 1; rw [hk2]; omega
    · rw [if_neg hk2, if_neg]
      rintro ⟨h1, h2⟩
      apply hk2
      have hd : j = k * i + (j - i * k) := by rw [Nat.mul_comm k i]; omega
      have hlt : j - i * k < k := by omega
      rw [hd, Nat.mul_add_div hk0, Nat.div_eq_of_lt hlt]; omega
  · rw [List.getElem?_eq_none (by omega), if_neg (by omega), List.getElem?_eq_none (by omega)]
/-- a row behind a store of one of its things -/
theorem own_set {w : World} {B g n cap : Nat} {e : TypeId} {l : List α} (hw : ∀ x, (cells x).length = k) (hk0 : 0 < k) (h : w.ownsRow B e k (.slice (some ⟨g, 0, none⟩) n cap) l.length (flatC cells l)) {i : Nat} (hi : i < l.length) (x : α) :
    (w.setCells g (i * k) (cells x)).ownsRow B e k (.slice (some ⟨g, 0, none⟩) n cap) (l.set i x).length (flatC cells (l.set i x)) := by
  have l2 := flat_len cells k (xs := l.set i x) (fun x _ => hw x)
  have hik : i * k + k ≤ l.length * k := by
    have : (i + 1) * k ≤ l.length * k := Nat.mul_le_mul_right k hi
    rw [Nat.add_mul, Nat.one_mul] at this; exact this
  obtain ⟨h1, h2⟩ := h
  refine ⟨l2, ?_⟩
  rcases h2 with ⟨h2, _⟩ | ⟨g', cap', cur, e1, e2, e3, e4, e5, e6, e7⟩
  · cases h2
  · rw [Value.slice.injEq] at e1
    obtain ⟨eg, rfl, rfl⟩ := e1
    have eg' : g = g' := by simpa using eg
    subst eg'
    have hmul : l.length * k ≤ cap * k := Nat.mul_le_mul_right _ e4
    refine .inr ⟨g, cap, setArr cur (i * k) (cells x), by rw [List.length_set], e2, heap_setCells_same _ _ _ _ _ _ _ e3, by rw [List.length_set]; exact e4, e5, by rw [setArr_size]; exact e6, ?_⟩
    apply List.ext_getElem?
    intro j
    rw [flat_setX hw hk0 hi, ← e7, List.length_set]
    by_cases hj : j < l.length * k
    · rw [List.getElem?_take_of_lt hj, List.getElem?_take_of_lt hj, Array.getElem?_toList, Array.getElem?_toList, setArr_at _ _ _ _ (by rw [hw]; omega), hw]
      simp
    · rw [List.getElem?_eq_none (by simp; omega), if_neg (by omega), List.getElem?_eq_none (by simp; omega)]
/-- a row behind a store of one cell of one of its things -/
theorem own_setC {w : World} {B g n cap : Nat} {e : TypeId} {l : List α} (hw : ∀ x, (cells x).length = k) (hk0 : 0 < k) (h : w.ownsRow B e k (.slice (some ⟨g, 0, none⟩) n cap) l.length (flatC cells l)) {i o : Nat} (hi : i < l.length) (ho : o < k) (v : Value) (x : α)
    (hx : cells x = (cells l[i]).set o v) :
    (w.setCell ⟨g, i * k + o, none⟩ v).ownsRow B e k (.slice (some ⟨g, 0, none⟩) n cap) (l.set i x).length (flatC cells (l.set i x)) := by
  have l2 := flat_len cells k (xs := l.set i x) (fun x _ => hw x)
  have hik : i * k + k ≤ l.length * k := by
    have : (i + 1) * k ≤ l.length * k := Nat.mul_le_mul_right k hi
    rw [Nat.add_mul, Nat.one_mul] at this; exact this
  obtain ⟨h1, h2⟩ := h
  refine ⟨l2, ?_⟩
  rcases h2 with ⟨h2, _⟩ | ⟨g', cap', cur, e1, e2, e3, e4, e5, e6, e7⟩
  · cases h2
  · rw [Value.slice.injEq] at e1
    obtain ⟨eg, rfl, rfl⟩ := e1
    have eg' : g = g' := by simpa using eg
    subst eg'
    have hmul : l.length * k ≤ cap * k := Nat.mul_le_mul_right _ e4
    refine .inr ⟨g, cap, cur.setIfInBounds (i * k + o) v, by rw [List.length_set], e2, Proofs.YtakkooidejdfkaaGreat.heap_setCell_same e3 _ _, by rw [List.length_set]; exact e4, e5, by simpa using e6, ?_⟩
    apply List.ext_getElem?
    intro j
    rw [flat_setX hw hk0 hi, List.length_set, hx]
    by_cases hj : j < l.length * k
    · have hc : cur.toList[j]? = (flatC cells l)[j]? := by rw [← e7, List.getElem?_take_of_lt hj]
      rw [List.getElem?_take_of_lt hj, Array.getElem?_toList, Array.getElem?_setIfInBounds, ← Array.getElem?_toList, hc]
      by_cases hin : i * k ≤ j ∧ j < i * k + k
      · rw [if_pos hin, List.getElem?_set]
        have hfa := flat_at cells k (xs := l) (fun x _ => hw x) i (j - i * k) hi (by omega)
        rw [show i * k + (j - i * k) = j by omega] at hfa
        by_cases ho2 : o = j - i * k
        · rw [if_pos (by omega), if_pos ho2, if_pos (by omega), if_pos (by rw [hw]; omega)]
        · rw [if_neg (by omega), if_neg ho2, hfa]
      · rw [if_neg hin, if_neg (by omega)]
    · rw [List.getElem?_eq_none (by simp; omega), if_neg (by omega), List.getElem?_eq_none]
      rw [flat_len cells k (xs := l) (fun x _ => hw x)]; omega
end
theorem Nd.cells_len (n : Nd) : n.cells.length = 4 := rfl

set_option maxRecDepth 20000 in
set_option maxHeartbeats 2000000 in
theorem childrenOf_any (w : World) (R H : Int) (vp vn : Value) (ps : List PV) (l : List Nd) (i : Nat) (hp : PrsAt w w.heap.size vp ps) (hn : NdsAt w vn l) (hi : i < l.length) (hps : ps.length ≤ 1000) :
    Calls Tryz.prog 65 #[.agg #[.int .i64 R, .int .i64 H, vp], vn, .int .i64 i] w fun e w' => e = .returned (.int .i64 (arF (prsOf ps) l[i])) ∧ Fresh w w' := by
  obtain ⟨pa, pc, hvp⟩ := own_form hp.row.own
  subst hvp
  obtain ⟨na, nc, hvn⟩ := own_form hn.own
  subst hvn
  obtain ⟨g, c', hg⟩ := Joins.ownsRow_form hn.own (by omega)
  rw [Value.slice.injEq] at hg
  obtain ⟨rfl, _, rfl⟩ := hg
  have hgl := (hn.own.lt g rfl).2
  have c0 : w.cell? ⟨g, i * 4, none⟩ = some (.int .i64 l[i].prod) := hn.cell i 0 hi (by omega)
  have hi1 : (i : Int) < (l.length : Int) := by omega
  have hi2 : ¬ (l.length ≤ i) := by omega
  have HP := hid hp
  generalize hX : arF (prsOf ps) l[i] = X
  unfold arF at hX
  generalize l[i].prod = pr at c0 hX
  clear hn hp
  by_cases h0 : pr < 0
  · rw [if_pos h0] at hX
    subst hX
    go_enter Tryz.func65, Tryz.ntmps65
    go_wp2
    go_ret
    exact ⟨rfl, (Mod.refl _ w).alloc _⟩
  · rw [if_neg h0] at hX
    obtain ⟨q, rfl⟩ : ∃ q : Nat, pr = q := ⟨pr.toNat, by omega⟩
    rw [Int.toNat_natCast] at hX
    by_cases hq : q < ps.length
    · have hq1 : (q : Int) < (ps.length : Int) := by omega
      have hq2 : ¬ (ps.length ≤ q) := by omega
      have e : (prsOf ps)[q]? = some ps[q].pr := by simp [prsOf, hq]
      rw [e] at hX
      simp only [] at hX
      subst hX
      obtain ⟨gp, c2, hg2⟩ := Joins.ownsRow_form HP.out.row.own (by omega)
      rw [Value.slice.injEq] at hg2
      obtain ⟨rfl, _, rfl⟩ := hg2
      have hpl := (HP.out.row.own.lt gp rfl).2
      have c1 : w.cell? ⟨gp, q * 2 + 1, none⟩ = some ps[q].vs := HP.out.row.cell q 1 hq (by omega)
      obtain ⟨sa, sc, hsv, _⟩ := HP.out.syms ps[q] (by simp)
      rw [hsv] at c1
      clear hsv e
      generalize ps[q].pr.syms.length = N at c1
      go_enter Tryz.func65, Tryz.ntmps65
      go_wp2
      go_ret
      exact ⟨rfl, (Mod.refl _ w).alloc _⟩
    · have hq1 : ¬ (q : Int) < (ps.length : Int) := by omega
      have hq2 : ps.length ≤ q := by omega
      have e : (prsOf ps)[q]? = none := by simp [prsOf]; omega
      rw [e] at hX
      simp only [] at hX
      subst hX
      clear e
      go_enter Tryz.func65, Tryz.ntmps65
      go_wp2
      go_ret
      exact ⟨rfl, (Mod.refl _ w).alloc _⟩

set_option maxRecDepth 20000 in
set_option maxHeartbeats 4000000 in
theorem sizeOf_any (w : World) (R H : Int) (vp vn : Value) (ps : List PV) (l : List Nd) (i : Nat) (S : List Nat) (hp : PrsAt w w.heap.size vp ps) (hn : NdsAt w vn l) (hi : i < l.length) (hps : ps.length ≤ 1000) (hll : l.length ≤ 1000000000000)
    (hS : S.length + i + 1 = l.length) (hz : ∀ (j d : Nat), S[j]? = some d → ∃ x : Nd, l[i + 1 + j]? = some x ∧ x.size = (d : Int)) (hb : ∀ (j d : Nat), S[j]? = some d → 1 ≤ d ∧ j + d ≤ S.length) (har : arF (prsOf ps) l[i] ≤ 1000) :
    Calls Tryz.prog 54 #[.agg #[.int .i64 R, .int .i64 H, vp], vn, .int .i64 i] w fun e w' => e = .returned (.int .i64 (szL S (arF (prsOf ps) l[i]) 1)) ∧ Fresh w w' := by
  have CO := hid (fun W (hW : Fresh w W) => childrenOf_any W R H vp vn ps l i ((hp.kept (Nat.le_refl _) hW (fun _ _ x => x)).up hW.size) (hn.fresh hW) hi hps)
  obtain ⟨pa, pc, hvp⟩ := own_form hp.row.own
  subst hvp
  obtain ⟨na, nc, hvn⟩ := own_form hn.own
  subst hvn
  obtain ⟨g, c', hg⟩ := Joins.ownsRow_form hn.own (by omega)
  rw [Value.slice.injEq] at hg
  obtain ⟨rfl, _, rfl⟩ := hg
  have HN := hid hn
  have HZ := hid hz
  have HBd := hid hb
  have HSL := hid hS
  generalize arF (prsOf ps) l[i] = A at CO har
  generalize hRES : szL S A 1 = RES
  have HRES := hid hRES
  have hT : (w.alloc (.cells #[.int .i64 R, .int .i64 H, .slice pa ps.length pc] 51 (0, 0))).heap[w.heap.size]? = _ := heap_alloc_at _ _
  have t0 := cellOf hT 0
  have t1 := cellOf hT 1
  have t2 := cellOf hT 2
  simp at t0 t1 t2
  clear hp hn hz hb hS hRES hT
  go_enter Tryz.func54, Tryz.ntmps54
  go_wp2_with (first
    | (go_at_call 65; refine (CO.out _ ((Mod.refl _ w).alloc _)).mono ?_; rintro e w1 ⟨rfl, hf1⟩))
  have HF1 : Hid (Fresh w w1) := Mod.trans ((Mod.refl _ w).alloc _) hf1
  clear hf1 t0 t1 t2
  go_loopw [7, 8] (fun x7 x8 wr => ∃ (z f : Nat), x7 = .int .i64 z ∧ x8 = .int .i64 f ∧ szL S f z = RES ∧ 1 ≤ z ∧ z ≤ S.length + 1 ∧ f ≤ 1000 ∧ wr = w1)
      (fun _ x _ => (intOf x).toNat)
  case atStart => exact ⟨1, A, rfl, rfl, HRES.out, by omega, by omega, har, rfl⟩
  case round =>
    obtain ⟨z, f, rfl, rfl, hres, hz1, hz2, hf, hwr⟩ := hrel
    subst hwr
    have hSL := HSL.out
    have hSb : S.length + i ≤ 1000000000000 := by omega
    by_cases hf0 : f = 0
    · subst hf0
      have hr : z = RES := hres
      have HR := hid hr
      clear hres hr hSL
      go_wp2
      go_ret
      exact ⟨by rw [HR.out]; rfl, HF1.out⟩
    · obtain ⟨f', rfl⟩ : ∃ f', f = f' + 1 := ⟨f - 1, by omega⟩
      unfold szL at hres
      by_cases hlt : z ≤ S.length
      · have hz0 : z - 1 < S.length := by omega
        rw [List.getElem?_eq_getElem hz0] at hres
        simp only [] at hres
        have hbd := HBd.out (z - 1) S[z - 1] (List.getElem?_eq_getElem hz0)
        obtain ⟨x, hx1, hx2⟩ := HZ.out (z - 1) S[z - 1] (List.getElem?_eq_getElem hz0)
        rw [show i + 1 + (z - 1) = i + z by omega] at hx1
        have hl1 : i + z < l.length := by omega
        have c3 : wr.cell? ⟨g, (i + z) * 4 + 3, none⟩ = some (.int .i64 (l[i + z]'hl1).size) := (HN.out.fresh HF1.out).cell (i + z) 3 hl1 (by omega)
        rw [List.getElem?_eq_getElem hl1, Option.some.injEq] at hx1
        rw [hx1, hx2] at c3
        have hl2 : (i : Int) + (z : Int) < (l.length : Int) := by omega
        generalize S[z - 1] = d at hres hbd c3
        have hf1 : (0 : Int) < (f' : Int) + 1 := by omega
        have HRS := hid hres
        have HME : Hid ((intOf (Value.int .i64 (f' : Int))).toNat < (intOf (Value.int .i64 ((f' + 1 : Nat) : Int))).toNat) := by unfold Hid; simp [intOf]
        clear hres hx1 hx2 hSL
        go_wp2
        go_roundw
        case rel => exact ⟨z + d, f', by go_num, by go_num, HRS.out, by omega, by omega, by omega, by first | rfl | trivial⟩
        case measure => exact HME.out
      · have hn : S[z - 1]? = none := List.getElem?_eq_none (by omega)
        rw [hn] at hres
        have hr : z = RES := hres
        have HR := hid hr
        have hl2 : ¬ ((i : Int) + (z : Int) < (l.length : Int)) := by omega
        have hl3 : decide ((i : Int) + (z : Int) < (l.length : Int)) = false := by simpa using hl2
        have hf1 : (0 : Int) < (f' : Int) + 1 := by omega
        clear hres hr hSL hn
        go_wp2
        go_ret
        exact ⟨by rw [HR.out]; rfl, HF1.out⟩
end Go.Proofs.YtakkooidejdfkaaGreat
namespace Go.Proofs.YtakkooidejdfkaaGreat
open Go.RowKit
set_option linter.unusedVariables false
set_option linter.unusedSimpArgs false

def zeroNd : Nd := ⟨0, 0, 0, 0⟩
def fillL {α : Type} (z : α) (D : List α) (n i : Nat) : List α := D.take i ++ List.replicate (n - i) z
theorem fillL_len {α : Type} (z : α) {D : List α} {n i : Nat} (h : D.length = n) (hi : i ≤ n) : (fillL z D n i).length = n := by simp [fillL]; omega
theorem fillL_set {α : Type} (z : α) {D : List α} {n i : Nat} (h : D.length = n) (hi : i < D.length) : (fillL z D n i).set i D[i] = fillL z D n (i + 1) := by
  unfold fillL
  rw [List.set_append_right _ _ (by simp; omega)]
  rw [show i - (D.take i).length = 0 by simp; omega, show n - i = (n - (i + 1)) + 1 by omega, List.replicate_succ, List.set_cons_zero, takeS hi, List.append_assoc]
  rfl
def joinL {α : Type} (D E : List α) (m : Nat) : List α := D.take m ++ E.drop m
theorem joinL_len {α : Type} {D E : List α} {n m : Nat} (h : D.length = n) (h2 : E.length = n) (hm : m ≤ n) : (joinL D E m).length = n := by simp [joinL]; omega
theorem joinL_set {α : Type} {D E : List α} {n m : Nat} (h : D.length = n) (h2 : E.length = n) (hm : m < E.length) : (joinL D E (m + 1)).set m E[m] = joinL D E m := by
  unfold joinL
  rw [takeS (by omega), List.append_assoc, List.set_append_right _ _ (by simp; omega)]
  rw [show m - (D.take m).length = 0 by simp; omega, List.singleton_append, List.set_cons_zero, ← List.drop_eq_getElem_cons hm]
theorem joinL_at {α : Type} {D E : List α} {n m : Nat} (h : D.length = n) (h2 : E.length = n) (hm : m < D.length) : (joinL D E (m + 1))[m]? = some D[m] := by
  unfold joinL
  rw [List.getElem?_append_left (by simp; omega), List.getElem?_take_of_lt (by omega), List.getElem?_eq_getElem hm]
theorem joinL_after {α : Type} {D E : List α} {n m j : Nat} (h : D.length = n) (h2 : E.length = n) (hm : m ≤ n) : (joinL D E m)[m + j]? = E[m + j]? := by
  unfold joinL
  rw [List.getElem?_append_right (by simp; omega), List.getElem?_drop]
  congr 1; simp; omega
theorem nodesF_at (ps : List Pr) (st : List St) {j : Nat} (hj : j < st.length) {d : Nat} (hd : (sizesF ps (ndL st 0))[j]? = some d) : ∃ x, (ndL st 0)[j]? = some x ∧ (nodesF ps st)[j]? = some (setSz x d) := by
  have h1 : j < (ndL st 0).length := by rw [ndL_len]; exact hj
  refine ⟨(ndL st 0)[j], List.getElem?_eq_getElem h1, ?_⟩
  unfold nodesF
  rw [List.getElem?_zipWith, List.getElem?_eq_getElem h1, hd]

section
variable {α : Type} {cells : α → List Value} {k : Nat}
theorem own_there {w : World} {B g n cap : Nat} {e : TypeId} {l : List α} (hw : ∀ x, (cells x).length = k) (h : w.ownsRow B e k (.slice (some ⟨g, 0, none⟩) n cap) l.length (flatC cells l)) {i : Nat} (hi : i < l.length) : w.there g (i * k) k := by
  intro j hj
  have hr : RowAt cells k e w (.slice (some ⟨g, 0, none⟩) n cap) l := ⟨ownsRow_base h (Nat.zero_le _), fun x _ => hw x⟩
  have hc := hr.cell i j hi hj
  refine ⟨by rw [hc]; simp [hw, hj], ?_⟩
  obtain ⟨_, h2⟩ := h
  rcases h2 with ⟨h2, _⟩ | ⟨g', cap', cur, e1, e2, e3, _⟩
  · cases h2
  · rw [Value.slice.injEq] at e1
    obtain ⟨eg, _, _⟩ := e1
    have eg' : g = g' := by simpa using eg
    subst eg'
    exact frozenOf e3 _
end
theorem infoNd : (Tryz.prog.info? 59).map (fun i => (i.zero, i.size, i.bytes)) = some (some (.agg #[.int .i64 0, .int .i64 0, .int .i64 0, .int .i64 0]), 4, 32) := by kernel_rfl
theorem infoNd' : ∃ i, Tryz.prog.info? 59 = some i ∧ i.zero = some (.agg #[.int .i64 0, .int .i64 0, .int .i64 0, .int .i64 0]) ∧ i.size = 4 ∧ i.bytes = 32 := by
  have h := infoNd
  cases hq : Tryz.prog.info? 59 with
  | none => simp [hq] at h
  | some i => simp [hq] at h; exact ⟨i, rfl, h.1, h.2.1, h.2.2⟩
theorem made_nodes (n : Nat) : (madeCells #[Value.int .i64 0, .int .i64 0, .int .i64 0, .int .i64 0] (n * 4)).toList = flatC Nd.cells (List.replicate n zeroNd) := by
  apply List.ext_getElem?
  intro j
  have hl := flat_len Nd.cells 4 (xs := List.replicate n zeroNd) (fun x _ => rfl)
  rw [List.length_replicate] at hl
  have hz : ∀ r, r < 4 → (#[Value.int .i64 0, .int .i64 0, .int .i64 0, .int .i64 0] : Array Value)[r]! = .int .i64 0 := by
    intro r hr
    rcases r with _ | _ | _ | _ | r
    all_goals first | rfl | omega
  by_cases hj : j < n * 4
  · have hq : j / 4 < n := by omega
    have hr : j % 4 < 4 := Nat.mod_lt _ (by omega)
    have a1 := flat_at Nd.cells 4 (xs := List.replicate n zeroNd) (fun x _ => rfl) (j / 4) (j % 4) (by simpa using hq) hr
    rw [show j / 4 * 4 + j % 4 = j by omega] at a1
    rw [a1, List.getElem_replicate]
    unfold madeCells
    simp only [Array.toList_map, List.getElem?_map, Array.toList_range, List.getElem?_range hj, Option.map_some]
    have e : (#[Value.int .i64 0, .int .i64 0, .int .i64 0, .int .i64 0] : Array Value).size = 4 := rfl
    rw [e, hz _ hr]
    generalize j % 4 = r at hr
    rcases r with _ | _ | _ | _ | r
    all_goals first | rfl | omega
  · rw [List.getElem?_eq_none (by simp [madeCells]; omega), List.getElem?_eq_none (by omega)]

def stN (p v : Value) : Sem Unit := Instr.storeAt 59 p v
theorem stN_rule (p v : Value) : Instr.storeAt 59 p v = stN p v := rfl
theorem nd_one (a b c d : Int) : (#[Value.int .i64 a, .int .i64 b, .int .i64 c, .int .i64 d] : Array Value).all (·.oneCell') = true :=
  all_oneCell_toArray (cs := [.int .i64 a, .int .i64 b, .int .i64 c, .int .i64 d]) (by intro v hv; simp only [List.mem_cons, List.not_mem_nil, or_false] at hv; rcases hv with rfl | rfl | rfl | rfl <;> rfl)
theorem szStp : (Tryz.prog.info? 126).map (·.size) = some 2 := by kernel_rfl

attribute [local go_sem ↓] stN_rule
set_option maxRecDepth 20000 in
set_option maxHeartbeats 8000000 in
theorem writeDown_any (w : World) (R H : Int) (vp vs : Value) (ps : List PV) (st : List St) (hp : PrsAt w w.heap.size vp ps) (hst : RowAt St.cells 2 126 w vs st) (hnum : ∀ s ∈ st, 0 ≤ s.num ∧ s.num ≤ 127) (hl : st.length ≤ 1000000000000)
    (hps : ps.length ≤ 1000) (har : ∀ p ∈ ps, p.pr.syms.length ≤ 1000) :
    Calls Tryz.prog 31 #[.agg #[.int .i64 R, .int .i64 H, vp], vs] w fun e w' => ∃ v, e = .returned v ∧ Fresh w w' ∧ NdOwn w' w.heap.size v (nodesF (prsOf ps) st) := by
  obtain ⟨i0, hi0, iz0, iz1, iz2⟩ := infoNd'
  obtain ⟨pa, pc, hvp⟩ := own_form hp.row.own
  subst hvp
  obtain ⟨sa, sc, hvs⟩ := own_form hst.own
  subst hvs
  have HP := hid hp
  have HST := hid hst
  have HNM := hid hnum
  have HAR : Hid (∀ x : Nd, arF (prsOf ps) x ≤ 1000) := fun x => by
    unfold arF
    split
    · omega
    · split
      · rename_i p hq
        obtain ⟨y, hy, rfl⟩ := List.mem_map.1 (List.mem_of_getElem? hq)
        exact har y hy
      · omega
  have mk : ∀ w : World, (Instr.makeSlice 26 (.int .i64 st.length) (.int .i64 st.length)).run Tryz.prog w = .ok (.slice (some ⟨w.heap.size, 0, none⟩) st.length st.length) (w.alloc (.cells (madeCells #[.int .i64 0, .int .i64 0, .int .i64 0, .int .i64 0] (st.length * 4)) 59)) := fun w => by
    have h := run_make (P := Tryz.prog) w 26 59 i0 _ Tryz.underlying26 hi0 iz0 .i64 .i64 (st.length : Int) (st.length : Int) (by omega) (Int.le_refl _) (by rw [iz2]; omega) (by omega)
    rw [iz1, Int.toNat_natCast] at h
    exact h
  have HMN := hid (made_nodes st.length)
  generalize madeCells #[Value.int .i64 0, .int .i64 0, .int .i64 0, .int .i64 0] (st.length * 4) = MC at mk HMN
  clear hp hst hnum har
  go_enter Tryz.func31, Tryz.ntmps31
  go_wp2
  have hNDl : (ndL st 0).length = st.length := ndL_len st 0
  have HSZ := hid (fun (j d : Nat) (h : (sizesF (prsOf ps) (ndL st 0))[j]? = some d) => sizesF_bd (prsOf ps) (ndL st 0) j d h)
  have HSA := hid (sizesF_at (prsOf ps) (ndL st 0))
  have HSN := hid (sizesF_len (prsOf ps) (ndL st 0))
  have HNA := hid (fun (j : Nat) (hj : j < st.length) (d : Nat) => nodesF_at (prsOf ps) st hj (d := d))
  have hNFl := nodesF_len (prsOf ps) st
  have HD0 : Hid (ndL (st.drop 0) 0 = (ndL st 0).drop 0) := rfl
  generalize ndL st 0 = ND at hNDl HSZ HSA HSN HNA HD0
  generalize hSZ : sizesF (prsOf ps) ND = SZ at HSZ HSA HSN HNA
  generalize hNF : nodesF (prsOf ps) st = NF at hNFl HNA
  have HNF := hid hNF
  clear hSZ hNF
  have HND := hid hNDl
  have HNFL := hid hNFl
  have HW0 : Hid (Fresh w ((w.alloc (.cells #[.int .i64 R, .int .i64 H, .slice pa ps.length pc] 51 (0, 0))).alloc (.cells MC 59 (0, 0)))) := ((Mod.refl _ w).alloc _).alloc _
  have HT0 : Hid (((w.alloc (.cells #[.int .i64 R, .int .i64 H, .slice pa ps.length pc] 51 (0, 0))).alloc (.cells MC 59 (0, 0))).heap[w.heap.size]? = some (.cells #[.int .i64 R, .int .i64 H, .slice pa ps.length pc] 51 (0, 0))) := heap_alloc_prev (heap_alloc_at _ _)
  have HO0 : Hid (NdOwn ((w.alloc (.cells #[.int .i64 R, .int .i64 H, .slice pa ps.length pc] 51 (0, 0))).alloc (.cells MC 59 (0, 0))) w.heap.size (.slice (some ⟨w.heap.size + 1, 0, none⟩) st.length st.length) (fillL zeroNd ND st.length 0)) := by
    have hf : fillL zeroNd ND st.length 0 = List.replicate st.length zeroNd := by simp [fillL]
    have hfl := flat_len Nd.cells 4 (xs := List.replicate st.length zeroNd) (fun x _ => rfl)
    rw [hf]
    refine ⟨by rw [hfl], .inr ⟨w.heap.size + 1, st.length, MC, by simp, by omega, ?_, by simp, by unfold maxLen; omega, ?_, ?_⟩⟩
    · have := heap_alloc_at (w.alloc (.cells #[.int .i64 R, .int .i64 H, .slice pa ps.length pc] 51 (0, 0))) (.cells MC 59 (0, 0))
      simpa using this
    · have := congrArg List.length HMN.out
      rw [hfl] at this; simpa using this
    · rw [HMN.out, List.take_of_length_le (by rw [hfl]; exact Nat.le_refl _)]
  clear hNDl hNFl
  go_loopw [6, 16] (fun x6 x16 wr => ∃ (i c : Nat), x16 = .int .i64 i ∧ x6 = .int .i64 c ∧ i ≤ st.length ∧ c ≤ i ∧ ndL (st.drop i) c = ND.drop i ∧ Fresh w wr ∧ wr.heap[w.heap.size]? = some (.cells #[.int .i64 R, .int .i64 H, .slice pa ps.length pc] 51 (0, 0)) ∧ NdOwn wr w.heap.size (.slice (some ⟨w.heap.size + 1, 0, none⟩) st.length st.length) (fillL zeroNd ND st.length i))
      (fun _ x _ => 1000000000001 - (intOf x).toNat)
  case atStart => exact ⟨0, 0, rfl, rfl, by omega, by omega, HD0.out, HW0.out, HT0.out, HO0.out⟩
  case round =>
    clear mk HD0 HW0 HT0 HO0 HMN
    obtain ⟨i, c, rfl, rfl, hi, hc, hnd, hfr, htb, hown⟩ := hrel
    have HME := hid (meas (B := 1000000000001) i (by omega))
    have HFR := hid hfr
    have HTB := hid htb
    have HOW := hid hown
    have htl := heap_lt htb
    have hNDl := HND.out
    have hgl := (hown.lt (w.heap.size + 1) rfl).2
    clear hfr htb hown
    by_cases hlt : i < st.length
    · have hi1 : (i : Int) < (st.length : Int) := by omega
      obtain ⟨g, c', hg⟩ := Joins.ownsRow_form HST.out.own (by omega)
      rw [Value.slice.injEq] at hg
      obtain ⟨rfl, _, rfl⟩ := hg
      have RG := hid ((HST.out.fresh HFR.out).range i hlt)
      have hnm := HNM.out st[i] (by simp)
      have hiN : i < ND.length := by omega
      rw [List.drop_eq_getElem_cons hlt, List.drop_eq_getElem_cons hiN] at hnd
      have hfl : (fillL zeroNd ND st.length i).length = st.length := fillL_len _ hNDl hi
      have HTH : Hid (wr.there (w.heap.size + 1) (i * 4) 4) := own_there Nd.cells_len HOW.out (by rw [hfl]; exact hlt)
      have HNX := hid (fun (W : World) (h : NdOwn W w.heap.size (.slice (some ⟨w.heap.size + 1, 0, none⟩) st.length st.length) (fillL zeroNd ND st.length i)) (x : Nd) => own_set (k := 4) Nd.cells_len (by omega) h (i := i) (by rw [hfl]; exact hlt) x)
      have HFS : Hid ((fillL zeroNd ND st.length i).set i ND[i] = fillL zeroNd ND st.length (i + 1)) := fillL_set _ hNDl hiN
      generalize ND[i] = nd at hnd HFS
      generalize st[i] = s at hnd RG hnm
      obtain ⟨sl, sn⟩ := s
      obtain ⟨hn0, hn1⟩ := hnm
      dsimp only at hn0 hn1
      unfold ndL at hnd
      have HFLL := hid hfl
      clear hfl hiN hNDl
      cases sl
      · simp only [Bool.false_eq_true, if_false, List.cons.injEq] at hnd
        obtain ⟨hnd1, hnd2⟩ := hnd
        have HN2 := hid hnd2
        have HOB : Hid (NdOwn (wr.alloc (.cells #[.bool false, .int .i8 sn] 126 (0, 0))) w.heap.size (.slice (some ⟨w.heap.size + 1, 0, none⟩) st.length st.length) (fillL zeroNd ND st.length i)) := HOW.out.alloc _
        have HTHb : Hid ((wr.alloc (.cells #[.bool false, .int .i8 sn] 126 (0, 0))).there (w.heap.size + 1) (i * 4) 4) := own_there Nd.cells_len HOB.out (by rw [HFLL.out]; exact hlt)
        have HNX2 := hid (HNX.out _ HOB.out ⟨sn, -1, c, 0⟩)
        have hset : (fillL zeroNd ND st.length i).set i (⟨sn, -1, c, 0⟩ : Nd) = fillL zeroNd ND st.length (i + 1) := by rw [hnd1]; exact HFS.out
        rw [hset] at HNX2
        clear hset
        obtain ⟨Wx, hWx⟩ : ∃ Wx, Wx = (wr.alloc (.cells #[.bool false, .int .i8 sn] 126 (0, 0))).setCells (w.heap.size + 1) (i * 4) (#[.int .i64 sn, .int .i64 (-1), .int .i64 c, .int .i64 0] : Array Value).toList := ⟨_, rfl⟩
        have HF3 : Hid (Fresh w Wx) := by rw [hWx]; exact Mod.setCells (fun h => by omega) _ _ _ (HFR.out.alloc _)
        have HT3 : Hid (Wx.heap[w.heap.size]? = some (.cells #[.int .i64 R, .int .i64 H, .slice pa ps.length pc] 51 (0, 0))) := by
          rw [hWx]; exact (Mod.setCells (S := fun k => k = w.heap.size + 1) (a := wr) (fun _ => rfl) _ _ _ ((Mod.refl _ wr).alloc _)).at HTB.out (by omega)
        have HO3 : Hid (NdOwn Wx w.heap.size (.slice (some ⟨w.heap.size + 1, 0, none⟩) st.length st.length) (fillL zeroNd ND st.length (i + 1))) := by
          rw [hWx]; exact HNX2.out
        have s1 : (stN (.pointer (some ⟨w.heap.size + 1, i * 4, none⟩)) (.agg #[.int .i64 sn, .int .i64 (-1), .int .i64 c, .int .i64 0])).run Tryz.prog (wr.alloc (.cells #[.bool false, .int .i8 sn] 126 (0, 0))) = .ok () Wx := by
          rw [hWx]; exact run_storeAt_mid _ (w.heap.size + 1) (i * 4) _ _ HTHb.out szNd (nd_one sn (-1) c 0)
        clear hWx
        clear HNX2
        clear hnd1 hnd2
        go_wp2_with (first
          | (refine wpList_load_mid rfl 126 _ rfl g (i * 2) rfl [.bool false, .int .i8 sn] _ RG.out Tryz.underlying126 rfl szStp ?_))
        go_roundw
        case rel =>
          refine ⟨i + 1, c, by go_num, by go_num, by omega, by omega, HN2.out, HF3.out, HT3.out, HO3.out⟩
        case measure => exact HME.out
      · simp only [if_true, List.cons.injEq] at hnd
        obtain ⟨hnd1, hnd2⟩ := hnd
        have HN2 := hid hnd2
        have HOB : Hid (NdOwn (wr.alloc (.cells #[.bool true, .int .i8 sn] 126 (0, 0))) w.heap.size (.slice (some ⟨w.heap.size + 1, 0, none⟩) st.length st.length) (fillL zeroNd ND st.length i)) := HOW.out.alloc _
        have HTHb : Hid ((wr.alloc (.cells #[.bool true, .int .i8 sn] 126 (0, 0))).there (w.heap.size + 1) (i * 4) 4) := own_there Nd.cells_len HOB.out (by rw [HFLL.out]; exact hlt)
        have HNX2 := hid (HNX.out _ HOB.out ⟨-1, sn, c, 0⟩)
        have hset : (fillL zeroNd ND st.length i).set i (⟨-1, sn, c, 0⟩ : Nd) = fillL zeroNd ND st.length (i + 1) := by rw [hnd1]; exact HFS.out
        rw [hset] at HNX2
        clear hset
        obtain ⟨Wx, hWx⟩ : ∃ Wx, Wx = (wr.alloc (.cells #[.bool true, .int .i8 sn] 126 (0, 0))).setCells (w.heap.size + 1) (i * 4) (#[.int .i64 (-1), .int .i64 sn, .int .i64 c, .int .i64 0] : Array Value).toList := ⟨_, rfl⟩
        have HF3 : Hid (Fresh w Wx) := by rw [hWx]; exact Mod.setCells (fun h => by omega) _ _ _ (HFR.out.alloc _)
        have HT3 : Hid (Wx.heap[w.heap.size]? = some (.cells #[.int .i64 R, .int .i64 H, .slice pa ps.length pc] 51 (0, 0))) := by
          rw [hWx]; exact (Mod.setCells (S := fun k => k = w.heap.size + 1) (a := wr) (fun _ => rfl) _ _ _ ((Mod.refl _ wr).alloc _)).at HTB.out (by omega)
        have HO3 : Hid (NdOwn Wx w.heap.size (.slice (some ⟨w.heap.size + 1, 0, none⟩) st.length st.length) (fillL zeroNd ND st.length (i + 1))) := by
          rw [hWx]; exact HNX2.out
        have s1 : (stN (.pointer (some ⟨w.heap.size + 1, i * 4, none⟩)) (.agg #[.int .i64 (-1), .int .i64 sn, .int .i64 c, .int .i64 0])).run Tryz.prog (wr.alloc (.cells #[.bool true, .int .i8 sn] 126 (0, 0))) = .ok () Wx := by
          rw [hWx]; exact run_storeAt_mid _ (w.heap.size + 1) (i * 4) _ _ HTHb.out szNd (nd_one (-1) sn c 0)
        clear hWx
        clear HNX2
        clear hnd1 hnd2
        go_wp2_with (first
          | (refine wpList_load_mid rfl 126 _ rfl g (i * 2) rfl [.bool true, .int .i8 sn] _ RG.out Tryz.underlying126 rfl szStp ?_))
        go_roundw
        case rel =>
          refine ⟨i + 1, c + 1, by go_num, by go_num, by omega, by omega, HN2.out, HF3.out, HT3.out, HO3.out⟩
        case measure => exact HME.out
    · have hie : i = st.length := by omega
      have hi2 : ¬ (i : Int) < (st.length : Int) := by omega
      have HOJ : Hid (NdOwn wr w.heap.size (.slice (some ⟨w.heap.size + 1, 0, none⟩) st.length st.length) (joinL ND NF st.length)) := by
        have e : fillL zeroNd ND st.length i = joinL ND NF st.length := by
          unfold fillL joinL
          rw [hie, Nat.sub_self, List.replicate_zero, List.drop_eq_nil_of_le (by rw [HNFL.out]; exact Nat.le_refl _)]
        rw [← e]; exact HOW.out
      obtain ⟨wa, hwa⟩ : ∃ wa, wa = wr := ⟨_, rfl⟩
      subst hwa
      clear hnd hNDl hie
      go_wp2
      go_loopw [10] (fun x10 wr => ∃ (m : Nat) (q : Int), x10 = .int .i64 q ∧ q = (m : Int) - 1 ∧ m ≤ st.length ∧ Fresh w wr ∧ wr.heap[w.heap.size]? = some (.cells #[.int .i64 R, .int .i64 H, .slice pa ps.length pc] 51 (0, 0)) ∧ NdOwn wr w.heap.size (.slice (some ⟨w.heap.size + 1, 0, none⟩) st.length st.length) (joinL ND NF m))
          (fun x _ => (intOf x + 1).toNat)
      case atStart => exact ⟨st.length, _, rfl, rfl, Nat.le_refl _, HFR.out, HTB.out, HOJ.out⟩
      case round =>
        obtain ⟨m, q, rfl, hq, hm, hfr, htb, hown⟩ := hrel
        have HF2 := hid hfr
        have HT2 := hid htb
        have HO2 := hid hown
        have htl2 := heap_lt htb
        have t0 := cellOf htb 0
        have t1 := cellOf htb 1
        have t2 := cellOf htb 2
        simp at t0 t1 t2
        clear hfr htb hown
        by_cases hm0 : m = 0
        · have hq0 : q = -1 := by omega
          subst hq0
          subst hm0
          clear hq
          go_wp2
          go_ret
          refine ⟨_, rfl, HF2.out, ?_⟩
          have e : joinL ND NF 0 = NF := by simp [joinL]
          have h := HO2.out
          rw [e] at h
          rw [HNF.out]; exact h
        · obtain ⟨m', rfl⟩ : ∃ m', m = m' + 1 := ⟨m - 1, by omega⟩
          have hqe : q = (m' : Int) := by omega
          clear hq
          subst hqe
          have hml : m' < st.length := by omega
          have hm1 : (m' : Int) < (st.length : Int) := by omega
          have HMM : Hid (((m' : Int) - 1 + 1).toNat < ((m' : Int) + 1).toNat) := by unfold Hid; omega
          have hmN : m' < ND.length := by rw [HND.out]; exact hml
          have hmF : m' < NF.length := by rw [HNFL.out]; exact hml
          have hJl : (joinL ND NF (m' + 1)).length = st.length := joinL_len HND.out HNFL.out hm
          have hJm : m' < (joinL ND NF (m' + 1)).length := by rw [hJl]; exact hml
          have hJa : (joinL ND NF (m' + 1))[m'] = ND[m'] := by
            have := joinL_at HND.out HNFL.out hmN (E := NF)
            rw [List.getElem?_eq_getElem hJm] at this
            simpa using this
          have hsz := HSA.out m' hmN
          obtain ⟨x, hx1, hx2⟩ := HNA.out m' hml _ hsz
          rw [List.getElem?_eq_getElem hmN, Option.some.injEq] at hx1
          have SO : Hid (∀ W : World, Fresh wr W → Calls Tryz.prog 54 #[.agg #[.int .i64 R, .int .i64 H, .slice pa ps.length pc], .slice (some ⟨w.heap.size + 1, 0, none⟩) st.length st.length, .int .i64 m'] W fun e w' => e = .returned (.int .i64 (szL (SZ.drop (m' + 1)) (arF (prsOf ps) ND[m']) 1)) ∧ Fresh W w') := fun W hW => by
            have h := sizeOf_any W R H (.slice pa ps.length pc) (.slice (some ⟨w.heap.size + 1, 0, none⟩) st.length st.length) ps (joinL ND NF (m' + 1)) m' (SZ.drop (m' + 1)) ((HP.out.kept (Nat.le_refl _) (HF2.out.trans hW) (fun _ _ x => x)).up (HF2.out.trans hW).size) ⟨ownsRow_base (ownsRow_other HO2.out (fun g hg => hW.block g (HO2.out.lt g hg).2 (fun x => x))) (Nat.zero_le _), fun _ _ => rfl⟩ hJm hps (by rw [hJl]; exact hl)
              (by rw [hJl, List.length_drop, HSN.out, HND.out]; omega)
              (fun j d hd => by
                rw [List.getElem?_drop] at hd
                have hjl : m' + 1 + j < st.length := by
                  have := (List.getElem?_eq_some_iff.1 hd).1
                  rw [HSN.out, HND.out] at this; exact this
                obtain ⟨y, hy1, hy2⟩ := HNA.out (m' + 1 + j) hjl d hd
                refine ⟨setSz y d, ?_, rfl⟩
                rw [joinL_after HND.out HNFL.out hm, hy2])
              (fun j d hd => by
                rw [List.getElem?_drop] at hd
                have := HSZ.out _ _ hd
                rw [List.length_drop, HSN.out]
                omega)
              (by rw [hJa]; exact HAR.out _)
            rw [hJa] at h
            exact h
          generalize szL (SZ.drop (m' + 1)) (arF (prsOf ps) ND[m']) 1 = z at SO hx2 hsz
          have hzb : z ≤ 1000000000000 := by
            have h1 := HSZ.out _ _ hsz
            have h2 := HND.out
            omega
          have hfz := own_there Nd.cells_len HO2.out hJm
          have HSC := hid (fun (W : World) (h : NdOwn W w.heap.size (.slice (some ⟨w.heap.size + 1, 0, none⟩) st.length st.length) (joinL ND NF (m' + 1))) => own_setC (k := 4) Nd.cells_len (by omega) h (i := m') (o := 3) hJm (by omega) (.int .i64 z) (setSz ND[m'] z) (by rw [hJa]; rfl))
          have HJS : Hid ((joinL ND NF (m' + 1)).set m' (setSz ND[m'] z) = joinL ND NF m') := by
            have h := joinL_set HND.out HNFL.out hmF (D := ND)
            have h2 : NF[m'] = setSz ND[m'] z := by
              rw [List.getElem?_eq_getElem hmF, Option.some.injEq] at hx2
              rw [hx2, ← hx1]
            rw [h2] at h
            exact h
          generalize setSz ND[m'] z = nd at HSC HJS
          clear hx1 hx2 hsz hJa hfz
          have HC3 : Hid (∀ W : World, Fresh wr W → NdOwn W w.heap.size (.slice (some ⟨w.heap.size + 1, 0, none⟩) st.length st.length) (joinL ND NF (m' + 1)) ∧ (∃ V, W.cell? ⟨w.heap.size + 1, m' * 4 + 3, none⟩ = some V) ∧ W.frozen? ⟨w.heap.size + 1, m' * 4 + 3, none⟩ = false) := fun W hW => by
            have h := ownsRow_other HO2.out (fun g hg => hW.block g (HO2.out.lt g hg).2 (fun x => x))
            have hr : NdsAt W (.slice (some ⟨w.heap.size + 1, 0, none⟩) st.length st.length) (joinL ND NF (m' + 1)) := ⟨ownsRow_base h (Nat.zero_le _), fun x _ => rfl⟩
            exact ⟨h, ⟨_, hr.cell m' 3 hJm (by omega)⟩, (own_there Nd.cells_len h hJm 3 (by omega)).2⟩
          go_wp2_with (first
            | (go_at_call 54; refine (SO.out _ (Mod.refl _ wr)).mono ?_; rintro e w3 ⟨rfl, hf3⟩; obtain ⟨ho3, ⟨V3, c3⟩, z3⟩ := HC3.out w3 hf3; have HO3 := hid ho3; have HF3 := hid hf3; clear ho3 hf3))
          go_roundw
          case rel =>
            refine ⟨m', (m' : Int) - 1, rfl, rfl, by omega, (HF2.out.trans HF3.out).setCell (fun h => by simp at h; omega) _, ?_, ?_⟩
            · exact heap_setCell_prev (HF3.out.at HT2.out (fun x => x)) (by simp)
            · have h := HSC.out w3 HO3.out
              rw [HJS.out] at h
              exact h
          case measure => exact HMM.out
end Go.Proofs.YtakkooidejdfkaaGreat
