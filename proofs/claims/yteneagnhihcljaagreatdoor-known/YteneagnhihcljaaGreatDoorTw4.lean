import Derived.Test.YteneagnhihcljaaGreatDoorKn4
namespace Go.Proofs.YteneagnhihcljaaGreatDoor
open Go.RowKit
set_option linter.unusedVariables false
set_option linter.unusedSimpArgs false

def ldY (v : Value) : Sem Value := Instr.loadAt 84 v
theorem ldY_rule (v : Value) : Instr.loadAt 84 v = ldY v := rfl
theorem ldY_mid {w : World} {g o : Nat} {h : Bool} {n : Int} (hr : w.rangeAt g o [.bool h, .int .i64 n]) : (ldY (.pointer (some ⟨g, o, none⟩))).run Tryz.prog w = .ok (.agg #[.bool h, .int .i64 n]) w :=
  run_loadAt_mid w g o _ _ _ hr Tryz.underlying84 rfl szSy2
attribute [local go_sem ↓] ldY_rule
attribute [local go_sem ↓] apS_rule
set_option maxRecDepth 20000 in
set_option maxHeartbeats 4000000 in
theorem open_any (w : World) (b B : Nat) (R H : Int) (vp vg vk vs : Value) (k : List Sy) (st : List St) (ps : List PV) (i : Nat) (h : GA w b B R H vp vg vk vs k st) (hp : PrsAt w B vp ps) (hi : i < ps.length) (hps : ps.length ≤ 100)
    (hst : st.length ≤ 1000000000000) (hk : k.length ≤ 100000000000) (hsy : ps[i].pr.syms.length ≤ 6) (hB : B ≤ w.heap.size) :
    Calls Tryz.prog 50 #[bptr b, .int .i64 i] w fun e w' => e = .returned (.tuple #[]) ∧ ∃ vk' vs', GA w' b B R H vp vg vk' vs' (ps[i].pr.syms ++ k) (st ++ [⟨false, i⟩]) ∧ UpB B w w' := by
  generalize hsyE : ps[i].pr.syms = sy at hsy ⊢
  have HSE := hid hsyE
  clear hsyE
  obtain ⟨is, his, sz0, sz1, sz2⟩ := infoSt'
  obtain ⟨iy, hiy, yz0, yz1, yz2⟩ := infoSy'
  obtain ⟨pa, pc, hvp⟩ := own_form hp.row.own
  subst hvp
  obtain ⟨sa, sc, hvs⟩ := own_form h.ss
  subst hvs
  obtain ⟨gp, cap', hv'⟩ := Joins.ownsRow_form hp.row.own (by omega)
  rw [Value.slice.injEq] at hv'
  obtain ⟨rfl, _, rfl⟩ := hv'
  have k2 := h.cell 2
  have k5 := h.cell 5
  simp at k2 k5
  have z5 := h.frozen 5
  have hi1 : (i : Int) < (ps.length : Int) := by omega
  have hi2 : (i : Int) ≤ 127 := by omega
  have hi3 : ¬ (ps.length ≤ i) := by omega
  have hi4 : ¬ ((i : Int) < 0) := by omega
  have HG := hid h
  have HP := hid hp
  have hbl := h.lt
  have HO := hid h.ss
  clear h hp
  go_enter Tryz.func50, Tryz.ntmps50
  go_wp2_with (first
    | (at_builtin; refine wpList_append_mine _ rfl _ _ 86 rfl B 121 is _ 2 2 Tryz.underlying86 his sz0 sz1 sz2 rfl (by decide) _ _ _ rfl (HO.out.alloc _) ⟨w.heap.size, 0, none⟩ 1 1 [.bool false, .int .i8 i] rfl rfl (new_cells rfl) (by intro u hu; simp at hu; rcases hu with rfl | rfl <;> rfl) (by unfold maxLen; omega) (by omega) (by simp; omega) ?_))
  intro v' w5 hown hgrow hblk
  obtain ⟨sa1, sc1, hvs1⟩ := own_form hown
  subst hvs1
  have G5 := HG.out.grown5 ((Mod.refl _ w).alloc _) hgrow
  have f5 := frozenOf G5 5
  have g5 := cellOf G5 5
  simp at g5
  obtain ⟨G1, U1⟩ := HG.out.step (x := ⟨false, i⟩) ((Mod.refl _ w).alloc _) hown hgrow (fun j hj => by simpa using hblk j hj)
  generalize hWW : w5.setCell ⟨b, 5, none⟩ (.slice sa1 (st.length + 1) sc1) = W1 at G1 U1
  have HWW := hid hWW
  have PA1 := HP.out.kept hB U1 (fun j h1 h2 => by omega)
  have HP1 := hid PA1
  have j2 := G1.cell 2
  simp at j2
  have cs := PA1.row.cell i 1 hi (by omega)
  have hSY := PA1.syms ps[i] (by simp)
  rw [HSE.out] at hSY
  have HSY := hid hSY
  have HG1 := hid G1
  have HU1 := hid U1
  have hb1 := G1.lt
  have hB1 : B ≤ W1.heap.size := by have := U1.size; omega
  simp [PV.cells] at cs
  clear hSY
  generalize ps[i].vs = pvs at HSY cs
  obtain ⟨sao, scap, hsv, hsc, hscm, hsyc⟩ := HSY.out
  subst hsv
  have HSC := hid hsyc
  clear hsyc hown hgrow hblk G5 G1 U1 PA1
  go_wp2
  clear hWW
  go_loopw [5] (fun x5 wr => ∃ (m : Nat) (q : Int) (vk' : Value), x5 = .int .i64 q ∧ q = (m : Int) - 1 ∧ m ≤ sy.length ∧ GA wr b B R H (.slice (some ⟨gp, 0, none⟩) ps.length pc) vg vk' (.slice sa1 (st.length + 1) sc1) (sy.drop m ++ k) (st ++ [⟨false, i⟩]) ∧ UpB B w wr)
      (fun x _ => (intOf x + 1).toNat)
  case atStart => exact ⟨sy.length, _, vk, rfl, rfl, Nat.le_refl _, by rw [List.drop_length]; exact HG1.out, HU1.out⟩
  case round =>
    clear j2 cs hb1 hB1 HWW f5 z5 k5 k2
    obtain ⟨m, q, vk', rfl, hq, hm, hG, hU⟩ := hrel
    by_cases hm0 : m = 0
    · have hq0 : q = -1 := by omega
      subst hq0
      subst hm0
      have HGF := hid hG
      have HUF := hid hU
      clear hG hU hq
      go_wp2
      exact bodyPost_end (results_none rfl _ _ _) rfl ⟨rfl, vk', _, HGF.out, HUF.out⟩
    · obtain ⟨m', rfl⟩ : ∃ m', m = m' + 1 := ⟨m - 1, by omega⟩
      have hqe : q = (m' : Int) := by omega
      clear hq
      subst hqe
      have hml : m' < sy.length := by omega
      have hm1 : (m' : Int) < (sy.length : Int) := by omega
      have HME : Hid (((m' : Int) - 1 + 1).toNat < ((m' : Int) + 1).toNat) := by unfold Hid; omega
      have HDR : Hid (sy.drop m' = sy[m'] :: sy.drop (m' + 1)) := List.drop_eq_getElem_cons hml
      obtain ⟨g, o, rfl, hgB, hrg⟩ := HSC.out m' hml
      have hrg1 : wr.rangeAt g (o + m' * 2) (sy[m']).cells := rangeAt_block hrg (by
        rw [hU.block g (by omega) (by omega)]; exact (HU1.out.block g (by omega) (by omega)).symm)
      generalize sy[m'] = s at hrg1 HDR
      obtain ⟨sh, sn⟩ := s
      have l1 : (ldY (.pointer (some ⟨g, o + m' * 2, none⟩))).run Tryz.prog wr = _ := ldY_mid hrg1
      have l2 : (ldY (.pointer (some ⟨g, o + m' * 2, none⟩))).run Tryz.prog wr.drew = _ := ldY_mid (w := wr.drew) (rangeAt_block hrg1 rfl)
      have hKl : (sy.drop (m' + 1) ++ k).length ≤ 100000000006 := by simp; omega
      have HDK : Hid (∀ x : Sy, x :: (sy.drop (m' + 1) ++ k) = (x :: sy.drop (m' + 1)) ++ k) := fun x => rfl
      generalize sy.drop (m' + 1) ++ k = K at hG hKl HDK
      have hks := hG.ks
      unfold SyOwn at hks
      rw [List.length_reverse] at hks
      obtain ⟨ka, kc, hvk⟩ := own_form hks
      subst hvk
      have k4 := hG.cell 4
      have z4 := hG.frozen 4
      simp at k4
      have hwb := hG.lt
      have hwB : B ≤ wr.heap.size := by have := hU.size; omega
      have HGr := hid hG
      have HUr := hid hU
      have HKS := hid hks
      clear hG hU hks hrg hrg1
      go_wp2
      have FW : Hid (∀ o : Obj, Fresh wr (wr.alloc o).drew) := fun o => ((Mod.refl _ wr).alloc o).drew
      obtain ⟨v', w2, hrun, hown, hgrow, hblk⟩ := apS_mine (P := Tryz.prog) (wr.alloc (.cells #[.bool sh, .int .i64 sn] 84)).drew B 71 71 84 iy _ 2 16 Tryz.underlying71 hiy yz0 yz1 yz2 rfl (by decide) (.slice ka K.length kc) K.length (flatC Sy.cells K.reverse) (ownsRow_other HKS.out (fun g hg => (FW.out _).block g (HKS.out.lt g hg).2 (fun x => x))) ⟨wr.heap.size, 0, none⟩ 1 1 [.bool sh, .int .i64 sn] rfl (new_cells rfl) (by intro u hu; simp at hu; rcases hu with rfl | rfl <;> rfl) (by unfold maxLen; omega) (by omega) (by simp [World.drew]; omega)
      have HB := HGr.out.grown4 (FW.out _) hgrow
      have hc2 : w2.cell? ⟨b, 4, none⟩ = some (.slice ka K.length kc) := (cellOf HB 4)
      have hf2 := frozenOf HB 4
      have HO2 := hid hown
      have HG2 := hid hgrow
      have HBK := hid hblk
      obtain ⟨a', cap', hv'⟩ := own_form hown
      clear hown hgrow hblk HB
      subst hv'
      go_region
      all_goals
        obtain ⟨G3, U3⟩ := HGr.out.push (x := ⟨sh, sn⟩) (FW.out _) (by rw [List.length_reverse]; exact HO2.out) HG2.out HBK.out
        generalize hWW : w2.setCell _ _ = W3 at G3 U3 ⊢
        have HG3 := hid G3
        have HU3 := hid U3
        clear G3 U3 hWW hc2 hf2 k4 z4 l1 l2 hrun
        go_wp2
        go_roundw
        case rel =>
          refine ⟨m', (m' : Int) - 1, .slice a' (K.length + 1) cap', rfl, rfl, by omega, ?_, Mod.trans HUr.out HU3.out⟩
          rw [HDR.out, ← HDK.out]; exact HG3.out
        case measure => exact HME.out
end Go.Proofs.YteneagnhihcljaaGreatDoor
namespace Go.Proofs.YteneagnhihcljaaGreatDoor
open Go.RowKit
set_option linter.unusedVariables false
set_option linter.unusedSimpArgs false

/-- how many steps the grower has taken -/
def lenV (v : Value) : Nat := match v with
  | .slice _ n _ => n
  | _ => 0
def stW (b : Nat) (w : World) : Nat := match w.heap[b]? with
  | some (.cells c _ _) => lenV (c.getD 5 undef)
  | _ => 0
theorem GA.stW {w : World} {b B : Nat} {R H : Int} {vp vg vk vs : Value} {k : List Sy} {st : List St} (h : GA w b B R H vp vg vk vs k st) : stW b w = st.length := by
  obtain ⟨a, c, hv⟩ := own_form h.ss
  unfold Proofs.YteneagnhihcljaaGreatDoor.stW
  rw [h.blk, hv]; rfl
/-- the guide in memory, below B -/
structure GdAt (w : World) (gb B : Nat) (fp : Value) (L : List Int) : Prop where
  lt : gb < B
  blk : w.heap[gb]? = some (.cells (gdA fp L) 108 (0, 0))
  len : L.length = 72
theorem GdAt.up {w w' : World} {gb B : Nat} {fp : Value} {L : List Int} (h : GdAt w gb B fp L) (hu : UpB B w w') : GdAt w' gb B fp L :=
  ⟨h.lt, by rw [hu.block gb (heap_lt h.blk) (by have := h.lt; omega)]; exact h.blk, h.len⟩
/-- the choices by the list -/
def chL (L : List Int) (X : Int) (t : Nat) : Int := if 0 ≤ X ∧ X < 8 ∧ t < 9 then L.getD (X.toNat * 9 + t) 0 else -1
/-- the symbols on the stack are symbols -/
def StkIn (R H : Int) (k : List Sy) : Prop := ∀ s ∈ k, 0 ≤ s.num ∧ s.num < (if s.isH then H else R)

attribute [local go_sem ↓] ldY_rule
attribute [local go_sem ↓] apS_rule
set_option maxRecDepth 20000 in
set_option maxHeartbeats 8000000 in
theorem growTo_any (w : World) (b B gb : Nat) (fp : Value) (L : List Int) (R H : Nat) (vp vk vs : Value) (k : List Sy) (st : List St) (ps : List PV) (t F : Nat) (r : List Sy × List St)
    (h : GA w b B R H vp (bptr gb) vk vs k st) (hgd : GdAt w gb B fp L) (hp : PrsAt w B vp ps) (hps : ps.length ≤ 100) (hsy : ∀ p ∈ ps, p.pr.syms.length ≤ 6 ∧ StkIn R H p.pr.syms) (hk0 : StkIn R H k)
    (hR : R ≤ 8) (hH : H ≤ 8) (ht : t < 9) (hB : B ≤ w.heap.size) (hrun : gTo (prsOf ps) (chL L) t F k st = some r) (hrl : r.2.length ≤ 1000000000000) (hkl : k.length + 6 * r.2.length ≤ 100000000000 + 6 * st.length) :
    Calls Tryz.prog 33 #[bptr b, .int .i64 t] w fun e w' => e = .returned (.tuple #[]) ∧ ∃ vk' vs', GA w' b B R H vp (bptr gb) vk' vs' r.1 r.2 ∧ UpB B w w' := by
  obtain ⟨is, his, sz0, sz1, sz2⟩ := infoSt'
  have HG0 := hid h
  have HGD := hid hgd
  have HP := hid hp
  have HSY := hid hsy
  have HRL := hid hrl
  have HRUN := hid hrun
  have HKL := hid hkl
  have HK0 := hid hk0
  have hb0 := h.lt
  have hbB := h.lo
  clear h hgd hp hsy hrl hrun hkl hk0
  go_enter Tryz.func33, Tryz.ntmps33
  go_wp2
  go_loopw [4, 5, 6] (fun _ _ _ wr => ∃ (f : Nat) (k' : List Sy) (st' : List St) (vk' vs' : Value), gTo (prsOf ps) (chL L) t f k' st' = some r ∧ GA wr b B R H vp (bptr gb) vk' vs' k' st' ∧ UpB B w wr ∧ StkIn R H k' ∧ k'.length + 6 * r.2.length ≤ 100000000000 + 6 * st'.length)
      (fun _ _ _ wr => r.2.length + 1 - stW b wr)
  case atStart => exact ⟨F, k, st, vk, vs, HRUN.out, HG0.out, Mod.refl _ w, HK0.out, HKL.out⟩
  case round =>
    obtain ⟨f, k', st', vk', vs', hrun, hG, hU, hKI, hKL⟩ := hrel
    have hst : st'.length ≤ r.2.length := gTo_len _ _ _ _ hrun
    have hrl := HRL.out
    obtain ⟨f, rfl⟩ : ∃ f', f = f' + 1 := by
      cases f with
      | zero => cases hrun
      | succ f => exact ⟨f, rfl⟩
    have hks := hG.ks
    unfold SyOwn at hks
    rw [List.length_reverse] at hks
    obtain ⟨ka, kc, hvk⟩ := own_form hks
    subst hvk
    have k4 := hG.cell 4
    simp at k4
    have hwb := hG.lt
    have hwB : B ≤ wr.heap.size := by have := hU.size; omega
    have HUr := hid hU
    have HGr := hid hG
    cases k' with
    | nil =>
      have hr : r = ([], st') := by simpa [gTo] using hrun.symm
      simp only [List.length_nil] at k4
      have HR := hid hr
      clear hr hrun hG hU hks
      go_wp2
      exact bodyPost_end (results_none rfl _ _ _) rfl ⟨rfl, _, vs', by rw [HR.out]; exact HGr.out, HUr.out⟩
    | cons s K =>
      obtain ⟨sh, sn⟩ := s
      have hs0 := hKI ⟨sh, sn⟩ (by simp)
      have HKI : Hid (StkIn R H K) := fun x hx => hKI x (by simp [hx])
      have hkn : K.length ≤ 100000000000 := by simp at hKL; omega
      have HKLK : Hid (K.length + 1 + 6 * r.2.length ≤ 100000000000 + 6 * st'.length) := by unfold Hid; simpa using hKL
      simp only [List.length_cons] at k4 hks
      have hkl1 : ((K.length : Int) + 1 - 1) = (K.length : Int) := by omega
      obtain ⟨g, cap', hv'⟩ := Joins.ownsRow_form hks (by omega)
      rw [Value.slice.injEq] at hv'
      obtain ⟨rfl, _, rfl⟩ := hv'
      have hkc : K.length + 1 ≤ kc := by
        rcases hks.2 with ⟨h1, _⟩ | ⟨g', c', cur, h1, _, _, h2, _⟩
        · cases h1
        · rw [Value.slice.injEq] at h1
          obtain ⟨_, _, rfl⟩ := h1
          exact h2
      have hkc1 : (K.length : Int) ≤ (kc : Int) := by omega
      have RG : Hid (wr.rangeAt g (K.length * 2) [.bool sh, .int .i64 sn]) := by
        have hrow : RowAt Sy.cells 2 84 wr (.slice (some ⟨g, 0, none⟩) (K.length + 1) kc) (K.reverse ++ [⟨sh, sn⟩]) := ⟨by
          have := ownsRow_base hks (Nat.zero_le B)
          rw [List.length_append, List.length_singleton, List.length_reverse]
          simpa using this, fun _ _ => rfl⟩
        have := hrow.range K.length (by simp)
        unfold Hid
        simpa [Sy.cells] using this
      have hGa := hG.fresh ((Mod.refl _ wr).alloc (.cells #[.bool sh, .int .i64 sn] 84 (0, 0)))
      obtain ⟨G1, U1⟩ := GA.pop (ao := some ⟨g, 0, none⟩) (cap := kc) hGa
      have z4 := hGa.frozen 4
      have y4 := hGa.cell 4
      simp at y4
      generalize hW1 : (wr.alloc (.cells #[.bool sh, .int .i64 sn] 84 (0, 0))).setCell ⟨b, 4, none⟩ (.slice (some ⟨g, 0, none⟩) K.length kc) = W1 at G1 U1
      have hb1 : W1.heap[wr.heap.size]? = some (.cells #[.bool sh, .int .i64 sn] 84 (0, 0)) := by
        rw [← hW1, Proofs.YteneagnhihcljaaGreatDoor.heap_setCell_other _ (by simp; omega)]; exact heap_alloc_at _ _
      have c0 := cellOf hb1 0
      have c1 := cellOf hb1 1
      simp at c0 c1
      have HG1 := hid G1
      have HU1 : Hid (UpB B wr W1) := Mod.trans ((Mod.refl _ wr).alloc _) U1
      have hW1B : B ≤ W1.heap.size := by have := HU1.out.size; omega
      have hW1b := G1.lt
      have HME : Hid (st'.length < r.2.length → True) := fun _ => trivial
      obtain ⟨sa, sc, hvs⟩ := own_form G1.ss
      subst hvs
      have j5 := G1.cell 5
      have j3 := G1.cell 3
      simp at j5 j3
      have z5 := G1.frozen 5
      have HSS := hid G1.ss
      have hgB := HGD.out.lt
      have hgd1 : W1.heap[gb]? = some (.cells (gdA fp L) 108 (0, 0)) := (HGD.out.up (Mod.trans HUr.out HU1.out)).blk
      have HGD1 := hid hgd1
      clear G1 U1 hGa hG hU hks hb1 hKI hKL HME hgd1
      cases sh
      · simp only [gTo, if_true, Option.some.injEq] at hrun
        have HR := hid hrun.symm
        have hR2 : r.2.length = st'.length + 1 := by rw [HR.out]; simp
        simp only [Bool.false_eq_true, if_false] at hs0
        have h127 : sn ≤ 127 := by omega
        have h00 := hs0.1
        clear hrun hs0
        go_wp2_with (first
          | (refine wpList_load_mid rfl 84 _ rfl g (K.length * 2) rfl [.bool false, .int .i64 sn] _ RG.out Tryz.underlying84 rfl szSy2 ?_))
        have FW : Hid (∀ o : Obj, Fresh W1 (W1.alloc o).drew) := fun o => ((Mod.refl _ W1).alloc o).drew
        obtain ⟨v', w2, hrun, hown, hgrow, hblk⟩ := apS_mine (P := Tryz.prog) (W1.alloc (.cells #[.bool true, .int .i8 sn] 121)).drew B 86 86 121 is _ 2 2 Tryz.underlying86 his sz0 sz1 sz2 rfl (by decide) (.slice sa st'.length sc) st'.length (flatC St.cells st') (ownsRow_other HSS.out (fun g hg => (FW.out _).block g (HSS.out.lt g hg).2 (fun x => x))) ⟨W1.heap.size, 0, none⟩ 1 1 [.bool true, .int .i8 sn] rfl (new_cells rfl) (by intro u hu; simp at hu; rcases hu with rfl | rfl <;> rfl) (by unfold maxLen; omega) (by omega) (by simp [World.drew]; omega)
        have HB := HG1.out.grown5 (FW.out _) hgrow
        have hc2 : w2.cell? ⟨b, 5, none⟩ = some (.slice sa st'.length sc) := (cellOf HB 5)
        have hf2 := frozenOf HB 5
        have HO2 := hid hown
        have HG2 := hid hgrow
        have HBK := hid hblk
        obtain ⟨a', cap', hv'⟩ := own_form hown
        clear hown hgrow hblk HB hW1
        subst hv'
        go_region
        all_goals
          obtain ⟨G3, U3⟩ := HG1.out.step (x := ⟨true, sn⟩) (FW.out _) HO2.out HG2.out HBK.out
          generalize hWW : w2.setCell _ _ = W3 at G3 U3 ⊢
          have HG3 := hid G3
          have HU3 := hid U3
          clear G3 U3 hWW hc2 hf2 hrun
          go_wp2
          exact bodyPost_ret (results_none rfl _ _ _) rfl ⟨rfl, _, _, by rw [HR.out]; exact HG3.out, Mod.trans HUr.out (Mod.trans HU1.out HU3.out)⟩
      · simp only [if_true] at hs0
        obtain ⟨n, rfl⟩ : ∃ n : Nat, sn = n := ⟨sn.toNat, by omega⟩
        have hn8 : n < 8 := by omega
        have hch : chL L n t = L.getD (n * 9 + t) 0 := by
          unfold chL; rw [if_pos ⟨by omega, by omega, ht⟩, Int.toNat_natCast]
        rw [gTo, if_neg (by simp)] at hrun
        simp only [hch] at hrun
        by_cases hc0 : 0 ≤ L.getD (n * 9 + t) 0
        · rw [if_pos hc0] at hrun
          obtain ⟨i, hi⟩ : ∃ i : Nat, L.getD (n * 9 + t) 0 = i := ⟨(L.getD (n * 9 + t) 0).toNat, by omega⟩
          rw [hi, Int.toNat_natCast] at hrun
          cases hpi : (prsOf ps)[i]? with
          | none => rw [hpi] at hrun; cases hrun
          | some p =>
            rw [hpi] at hrun
            simp only [] at hrun
            have hil : i < ps.length := by
              have := (List.getElem?_eq_some_iff.1 hpi).1
              simpa [prsOf] using this
            have hpe : ps[i].pr = p := by
              have := (List.getElem?_eq_some_iff.1 hpi).2
              simpa [prsOf] using this
            have hst1 : st'.length + 1 ≤ r.2.length := by have := gTo_len _ _ _ _ hrun; simpa using this
            have CH : Hid (∀ W : World, W.heap[gb]? = some (.cells (gdA fp L) 108 (0, 0)) → Calls Tryz.prog 49 #[bptr gb, .int .i64 n, .int .i64 t] W fun e w' => e = .returned (.int .i64 i) ∧ w' = W) := fun W hW => by
              have := choose_any W gb fp L HGD.out.len hW n t hn8 ht
              rw [hi] at this; exact this
            have HPe := hid hpe
            have HRUN' := hid hrun
            have hp6 := (HSY.out ps[i] (by simp)).1
            have hpIn := hid (HSY.out ps[i] (by simp)).2
            have hU1s := HU1.out.size
            have OP : Hid (∀ W : World, Fresh W1 W → Calls Tryz.prog 50 #[bptr b, .int .i64 i] W fun e w' => e = .returned (.tuple #[]) ∧ ∃ vk' vs', GA w' b B R H vp (bptr gb) vk' vs' (ps[i].pr.syms ++ K) (st' ++ [⟨false, i⟩]) ∧ UpB B W w') := fun W hW =>
              open_any W b B R H vp (bptr gb) _ _ K st' ps i (HG1.out.fresh hW) ((HP.out.kept hB (Mod.trans HUr.out HU1.out) (fun j h1 h2 => by omega)).kept (by have := HUr.out.size; omega) hW (fun _ _ x => x)) hil hps (by omega) hkn hp6 (by have := hW.size; omega)
            clear hrun hpi hc0 hi hch hpe hs0
            go_wp2_with (first
              | (refine wpList_load_mid rfl 84 _ rfl g (K.length * 2) rfl [.bool true, .int .i64 n] _ RG.out Tryz.underlying84 rfl szSy2 ?_))
            clear hW1
            go_quiet (first
              | (go_at_call 49; refine Calls.quiet_of_same (CH.out _ HGD1.out)))
            go_wp2_with (first
              | (go_at_call 50; refine (OP.out _ (fdrewN' W1 _)).mono ?_; rintro e w' ⟨rfl, vk2, vs2, hG2, hU2⟩; have HGx := hid hG2; have HUx := hid hU2; clear hG2 hU2))
            have HUt : Hid (UpB B w w') := Mod.trans HUr.out (Mod.trans HU1.out (Mod.trans ((fdrewN' W1 nq).mono (fun _ _ x => x.elim)) HUx.out))
            go_roundw
            case rel =>
              refine ⟨f, ps[i].pr.syms ++ K, st' ++ [⟨false, i⟩], vk2, vs2, ?_, HGx.out, HUt.out, ?_, ?_⟩
              · rw [HPe.out]; exact HRUN'.out
              · intro x hx
                rcases List.mem_append.1 hx with hx | hx
                · exact hpIn.out x hx
                · exact HKI.out x hx
              · have := HKLK.out
                simp only [List.length_append, List.length_singleton]; omega
            case measure =>
              rw [HGx.out.stW, HGr.out.stW, List.length_append, List.length_singleton]; omega
        · rw [if_neg hc0] at hrun; cases hrun
end Go.Proofs.YteneagnhihcljaaGreatDoor
