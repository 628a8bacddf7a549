import Derived.Test.YtakkooidejdfkaaGreatSe7
namespace Go.Proofs.YtakkooidejdfkaaGreat
open Go.RowKit
set_option linter.unusedVariables false
set_option linter.unusedSimpArgs false

theorem frozen_at {w : World} {b : Nat} {c : Array Value} {e : TypeId} (h : w.heap[b]? = some (.cells c e (0, 0))) (o : Nat) : w.frozen? ⟨b, o, none⟩ = false := frozenOf h o

set_option maxRecDepth 20000 in
set_option maxHeartbeats 8000000 in
theorem growF_any (w : World) (b : Nat) (R H : Int) (vp vh : Value) (ps : List PV) (hs : List Hd) (h : FA w b R H vp vh ps hs) (hps : ps.length ≤ 1000) :
    Calls Tryz.prog 69 #[bptr b] w fun e w' => e = .returned (.bool (growFL (prsOf ps) hs false).2) ∧ FA w' b R H vp vh ps (growFL (prsOf ps) hs false).1 ∧ Mod (growBegV vh) w w' := by
  have HF0 := hid h
  obtain ⟨ao, cap, hv⟩ := own_form h.prs.row.own
  subst hv
  have k2 := h.cell 2
  simp at k2
  generalize hR : growFL (prsOf ps) hs false = RES
  have HR := hid hR
  clear hR h
  go_enter Tryz.func69, Tryz.ntmps69
  go_wp2
  go_loopw [3, 5, 6, 13] (fun x3 _ _ x13 wr => ∃ (i : Nat) (gr : Bool) (hs' : List Hd), x3 = .bool gr ∧ x13 = .int .i64 i ∧ i ≤ ps.length ∧ FA wr b R H (.slice ao ps.length cap) vh ps hs' ∧ growFL (prsOf (ps.drop i)) hs' gr = RES ∧ Mod (growBegV vh) w wr)
      (fun _ _ _ x _ => ps.length + 1 - (intOf x).toNat)
  case atStart => exact ⟨0, false, hs, rfl, rfl, by omega, HF0.out, HR.out, Mod.refl _ w⟩
  case round =>
    obtain ⟨i, gr, hs', rfl, rfl, hi, hF, hres, hmod⟩ := hrel
    have HME := hid (meas (B := ps.length + 1) i (by omega))
    have HMOD := hid hmod
    have HF := hid hF
    clear hmod
    by_cases hlt : i < ps.length
    · have hi1 : (i : Int) < (ps.length : Int) := by omega
      rw [List.drop_eq_getElem_cons hlt] at hres
      obtain ⟨gp, cap', hv'⟩ := Joins.ownsRow_form hF.prs.row.own (by omega)
      rw [Value.slice.injEq] at hv'
      obtain ⟨rfl, _, rfl⟩ := hv'
      have RG : Hid (wr.rangeAt gp (i * 2) [.int .i64 ps[i].pr.head, ps[i].vs]) := hF.prs.row.range i hlt
      have hbl := hF.size
      have HFb := hid (hF.fresh ((Mod.refl _ wr).alloc (.cells #[.int .i64 ps[i].pr.head, ps[i].vs] 108 (0, 0))))
      have HSY := hid (hF.prs.syms ps[i] (by simp))
      unfold prsOf at hres
      rw [List.map_cons] at hres
      unfold growFL growF1 at hres
      generalize ps[i].pr = pr at hres RG HSY HFb
      generalize ps[i].vs = pvs at RG HSY HFb
      obtain ⟨ph, psy⟩ := pr
      dsimp only at hres RG HSY HFb
      obtain ⟨sao, scap, hsv, _⟩ := HSY.out
      subst hsv
      have HOH := hid (getH_ok hF.ok ph)
      have AA := hid (fun w1 (hf : Fresh wr w1) => allFru_any w1 b R H _ vh ps hs' b _ psy (HF.out.fresh hf) (by have := hf.size; omega) (HSY.out.kept (Nat.le_of_lt hbl) hf (fun _ _ x => x)))
      have GA := hid (fun w (h : FA w b R H (.slice (some ⟨gp, 0, none⟩) ps.length cap) vh ps hs') => get_any w b R H _ vh ps hs' ph h)
      have PA := hid (fun w (x : Hd) (hx : x.ok) (h : FA w b R H (.slice (some ⟨gp, 0, none⟩) ps.length cap) vh ps hs') => put_any w b R H _ vh ps hs' ph x hx h)
      generalize getH hs' ph = hd at hres HOH GA
      clear hF
      cases hal : allFru hs' psy
      · rw [hal] at hres AA
        have ehd : ({ hd with fru := hd.fru || false } : Hd) = hd := by simp
        rw [ehd] at hres
        generalize hpb : putB hs' ph hd = pb at hres
        have HPB := hid hpb
        have HRES := hid hres
        clear hres hpb
        go_wp2_with (first
          | (refine wpList_load_mid rfl 108 _ rfl gp (i * 2) rfl [.int .i64 ph, .slice sao psy.length scap] _ RG.out Tryz.underlying108 rfl szPV ?_)
          | (go_at_call 57; refine (GA.out _ HFb.out).mono ?_; rintro e w1 ⟨rfl, hf1⟩; have hz1 : wr.heap.size < w1.heap.size := (by have := hf1.size; simp at this; omega); have k1 : (w1.alloc (.cells (hdA hd) 130 (0, 0))).cell? ⟨wr.heap.size, 1, none⟩ = some (.slice sao psy.length scap) := (by rw [cellOf (heap_alloc_prev (hf1.at (heap_alloc_at _ _) (fun x => x))) 1]; rfl); have hfa : Hid (Fresh wr (w1.alloc (.cells (hdA hd) 130 (0, 0)))) := (Mod.trans ((Mod.refl _ wr).alloc _) hf1 |>.alloc _))
          | (refine wpList_store_new rfl 130 _ _ rfl w1 _ (hdA hd) _ rfl rfl rfl (szHdOf HOH.out) (sameSize rfl (hd_size HOH.out)) (hd_one _) ?_)
          | (go_at_call 83; refine (AA.out _ hfa.out).mono ?_; rintro e w2 ⟨rfl, hf2⟩; have hfz := hid (Mod.trans hfa.out hf2); have hb4 := hid (hf2.at (heap_alloc_at w1 _) (fun x => x)); have k4 : w2.cell? ⟨wr.heap.size, 0, none⟩ = some (.int .i64 ph) := (by rw [cellOf (hf2.at (heap_alloc_prev (hf1.at (heap_alloc_at _ _) (fun x => x))) (fun x => x)) 0]; rfl))
          | (refine wpList_load_row rfl 130 _ rfl w1.heap.size rfl _ _ _ _ hb4.out Tryz.underlying130 rfl (szHdOf HOH.out) ?_)
          | (go_at_call 82; refine (PA.out _ hd HOH.out (HF.out.fresh hfz.out)).mono ?_; rintro e w4 ⟨rfl, hF4, hm4⟩; rw [HPB.out]))
        · have hq : pb = true := by assumption
          go_roundw
          case rel =>
            refine ⟨i + 1, true, _, rfl, by go_num, by omega, hF4, ?_, Mod.trans HMOD.out (Mod.trans (Mod.mono hfz.out (fun _ _ x => x.elim)) hm4)⟩
            have := HRES.out; rw [hq, Bool.or_true] at this; exact this
          case measure => exact HME.out
        · have hq : pb = false := by assumption
          go_roundw
          case rel =>
            refine ⟨i + 1, gr, _, rfl, by go_num, by omega, hF4, ?_, Mod.trans HMOD.out (Mod.trans (Mod.mono hfz.out (fun _ _ x => x.elim)) hm4)⟩
            have := HRES.out; rw [hq, Bool.or_false] at this; exact this
          case measure => exact HME.out
      · rw [hal] at hres AA
        rw [Bool.or_true] at hres
        have HO1 : Hid (Hd.ok { hd with fru := true }) := ⟨HOH.out.fi, HOH.out.fo⟩
        generalize hpb : putB hs' ph { hd with fru := true } = pb at hres
        have HPB := hid hpb
        have HRES := hid hres
        clear hres hpb
        go_wp2_with (first
          | (refine wpList_load_mid rfl 108 _ rfl gp (i * 2) rfl [.int .i64 ph, .slice sao psy.length scap] _ RG.out Tryz.underlying108 rfl szPV ?_)
          | (go_at_call 57; refine (GA.out _ HFb.out).mono ?_; rintro e w1 ⟨rfl, hf1⟩; have hz1 : wr.heap.size < w1.heap.size := (by have := hf1.size; simp at this; omega); have k1 : (w1.alloc (.cells (hdA hd) 130 (0, 0))).cell? ⟨wr.heap.size, 1, none⟩ = some (.slice sao psy.length scap) := (by rw [cellOf (heap_alloc_prev (hf1.at (heap_alloc_at _ _) (fun x => x))) 1]; rfl); have hfa : Hid (Fresh wr (w1.alloc (.cells (hdA hd) 130 (0, 0)))) := (Mod.trans ((Mod.refl _ wr).alloc _) hf1 |>.alloc _))
          | (refine wpList_store_new rfl 130 _ _ rfl w1 _ (hdA hd) _ rfl rfl rfl (szHdOf HOH.out) (sameSize rfl (hd_size HOH.out)) (hd_one _) ?_)
          | (go_at_call 83; refine (AA.out _ hfa.out).mono ?_; rintro e w2 ⟨rfl, hf2⟩; have hfz := hid ((Mod.trans hfa.out hf2).setCell (p := ⟨w1.heap.size, 2, none⟩) (by intro q; simp at q; omega) (.bool true)); have hb3 := hid (hf2.at (heap_alloc_at w1 _) (fun x => x)); have c3 := cellOf hb3.out 2; rw [hd_at2] at c3; have z3 := frozen_at hb3.out 2; have hb4 : Hid ((w2.setCell ⟨w1.heap.size, 2, none⟩ (.bool true)).heap[w1.heap.size]? = some (.cells (hdA { hd with fru := true }) 130 (0, 0))) := (by unfold Hid; rw [Proofs.YtakkooidejdfkaaGreat.heap_setCell_same hb3.out, hd_set2]); have k4 : (w2.setCell ⟨w1.heap.size, 2, none⟩ (.bool true)).cell? ⟨wr.heap.size, 0, none⟩ = some (.int .i64 ph) := (by rw [cellOf (heap_setCell_prev (hf2.at (heap_alloc_prev (hf1.at (heap_alloc_at _ _) (fun x => x))) (fun x => x)) (by dsimp only; omega)) 0]; rfl))
          | (refine wpList_load_row rfl 130 _ rfl w1.heap.size rfl _ _ _ _ hb4.out Tryz.underlying130 rfl (szHdOf HO1.out) ?_)
          | (go_at_call 82; refine (PA.out _ { hd with fru := true } HO1.out (HF.out.fresh hfz.out)).mono ?_; rintro e w4 ⟨rfl, hF4, hm4⟩; rw [HPB.out]))
        · have hq : pb = true := by assumption
          go_roundw
          case rel =>
            refine ⟨i + 1, true, _, rfl, by go_num, by omega, hF4, ?_, Mod.trans HMOD.out (Mod.trans (Mod.mono hfz.out (fun _ _ x => x.elim)) hm4)⟩
            have := HRES.out; rw [hq, Bool.or_true] at this; exact this
          case measure => exact HME.out
        · have hq : pb = false := by assumption
          go_roundw
          case rel =>
            refine ⟨i + 1, gr, _, rfl, by go_num, by omega, hF4, ?_, Mod.trans HMOD.out (Mod.trans (Mod.mono hfz.out (fun _ _ x => x.elim)) hm4)⟩
            have := HRES.out; rw [hq, Bool.or_false] at this; exact this
          case measure => exact HME.out
    · have hie : i = ps.length := by omega
      rw [hie, List.drop_length] at hres
      have hres2 : (hs', gr) = RES := hres
      have HRES := hid hres2
      have hi2 : ¬ (i : Int) < (ps.length : Int) := by omega
      clear hres hF
      go_wp2
      go_ret
      exact ⟨ret_bool (by rw [← HRES.out]), by rw [← HRES.out]; exact HF.out, HMOD.out⟩
end Go.Proofs.YtakkooidejdfkaaGreat
namespace Go.Proofs.YtakkooidejdfkaaGreat
open Go.RowKit
set_option linter.unusedVariables false
set_option linter.unusedSimpArgs false

def growRS : List Sy → List Hd → Bool → List Hd × Bool
  | [], hs, g => (hs, g)
  | s :: l, hs, g => if s.isH = false then growRS l hs g else
      growRS l (putF hs s.num { getH hs s.num with rch := true }) (g || putB hs s.num { getH hs s.num with rch := true })
def growRL : List Pr → List Hd → Bool → List Hd × Bool
  | [], hs, g => (hs, g)
  | p :: l, hs, g => if (getH hs p.head).rch = false then growRL l hs g else growRL l (growRS p.syms hs g).1 (growRS p.syms hs g).2

set_option maxRecDepth 20000 in
set_option maxHeartbeats 8000000 in
theorem growR_any (w : World) (b : Nat) (R H : Int) (vp vh : Value) (ps : List PV) (hs : List Hd) (h : FA w b R H vp vh ps hs) (hps : ps.length ≤ 1000) :
    Calls Tryz.prog 68 #[bptr b] w fun e w' => e = .returned (.bool (growRL (prsOf ps) hs false).2) ∧ FA w' b R H vp vh ps (growRL (prsOf ps) hs false).1 ∧ Mod (growBegV vh) w w' := by
  have HF0 := hid h
  obtain ⟨ao, cap, hv⟩ := own_form h.prs.row.own
  subst hv
  have k2 := h.cell 2
  simp at k2
  generalize hR : growRL (prsOf ps) hs false = RES
  have HR := hid hR
  clear hR h
  go_enter Tryz.func68, Tryz.ntmps68
  go_wp2
  go_loopw [3, 5, 6, 8, 9, 16, 30] (fun x3 _ _ _ _ x16 _ wr => ∃ (i : Nat) (gr : Bool) (hs' : List Hd), x3 = .bool gr ∧ x16 = .int .i64 i ∧ i ≤ ps.length ∧ FA wr b R H (.slice ao ps.length cap) vh ps hs' ∧ growRL (prsOf (ps.drop i)) hs' gr = RES ∧ Mod (growBegV vh) w wr)
      (fun _ _ _ _ _ x _ _ => ps.length + 1 - (intOf x).toNat)
  case atStart => exact ⟨0, false, hs, rfl, rfl, by omega, HF0.out, HR.out, Mod.refl _ w⟩
  case round =>
    obtain ⟨i, gr, hs', rfl, rfl, hi, hF, hres, hmod⟩ := hrel
    obtain ⟨wo, hwo⟩ : ∃ wo, wo = wr := ⟨_, rfl⟩
    subst hwo
    have HME := hid (meas (B := ps.length + 1) i (by omega))
    have HMOD := hid hmod
    have HF := hid hF
    clear hmod
    by_cases hlt : i < ps.length
    · have hi1 : (i : Int) < (ps.length : Int) := by omega
      rw [List.drop_eq_getElem_cons hlt] at hres
      obtain ⟨gp, cap', hv'⟩ := Joins.ownsRow_form hF.prs.row.own (by omega)
      rw [Value.slice.injEq] at hv'
      obtain ⟨rfl, _, rfl⟩ := hv'
      have RG : Hid (wo.rangeAt gp (i * 2) [.int .i64 ps[i].pr.head, ps[i].vs]) := hF.prs.row.range i hlt
      have hbl := hF.size
      have HFb := hid (hF.fresh ((Mod.refl _ wo).alloc (.cells #[.int .i64 ps[i].pr.head, ps[i].vs] 108 (0, 0))))
      have HSY : Hid (∀ (w1 : World) (hs1 : List Hd), FA w1 b R H (.slice (some ⟨gp, 0, none⟩) ps.length cap) vh ps hs1 → SymAt w1 b ps[i].vs ps[i].pr.syms) := fun w1 hs1 h => h.prs.syms ps[i] (by simp)
      unfold prsOf at hres
      rw [List.map_cons] at hres
      unfold growRL at hres
      generalize ps[i].pr = pr at hres RG HSY HFb
      generalize ps[i].vs = pvs at RG HSY HFb
      obtain ⟨ph, psy⟩ := pr
      dsimp only at hres RG HSY HFb
      obtain ⟨sao, scap, hsv, hsc1, hsc2, _⟩ := HSY.out _ _ hF
      subst hsv
      unfold maxLen at hsc2
      have HOH := hid (getH_ok hF.ok ph)
      have GA := hid (fun w (h : FA w b R H (.slice (some ⟨gp, 0, none⟩) ps.length cap) vh ps hs') => get_any w b R H _ vh ps hs' ph h)
      generalize getH hs' ph = hd at hres HOH GA
      clear hF
      cases hn : hd.rch
      · rw [if_pos hn] at hres
        have HRES := hid hres
        clear hres
        go_wp2_with (first
          | (refine wpList_load_mid rfl 108 _ rfl gp (i * 2) rfl [.int .i64 ph, .slice sao psy.length scap] _ RG.out Tryz.underlying108 rfl szPV ?_)
          | (go_at_call 57; refine (GA.out _ HFb.out).mono ?_; rintro e w1 ⟨rfl, hf1⟩; have k1 : (w1.alloc (.cells (hdA hd) 130 (0, 0))).cell? ⟨w1.heap.size, 1, none⟩ = some (.bool hd.rch) := (by rw [cellOf (heap_alloc_at _ _) 1]; exact hd_at1 hd); rw [hn] at k1; have hfa : Hid (Fresh wo (w1.alloc (.cells (hdA hd) 130 (0, 0)))) := (Mod.trans ((Mod.refl _ wo).alloc _) hf1 |>.alloc _))
          | (refine wpList_store_new rfl 130 _ _ rfl w1 _ (hdA hd) _ rfl rfl rfl (szHdOf HOH.out) (sameSize rfl (hd_size HOH.out)) (hd_one _) ?_))
        go_roundw
        case rel => exact ⟨i + 1, gr, hs', rfl, by go_num, by omega, HF.out.fresh hfa.out, HRES.out, Mod.trans HMOD.out (Mod.mono hfa.out (fun _ _ x => x.elim))⟩
        case measure => exact HME.out
      · rw [if_neg (by simp [hn])] at hres
        generalize hRR : growRS psy hs' gr = RR at hres
        have HRR := hid hRR
        have HRES := hid hres
        clear hres hRR
        go_wp2_with (first
          | (refine wpList_load_mid rfl 108 _ rfl gp (i * 2) rfl [.int .i64 ph, .slice sao psy.length scap] _ RG.out Tryz.underlying108 rfl szPV ?_)
          | (go_at_call 57; refine (GA.out _ HFb.out).mono ?_; rintro e w1 ⟨rfl, hf1⟩; have hz1 : wo.heap.size < w1.heap.size := (by have := hf1.size; simp at this; omega); have k1 : (w1.alloc (.cells (hdA hd) 130 (0, 0))).cell? ⟨w1.heap.size, 1, none⟩ = some (.bool hd.rch) := (by rw [cellOf (heap_alloc_at _ _) 1]; exact hd_at1 hd); rw [hn] at k1; have k2 : (w1.alloc (.cells (hdA hd) 130 (0, 0))).cell? ⟨wo.heap.size, 1, none⟩ = some (.slice sao psy.length scap) := (by rw [cellOf (heap_alloc_prev (hf1.at (heap_alloc_at _ _) (fun x => x))) 1]; rfl); have hfa : Hid (Fresh wo (w1.alloc (.cells (hdA hd) 130 (0, 0)))) := (Mod.trans ((Mod.refl _ wo).alloc _) hf1 |>.alloc _))
          | (refine wpList_store_new rfl 130 _ _ rfl w1 _ (hdA hd) _ rfl rfl rfl (szHdOf HOH.out) (sameSize rfl (hd_size HOH.out)) (hd_one _) ?_))
        go_loopw [3, 8, 9, 30] (fun x3 _ _ x30 wr => ∃ (j : Nat) (gr1 : Bool) (hs1 : List Hd), x3 = .bool gr1 ∧ x30 = .int .i64 j ∧ j ≤ psy.length ∧ FA wr b R H (.slice (some ⟨gp, 0, none⟩) ps.length cap) vh ps hs1 ∧ growRS (psy.drop j) hs1 gr1 = RR ∧ Mod (growBegV vh) w wr)
          (fun _ _ _ x _ => psy.length + 1 - (intOf x).toNat)
        case atStart => exact ⟨0, gr, hs', rfl, rfl, by omega, HF.out.fresh hfa.out, HRR.out, Mod.trans HMOD.out (Mod.mono hfa.out (fun _ _ x => x.elim))⟩
        case round =>
          obtain ⟨j, gr1, hs1, rfl, rfl, hj, hF1, hres1, hmod1⟩ := hrel
          have HMJ := hid (meas (B := psy.length + 1) j (by omega))
          have HM1 := hid hmod1
          have HF1 := hid hF1
          clear hmod1
          by_cases hlj : j < psy.length
          · have hj1 : (j : Int) < (psy.length : Int) := by omega
            rw [List.drop_eq_getElem_cons hlj] at hres1
            obtain ⟨ao2, cap2, hv2, hd1, hd2, hcells⟩ := HSY.out _ _ hF1
            rw [Value.slice.injEq] at hv2
            obtain ⟨rfl, _, rfl⟩ := hv2
            obtain ⟨gs, os, rfl, hgs, hrs⟩ := hcells j hlj
            have RS : Hid (wr.rangeAt gs (os + j * 2) [.bool psy[j].isH, .int .i64 psy[j].num]) := hrs
            unfold growRS at hres1
            generalize psy[j].isH = sh at hres1 RS
            generalize psy[j].num = sn at hres1 RS
            have hbi := hF1.size
            clear hcells hrs
            cases sh
            · rw [if_pos rfl] at hres1
              have HRES1 := hid hres1
              clear hres1 hF1
              go_wp2_with (first
                | (refine wpList_load_mid rfl 74 _ rfl gs (os + j * 2) rfl [.bool false, .int .i64 sn] _ RS.out Tryz.underlying74 rfl szSy ?_))
              go_roundw
              case rel => exact ⟨j + 1, gr1, hs1, rfl, by go_num, by omega, HF1.out.fresh ((Mod.refl _ wr).alloc _), HRES1.out, Mod.trans HM1.out ((Mod.refl _ wr).alloc _)⟩
              case measure => exact HMJ.out
            · rw [if_neg (by simp)] at hres1
              have HOH1 := hid (getH_ok hF1.ok sn)
              have GA1 := hid (fun w (h : FA w b R H (.slice (some ⟨gp, 0, none⟩) ps.length cap) vh ps hs1) => get_any w b R H _ vh ps hs1 sn h)
              have PA1 := hid (fun w (x : Hd) (hx : x.ok) (h : FA w b R H (.slice (some ⟨gp, 0, none⟩) ps.length cap) vh ps hs1) => put_any w b R H _ vh ps hs1 sn x hx h)
              have HFc := hid (hF1.fresh ((Mod.refl _ wr).alloc (.cells #[.bool true, .int .i64 sn] 74 (0, 0))))
              generalize getH hs1 sn = hd1 at hres1 HOH1 GA1
              have HO1 : Hid (Hd.ok { hd1 with rch := true }) := ⟨HOH1.out.fi, HOH1.out.fo⟩
              generalize hpb : putB hs1 sn { hd1 with rch := true } = pb at hres1
              have HPB := hid hpb
              have HRES1 := hid hres1
              clear hres1 hF1 hpb
              go_wp2_with (first
                | (refine wpList_load_mid rfl 74 _ rfl gs (os + j * 2) rfl [.bool true, .int .i64 sn] _ RS.out Tryz.underlying74 rfl szSy ?_)
                | (go_at_call 57; refine (GA1.out _ HFc.out).mono ?_; rintro e w2 ⟨rfl, hf2⟩; have hz2 : wr.heap.size < w2.heap.size := (by have := hf2.size; simp at this; omega); have c3 : (w2.alloc (.cells (hdA hd1) 130 (0, 0))).cell? ⟨w2.heap.size, 1, none⟩ = some (.bool hd1.rch) := (by rw [cellOf (heap_alloc_at _ _) 1]; exact hd_at1 hd1); have z3 := frozen_at (heap_alloc_at w2 (.cells (hdA hd1) 130 (0, 0))) 1; have hfz : Hid (Fresh wr (w2.alloc (.cells ((hdA hd1).setIfInBounds 1 (.bool true)) 130 (0, 0)))) := (Mod.trans ((Mod.refl _ wr).alloc _) hf2 |>.alloc _); have hb4 : Hid ((w2.alloc (.cells ((hdA hd1).setIfInBounds 1 (.bool true)) 130 (0, 0))).heap[w2.heap.size]? = some (.cells (hdA { hd1 with rch := true }) 130 (0, 0))) := (by unfold Hid; rw [hd_set1]; exact heap_alloc_at _ _); have k4 : (w2.alloc (.cells ((hdA hd1).setIfInBounds 1 (.bool true)) 130 (0, 0))).cell? ⟨wr.heap.size, 1, none⟩ = some (.int .i64 sn) := (by rw [cellOf (heap_alloc_prev (hf2.at (heap_alloc_at _ _) (fun x => x))) 1]; rfl))
                | (refine wpList_store_new rfl 130 _ _ rfl w2 _ (hdA hd1) _ rfl rfl rfl (szHdOf HOH1.out) (sameSize rfl (hd_size HOH1.out)) (hd_one _) ?_)
                | (refine wpList_load_row rfl 130 _ rfl w2.heap.size rfl _ _ _ _ hb4.out Tryz.underlying130 rfl (szHdOf HO1.out) ?_)
                | (go_at_call 82; refine (PA1.out _ { hd1 with rch := true } HO1.out (HF1.out.fresh hfz.out)).mono ?_; rintro e w4 ⟨rfl, hF4, hm4⟩; rw [HPB.out]))
              · have hq : pb = true := by assumption
                go_roundw
                case rel =>
                  refine ⟨j + 1, true, _, rfl, by go_num, by omega, hF4, ?_, Mod.trans HM1.out (Mod.trans (Mod.mono hfz.out (fun _ _ x => x.elim)) hm4)⟩
                  have := HRES1.out; rw [hq, Bool.or_true] at this; exact this
                case measure => exact HMJ.out
              · have hq : pb = false := by assumption
                go_roundw
                case rel =>
                  refine ⟨j + 1, gr1, _, rfl, by go_num, by omega, hF4, ?_, Mod.trans HM1.out (Mod.trans (Mod.mono hfz.out (fun _ _ x => x.elim)) hm4)⟩
                  have := HRES1.out; rw [hq, Bool.or_false] at this; exact this
                case measure => exact HMJ.out
          · have hje : j = psy.length := by omega
            rw [hje, List.drop_length] at hres1
            have hres2 : (hs1, gr1) = RR := hres1
            have HRES1 := hid hres2
            have hj2 : ¬ (j : Int) < (psy.length : Int) := by omega
            clear hres1 hres2 hF1
            go_wp2
            go_roundw
            case rel =>
              refine ⟨i + 1, gr1, hs1, rfl, by go_num, by omega, HF1.out, ?_, HM1.out⟩
              have := HRES.out; rw [← HRES1.out] at this; exact this
            case measure => exact HME.out
    · have hie : i = ps.length := by omega
      rw [hie, List.drop_length] at hres
      have hres2 : (hs', gr) = RES := hres
      have HRES := hid hres2
      have hi2 : ¬ (i : Int) < (ps.length : Int) := by omega
      clear hres hF
      go_wp2
      go_ret
      exact ⟨ret_bool (by rw [← HRES.out]), by rw [← HRES.out]; exact HF.out, HMOD.out⟩
end Go.Proofs.YtakkooidejdfkaaGreat
