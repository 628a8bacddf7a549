import Derived.Test.YteneagnhihcljaaGreatDoorSea
namespace Go.Proofs.YteneagnhihcljaaGreatDoor
open Go.RowKit
set_option linter.unusedVariables false
set_option linter.unusedSimpArgs false

set_option maxRecDepth 20000 in
set_option maxHeartbeats 4000000 in
theorem growS_any (w : World) (b : Nat) (R H : Int) (vp vh : Value) (ps : List PV) (hs : List Hd) (h : FA w b R H vp vh ps hs) (hps : ps.length ≤ 1000) :
    Calls Tryz.prog 78 #[bptr b] w fun e w' => e = .returned (.bool (growSL (prsOf ps) hs false).2) ∧ FA w' b R H vp vh ps (growSL (prsOf ps) hs false).1 ∧ Mod (growBegV vh) w w' := by
  have HF0 := hid h
  obtain ⟨ao, cap, hv⟩ := own_form h.prs.row.own
  subst hv
  have k2 := h.cell 2
  simp at k2
  generalize hR : growSL (prsOf ps) hs false = RES
  have HR := hid hR
  clear hR h
  go_enter Tryz.func78, Tryz.ntmps78
  go_wp2
  go_loopw [3, 5, 6, 7, 8, 9, 10, 11, 18, 25] (fun x3 _ _ _ _ _ _ _ x16 _ wr => ∃ (i : Nat) (gr : Bool) (hs' : List Hd), x3 = .bool gr ∧ x16 = .int .i64 i ∧ i ≤ ps.length ∧ FA wr b R H (.slice ao ps.length cap) vh ps hs' ∧ growSL (prsOf (ps.drop i)) hs' gr = RES ∧ Mod (growBegV vh) w wr)
      (fun _ _ _ _ _ _ _ _ x _ _ => ps.length + 1 - (intOf x).toNat)
  case atStart => exact ⟨0, false, hs, rfl, rfl, by omega, HF0.out, HR.out, Mod.refl _ w⟩
  case round =>
    obtain ⟨i, gr, hs', rfl, rfl, hi, hF, hres, hmod⟩ := hrel
    obtain ⟨wo, hwo⟩ : ∃ wo, wo = wr := ⟨_, rfl⟩
    subst hwo
    have HME := hid (meas (B := ps.length + 1) i (by omega))
    have HMOD := hid hmod
    have HF := hid hF
    clear hmod
    by_cases hlt : i < ps.length
    · have hi1 : (i : Int) < (ps.length : Int) := by omega
      rw [List.drop_eq_getElem_cons hlt] at hres
      obtain ⟨gp, cap', hv'⟩ := Joins.ownsRow_form hF.prs.row.own (by omega)
      rw [Value.slice.injEq] at hv'
      obtain ⟨rfl, _, rfl⟩ := hv'
      have RG : Hid (wo.rangeAt gp (i * 2) [.int .i64 ps[i].pr.head, ps[i].vs]) := hF.prs.row.range i hlt
      have hbl := hF.size
      have HFb := hid (hF.fresh ((Mod.refl _ wo).alloc (.cells #[.int .i64 ps[i].pr.head, ps[i].vs] 73 (0, 0))))
      have HSY : Hid (∀ (w1 : World) (hs1 : List Hd), FA w1 b R H (.slice (some ⟨gp, 0, none⟩) ps.length cap) vh ps hs1 → SymAt w1 b ps[i].vs ps[i].pr.syms) := fun w1 hs1 h => h.prs.syms ps[i] (by simp)
      unfold prsOf at hres
      rw [List.map_cons] at hres
      unfold growSL at hres
      generalize ps[i].pr = pr at hres RG HSY HFb
      generalize ps[i].vs = pvs at RG HSY HFb
      obtain ⟨ph, psy⟩ := pr
      dsimp only at hres RG HSY HFb
      obtain ⟨sao, scap, hsv, hsc1, hsc2, _⟩ := HSY.out _ _ hF
      subst hsv
      unfold maxLen at hsc2
      clear hF
      generalize hRR : growSS ph psy hs' gr = RR at hres
      have HRR := hid hRR
      have HRES := hid hres
      clear hres hRR
      go_wp2_with (first
        | (refine wpList_load_mid rfl 73 _ rfl gp (i * 2) rfl [.int .i64 ph, .slice sao psy.length scap] _ RG.out Tryz.underlying73 rfl szPV ?_))
      go_loopw [3, 6, 7, 8, 9, 10, 11, 25] (fun x3 _ _ _ _ _ _ x30 wr => ∃ (j : Nat) (gr1 : Bool) (hs1 : List Hd), x3 = .bool gr1 ∧ x30 = .int .i64 j ∧ j ≤ psy.length ∧ FA wr b R H (.slice (some ⟨gp, 0, none⟩) ps.length cap) vh ps hs1 ∧ growSS ph (psy.drop j) hs1 gr1 = RR ∧ Mod (growBegV vh) w wr ∧ wr.heap[wo.heap.size]? = some (.cells #[.int .i64 ph, .slice sao psy.length scap] 73 (0, 0)))
        (fun _ _ _ _ _ _ _ x _ => psy.length + 1 - (intOf x).toNat)
      case atStart => exact ⟨0, gr, hs', rfl, rfl, by omega, HFb.out, HRR.out, Mod.trans HMOD.out ((Mod.refl _ wo).alloc _), heap_alloc_at _ _⟩
      case round =>
        obtain ⟨j, gr1, hs1, rfl, rfl, hj, hF1, hres1, hmod1, hpb0⟩ := hrel
        have HP0 := hid hpb0
        have hzo := heap_lt hpb0
        clear hpb0
        have HMJ := hid (meas (B := psy.length + 1) j (by omega))
        have HM1 := hid hmod1
        have HF1 := hid hF1
        clear hmod1
        by_cases hlj : j < psy.length
        · have hj1 : (j : Int) < (psy.length : Int) := by omega
          rw [List.drop_eq_getElem_cons hlj] at hres1
          obtain ⟨ao2, cap2, hv2, hd1, hd2, hcells⟩ := HSY.out _ _ hF1
          rw [Value.slice.injEq] at hv2
          obtain ⟨rfl, _, rfl⟩ := hv2
          obtain ⟨gs, os, rfl, hgs, hrs⟩ := hcells j hlj
          have RS : Hid (wr.rangeAt gs (os + j * 2) [.bool psy[j].isH, .int .i64 psy[j].num]) := hrs
          unfold growSS at hres1
          generalize psy[j].isH = sh at hres1 RS
          generalize psy[j].num = sn at hres1 RS
          have hbi := hF1.size
          clear hcells hrs
          cases sh
          · rw [if_pos rfl] at hres1
            have HRES1 := hid hres1
            clear hres1 hF1
            go_wp2_with (first
              | (refine wpList_load_mid rfl 84 _ rfl gs (os + j * 2) rfl [.bool false, .int .i64 sn] _ RS.out Tryz.underlying84 rfl szSy ?_))
            go_roundw
            case rel => exact ⟨j + 1, gr1, hs1, rfl, by go_num, by omega, HF1.out.fresh ((Mod.refl _ wr).alloc _), HRES1.out, Mod.trans HM1.out ((Mod.refl _ wr).alloc _), heap_alloc_prev HP0.out⟩
            case measure => exact HMJ.out
          · rw [if_neg (by simp)] at hres1
            have HP1 := hid (heap_alloc_prev (o := .cells #[.bool true, .int .i64 sn] 84 (0, 0)) HP0.out)
            have c1 : (wr.alloc (.cells #[.bool true, .int .i64 sn] 84 (0, 0))).cell? ⟨wo.heap.size, 1, none⟩ = some (.slice (some ⟨gs, os, none⟩) psy.length scap) := by rw [cellOf HP1.out 1]; rfl
            have c1' : wr.cell? ⟨wo.heap.size, 1, none⟩ = some (.slice (some ⟨gs, os, none⟩) psy.length scap) := by rw [cellOf HP0.out 1]; rfl
            have HFc := hid (hF1.fresh ((Mod.refl _ wr).alloc (.cells #[.bool true, .int .i64 sn] 84 (0, 0))))
            have HSD := hid ((HSY.out _ _ HFc.out).drop (j + 1) (by omega))
            have HSN : Hid (∀ (W : World) (n : Nat), psy.length ≤ j + 1 → n = 0 → SymAt W b (.slice (some ⟨gs, os, none⟩) n 0) (psy.drop (j + 1))) := fun W n h hn => SymAt.none (by apply List.drop_eq_nil_of_le; omega) hn
            have HNB : Hid (¬ vh.ownBlock = some wo.heap.size) := fun e => by have := (HF.out.own.lt _ e).2; omega
            have BA := hid (fun v hv => begin_any _ b R H _ vh ps hs1 b v (psy.drop (j + 1)) HFc.out (by simp; omega) hv)
            have GA1 := hid (fun w (h : FA w b R H (.slice (some ⟨gp, 0, none⟩) ps.length cap) vh ps hs1) => get_any w b R H _ vh ps hs1 ph h)
            have GA2 := hid (fun w (h : FA w b R H (.slice (some ⟨gp, 0, none⟩) ps.length cap) vh ps hs1) => get_any w b R H _ vh ps hs1 sn h)
            have PA := hid (fun w (x : Hd) (hx : x.ok) (h : FA w b R H (.slice (some ⟨gp, 0, none⟩) ps.length cap) vh ps hs1) => put_any w b R H _ vh ps hs1 sn x hx h)
            have HBL := hid (begF_len hF1.ok (psy.drop (j + 1)) zero9 rfl)
            have HOP := hid (getH_ok hF1.ok ph)
            have HOH := hid (getH_ok hF1.ok sn)
            unfold growS1 folB at hres1
            generalize begF hs1 (psy.drop (j + 1)) zero9 = bg at hres1 HBL BA
            generalize getH hs1 ph = hp at hres1 HOP GA1
            generalize getH hs1 sn = hd at hres1 HOH GA2
            obtain ⟨bg1, bg2⟩ := bg
            dsimp only at hres1 HBL BA
            clear hF1
            rcases (show scap = j + 1 ∨ ¬ scap = j + 1 by omega) with hsc | hsc
            · subst hsc
              clear HSD
              cases bg2
              · simp only [Bool.false_eq_true, if_false] at hres1
                have HOX := hid (orL_len HOH.out.fo HBL.out)
                have HO2 : Hid (Hd.ok { hd with fo := orL hd.fo (bg1) }) := ⟨HOH.out.fi, HOX.out⟩
                generalize hpb : putB hs1 sn { hd with fo := orL hd.fo (bg1) } = pb at hres1
                have HPB := hid hpb
                have HRES1 := hid hres1
                clear hres1 hpb
                go_wp2_with (first
                  | (go_at_call 87; refine (PA.out _ { hd with fo := orL hd.fo (bg1) } HO2.out (HF1.out.fresh f5.out)).mono ?_; rintro e w6 ⟨rfl, hF6, hm6⟩; have p6 := hid (hm6.at p5.out HNB.out); rw [HPB.out])
                  | (refine wpList_load_row rfl 139 _ rfl w4.heap.size rfl _ _ _ _ hb6.out Tryz.underlying139 rfl (szHdOf HO2.out) ?_)
                  | (refine wpList_store_mid rfl 110 _ _ rfl w4.heap.size 12 (tkA (orL hd.fo (bg1))) rfl rfl (by rw [tk_size HOX.out]; exact hd_there HOH.out hb5.out (by omega)) (szTokOf HOX.out) (tk_one _) ?_)
                  | (go_at_call 46; have stage4 := hf4.size; clear stage4; refine (tunion_any _ hd.fo (bg1) HOH.out.fo HBL.out).mono ?_; rintro e w5 ⟨rfl, hf5⟩; have hb5 := hid (hf5.at (heap_alloc_at w4 _) (fun x => x)); have f5 : Hid (Fresh wr (w5.setCells w4.heap.size 12 (tkA (orL hd.fo (bg1))).toList)) := Mod.setCells (by intro q; omega) _ _ _ (Mod.trans (f4.out.alloc _) hf5); have p5 : Hid ((w5.setCells w4.heap.size 12 (tkA (orL hd.fo (bg1))).toList).heap[wo.heap.size]? = some (.cells #[.int .i64 ph, .slice (some ⟨gs, os, none⟩) psy.length (j + 1)] 73 (0, 0))) := (by unfold Hid; rw [heap_setCells_other (by omega)]; exact hf5.at (heap_alloc_prev p4.out) (fun x => x)); have k5 : (w5.setCells w4.heap.size 12 (tkA (orL hd.fo (bg1))).toList).cell? ⟨wr.heap.size, 1, none⟩ = some (.int .i64 sn) := (by rw [cell_setCells_other (by omega), cellOf (hf5.at (heap_alloc_prev s4.out) (fun x => x)) 1]; rfl); have hb6 : Hid ((w5.setCells w4.heap.size 12 (tkA (orL hd.fo (bg1))).toList).heap[w4.heap.size]? = some (.cells (hdA { hd with fo := orL hd.fo (bg1) }) 139 (0, 0))) := (by unfold Hid; rw [heap_setCells_same _ _ _ _ _ _ _ hb5.out]; rw [← hd_setfo HOH.out HOX.out]; rfl))
                  | (refine wpList_load_row rfl 110 _ rfl w1.heap.size rfl _ _ _ _ (heap_alloc_prev t4.out) Tryz.underlying110 rfl (szTokOf HBL.out) ?_)
                  | (refine wpList_load_mid rfl 110 _ rfl w4.heap.size 12 rfl (bls hd.fo) _ (hdRangeFo HOH.out (heap_alloc_at _ _)) Tryz.underlying110 rfl (szTokL HOH.out.fo) ?_)
                  | (refine wpList_store_new rfl 139 _ _ rfl w4 _ (hdA hd) _ rfl rfl rfl (szHdOf HOH.out) (sameSize rfl (hd_size HOH.out)) (hd_one _) ?_)
                  | (go_at_call 66; refine (GA2.out _ (HF1.out.fresh (f1.out.alloc _))).mono ?_; rintro e w4 ⟨rfl, hf4⟩; have hz4 : w1.heap.size < w4.heap.size := (by have h1 := hf4.size; simp at h1; first | omega | (have := heap_lt t3.out; omega)); have f4 : Hid (Fresh wr w4) := Mod.trans (f1.out.alloc _) hf4; have p4 := hid (hf4.at (heap_alloc_prev p1.out) (fun x => x)); have s4 := hid (hf4.at (heap_alloc_prev s1.out) (fun x => x)); have t4 := hid (hf4.at (heap_alloc_at w1 _) (fun x => x)))
                  | (refine wpList_store_new rfl 110 _ _ rfl w1 _ (tkA bg1) _ rfl rfl rfl (szTokOf HBL.out) (sameSize rfl (tk_size HBL.out)) (tk_one _) ?_)
                  | (go_at_call 45; refine (BA.out _ (HSN.out _ _ (by omega) (by first | rfl | omega))).mono ?_; rintro e w1 ⟨rfl, hf1⟩; have hz1 : wr.heap.size < w1.heap.size := (by have := hf1.size; simp at this; omega); have f1 : Hid (Fresh wr w1) := Mod.trans ((Mod.refl _ wr).alloc _) hf1; have p1 := hid (hf1.at HP1.out (fun x => x)); have s1 := hid (hf1.at (heap_alloc_at _ _) (fun x => x)); have k1 : (w1.alloc (.cells (tkA bg1) 110 (0, 0))).cell? ⟨wo.heap.size, 0, none⟩ = some (.int .i64 ph) := (by rw [cellOf (heap_alloc_prev p1.out) 0]; rfl); have k1s : (w1.alloc (.cells (tkA bg1) 110 (0, 0))).cell? ⟨wr.heap.size, 1, none⟩ = some (.int .i64 sn) := (by rw [cellOf (heap_alloc_prev s1.out) 1]; rfl))
                  | (refine wpList_load_mid rfl 84 _ rfl gs (os + j * 2) rfl [.bool true, .int .i64 sn] _ RS.out Tryz.underlying84 rfl szSy ?_))
                all_goals
                  rename_i hq
                  go_roundw
                  case rel =>
                    first
                      | (refine ⟨j + 1, true, _, rfl, by go_num, by omega, hF6, ?_, Mod.trans HM1.out (Mod.trans (Mod.mono f5.out (fun _ _ x => x.elim)) hm6), p6.out⟩
                         have := HRES1.out; rw [hq, Bool.or_true] at this; exact this)
                      | (refine ⟨j + 1, gr1, _, rfl, by go_num, by omega, hF6, ?_, Mod.trans HM1.out (Mod.trans (Mod.mono f5.out (fun _ _ x => x.elim)) hm6), p6.out⟩
                         have := HRES1.out; rw [hq, Bool.or_false] at this; exact this)
                  case measure => exact HMJ.out
              · simp only [if_true] at hres1
                have HOL := hid (orL_len HBL.out HOP.out.fo)
                have HOX := hid (orL_len HOH.out.fo HOL.out)
                have HO2 : Hid (Hd.ok { hd with fo := orL hd.fo (orL bg1 hp.fo) }) := ⟨HOH.out.fi, HOX.out⟩
                generalize hpb : putB hs1 sn { hd with fo := orL hd.fo (orL bg1 hp.fo) } = pb at hres1
                have HPB := hid hpb
                have HRES1 := hid hres1
                clear hres1 hpb
                go_wp2_with (first
                  | (go_at_call 87; refine (PA.out _ { hd with fo := orL hd.fo (orL bg1 hp.fo) } HO2.out (HF1.out.fresh f5.out)).mono ?_; rintro e w6 ⟨rfl, hF6, hm6⟩; have p6 := hid (hm6.at p5.out HNB.out); rw [HPB.out])
                  | (refine wpList_load_row rfl 139 _ rfl w4.heap.size rfl _ _ _ _ hb6.out Tryz.underlying139 rfl (szHdOf HO2.out) ?_)
                  | (refine wpList_store_mid rfl 110 _ _ rfl w4.heap.size 12 (tkA (orL hd.fo (orL bg1 hp.fo))) rfl rfl (by rw [tk_size HOX.out]; exact hd_there HOH.out hb5.out (by omega)) (szTokOf HOX.out) (tk_one _) ?_)
                  | (go_at_call 46; have stage4 := hf4.size; clear stage4; refine (tunion_any _ hd.fo (orL bg1 hp.fo) HOH.out.fo HOL.out).mono ?_; rintro e w5 ⟨rfl, hf5⟩; have hb5 := hid (hf5.at (heap_alloc_at w4 _) (fun x => x)); have f5 : Hid (Fresh wr (w5.setCells w4.heap.size 12 (tkA (orL hd.fo (orL bg1 hp.fo))).toList)) := Mod.setCells (by intro q; omega) _ _ _ (Mod.trans (f4.out.alloc _) hf5); have p5 : Hid ((w5.setCells w4.heap.size 12 (tkA (orL hd.fo (orL bg1 hp.fo))).toList).heap[wo.heap.size]? = some (.cells #[.int .i64 ph, .slice (some ⟨gs, os, none⟩) psy.length (j + 1)] 73 (0, 0))) := (by unfold Hid; rw [heap_setCells_other (by omega)]; exact hf5.at (heap_alloc_prev p4.out) (fun x => x)); have k5 : (w5.setCells w4.heap.size 12 (tkA (orL hd.fo (orL bg1 hp.fo))).toList).cell? ⟨wr.heap.size, 1, none⟩ = some (.int .i64 sn) := (by rw [cell_setCells_other (by omega), cellOf (hf5.at (heap_alloc_prev s4.out) (fun x => x)) 1]; rfl); have hb6 : Hid ((w5.setCells w4.heap.size 12 (tkA (orL hd.fo (orL bg1 hp.fo))).toList).heap[w4.heap.size]? = some (.cells (hdA { hd with fo := orL hd.fo (orL bg1 hp.fo) }) 139 (0, 0))) := (by unfold Hid; rw [heap_setCells_same _ _ _ _ _ _ _ hb5.out]; rw [← hd_setfo HOH.out HOX.out]; rfl))
                  | (refine wpList_load_row rfl 110 _ rfl w1.heap.size rfl _ _ _ _ (heap_alloc_prev t4.out) Tryz.underlying110 rfl (szTokOf HOL.out) ?_)
                  | (refine wpList_load_mid rfl 110 _ rfl w4.heap.size 12 rfl (bls hd.fo) _ (hdRangeFo HOH.out (heap_alloc_at _ _)) Tryz.underlying110 rfl (szTokL HOH.out.fo) ?_)
                  | (refine wpList_store_new rfl 139 _ _ rfl w4 _ (hdA hd) _ rfl rfl rfl (szHdOf HOH.out) (sameSize rfl (hd_size HOH.out)) (hd_one _) ?_)
                  | (go_at_call 66; refine (GA2.out _ (HF1.out.fresh f3.out)).mono ?_; rintro e w4 ⟨rfl, hf4⟩; have hz4 : w1.heap.size < w4.heap.size := (by have h1 := hf4.size; simp at h1; first | omega | (have := heap_lt t3.out; omega)); have f4 : Hid (Fresh wr w4) := Mod.trans f3.out hf4; have p4 := hid (hf4.at p3.out (fun x => x)); have s4 := hid (hf4.at s3.out (fun x => x)); have t4 := hid (hf4.at t3'.out (fun x => x)))
                  | (refine wpList_store_row rfl 110 _ _ rfl w1.heap.size _ rfl rfl _ _ t3.out (szTokOf HOL.out) (sameSize (tk_size HBL.out) (tk_size HOL.out)) (tk_one _) ?_)
                  | (go_at_call 46; refine (tunion_any _ bg1 hp.fo HBL.out HOP.out.fo).mono ?_; rintro e w3 ⟨rfl, hf3⟩; have t3 := hid (hf3.at (heap_alloc_prev t2.out) (fun x => x)); have f3 : Hid (Fresh wr (w3.setRow w1.heap.size (tkA (orL bg1 hp.fo)))) := (Mod.trans (f2.out.alloc _) hf3).setRow (by intro q; omega) _; have p3 := hid (heap_setRow_prev (g := w1.heap.size) (cs := tkA (orL bg1 hp.fo)) (hf3.at (heap_alloc_prev p2.out) (fun x => x)) (by omega)); have s3 := hid (heap_setRow_prev (g := w1.heap.size) (cs := tkA (orL bg1 hp.fo)) (hf3.at (heap_alloc_prev s2.out) (fun x => x)) (by omega)); have t3' := hid (setRow_heap _ _ _ (tkA (orL bg1 hp.fo)) _ _ t3.out); have k3 : (w3.setRow w1.heap.size (tkA (orL bg1 hp.fo))).cell? ⟨wr.heap.size, 1, none⟩ = some (.int .i64 sn) := (by rw [cellOf s3.out 1]; rfl))
                  | (refine wpList_load_mid rfl 110 _ rfl w2.heap.size 12 rfl (bls hp.fo) _ (hdRangeFo HOP.out (heap_alloc_at _ _)) Tryz.underlying110 rfl (szTokL HOP.out.fo) ?_)
                  | (refine wpList_load_row rfl 110 _ rfl w1.heap.size rfl _ _ _ _ (heap_alloc_prev t2.out) Tryz.underlying110 rfl (szTokOf HBL.out) ?_)
                  | (refine wpList_store_new rfl 139 _ _ rfl w2 _ (hdA hp) _ rfl rfl rfl (szHdOf HOP.out) (sameSize rfl (hd_size HOP.out)) (hd_one _) ?_)
                  | (go_at_call 66; refine (GA1.out _ (HF1.out.fresh (f1.out.alloc _))).mono ?_; rintro e w2 ⟨rfl, hf2⟩; have hz2 : w1.heap.size < w2.heap.size := (by have := hf2.size; simp at this; omega); have f2 : Hid (Fresh wr w2) := Mod.trans (f1.out.alloc _) hf2; have p2 := hid (hf2.at (heap_alloc_prev p1.out) (fun x => x)); have s2 := hid (hf2.at (heap_alloc_prev s1.out) (fun x => x)); have t2 := hid (hf2.at (heap_alloc_at w1 _) (fun x => x)))
                  | (refine wpList_store_new rfl 110 _ _ rfl w1 _ (tkA bg1) _ rfl rfl rfl (szTokOf HBL.out) (sameSize rfl (tk_size HBL.out)) (tk_one _) ?_)
                  | (go_at_call 45; refine (BA.out _ (HSN.out _ _ (by omega) (by first | rfl | omega))).mono ?_; rintro e w1 ⟨rfl, hf1⟩; have hz1 : wr.heap.size < w1.heap.size := (by have := hf1.size; simp at this; omega); have f1 : Hid (Fresh wr w1) := Mod.trans ((Mod.refl _ wr).alloc _) hf1; have p1 := hid (hf1.at HP1.out (fun x => x)); have s1 := hid (hf1.at (heap_alloc_at _ _) (fun x => x)); have k1 : (w1.alloc (.cells (tkA bg1) 110 (0, 0))).cell? ⟨wo.heap.size, 0, none⟩ = some (.int .i64 ph) := (by rw [cellOf (heap_alloc_prev p1.out) 0]; rfl); have k1s : (w1.alloc (.cells (tkA bg1) 110 (0, 0))).cell? ⟨wr.heap.size, 1, none⟩ = some (.int .i64 sn) := (by rw [cellOf (heap_alloc_prev s1.out) 1]; rfl))
                  | (refine wpList_load_mid rfl 84 _ rfl gs (os + j * 2) rfl [.bool true, .int .i64 sn] _ RS.out Tryz.underlying84 rfl szSy ?_))
                all_goals
                  rename_i hq
                  go_roundw
                  case rel =>
                    first
                      | (refine ⟨j + 1, true, _, rfl, by go_num, by omega, hF6, ?_, Mod.trans HM1.out (Mod.trans (Mod.mono f5.out (fun _ _ x => x.elim)) hm6), p6.out⟩
                         have := HRES1.out; rw [hq, Bool.or_true] at this; exact this)
                      | (refine ⟨j + 1, gr1, _, rfl, by go_num, by omega, hF6, ?_, Mod.trans HM1.out (Mod.trans (Mod.mono f5.out (fun _ _ x => x.elim)) hm6), p6.out⟩
                         have := HRES1.out; rw [hq, Bool.or_false] at this; exact this)
                  case measure => exact HMJ.out
            · have hsc2 : ¬ scap - (j + 1) = 0 := by omega
              cases bg2
              · simp only [Bool.false_eq_true, if_false] at hres1
                have HOX := hid (orL_len HOH.out.fo HBL.out)
                have HO2 : Hid (Hd.ok { hd with fo := orL hd.fo (bg1) }) := ⟨HOH.out.fi, HOX.out⟩
                generalize hpb : putB hs1 sn { hd with fo := orL hd.fo (bg1) } = pb at hres1
                have HPB := hid hpb
                have HRES1 := hid hres1
                clear hres1 hpb
                go_wp2_with (first
                  | (go_at_call 87; refine (PA.out _ { hd with fo := orL hd.fo (bg1) } HO2.out (HF1.out.fresh f5.out)).mono ?_; rintro e w6 ⟨rfl, hF6, hm6⟩; have p6 := hid (hm6.at p5.out HNB.out); rw [HPB.out])
                  | (refine wpList_load_row rfl 139 _ rfl w4.heap.size rfl _ _ _ _ hb6.out Tryz.underlying139 rfl (szHdOf HO2.out) ?_)
                  | (refine wpList_store_mid rfl 110 _ _ rfl w4.heap.size 12 (tkA (orL hd.fo (bg1))) rfl rfl (by rw [tk_size HOX.out]; exact hd_there HOH.out hb5.out (by omega)) (szTokOf HOX.out) (tk_one _) ?_)
                  | (go_at_call 46; have stage4 := hf4.size; clear stage4; refine (tunion_any _ hd.fo (bg1) HOH.out.fo HBL.out).mono ?_; rintro e w5 ⟨rfl, hf5⟩; have hb5 := hid (hf5.at (heap_alloc_at w4 _) (fun x => x)); have f5 : Hid (Fresh wr (w5.setCells w4.heap.size 12 (tkA (orL hd.fo (bg1))).toList)) := Mod.setCells (by intro q; omega) _ _ _ (Mod.trans (f4.out.alloc _) hf5); have p5 : Hid ((w5.setCells w4.heap.size 12 (tkA (orL hd.fo (bg1))).toList).heap[wo.heap.size]? = some (.cells #[.int .i64 ph, .slice (some ⟨gs, os, none⟩) psy.length scap] 73 (0, 0))) := (by unfold Hid; rw [heap_setCells_other (by omega)]; exact hf5.at (heap_alloc_prev p4.out) (fun x => x)); have k5 : (w5.setCells w4.heap.size 12 (tkA (orL hd.fo (bg1))).toList).cell? ⟨wr.heap.size, 1, none⟩ = some (.int .i64 sn) := (by rw [cell_setCells_other (by omega), cellOf (hf5.at (heap_alloc_prev s4.out) (fun x => x)) 1]; rfl); have hb6 : Hid ((w5.setCells w4.heap.size 12 (tkA (orL hd.fo (bg1))).toList).heap[w4.heap.size]? = some (.cells (hdA { hd with fo := orL hd.fo (bg1) }) 139 (0, 0))) := (by unfold Hid; rw [heap_setCells_same _ _ _ _ _ _ _ hb5.out]; rw [← hd_setfo HOH.out HOX.out]; rfl))
                  | (refine wpList_load_row rfl 110 _ rfl w1.heap.size rfl _ _ _ _ (heap_alloc_prev t4.out) Tryz.underlying110 rfl (szTokOf HBL.out) ?_)
                  | (refine wpList_load_mid rfl 110 _ rfl w4.heap.size 12 rfl (bls hd.fo) _ (hdRangeFo HOH.out (heap_alloc_at _ _)) Tryz.underlying110 rfl (szTokL HOH.out.fo) ?_)
                  | (refine wpList_store_new rfl 139 _ _ rfl w4 _ (hdA hd) _ rfl rfl rfl (szHdOf HOH.out) (sameSize rfl (hd_size HOH.out)) (hd_one _) ?_)
                  | (go_at_call 66; refine (GA2.out _ (HF1.out.fresh (f1.out.alloc _))).mono ?_; rintro e w4 ⟨rfl, hf4⟩; have hz4 : w1.heap.size < w4.heap.size := (by have h1 := hf4.size; simp at h1; first | omega | (have := heap_lt t3.out; omega)); have f4 : Hid (Fresh wr w4) := Mod.trans (f1.out.alloc _) hf4; have p4 := hid (hf4.at (heap_alloc_prev p1.out) (fun x => x)); have s4 := hid (hf4.at (heap_alloc_prev s1.out) (fun x => x)); have t4 := hid (hf4.at (heap_alloc_at w1 _) (fun x => x)))
                  | (refine wpList_store_new rfl 110 _ _ rfl w1 _ (tkA bg1) _ rfl rfl rfl (szTokOf HBL.out) (sameSize rfl (tk_size HBL.out)) (tk_one _) ?_)
                  | (go_at_call 45; refine (BA.out _ HSD.out).mono ?_; rintro e w1 ⟨rfl, hf1⟩; have hz1 : wr.heap.size < w1.heap.size := (by have := hf1.size; simp at this; omega); have f1 : Hid (Fresh wr w1) := Mod.trans ((Mod.refl _ wr).alloc _) hf1; have p1 := hid (hf1.at HP1.out (fun x => x)); have s1 := hid (hf1.at (heap_alloc_at _ _) (fun x => x)); have k1 : (w1.alloc (.cells (tkA bg1) 110 (0, 0))).cell? ⟨wo.heap.size, 0, none⟩ = some (.int .i64 ph) := (by rw [cellOf (heap_alloc_prev p1.out) 0]; rfl); have k1s : (w1.alloc (.cells (tkA bg1) 110 (0, 0))).cell? ⟨wr.heap.size, 1, none⟩ = some (.int .i64 sn) := (by rw [cellOf (heap_alloc_prev s1.out) 1]; rfl))
                  | (refine wpList_load_mid rfl 84 _ rfl gs (os + j * 2) rfl [.bool true, .int .i64 sn] _ RS.out Tryz.underlying84 rfl szSy ?_))
                all_goals
                  rename_i hq
                  go_roundw
                  case rel =>
                    first
                      | (refine ⟨j + 1, true, _, rfl, by go_num, by omega, hF6, ?_, Mod.trans HM1.out (Mod.trans (Mod.mono f5.out (fun _ _ x => x.elim)) hm6), p6.out⟩
                         have := HRES1.out; rw [hq, Bool.or_true] at this; exact this)
                      | (refine ⟨j + 1, gr1, _, rfl, by go_num, by omega, hF6, ?_, Mod.trans HM1.out (Mod.trans (Mod.mono f5.out (fun _ _ x => x.elim)) hm6), p6.out⟩
                         have := HRES1.out; rw [hq, Bool.or_false] at this; exact this)
                  case measure => exact HMJ.out
              · simp only [if_true] at hres1
                have HOL := hid (orL_len HBL.out HOP.out.fo)
                have HOX := hid (orL_len HOH.out.fo HOL.out)
                have HO2 : Hid (Hd.ok { hd with fo := orL hd.fo (orL bg1 hp.fo) }) := ⟨HOH.out.fi, HOX.out⟩
                generalize hpb : putB hs1 sn { hd with fo := orL hd.fo (orL bg1 hp.fo) } = pb at hres1
                have HPB := hid hpb
                have HRES1 := hid hres1
                clear hres1 hpb
                go_wp2_with (first
                  | (go_at_call 87; refine (PA.out _ { hd with fo := orL hd.fo (orL bg1 hp.fo) } HO2.out (HF1.out.fresh f5.out)).mono ?_; rintro e w6 ⟨rfl, hF6, hm6⟩; have p6 := hid (hm6.at p5.out HNB.out); rw [HPB.out])
                  | (refine wpList_load_row rfl 139 _ rfl w4.heap.size rfl _ _ _ _ hb6.out Tryz.underlying139 rfl (szHdOf HO2.out) ?_)
                  | (refine wpList_store_mid rfl 110 _ _ rfl w4.heap.size 12 (tkA (orL hd.fo (orL bg1 hp.fo))) rfl rfl (by rw [tk_size HOX.out]; exact hd_there HOH.out hb5.out (by omega)) (szTokOf HOX.out) (tk_one _) ?_)
                  | (go_at_call 46; have stage4 := hf4.size; clear stage4; refine (tunion_any _ hd.fo (orL bg1 hp.fo) HOH.out.fo HOL.out).mono ?_; rintro e w5 ⟨rfl, hf5⟩; have hb5 := hid (hf5.at (heap_alloc_at w4 _) (fun x => x)); have f5 : Hid (Fresh wr (w5.setCells w4.heap.size 12 (tkA (orL hd.fo (orL bg1 hp.fo))).toList)) := Mod.setCells (by intro q; omega) _ _ _ (Mod.trans (f4.out.alloc _) hf5); have p5 : Hid ((w5.setCells w4.heap.size 12 (tkA (orL hd.fo (orL bg1 hp.fo))).toList).heap[wo.heap.size]? = some (.cells #[.int .i64 ph, .slice (some ⟨gs, os, none⟩) psy.length scap] 73 (0, 0))) := (by unfold Hid; rw [heap_setCells_other (by omega)]; exact hf5.at (heap_alloc_prev p4.out) (fun x => x)); have k5 : (w5.setCells w4.heap.size 12 (tkA (orL hd.fo (orL bg1 hp.fo))).toList).cell? ⟨wr.heap.size, 1, none⟩ = some (.int .i64 sn) := (by rw [cell_setCells_other (by omega), cellOf (hf5.at (heap_alloc_prev s4.out) (fun x => x)) 1]; rfl); have hb6 : Hid ((w5.setCells w4.heap.size 12 (tkA (orL hd.fo (orL bg1 hp.fo))).toList).heap[w4.heap.size]? = some (.cells (hdA { hd with fo := orL hd.fo (orL bg1 hp.fo) }) 139 (0, 0))) := (by unfold Hid; rw [heap_setCells_same _ _ _ _ _ _ _ hb5.out]; rw [← hd_setfo HOH.out HOX.out]; rfl))
                  | (refine wpList_load_row rfl 110 _ rfl w1.heap.size rfl _ _ _ _ (heap_alloc_prev t4.out) Tryz.underlying110 rfl (szTokOf HOL.out) ?_)
                  | (refine wpList_load_mid rfl 110 _ rfl w4.heap.size 12 rfl (bls hd.fo) _ (hdRangeFo HOH.out (heap_alloc_at _ _)) Tryz.underlying110 rfl (szTokL HOH.out.fo) ?_)
                  | (refine wpList_store_new rfl 139 _ _ rfl w4 _ (hdA hd) _ rfl rfl rfl (szHdOf HOH.out) (sameSize rfl (hd_size HOH.out)) (hd_one _) ?_)
                  | (go_at_call 66; refine (GA2.out _ (HF1.out.fresh f3.out)).mono ?_; rintro e w4 ⟨rfl, hf4⟩; have hz4 : w1.heap.size < w4.heap.size := (by have h1 := hf4.size; simp at h1; first | omega | (have := heap_lt t3.out; omega)); have f4 : Hid (Fresh wr w4) := Mod.trans f3.out hf4; have p4 := hid (hf4.at p3.out (fun x => x)); have s4 := hid (hf4.at s3.out (fun x => x)); have t4 := hid (hf4.at t3'.out (fun x => x)))
                  | (refine wpList_store_row rfl 110 _ _ rfl w1.heap.size _ rfl rfl _ _ t3.out (szTokOf HOL.out) (sameSize (tk_size HBL.out) (tk_size HOL.out)) (tk_one _) ?_)
                  | (go_at_call 46; refine (tunion_any _ bg1 hp.fo HBL.out HOP.out.fo).mono ?_; rintro e w3 ⟨rfl, hf3⟩; have t3 := hid (hf3.at (heap_alloc_prev t2.out) (fun x => x)); have f3 : Hid (Fresh wr (w3.setRow w1.heap.size (tkA (orL bg1 hp.fo)))) := (Mod.trans (f2.out.alloc _) hf3).setRow (by intro q; omega) _; have p3 := hid (heap_setRow_prev (g := w1.heap.size) (cs := tkA (orL bg1 hp.fo)) (hf3.at (heap_alloc_prev p2.out) (fun x => x)) (by omega)); have s3 := hid (heap_setRow_prev (g := w1.heap.size) (cs := tkA (orL bg1 hp.fo)) (hf3.at (heap_alloc_prev s2.out) (fun x => x)) (by omega)); have t3' := hid (setRow_heap _ _ _ (tkA (orL bg1 hp.fo)) _ _ t3.out); have k3 : (w3.setRow w1.heap.size (tkA (orL bg1 hp.fo))).cell? ⟨wr.heap.size, 1, none⟩ = some (.int .i64 sn) := (by rw [cellOf s3.out 1]; rfl))
                  | (refine wpList_load_mid rfl 110 _ rfl w2.heap.size 12 rfl (bls hp.fo) _ (hdRangeFo HOP.out (heap_alloc_at _ _)) Tryz.underlying110 rfl (szTokL HOP.out.fo) ?_)
                  | (refine wpList_load_row rfl 110 _ rfl w1.heap.size rfl _ _ _ _ (heap_alloc_prev t2.out) Tryz.underlying110 rfl (szTokOf HBL.out) ?_)
                  | (refine wpList_store_new rfl 139 _ _ rfl w2 _ (hdA hp) _ rfl rfl rfl (szHdOf HOP.out) (sameSize rfl (hd_size HOP.out)) (hd_one _) ?_)
                  | (go_at_call 66; refine (GA1.out _ (HF1.out.fresh (f1.out.alloc _))).mono ?_; rintro e w2 ⟨rfl, hf2⟩; have hz2 : w1.heap.size < w2.heap.size := (by have := hf2.size; simp at this; omega); have f2 : Hid (Fresh wr w2) := Mod.trans (f1.out.alloc _) hf2; have p2 := hid (hf2.at (heap_alloc_prev p1.out) (fun x => x)); have s2 := hid (hf2.at (heap_alloc_prev s1.out) (fun x => x)); have t2 := hid (hf2.at (heap_alloc_at w1 _) (fun x => x)))
                  | (refine wpList_store_new rfl 110 _ _ rfl w1 _ (tkA bg1) _ rfl rfl rfl (szTokOf HBL.out) (sameSize rfl (tk_size HBL.out)) (tk_one _) ?_)
                  | (go_at_call 45; refine (BA.out _ HSD.out).mono ?_; rintro e w1 ⟨rfl, hf1⟩; have hz1 : wr.heap.size < w1.heap.size := (by have := hf1.size; simp at this; omega); have f1 : Hid (Fresh wr w1) := Mod.trans ((Mod.refl _ wr).alloc _) hf1; have p1 := hid (hf1.at HP1.out (fun x => x)); have s1 := hid (hf1.at (heap_alloc_at _ _) (fun x => x)); have k1 : (w1.alloc (.cells (tkA bg1) 110 (0, 0))).cell? ⟨wo.heap.size, 0, none⟩ = some (.int .i64 ph) := (by rw [cellOf (heap_alloc_prev p1.out) 0]; rfl); have k1s : (w1.alloc (.cells (tkA bg1) 110 (0, 0))).cell? ⟨wr.heap.size, 1, none⟩ = some (.int .i64 sn) := (by rw [cellOf (heap_alloc_prev s1.out) 1]; rfl))
                  | (refine wpList_load_mid rfl 84 _ rfl gs (os + j * 2) rfl [.bool true, .int .i64 sn] _ RS.out Tryz.underlying84 rfl szSy ?_))
                all_goals
                  rename_i hq
                  go_roundw
                  case rel =>
                    first
                      | (refine ⟨j + 1, true, _, rfl, by go_num, by omega, hF6, ?_, Mod.trans HM1.out (Mod.trans (Mod.mono f5.out (fun _ _ x => x.elim)) hm6), p6.out⟩
                         have := HRES1.out; rw [hq, Bool.or_true] at this; exact this)
                      | (refine ⟨j + 1, gr1, _, rfl, by go_num, by omega, hF6, ?_, Mod.trans HM1.out (Mod.trans (Mod.mono f5.out (fun _ _ x => x.elim)) hm6), p6.out⟩
                         have := HRES1.out; rw [hq, Bool.or_false] at this; exact this)
                  case measure => exact HMJ.out
        · have hje : j = psy.length := by omega
          rw [hje, List.drop_length] at hres1
          have hres2 : (hs1, gr1) = RR := hres1
          have HRES1 := hid hres2
          have hj2 : ¬ (j : Int) < (psy.length : Int) := by omega
          clear hres1 hres2 hF1
          go_wp2
          go_roundw
          case rel =>
            refine ⟨i + 1, gr1, hs1, rfl, by go_num, by omega, HF1.out, ?_, HM1.out⟩
            have := HRES.out; rw [← HRES1.out] at this; exact this
          case measure => exact HME.out
    · have hie : i = ps.length := by omega
      rw [hie, List.drop_length] at hres
      have hres2 : (hs', gr) = RES := hres
      have HRES := hid hres2
      have hi2 : ¬ (i : Int) < (ps.length : Int) := by omega
      clear hres hF
      go_wp2
      go_ret
      exact ⟨ret_bool (by rw [← HRES.out]), by rw [← HRES.out]; exact HF.out, HMOD.out⟩
end Go.Proofs.YteneagnhihcljaaGreatDoor
