import Derived.Test.YtolpddkpfigidaaSe8
namespace Go.Proofs.Ytolpddkpfigidaa
open Go.RowKit
set_option linter.unusedVariables false
set_option linter.unusedSimpArgs false

theorem frozen_at {w : World} {b : Nat} {c : Array Value} {e : TypeId} (h : w.heap[b]? = some (.cells c e (0, 0))) (o : Nat) : w.frozen? ⟨b, o, none⟩ = false := frozenOf h o

set_option maxRecDepth 20000 in
set_option maxHeartbeats 8000000 in
theorem growF_any (w : World) (b : Nat) (R H : Int) (vp vh : Value) (ps : List PV) (hs : List Hd) (h : FA w b R H vp vh ps hs) (hps : ps.length ≤ 1000) :
    Calls Try.prog 113 #[bptr b] w fun e w' => e = .returned (.bool (growFL (prsOf ps) hs false).2) ∧ FA w' b R H vp vh ps (growFL (prsOf ps) hs false).1 ∧ Mod (growBegV vh) w w' := by
  have HF0 := hid h
  obtain ⟨ao, cap, hv⟩ := own_form h.prs.row.own
  subst hv
  have k2 := h.cell 2
  simp at k2
  generalize hR : growFL (prsOf ps) hs false = RES
  have HR := hid hR
  clear hR h
  go_enter Try.func113, Try.ntmps113
  go_wp2
  go_loopw [3, 5, 6, 13] (fun x3 _ _ x13 wr => ∃ (i : Nat) (gr : Bool) (hs' : List Hd), x3 = .bool gr ∧ x13 = .int .i64 i ∧ i ≤ ps.length ∧ FA wr b R H (.slice ao ps.length cap) vh ps hs' ∧ growFL (prsOf (ps.drop i)) hs' gr = RES ∧ Mod (growBegV vh) w wr)
      (fun _ _ _ x _ => ps.length + 1 - (intOf x).toNat)
  case atStart => exact ⟨0, false, hs, rfl, rfl, by omega, HF0.out, HR.out, Mod.refl _ w⟩
  case round =>
    obtain ⟨i, gr, hs', rfl, rfl, hi, hF, hres, hmod⟩ := hrel
    have HME := hid (meas (B := ps.length + 1) i (by omega))
    have HMOD := hid hmod
    have HF := hid hF
    clear hmod
    by_cases hlt : i < ps.length
    · have hi1 : (i : Int) < (ps.length : Int) := by omega
      rw [List.drop_eq_getElem_cons hlt] at hres
      obtain ⟨gp, cap', hv'⟩ := Joins.ownsRow_form hF.prs.row.own (by omega)
      rw [Value.slice.injEq] at hv'
      obtain ⟨rfl, _, rfl⟩ := hv'
      have RG : Hid (wr.rangeAt gp (i * 2) [.int .i64 ps[i].pr.head, ps[i].vs]) := hF.prs.row.range i hlt
      have hbl := hF.size
      have HFb := hid (hF.fresh ((Mod.refl _ wr).alloc (.cells #[.int .i64 ps[i].pr.head, ps[i].vs] 178 (0, 0))))
      have HSY := hid (hF.prs.syms ps[i] (by simp))
      unfold prsOf at hres
      rw [List.map_cons] at hres
      unfold growFL growF1 at hres
      generalize ps[i].pr = pr at hres RG HSY HFb
      generalize ps[i].vs = pvs at RG HSY HFb
      obtain ⟨ph, psy⟩ := pr
      dsimp only at hres RG HSY HFb
      obtain ⟨sao, scap, hsv, _⟩ := HSY.out
      subst hsv
      have HOH := hid (getH_ok hF.ok ph)
      have AA := hid (fun w1 (hf : Fresh wr w1) => allFru_any w1 b R H _ vh ps hs' b _ psy (HF.out.fresh hf) (by have := hf.size; omega) (HSY.out.kept (Nat.le_of_lt hbl) hf (fun _ _ x => x)))
      have GA := hid (fun w (h : FA w b R H (.slice (some ⟨gp, 0, none⟩) ps.length cap) vh ps hs') => get_any w b R H _ vh ps hs' ph h)
      have PA := hid (fun w (x : Hd) (hx : x.ok) (h : FA w b R H (.slice (some ⟨gp, 0, none⟩) ps.length cap) vh ps hs') => put_any w b R H _ vh ps hs' ph x hx h)
      generalize getH hs' ph = hd at hres HOH GA
      clear hF
      cases hal : allFru hs' psy
      · rw [hal] at hres AA
        have ehd : ({ hd with fru := hd.fru || false } : Hd) = hd := by simp
        rw [ehd] at hres
        generalize hpb : putB hs' ph hd = pb at hres
        have HPB := hid hpb
        have HRES := hid hres
        clear hres hpb
        go_wp2_with (first
          | (refine wpList_load_mid rfl 178 _ rfl gp (i * 2) rfl [.int .i64 ph, .slice sao psy.length scap] _ RG.out Try.underlying178 rfl szPV ?_)
          | (go_at_call 94; refine (GA.out _ HFb.out).mono ?_; rintro e w1 ⟨rfl, hf1⟩; have hz1 : wr.heap.size < w1.heap.size := (by have := hf1.size; simp at this; omega); have k1 : (w1.alloc (.cells (hdA hd) 154 (0, 0))).cell? ⟨wr.heap.size, 1, none⟩ = some (.slice sao psy.length scap) := (by rw [cellOf (heap_alloc_prev (hf1.at (heap_alloc_at _ _) (fun x => x))) 1]; rfl); have hfa : Hid (Fresh wr (w1.alloc (.cells (hdA hd) 154 (0, 0)))) := (Mod.trans ((Mod.refl _ wr).alloc _) hf1 |>.alloc _))
          | (refine wpList_store_new rfl 154 _ _ rfl w1 _ (hdA hd) _ rfl rfl rfl (szHdOf HOH.out) (sameSize rfl (hd_size HOH.out)) (hd_one _) ?_)
          | (go_at_call 122; refine (AA.out _ hfa.out).mono ?_; rintro e w2 ⟨rfl, hf2⟩; have hfz := hid (Mod.trans hfa.out hf2); have hb4 := hid (hf2.at (heap_alloc_at w1 _) (fun x => x)); have k4 : w2.cell? ⟨wr.heap.size, 0, none⟩ = some (.int .i64 ph) := (by rw [cellOf (hf2.at (heap_alloc_prev (hf1.at (heap_alloc_at _ _) (fun x => x))) (fun x => x)) 0]; rfl))
          | (refine wpList_load_row rfl 154 _ rfl w1.heap.size rfl _ _ _ _ hb4.out Try.underlying154 rfl (szHdOf HOH.out) ?_)
          | (go_at_call 121; refine (PA.out _ hd HOH.out (HF.out.fresh hfz.out)).mono ?_; rintro e w4 ⟨rfl, hF4, hm4⟩; rw [HPB.out]))
        · have hq : pb = true := by assumption
          go_roundw
          case rel =>
            refine ⟨i + 1, true, _, rfl, by go_num, by omega, hF4, ?_, Mod.trans HMOD.out (Mod.trans (Mod.mono hfz.out (fun _ _ x => x.elim)) hm4)⟩
            have := HRES.out; rw [hq, Bool.or_true] at this; exact this
          case measure => exact HME.out
        · have hq : pb = false := by assumption
          go_roundw
          case rel =>
            refine ⟨i + 1, gr, _, rfl, by go_num, by omega, hF4, ?_, Mod.trans HMOD.out (Mod.trans (Mod.mono hfz.out (fun _ _ x => x.elim)) hm4)⟩
            have := HRES.out; rw [hq, Bool.or_false] at this; exact this
          case measure => exact HME.out
      · rw [hal] at hres AA
        rw [Bool.or_true] at hres
        have HO1 : Hid (Hd.ok { hd with fru := true }) := ⟨HOH.out.fi, HOH.out.fo⟩
        generalize hpb : putB hs' ph { hd with fru := true } = pb at hres
        have HPB := hid hpb
        have HRES := hid hres
        clear hres hpb
        go_wp2_with (first
          | (refine wpList_load_mid rfl 178 _ rfl gp (i * 2) rfl [.int .i64 ph, .slice sao psy.length scap] _ RG.out Try.underlying178 rfl szPV ?_)
          | (go_at_call 94; refine (GA.out _ HFb.out).mono ?_; rintro e w1 ⟨rfl, hf1⟩; have hz1 : wr.heap.size < w1.heap.size := (by have := hf1.size; simp at this; omega); have k1 : (w1.alloc (.cells (hdA hd) 154 (0, 0))).cell? ⟨wr.heap.size, 1, none⟩ = some (.slice sao psy.length scap) := (by rw [cellOf (heap_alloc_prev (hf1.at (heap_alloc_at _ _) (fun x => x))) 1]; rfl); have hfa : Hid (Fresh wr (w1.alloc (.cells (hdA hd) 154 (0, 0)))) := (Mod.trans ((Mod.refl _ wr).alloc _) hf1 |>.alloc _))
          | (refine wpList_store_new rfl 154 _ _ rfl w1 _ (hdA hd) _ rfl rfl rfl (szHdOf HOH.out) (sameSize rfl (hd_size HOH.out)) (hd_one _) ?_)
          | (go_at_call 122; refine (AA.out _ hfa.out).mono ?_; rintro e w2 ⟨rfl, hf2⟩; have hfz := hid ((Mod.trans hfa.out hf2).setCell (p := ⟨w1.heap.size, 2, none⟩) (by intro q; simp at q; omega) (.bool true)); have hb3 := hid (hf2.at (heap_alloc_at w1 _) (fun x => x)); have c3 := cellOf hb3.out 2; rw [hd_at2] at c3; have z3 := frozen_at hb3.out 2; have hb4 : Hid ((w2.setCell ⟨w1.heap.size, 2, none⟩ (.bool true)).heap[w1.heap.size]? = some (.cells (hdA { hd with fru := true }) 154 (0, 0))) := (by unfold Hid; rw [Proofs.Ytolpddkpfigidaa.heap_setCell_same hb3.out, hd_set2]); have k4 : (w2.setCell ⟨w1.heap.size, 2, none⟩ (.bool true)).cell? ⟨wr.heap.size, 0, none⟩ = some (.int .i64 ph) := (by rw [cellOf (heap_setCell_prev (hf2.at (heap_alloc_prev (hf1.at (heap_alloc_at _ _) (fun x => x))) (fun x => x)) (by dsimp only; omega)) 0]; rfl))
          | (refine wpList_load_row rfl 154 _ rfl w1.heap.size rfl _ _ _ _ hb4.out Try.underlying154 rfl (szHdOf HO1.out) ?_)
          | (go_at_call 121; refine (PA.out _ { hd with fru := true } HO1.out (HF.out.fresh hfz.out)).mono ?_; rintro e w4 ⟨rfl, hF4, hm4⟩; rw [HPB.out]))
        · have hq : pb = true := by assumption
          go_roundw
          case rel =>
            refine ⟨i + 1, true, _, rfl, by go_num, by omega, hF4, ?_, Mod.trans HMOD.out (Mod.trans (Mod.mono hfz.out (fun _ _ x => x.elim)) hm4)⟩
            have := HRES.out; rw [hq, Bool.or_true] at this; exact this
          case measure => exact HME.out
        · have hq : pb = false := by assumption
          go_roundw
          case rel =>
            refine ⟨i + 1, gr, _, rfl, by go_num, by omega, hF4, ?_, Mod.trans HMOD.out (Mod.trans (Mod.mono hfz.out (fun _ _ x => x.elim)) hm4)⟩
            have := HRES.out; rw [hq, Bool.or_false] at this; exact this
          case measure => exact HME.out
    · have hie : i = ps.length := by omega
      rw [hie, List.drop_length] at hres
      have hres2 : (hs', gr) = RES := hres
      have HRES := hid hres2
      have hi2 : ¬ (i : Int) < (ps.length : Int) := by omega
      clear hres hF
      go_wp2
      go_ret
      exact ⟨ret_bool (by rw [← HRES.out]), by rw [← HRES.out]; exact HF.out, HMOD.out⟩
end Go.Proofs.Ytolpddkpfigidaa
