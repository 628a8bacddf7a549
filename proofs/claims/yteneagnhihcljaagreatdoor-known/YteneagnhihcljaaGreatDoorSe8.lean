import Derived.Test.YteneagnhihcljaaGreatDoorSe6
namespace Go.Proofs.YteneagnhihcljaaGreatDoor
open Go.RowKit
set_option linter.unusedVariables false
set_option linter.unusedSimpArgs false

theorem hd_set0 (h : Hd) (v : Bool) : (hdA h).setIfInBounds 0 (.bool v) = hdA { h with nul := v } := by simp [hdA, Hd.cells]
theorem hd_set1 (h : Hd) (v : Bool) : (hdA h).setIfInBounds 1 (.bool v) = hdA { h with rch := v } := by simp [hdA, Hd.cells]
theorem hd_set2 (h : Hd) (v : Bool) : (hdA h).setIfInBounds 2 (.bool v) = hdA { h with fru := v } := by simp [hdA, Hd.cells]
theorem hd_setfi {h : Hd} (k : h.ok) {l : List Bool} (hl : l.length = 9) : setArr (hdA h) 3 (bls l) = hdA { h with fi := l } := by
  obtain ⟨n, r, f, fi, fo⟩ := h
  obtain ⟨a0, a1, a2, a3, a4, a5, a6, a7, a8, e⟩ := nine k.fi
  obtain ⟨b0, b1, b2, b3, b4, b5, b6, b7, b8, e2⟩ := nine k.fo
  obtain ⟨c0, c1, c2, c3, c4, c5, c6, c7, c8, e3⟩ := nine hl
  dsimp only at e e2
  subst e; subst e2; subst e3
  simp [hdA, Hd.cells, bls, setArr]
theorem hd_setfo {h : Hd} (k : h.ok) {l : List Bool} (hl : l.length = 9) : setArr (hdA h) 12 (bls l) = hdA { h with fo := l } := by
  obtain ⟨n, r, f, fi, fo⟩ := h
  obtain ⟨a0, a1, a2, a3, a4, a5, a6, a7, a8, e⟩ := nine k.fi
  obtain ⟨b0, b1, b2, b3, b4, b5, b6, b7, b8, e2⟩ := nine k.fo
  obtain ⟨c0, c1, c2, c3, c4, c5, c6, c7, c8, e3⟩ := nine hl
  dsimp only at e e2
  subst e; subst e2; subst e3
  simp [hdA, Hd.cells, bls, setArr]
theorem hd_there {w : World} {g : Nat} {h : Hd} {t : TypeId} (k : h.ok) (hb : w.heap[g]? = some (.cells (hdA h) t (0, 0))) {o n : Nat} (ho : o + n ≤ 21) : w.there g o n := fun j hj => by
  refine ⟨?_, frozenOf hb _⟩
  rw [cellOf hb]
  have := hd_size k
  simp [this]; omega
theorem cell_setCells_other {w : World} {g o : Nat} {vs : List Value} {b : Nat} {p : Nat} (hb : b ≠ g) : (w.setCells g o vs).cell? ⟨b, p, none⟩ = w.cell? ⟨b, p, none⟩ :=
  World.cell?_setCells_out g vs o w ⟨b, p, none⟩ (fun e => absurd e hb)

def growBegV (v : Value) : Nat → Prop := fun k => v.ownBlock = some k

set_option maxRecDepth 20000 in
set_option maxHeartbeats 8000000 in
theorem growB_any (w : World) (b : Nat) (R H : Int) (vp vh : Value) (ps : List PV) (hs : List Hd) (h : FA w b R H vp vh ps hs) (hps : ps.length ≤ 1000) :
    Calls Tryz.prog 77 #[bptr b] w fun e w' => e = .returned (.bool (growBL (prsOf ps) hs false).2) ∧ FA w' b R H vp vh ps (growBL (prsOf ps) hs false).1 ∧ Mod (growBegV vh) w w' := by
  have HF0 := hid h
  obtain ⟨ao, cap, hv⟩ := own_form h.prs.row.own
  subst hv
  have k2 := h.cell 2
  simp at k2
  generalize hR : growBL (prsOf ps) hs false = RES
  have HR := hid hR
  clear hR h
  go_enter Tryz.func77, Tryz.ntmps77
  go_wp2
  go_loopw [3, 5, 6, 7, 8, 15] (fun x3 _ _ _ _ x15 wr => ∃ (i : Nat) (gr : Bool) (hs' : List Hd), x3 = .bool gr ∧ x15 = .int .i64 i ∧ i ≤ ps.length ∧ FA wr b R H (.slice ao ps.length cap) vh ps hs' ∧ growBL (prsOf (ps.drop i)) hs' gr = RES ∧ Mod (growBegV vh) w wr)
      (fun _ _ _ _ _ x _ => ps.length + 1 - (intOf x).toNat)
  case atStart => exact ⟨0, false, hs, rfl, rfl, by omega, HF0.out, HR.out, Mod.refl _ w⟩
  case round =>
    obtain ⟨i, gr, hs', rfl, rfl, hi, hF, hres, hmod⟩ := hrel
    have HME := hid (meas (B := ps.length + 1) i (by omega))
    have HMOD := hid hmod
    have HF := hid hF
    clear hmod
    by_cases hlt : i < ps.length
    · have hi1 : (i : Int) < (ps.length : Int) := by omega
      rw [List.drop_eq_getElem_cons hlt] at hres
      obtain ⟨gp, cap', hv'⟩ := Joins.ownsRow_form hF.prs.row.own (by omega)
      rw [Value.slice.injEq] at hv'
      obtain ⟨rfl, _, rfl⟩ := hv'
      have RG : Hid (wr.rangeAt gp (i * 2) [.int .i64 ps[i].pr.head, ps[i].vs]) := hF.prs.row.range i hlt
      have hbl := hF.size
      have HFb := hid (hF.fresh ((Mod.refl _ wr).alloc (.cells #[.int .i64 ps[i].pr.head, ps[i].vs] 73 (0, 0))))
      have HSY := hid (HFb.out.prs.syms ps[i] (by simp))
      unfold prsOf at hres
      rw [List.map_cons] at hres
      unfold growBL growB1 at hres
      generalize ps[i].pr = pr at hres RG HSY HFb
      generalize ps[i].vs = pvs at RG HSY HFb
      obtain ⟨ph, psy⟩ := pr
      dsimp only at hres RG HSY HFb
      obtain ⟨sao, scap, hsv, _⟩ := HSY.out
      subst hsv
      have HBL := hid (begF_len hF.ok psy zero9 rfl)
      have HOH := hid (getH_ok hF.ok ph)
      have BA := hid (begin_any _ b R H _ vh ps hs' b _ psy HFb.out (by simp; omega) HSY.out)
      have GA := hid (fun w (h : FA w b R H (.slice (some ⟨gp, 0, none⟩) ps.length cap) vh ps hs') => get_any w b R H _ vh ps hs' ph h)
      have PA := hid (fun w (x : Hd) (hx : x.ok) (h : FA w b R H (.slice (some ⟨gp, 0, none⟩) ps.length cap) vh ps hs') => put_any w b R H _ vh ps hs' ph x hx h)
      generalize begF hs' psy zero9 = bg at hres HBL BA
      generalize getH hs' ph = hd at hres HOH GA
      obtain ⟨bg1, bg2⟩ := bg
      dsimp only at hres HBL BA
      have HOL := hid (orL_len HOH.out.fi HBL.out)
      clear hF
      generalize hnn : (hd.nul || bg2) = nn at hres
      have HO1 : Hid (Hd.ok { hd with nul := nn }) := ⟨HOH.out.fi, HOH.out.fo⟩
      have HO2 : Hid (Hd.ok { hd with nul := nn, fi := orL hd.fi bg1 }) := ⟨HOL.out, HOH.out.fo⟩
      generalize hpb : putB hs' ph { hd with nul := nn, fi := orL hd.fi bg1 } = pb at hres
      have HPB := hid hpb
      have HRES := hid hres
      clear hres hpb
      cases hn : hd.nul
      · have e1 : nn = bg2 := by rw [← hnn, hn]; rfl
        clear hnn
        subst e1
        go_wp2_with (first
          | (refine wpList_load_mid rfl 73 _ rfl gp (i * 2) rfl [.int .i64 ph, .slice sao psy.length scap] _ RG.out Tryz.underlying73 rfl szPV ?_)
          | (go_at_call 45; refine BA.out.mono ?_; rintro e w1 ⟨rfl, hf1⟩; have hz1 : wr.heap.size < w1.heap.size := (by have := hf1.size; simp at this; omega); have k1 : (w1.alloc (.cells (tkA bg1) 110 (0, 0))).cell? ⟨wr.heap.size, 0, none⟩ = some (.int .i64 ph) := (by rw [cellOf (heap_alloc_prev (hf1.at (heap_alloc_at _ _) (fun x => x))) 0]; rfl))
          | (refine wpList_store_new rfl 110 _ _ rfl w1 _ (tkA bg1) _ rfl rfl rfl (szTokOf HBL.out) (sameSize rfl (tk_size HBL.out)) (tk_one _) ?_)
          | (go_at_call 66; refine (GA.out _ (HFb.out.fresh (hf1.alloc _))).mono ?_; rintro e w2 ⟨rfl, hf2⟩; have hz2 : w1.heap.size < w2.heap.size := (by have := hf2.size; simp at this; omega); have kk : (w2.alloc (.cells (hdA hd) 139 (0, 0))).cell? ⟨w2.heap.size, 0, none⟩ = some (.bool hd.nul) := (by rw [cellOf (heap_alloc_at w2 _) 0]; exact hd_at0 hd); rw [hn] at kk)
          | (refine wpList_store_new rfl 139 _ _ rfl w2 _ (hdA hd) _ rfl rfl rfl (szHdOf HOH.out) (sameSize rfl (hd_size HOH.out)) (hd_one _) ?_)
          | (refine wpList_load_mid rfl 110 _ rfl w2.heap.size 3 rfl (bls hd.fi) _ (hdRangeFi (h := { hd with nul := nn }) HO1.out (by rw [← hd_set0]; exact heap_alloc_at _ _)) Tryz.underlying110 rfl (szTokL HOH.out.fi) ?_)
          | (refine wpList_load_row rfl 110 _ rfl w1.heap.size rfl _ _ _ _ (heap_alloc_prev (hf2.at (heap_alloc_at _ _) (fun x => x))) Tryz.underlying110 rfl (szTokOf HBL.out) ?_)
          | (go_at_call 46; refine (tunion_any _ hd.fi bg1 HOH.out.fi HBL.out).mono ?_; rintro e w3 ⟨rfl, hf3⟩; have hb3 := hid (hf3.at (heap_alloc_at w2 _) (fun x => x)); rw [hd_set0] at hb3; have k4 : (w3.setCells w2.heap.size 3 (tkA (orL hd.fi bg1)).toList).cell? ⟨wr.heap.size, 0, none⟩ = some (.int .i64 ph) := (by rw [cell_setCells_other (by omega), cellOf (hf3.at (heap_alloc_prev (hf2.at (heap_alloc_prev (hf1.at (heap_alloc_at _ _) (fun x => x))) (fun x => x))) (fun x => x)) 0]; rfl); have hb4 : Hid ((w3.setCells w2.heap.size 3 (tkA (orL hd.fi bg1)).toList).heap[w2.heap.size]? = some (.cells (hdA { hd with nul := nn, fi := orL hd.fi bg1 }) 139 (0, 0))) := (by unfold Hid; rw [heap_setCells_same _ _ _ _ _ _ _ hb3.out]; rw [← hd_setfi HO1.out HOL.out]; rfl); have hfz : Hid (Fresh wr (w3.setCells w2.heap.size 3 (tkA (orL hd.fi bg1)).toList)) := Mod.setCells (by intro q; omega) _ _ _ (Mod.trans (Mod.trans (Mod.trans ((Mod.refl _ wr).alloc _) hf1 |>.alloc _) hf2 |>.alloc _) hf3))
          | (refine wpList_store_mid rfl 110 _ _ rfl w2.heap.size 3 (tkA (orL hd.fi bg1)) rfl rfl (by rw [tk_size HOL.out]; exact hd_there HO1.out hb3.out (by omega)) (szTokOf HOL.out) (tk_one _) ?_)
          | (refine wpList_load_row rfl 139 _ rfl w2.heap.size rfl _ _ _ _ hb4.out Tryz.underlying139 rfl (szHdOf HO2.out) ?_)
          | (go_at_call 87; refine (PA.out _ { hd with nul := nn, fi := orL hd.fi bg1 } HO2.out (HF.out.fresh hfz.out)).mono ?_; rintro e w4 ⟨rfl, hF4, hm4⟩; rw [HPB.out]))
        · have hq : pb = true := by assumption
          go_roundw
          case rel =>
            refine ⟨i + 1, true, _, rfl, by go_num, by omega, hF4, ?_, Mod.trans HMOD.out (Mod.trans (Mod.mono hfz.out (fun _ _ x => x.elim)) hm4)⟩
            have := HRES.out; rw [hq, Bool.or_true] at this; exact this
          case measure => exact HME.out
        · have hq : pb = false := by assumption
          go_roundw
          case rel =>
            refine ⟨i + 1, gr, _, rfl, by go_num, by omega, hF4, ?_, Mod.trans HMOD.out (Mod.trans (Mod.mono hfz.out (fun _ _ x => x.elim)) hm4)⟩
            have := HRES.out; rw [hq, Bool.or_false] at this; exact this
          case measure => exact HME.out
      · have e1 : nn = true := by rw [← hnn, hn]; rfl
        clear hnn
        subst e1
        go_wp2_with (first
          | (refine wpList_load_mid rfl 73 _ rfl gp (i * 2) rfl [.int .i64 ph, .slice sao psy.length scap] _ RG.out Tryz.underlying73 rfl szPV ?_)
          | (go_at_call 45; refine BA.out.mono ?_; rintro e w1 ⟨rfl, hf1⟩; have hz1 : wr.heap.size < w1.heap.size := (by have := hf1.size; simp at this; omega); have k1 : (w1.alloc (.cells (tkA bg1) 110 (0, 0))).cell? ⟨wr.heap.size, 0, none⟩ = some (.int .i64 ph) := (by rw [cellOf (heap_alloc_prev (hf1.at (heap_alloc_at _ _) (fun x => x))) 0]; rfl))
          | (refine wpList_store_new rfl 110 _ _ rfl w1 _ (tkA bg1) _ rfl rfl rfl (szTokOf HBL.out) (sameSize rfl (tk_size HBL.out)) (tk_one _) ?_)
          | (go_at_call 66; refine (GA.out _ (HFb.out.fresh (hf1.alloc _))).mono ?_; rintro e w2 ⟨rfl, hf2⟩; have hz2 : w1.heap.size < w2.heap.size := (by have := hf2.size; simp at this; omega); have kk : (w2.alloc (.cells (hdA hd) 139 (0, 0))).cell? ⟨w2.heap.size, 0, none⟩ = some (.bool hd.nul) := (by rw [cellOf (heap_alloc_at w2 _) 0]; exact hd_at0 hd); rw [hn] at kk)
          | (refine wpList_store_new rfl 139 _ _ rfl w2 _ (hdA hd) _ rfl rfl rfl (szHdOf HOH.out) (sameSize rfl (hd_size HOH.out)) (hd_one _) ?_)
          | (refine wpList_load_mid rfl 110 _ rfl w2.heap.size 3 rfl (bls hd.fi) _ (hdRangeFi (h := { hd with nul := true }) HO1.out (by rw [← hd_set0]; exact heap_alloc_at _ _)) Tryz.underlying110 rfl (szTokL HOH.out.fi) ?_)
          | (refine wpList_load_row rfl 110 _ rfl w1.heap.size rfl _ _ _ _ (heap_alloc_prev (hf2.at (heap_alloc_at _ _) (fun x => x))) Tryz.underlying110 rfl (szTokOf HBL.out) ?_)
          | (go_at_call 46; refine (tunion_any _ hd.fi bg1 HOH.out.fi HBL.out).mono ?_; rintro e w3 ⟨rfl, hf3⟩; have hb3 := hid (hf3.at (heap_alloc_at w2 _) (fun x => x)); rw [hd_set0] at hb3; have k4 : (w3.setCells w2.heap.size 3 (tkA (orL hd.fi bg1)).toList).cell? ⟨wr.heap.size, 0, none⟩ = some (.int .i64 ph) := (by rw [cell_setCells_other (by omega), cellOf (hf3.at (heap_alloc_prev (hf2.at (heap_alloc_prev (hf1.at (heap_alloc_at _ _) (fun x => x))) (fun x => x))) (fun x => x)) 0]; rfl); have hb4 : Hid ((w3.setCells w2.heap.size 3 (tkA (orL hd.fi bg1)).toList).heap[w2.heap.size]? = some (.cells (hdA { hd with nul := true, fi := orL hd.fi bg1 }) 139 (0, 0))) := (by unfold Hid; rw [heap_setCells_same _ _ _ _ _ _ _ hb3.out]; rw [← hd_setfi HO1.out HOL.out]; rfl); have hfz : Hid (Fresh wr (w3.setCells w2.heap.size 3 (tkA (orL hd.fi bg1)).toList)) := Mod.setCells (by intro q; omega) _ _ _ (Mod.trans (Mod.trans (Mod.trans ((Mod.refl _ wr).alloc _) hf1 |>.alloc _) hf2 |>.alloc _) hf3))
          | (refine wpList_store_mid rfl 110 _ _ rfl w2.heap.size 3 (tkA (orL hd.fi bg1)) rfl rfl (by rw [tk_size HOL.out]; exact hd_there HO1.out hb3.out (by omega)) (szTokOf HOL.out) (tk_one _) ?_)
          | (refine wpList_load_row rfl 139 _ rfl w2.heap.size rfl _ _ _ _ hb4.out Tryz.underlying139 rfl (szHdOf HO2.out) ?_)
          | (go_at_call 87; refine (PA.out _ { hd with nul := true, fi := orL hd.fi bg1 } HO2.out (HF.out.fresh hfz.out)).mono ?_; rintro e w4 ⟨rfl, hF4, hm4⟩; rw [HPB.out]))
        · have hq : pb = true := by assumption
          go_roundw
          case rel =>
            refine ⟨i + 1, true, _, rfl, by go_num, by omega, hF4, ?_, Mod.trans HMOD.out (Mod.trans (Mod.mono hfz.out (fun _ _ x => x.elim)) hm4)⟩
            have := HRES.out; rw [hq, Bool.or_true] at this; exact this
          case measure => exact HME.out
        · have hq : pb = false := by assumption
          go_roundw
          case rel =>
            refine ⟨i + 1, gr, _, rfl, by go_num, by omega, hF4, ?_, Mod.trans HMOD.out (Mod.trans (Mod.mono hfz.out (fun _ _ x => x.elim)) hm4)⟩
            have := HRES.out; rw [hq, Bool.or_false] at this; exact this
          case measure => exact HME.out
    · have hie : i = ps.length := by omega
      rw [hie, List.drop_length] at hres
      have hres2 : (hs', gr) = RES := hres
      have HRES := hid hres2
      have hi2 : ¬ (i : Int) < (ps.length : Int) := by omega
      clear hres hF
      go_wp2
      go_ret
      exact ⟨ret_bool (by rw [← HRES.out]), by rw [← HRES.out]; exact HF.out, HMOD.out⟩
end Go.Proofs.YteneagnhihcljaaGreatDoor
namespace Go.Proofs.YteneagnhihcljaaGreatDoor
open Go.RowKit
set_option linter.unusedVariables false
set_option linter.unusedSimpArgs false

theorem frozen_at {w : World} {b : Nat} {c : Array Value} {e : TypeId} (h : w.heap[b]? = some (.cells c e (0, 0))) (o : Nat) : w.frozen? ⟨b, o, none⟩ = false := frozenOf h o

set_option maxRecDepth 20000 in
set_option maxHeartbeats 8000000 in
theorem growF_any (w : World) (b : Nat) (R H : Int) (vp vh : Value) (ps : List PV) (hs : List Hd) (h : FA w b R H vp vh ps hs) (hps : ps.length ≤ 1000) :
    Calls Tryz.prog 80 #[bptr b] w fun e w' => e = .returned (.bool (growFL (prsOf ps) hs false).2) ∧ FA w' b R H vp vh ps (growFL (prsOf ps) hs false).1 ∧ Mod (growBegV vh) w w' := by
  have HF0 := hid h
  obtain ⟨ao, cap, hv⟩ := own_form h.prs.row.own
  subst hv
  have k2 := h.cell 2
  simp at k2
  generalize hR : growFL (prsOf ps) hs false = RES
  have HR := hid hR
  clear hR h
  go_enter Tryz.func80, Tryz.ntmps80
  go_wp2
  go_loopw [3, 5, 6, 13] (fun x3 _ _ x13 wr => ∃ (i : Nat) (gr : Bool) (hs' : List Hd), x3 = .bool gr ∧ x13 = .int .i64 i ∧ i ≤ ps.length ∧ FA wr b R H (.slice ao ps.length cap) vh ps hs' ∧ growFL (prsOf (ps.drop i)) hs' gr = RES ∧ Mod (growBegV vh) w wr)
      (fun _ _ _ x _ => ps.length + 1 - (intOf x).toNat)
  case atStart => exact ⟨0, false, hs, rfl, rfl, by omega, HF0.out, HR.out, Mod.refl _ w⟩
  case round =>
    obtain ⟨i, gr, hs', rfl, rfl, hi, hF, hres, hmod⟩ := hrel
    have HME := hid (meas (B := ps.length + 1) i (by omega))
    have HMOD := hid hmod
    have HF := hid hF
    clear hmod
    by_cases hlt : i < ps.length
    · have hi1 : (i : Int) < (ps.length : Int) := by omega
      rw [List.drop_eq_getElem_cons hlt] at hres
      obtain ⟨gp, cap', hv'⟩ := Joins.ownsRow_form hF.prs.row.own (by omega)
      rw [Value.slice.injEq] at hv'
      obtain ⟨rfl, _, rfl⟩ := hv'
      have RG : Hid (wr.rangeAt gp (i * 2) [.int .i64 ps[i].pr.head, ps[i].vs]) := hF.prs.row.range i hlt
      have hbl := hF.size
      have HFb := hid (hF.fresh ((Mod.refl _ wr).alloc (.cells #[.int .i64 ps[i].pr.head, ps[i].vs] 73 (0, 0))))
      have HSY := hid (hF.prs.syms ps[i] (by simp))
      unfold prsOf at hres
      rw [List.map_cons] at hres
      unfold growFL growF1 at hres
      generalize ps[i].pr = pr at hres RG HSY HFb
      generalize ps[i].vs = pvs at RG HSY HFb
      obtain ⟨ph, psy⟩ := pr
      dsimp only at hres RG HSY HFb
      obtain ⟨sao, scap, hsv, _⟩ := HSY.out
      subst hsv
      have HOH := hid (getH_ok hF.ok ph)
      have AA := hid (fun w1 (hf : Fresh wr w1) => allFru_any w1 b R H _ vh ps hs' b _ psy (HF.out.fresh hf) (by have := hf.size; omega) (HSY.out.kept (Nat.le_of_lt hbl) hf (fun _ _ x => x)))
      have GA := hid (fun w (h : FA w b R H (.slice (some ⟨gp, 0, none⟩) ps.length cap) vh ps hs') => get_any w b R H _ vh ps hs' ph h)
      have PA := hid (fun w (x : Hd) (hx : x.ok) (h : FA w b R H (.slice (some ⟨gp, 0, none⟩) ps.length cap) vh ps hs') => put_any w b R H _ vh ps hs' ph x hx h)
      generalize getH hs' ph = hd at hres HOH GA
      clear hF
      cases hal : allFru hs' psy
      · rw [hal] at hres AA
        have ehd : ({ hd with fru := hd.fru || false } : Hd) = hd := by simp
        rw [ehd] at hres
        generalize hpb : putB hs' ph hd = pb at hres
        have HPB := hid hpb
        have HRES := hid hres
        clear hres hpb
        go_wp2_with (first
          | (refine wpList_load_mid rfl 73 _ rfl gp (i * 2) rfl [.int .i64 ph, .slice sao psy.length scap] _ RG.out Tryz.underlying73 rfl szPV ?_)
          | (go_at_call 66; refine (GA.out _ HFb.out).mono ?_; rintro e w1 ⟨rfl, hf1⟩; have hz1 : wr.heap.size < w1.heap.size := (by have := hf1.size; simp at this; omega); have k1 : (w1.alloc (.cells (hdA hd) 139 (0, 0))).cell? ⟨wr.heap.size, 1, none⟩ = some (.slice sao psy.length scap) := (by rw [cellOf (heap_alloc_prev (hf1.at (heap_alloc_at _ _) (fun x => x))) 1]; rfl); have hfa : Hid (Fresh wr (w1.alloc (.cells (hdA hd) 139 (0, 0)))) := (Mod.trans ((Mod.refl _ wr).alloc _) hf1 |>.alloc _))
          | (refine wpList_store_new rfl 139 _ _ rfl w1 _ (hdA hd) _ rfl rfl rfl (szHdOf HOH.out) (sameSize rfl (hd_size HOH.out)) (hd_one _) ?_)
          | (go_at_call 88; refine (AA.out _ hfa.out).mono ?_; rintro e w2 ⟨rfl, hf2⟩; have hfz := hid (Mod.trans hfa.out hf2); have hb4 := hid (hf2.at (heap_alloc_at w1 _) (fun x => x)); have k4 : w2.cell? ⟨wr.heap.size, 0, none⟩ = some (.int .i64 ph) := (by rw [cellOf (hf2.at (heap_alloc_prev (hf1.at (heap_alloc_at _ _) (fun x => x))) (fun x => x)) 0]; rfl))
          | (refine wpList_load_row rfl 139 _ rfl w1.heap.size rfl _ _ _ _ hb4.out Tryz.underlying139 rfl (szHdOf HOH.out) ?_)
          | (go_at_call 87; refine (PA.out _ hd HOH.out (HF.out.fresh hfz.out)).mono ?_; rintro e w4 ⟨rfl, hF4, hm4⟩; rw [HPB.out]))
        · have hq : pb = true := by assumption
          go_roundw
          case rel =>
            refine ⟨i + 1, true, _, rfl, by go_num, by omega, hF4, ?_, Mod.trans HMOD.out (Mod.trans (Mod.mono hfz.out (fun _ _ x => x.elim)) hm4)⟩
            have := HRES.out; rw [hq, Bool.or_true] at this; exact this
          case measure => exact HME.out
        · have hq : pb = false := by assumption
          go_roundw
          case rel =>
            refine ⟨i + 1, gr, _, rfl, by go_num, by omega, hF4, ?_, Mod.trans HMOD.out (Mod.trans (Mod.mono hfz.out (fun _ _ x => x.elim)) hm4)⟩
            have := HRES.out; rw [hq, Bool.or_false] at this; exact this
          case measure => exact HME.out
      · rw [hal] at hres AA
        rw [Bool.or_true] at hres
        have HO1 : Hid (Hd.ok { hd with fru := true }) := ⟨HOH.out.fi, HOH.out.fo⟩
        generalize hpb : putB hs' ph { hd with fru := true } = pb at hres
        have HPB := hid hpb
        have HRES := hid hres
        clear hres hpb
        go_wp2_with (first
          | (refine wpList_load_mid rfl 73 _ rfl gp (i * 2) rfl [.int .i64 ph, .slice sao psy.length scap] _ RG.out Tryz.underlying73 rfl szPV ?_)
          | (go_at_call 66; refine (GA.out _ HFb.out).mono ?_; rintro e w1 ⟨rfl, hf1⟩; have hz1 : wr.heap.size < w1.heap.size := (by have := hf1.size; simp at this; omega); have k1 : (w1.alloc (.cells (hdA hd) 139 (0, 0))).cell? ⟨wr.heap.size, 1, none⟩ = some (.slice sao psy.length scap) := (by rw [cellOf (heap_alloc_prev (hf1.at (heap_alloc_at _ _) (fun x => x))) 1]; rfl); have hfa : Hid (Fresh wr (w1.alloc (.cells (hdA hd) 139 (0, 0)))) := (Mod.trans ((Mod.refl _ wr).alloc _) hf1 |>.alloc _))
          | (refine wpList_store_new rfl 139 _ _ rfl w1 _ (hdA hd) _ rfl rfl rfl (szHdOf HOH.out) (sameSize rfl (hd_size HOH.out)) (hd_one _) ?_)
          | (go_at_call 88; refine (AA.out _ hfa.out).mono ?_; rintro e w2 ⟨rfl, hf2⟩; have hfz := hid ((Mod.trans hfa.out hf2).setCell (p := ⟨w1.heap.size, 2, none⟩) (by intro q; simp at q; omega) (.bool true)); have hb3 := hid (hf2.at (heap_alloc_at w1 _) (fun x => x)); have c3 := cellOf hb3.out 2; rw [hd_at2] at c3; have z3 := frozen_at hb3.out 2; have hb4 : Hid ((w2.setCell ⟨w1.heap.size, 2, none⟩ (.bool true)).heap[w1.heap.size]? = some (.cells (hdA { hd with fru := true }) 139 (0, 0))) := (by unfold Hid; rw [Proofs.YteneagnhihcljaaGreatDoor.heap_setCell_same hb3.out, hd_set2]); have k4 : (w2.setCell ⟨w1.heap.size, 2, none⟩ (.bool true)).cell? ⟨wr.heap.size, 0, none⟩ = some (.int .i64 ph) := (by rw [cellOf (heap_setCell_prev (hf2.at (heap_alloc_prev (hf1.at (heap_alloc_at _ _) (fun x => x))) (fun x => x)) (by dsimp only; omega)) 0]; rfl))
          | (refine wpList_load_row rfl 139 _ rfl w1.heap.size rfl _ _ _ _ hb4.out Tryz.underlying139 rfl (szHdOf HO1.out) ?_)
          | (go_at_call 87; refine (PA.out _ { hd with fru := true } HO1.out (HF.out.fresh hfz.out)).mono ?_; rintro e w4 ⟨rfl, hF4, hm4⟩; rw [HPB.out]))
        · have hq : pb = true := by assumption
          go_roundw
          case rel =>
            refine ⟨i + 1, true, _, rfl, by go_num, by omega, hF4, ?_, Mod.trans HMOD.out (Mod.trans (Mod.mono hfz.out (fun _ _ x => x.elim)) hm4)⟩
            have := HRES.out; rw [hq, Bool.or_true] at this; exact this
          case measure => exact HME.out
        · have hq : pb = false := by assumption
          go_roundw
          case rel =>
            refine ⟨i + 1, gr, _, rfl, by go_num, by omega, hF4, ?_, Mod.trans HMOD.out (Mod.trans (Mod.mono hfz.out (fun _ _ x => x.elim)) hm4)⟩
            have := HRES.out; rw [hq, Bool.or_false] at this; exact this
          case measure => exact HME.out
    · have hie : i = ps.length := by omega
      rw [hie, List.drop_length] at hres
      have hres2 : (hs', gr) = RES := hres
      have HRES := hid hres2
      have hi2 : ¬ (i : Int) < (ps.length : Int) := by omega
      clear hres hF
      go_wp2
      go_ret
      exact ⟨ret_bool (by rw [← HRES.out]), by rw [← HRES.out]; exact HF.out, HMOD.out⟩
end Go.Proofs.YteneagnhihcljaaGreatDoor
