import Derived.Test.YtcpgklcimacngaaGreatPd7
namespace Go.Proofs.YtcpgklcimacngaaGreat
open Go.RowKit
set_option linter.unusedVariables false
set_option linter.unusedSimpArgs false

/-- what stands ahead of each production -/
def aheadsF (hs : List Hd) (ps : List Pr) : List (List Bool) := ps.map fun p => folB hs p.head p.syms
abbrev TksOwn (w : World) (base : Nat) (v : Value) (al : List (List Bool)) : Prop := w.ownsRow base 95 9 v al.length (flatC bls al)
theorem infoTk : (Tryz.prog.info? 95).map (fun i => (i.zero, i.size, i.bytes)) = some (some (.agg (tkA zero9)), 9, 9) := by kernel_rfl
theorem infoTk' : ∃ i, Tryz.prog.info? 95 = some i ∧ i.zero = some (.agg (tkA zero9)) ∧ i.size = 9 ∧ i.bytes = 9 := by
  have h := infoTk
  cases hq : Tryz.prog.info? 95 with
  | none => simp [hq] at h
  | some i => simp [hq] at h; exact ⟨i, rfl, h.1, h.2.1, h.2.2⟩
abbrev nineA (a0 a1 a2 a3 a4 a5 a6 a7 a8 : Bool) : Array Value := #[.bool a0, .bool a1, .bool a2, .bool a3, .bool a4, .bool a5, .bool a6, .bool a7, .bool a8]
theorem bls_one (l : List Bool) : ∀ u ∈ bls l, u.oneCell' = true := by
  intro u hu; simp [bls] at hu
  rcases hu with ⟨_, rfl⟩ | ⟨_, rfl⟩ <;> rfl

set_option maxRecDepth 20000 in
set_option maxHeartbeats 8000000 in
theorem findAhead_any (w : World) (b : Nat) (R H : Int) (vp vh : Value) (ps : List PV) (hs : List Hd) (h : FA w b R H vp vh ps hs) (hps : ps.length ≤ 1000) :
    Calls Tryz.prog 14 #[bptr b] w fun e w' => ∃ v, e = .returned v ∧ Fresh w w' ∧ TksOwn w' w.heap.size v (aheadsF hs (prsOf ps)) := by
  have HF0 := hid h
  obtain ⟨i0, hi0, iz0, iz1, iz2⟩ := infoTk'
  obtain ⟨ao, cap, hv⟩ := own_form h.prs.row.own
  subst hv
  have k2 := h.cell 2
  simp at k2
  clear h
  go_enter Tryz.func14, Tryz.ntmps14
  go_wp2
  go_loopw [3, 5, 6, 7, 8, 15] (fun x3 _ _ _ _ x15 wr => ∃ (i : Nat), x15 = .int .i64 i ∧ i ≤ ps.length ∧ TksOwn wr w.heap.size x3 (aheadsF hs (prsOf (ps.take i))) ∧ Fresh w wr)
      (fun _ _ _ _ _ x _ => ps.length + 1 - (intOf x).toNat)
  case atStart => exact ⟨0, rfl, by omega, World.ownsRow_nil _ _ _ _, Mod.refl _ w⟩
  case round =>
    obtain ⟨i, rfl, hi, hown, hfr⟩ := hrel
    have HME := hid (meas (B := ps.length + 1) i (by omega))
    have HFR := hid hfr
    have hF := HF0.out.fresh hfr
    have HF := hid hF
    have hlen : (aheadsF hs (prsOf (ps.take i))).length ≤ 1000 := by simp [aheadsF, prsOf]; omega
    have HTE : Hid (i = ps.length → ps.take i = ps) := fun e => by rw [e, List.take_length]
    have HTS : Hid (∀ hlt : i < ps.length, aheadsF hs (prsOf (ps.take (i + 1))) = aheadsF hs (prsOf (ps.take i)) ++ [folB hs ps[i].pr.head ps[i].pr.syms]) := fun hlt => by
      rw [takeS hlt]; unfold aheadsF prsOf; rw [List.map_append, List.map_append]; rfl
    generalize hy : aheadsF hs (prsOf (ps.take i)) = ys at *
    have HY := hid hy
    have HO := hid hown
    have HOB := hid hown.lt
    obtain ⟨ro, rc, hro⟩ := own_form hown
    subst hro
    clear hown hy
    by_cases hlt : i < ps.length
    · have hi1 : (i : Int) < (ps.length : Int) := by omega
      obtain ⟨gp, cap', hv'⟩ := Joins.ownsRow_form hF.prs.row.own (by omega)
      rw [Value.slice.injEq] at hv'
      obtain ⟨rfl, _, rfl⟩ := hv'
      have RG : Hid (wr.rangeAt gp (i * 2) [.int .i64 ps[i].pr.head, ps[i].vs]) := hF.prs.row.range i hlt
      have hbl := hF.size
      have HFb := hid (hF.fresh ((Mod.refl _ wr).alloc (.cells #[.int .i64 ps[i].pr.head, ps[i].vs] 89 (0, 0))))
      have HSY := hid (HFb.out.prs.syms ps[i] (by simp))
      have hTS := HTS.out hlt
      generalize ps[i].pr = pr at hTS RG HSY HFb
      generalize ps[i].vs = pvs at RG HSY HFb
      obtain ⟨ph, psy⟩ := pr
      dsimp only at hTS RG HSY HFb
      obtain ⟨sao, scap, hsv, _⟩ := HSY.out
      subst hsv
      have HBL := hid (begF_len hF.ok psy zero9 rfl)
      have HOH := hid (getH_ok hF.ok ph)
      have BA := hid (begin_any _ b R H _ vh ps hs b _ psy HFb.out (by simp; omega) HSY.out)
      have GA := hid (fun w (h : FA w b R H (.slice (some ⟨gp, 0, none⟩) ps.length cap) vh ps hs) => get_any w b R H _ vh ps hs ph h)
      unfold folB at hTS
      generalize begF hs psy zero9 = bg at hTS HBL BA
      generalize getH hs ph = hd at hTS HOH GA
      obtain ⟨bg1, bg2⟩ := bg
      dsimp only at hTS HBL BA
      clear hF hfr
      cases bg2
      · simp only [Bool.false_eq_true, if_false] at hTS
        have HTSS := hid hTS
        obtain ⟨a0, a1, a2, a3, a4, a5, a6, a7, a8, e9⟩ := nine HBL.out
        subst e9
        clear hTS
        go_wp2_with (first
          | (at_builtin; refine wpList_append_mine _ rfl _ _ 48 rfl w.heap.size 95 i0 _ 9 9 Tryz.underlying48 hi0 iz0 iz1 iz2 rfl (by decide) _ _ _ rfl (HO1.out.alloc _) ⟨w1.heap.size + 1, 0, none⟩ 1 1 (bls [a0, a1, a2, a3, a4, a5, a6, a7, a8]) rfl rfl (new_cells2 rfl) (bls_one _) (by unfold maxLen; omega) (by omega) (by have h3 := HFR.out.size; have h4 := hf1.size; simp at h4; simp; omega) ?_)
          | (refine wpList_load_row rfl 95 _ rfl w1.heap.size rfl _ (nineA a0 a1 a2 a3 a4 a5 a6 a7 a8) _ _ (heap_alloc_at _ _) Tryz.underlying95 rfl szTks ?_)
          | (refine wpList_store_new rfl 95 _ _ rfl w1 _ (nineA a0 a1 a2 a3 a4 a5 a6 a7 a8) _ rfl rfl rfl szTks rfl (tk_one [a0, a1, a2, a3, a4, a5, a6, a7, a8]) ?_)
          | (go_at_call 35; refine BA.out.mono ?_; rintro e w1 ⟨rfl, hf1⟩; have HO1 := hid ((ownsRow_other HO.out (fun g hg => (Mod.trans ((Mod.refl (fun _ => False) wr).alloc _) hf1).block g (HOB.out g hg).2 (fun x => x))).alloc (.cells (nineA a0 a1 a2 a3 a4 a5 a6 a7 a8) 95 (0, 0))))
          | (refine wpList_load_mid rfl 89 _ rfl gp (i * 2) rfl [.int .i64 ph, .slice sao psy.length scap] _ RG.out Tryz.underlying89 rfl szPV ?_))
        intro v' w5 hown2 hgrow hblk
        have fr2 : Fresh w w5 := Mod.grown (S := fun _ => False) (((HFR.out.alloc _).trans hf1).alloc _ |>.alloc _) hgrow (fun k hk hlt => by have := (HOB.out k hk).1; omega)
        have HO2 := hid hown2
        clear hown2 hgrow hblk
        go_wp2
        go_roundw
        case rel =>
          refine ⟨i + 1, by go_num, by omega, ?_, fr2⟩
          unfold TksOwn
          rw [HTSS.out, flat_snoc, List.length_append, List.length_singleton]
          exact HO2.out
        case measure => exact HME.out
      · simp only [if_true] at hTS
        have HOL := hid (orL_len HBL.out HOH.out.fo)
        have TU := hid (fun w => tunion_any w bg1 hd.fo HBL.out HOH.out.fo)
        generalize orL bg1 hd.fo = OO at hTS HOL TU
        have HTSS := hid hTS
        obtain ⟨a0, a1, a2, a3, a4, a5, a6, a7, a8, e9⟩ := nine HOL.out
        subst e9
        clear hTS
        go_wp2_with (first
          | (at_builtin; refine wpList_append_mine _ rfl _ _ 48 rfl w.heap.size 95 i0 _ 9 9 Tryz.underlying48 hi0 iz0 iz1 iz2 rfl (by decide) _ _ _ rfl (HO1.out.alloc _) ⟨w3.heap.size, 0, none⟩ 1 1 (bls [a0, a1, a2, a3, a4, a5, a6, a7, a8]) rfl rfl (by have q := @new_cells (w3.setRow w1.heap.size (nineA a0 a1 a2 a3 a4 a5 a6 a7 a8)) (nineA a0 a1 a2 a3 a4 a5 a6 a7 a8) (bls [a0, a1, a2, a3, a4, a5, a6, a7, a8]) 95 rfl; rw [hrs] at q; exact q) (bls_one _) (by unfold maxLen; omega) (by omega) (by have h3 := HFR.out.size; have h4 := f3.out.size; simp at h4; simp; omega) ?_)
          | (refine wpList_load_row rfl 95 _ rfl w1.heap.size rfl _ (nineA a0 a1 a2 a3 a4 a5 a6 a7 a8) _ _ t3'.out Tryz.underlying95 rfl szTks ?_)
          | (refine wpList_store_row rfl 95 _ _ rfl w1.heap.size (nineA a0 a1 a2 a3 a4 a5 a6 a7 a8) rfl rfl _ _ t3.out szTks (sameSize (tk_size HBL.out) rfl) (tk_one [a0, a1, a2, a3, a4, a5, a6, a7, a8]) ?_)
          | (go_at_call 37; refine (TU.out _).mono ?_; rintro e w3 ⟨rfl, hf3⟩; have t3 := hid (hf3.at (heap_alloc_prev t2.out) (fun x => x)); have f3 : Hid (Fresh wr (w3.setRow w1.heap.size (nineA a0 a1 a2 a3 a4 a5 a6 a7 a8))) := (Mod.trans (f2.out.alloc _) hf3).setRow (by intro q; omega) _; have t3' := hid (setRow_heap _ _ _ (nineA a0 a1 a2 a3 a4 a5 a6 a7 a8) _ _ t3.out); have hrs : (w3.setRow w1.heap.size (nineA a0 a1 a2 a3 a4 a5 a6 a7 a8)).heap.size = w3.heap.size := (by simp); have HO1 := hid (ownsRow_other HO.out (fun g hg => f3.out.block g (HOB.out g hg).2 (fun x => x))))
          | (refine wpList_load_mid rfl 95 _ rfl w2.heap.size 12 rfl (bls hd.fo) _ (hdRangeFo HOH.out (heap_alloc_at _ _)) Tryz.underlying95 rfl (szTokL HOH.out.fo) ?_)
          | (refine wpList_load_row rfl 95 _ rfl w1.heap.size rfl _ _ _ _ (heap_alloc_prev t2.out) Tryz.underlying95 rfl (szTokOf HBL.out) ?_)
          | (refine wpList_store_new rfl 97 _ _ rfl w2 _ (hdA hd) _ rfl rfl rfl (szHdOf HOH.out) (sameSize rfl (hd_size HOH.out)) (hd_one _) ?_)
          | (go_at_call 36; refine (GA.out _ (HF.out.fresh (f1.out.alloc _))).mono ?_; rintro e w2 ⟨rfl, hf2⟩; have hz2 : w1.heap.size < w2.heap.size := (by have := hf2.size; simp at this; omega); have f2 : Hid (Fresh wr w2) := Mod.trans (f1.out.alloc _) hf2; have t2 := hid (hf2.at (heap_alloc_at w1 _) (fun x => x)))
          | (refine wpList_store_new rfl 95 _ _ rfl w1 _ (tkA bg1) _ rfl rfl rfl (szTokOf HBL.out) (sameSize rfl (tk_size HBL.out)) (tk_one _) ?_)
          | (go_at_call 35; refine BA.out.mono ?_; rintro e w1 ⟨rfl, hf1⟩; have hz1 : wr.heap.size < w1.heap.size := (by have := hf1.size; simp at this; omega); have f1 : Hid (Fresh wr w1) := Mod.trans ((Mod.refl _ wr).alloc _) hf1; have k1 : (w1.alloc (.cells (tkA bg1) 95 (0, 0))).cell? ⟨wr.heap.size, 0, none⟩ = some (.int .i64 ph) := (by rw [cellOf (heap_alloc_prev (hf1.at (heap_alloc_at _ _) (fun x => x))) 0]; rfl))
          | (refine wpList_load_mid rfl 89 _ rfl gp (i * 2) rfl [.int .i64 ph, .slice sao psy.length scap] _ RG.out Tryz.underlying89 rfl szPV ?_))
        intro v' w5 hown2 hgrow hblk
        have fr2 : Fresh w w5 := Mod.grown (S := fun _ => False) ((HFR.out.trans f3.out).alloc _) hgrow (fun k hk hlt => by have := (HOB.out k hk).1; omega)
        have HO2 := hid hown2
        clear hown2 hgrow hblk
        go_wp2
        go_roundw
        case rel =>
          refine ⟨i + 1, by go_num, by omega, ?_, fr2⟩
          unfold TksOwn
          rw [HTSS.out, flat_snoc, List.length_append, List.length_singleton]
          exact HO2.out
        case measure => exact HME.out
    · have hie : i = ps.length := by omega
      have hi2 : ¬ (i : Int) < (ps.length : Int) := by omega
      have hye := HTE.out hie
      clear hF hfr
      go_wp2
      go_ret
      refine ⟨_, rfl, HFR.out, ?_⟩
      rw [← hye, HY.out]; exact HO.out
end Go.Proofs.YtcpgklcimacngaaGreat
namespace Go.Proofs.YtcpgklcimacngaaGreat
open Go.RowKit
set_option linter.unusedVariables false
set_option linter.unusedSimpArgs false

def ldT (v : Value) : Sem Value := Instr.loadAt 95 v
theorem ldT_rule (v : Value) : Instr.loadAt 95 v = ldT v := rfl
theorem ldT_mid {w : World} {g o : Nat} {l : List Bool} (hl : l.length = 9) (hr : w.rangeAt g o (bls l)) : (ldT (.pointer (some ⟨g, o, none⟩))).run Tryz.prog w = .ok (.agg (tkA l)) w :=
  run_loadAt_mid w g o _ _ _ hr Tryz.underlying95 rfl (szTokL hl)
/-- the productions of a head, ahead of which a token stands -/
def ovL (n t : Int) : List (Pr × List Bool) → Nat → List Int
  | [], _ => []
  | p :: l, i => if p.1.head = n ∧ hasT p.2 t = true then (i : Int) :: ovL n t l (i + 1) else ovL n t l (i + 1)
theorem ovL_len (n t : Int) : ∀ (l : List (Pr × List Bool)) (i : Nat), (ovL n t l i).length ≤ l.length
  | [], _ => by simp [ovL]
  | p :: l, i => by
    unfold ovL
    have := ovL_len n t l (i + 1)
    split <;> simp <;> omega

attribute [local go_sem ↓] ldT_rule
set_option maxRecDepth 20000 in
set_option maxHeartbeats 4000000 in
theorem prodsOver_any (w : World) (R H : Int) (vp : Value) (ps : List PV) (hp : PrsAt w w.heap.size vp ps) (hps : ps.length ≤ 1000) (va : Value) (al : List (List Bool)) (base : Nat) (ha : TksOwn w base va al) (hal : al.length = ps.length) (ha9 : ∀ a ∈ al, a.length = 9) (n t : Int) :
    Calls Tryz.prog 15 #[.agg #[.int .i64 R, .int .i64 H, vp], va, .int .i64 n, .int .i64 t] w fun e w' => ∃ v, e = .returned v ∧ Fresh w w' ∧ IntOwn w' w.heap.size v (ovL n t ((prsOf ps).zip al) 0) := by
  obtain ⟨i0, hi0, iz0, iz1, iz2⟩ := infoI'
  have HP := hid hp
  obtain ⟨pa, pc, hvp⟩ := own_form hp.row.own
  subst hvp
  obtain ⟨aa, ac, hva⟩ := own_form ha
  subst hva
  have HAR : Hid (RowAt bls 9 95 w (.slice aa al.length ac) al) := ⟨ownsRow_base ha (Nat.zero_le _), fun x hx => by simp [bls, ha9 x hx]⟩
  have HA9 := hid ha9
  generalize hR : ovL n t ((prsOf ps).zip al) 0 = RES
  have HR := hid hR
  rw [hal]
  have HAL := hid hal
  clear hp ha ha9 hR hal
  go_enter Tryz.func15, Tryz.ntmps15
  go_wp2
  go_loopw [9, 10, 11, 15] (fun x9 _ _ x15 wr => ∃ (i : Nat) (acc : List Int), x15 = .int .i64 i ∧ i ≤ ps.length ∧ acc.length ≤ i ∧ acc ++ ovL n t (((prsOf ps).zip al).drop i) i = RES ∧ IntOwn wr w.heap.size x9 acc ∧ Fresh w wr)
      (fun _ _ _ x _ => 1001 - (intOf x).toNat)
  case atStart => exact ⟨0, [], rfl, by omega, by simp, HR.out, World.ownsRow_nil _ _ _ _, (Mod.refl _ w).alloc _⟩
  case round =>
    obtain ⟨i, acc, rfl, hi, hacc, hres, hown, hfr⟩ := hrel
    have HME := hid (meas (B := 1001) i (by omega))
    have HFR := hid hfr
    have HO := hid hown
    have HOB := hid hown.lt
    obtain ⟨ro, rc, hro⟩ := own_form hown
    subst hro
    clear hown
    by_cases hlt : i < ps.length
    · have hi1 : (i : Int) < (ps.length : Int) := by omega
      have hi3 : i < al.length := by have := HAL.out; omega
      have hzl : i < ((prsOf ps).zip al).length := by have := HAL.out; simp [prsOf]; omega
      rw [List.drop_eq_getElem_cons hzl] at hres
      have hze : ((prsOf ps).zip al)[i] = (ps[i].pr, al[i]) := by simp [prsOf]
      rw [hze] at hres
      unfold ovL at hres
      dsimp only at hres
      have hPr := HP.out.kept (Nat.le_refl _) hfr (fun _ _ x => x)
      obtain ⟨gp, cap', hv'⟩ := Joins.ownsRow_form hPr.row.own (by omega)
      rw [Value.slice.injEq] at hv'
      obtain ⟨rfl, _, rfl⟩ := hv'
      have RG : Hid (wr.rangeAt gp (i * 2) [.int .i64 ps[i].pr.head, ps[i].vs]) := hPr.row.range i hlt
      obtain ⟨sao, scap, hsv, _⟩ := hPr.syms ps[i] (by simp)
      have hra := (HAR.out.fresh hfr)
      obtain ⟨ga, ac', hva'⟩ := Joins.ownsRow_form hra.own (by omega)
      rw [Value.slice.injEq] at hva'
      obtain ⟨rfl, _, rfl⟩ := hva'
      have hrr := hra.range i hi3
      have h9 := HA9.out al[i] (by simp)
      have TH := hid (fun w => thas_any w al[i] t h9)
      generalize hpl : ps[i].pr.syms.length = pl at hsv
      generalize ps[i].pr.head = ph at hres RG
      rw [hsv] at RG
      have l1 : (ldT (.pointer (some ⟨ga, i * 9, none⟩))).run Tryz.prog (wr.alloc (.cells #[.int .i64 ph, .slice sao pl scap] 89 (0, 0))) = .ok (.agg (tkA al[i])) (wr.alloc (.cells #[.int .i64 ph, .slice sao pl scap] 89 (0, 0))) :=
        ldT_mid h9 (World.rangeAt_alloc hrr _)
      generalize al[i] = ai at hres TH l1
      have b4 : decide ((i : Int) < (ps.length : Int)) = true := by simpa using hi1
      clear hPr hra hrr h9 hfr hze hi3 hzl
      by_cases hh : ph = n
      · subst hh
        generalize hasT ai t = tv at hres TH
        cases tv
        · rw [if_neg (by simp)] at hres
          have HRES := hid hres
          clear hres
          go_wp2_with (first
            | (go_at_call 38; refine (TH.out _).mono ?_; rintro e w1 ⟨rfl, hf1⟩)
            | (refine wpList_load_mid rfl 89 _ rfl gp (i * 2) rfl [.int .i64 ph, .slice sao pl scap] _ RG.out Tryz.underlying89 rfl szPV ?_))
          go_roundw
          case rel =>
            refine ⟨i + 1, acc, by go_num, by omega, by omega, HRES.out, ?_, (HFR.out.alloc _).trans hf1⟩
            exact ownsRow_other HO.out (fun g hg => (Mod.trans ((Mod.refl (fun _ => False) wr).alloc _) hf1).block g (HOB.out g hg).2 (fun x => x))
          case measure => exact HME.out
        · rw [if_pos ⟨rfl, rfl⟩] at hres
          have HRES := hid hres
          clear hres
          go_wp2_with (first
            | (at_builtin; refine wpList_append_mine _ rfl _ _ 50 rfl w.heap.size 3 i0 _ 1 8 Tryz.underlying50 hi0 iz0 iz1 iz2 rfl (by decide) _ _ _ rfl (HO1.out.alloc _) ⟨w1.heap.size, 0, none⟩ 1 1 [.int .i64 i] rfl rfl (new_cells rfl) (by intro u hu; simp at hu; subst hu; rfl) (by unfold maxLen; omega) (by omega) (by have h3 := HFR.out.size; have h4 := hf1.size; simp at h4; simp; omega) ?_)
            | (go_at_call 38; refine (TH.out _).mono ?_; rintro e w1 ⟨rfl, hf1⟩; have HO1 := hid (ownsRow_other HO.out (fun g hg => (Mod.trans ((Mod.refl (fun _ => False) wr).alloc _) hf1).block g (HOB.out g hg).2 (fun x => x))))
            | (refine wpList_load_mid rfl 89 _ rfl gp (i * 2) rfl [.int .i64 ph, .slice sao pl scap] _ RG.out Tryz.underlying89 rfl szPV ?_))
          intro v' w5 hown2 hgrow hblk
          have fr2 : Fresh w w5 := Mod.grown (S := fun _ => False) (((HFR.out.alloc _).trans hf1).alloc _) hgrow (fun k hk hlt => by have := (HOB.out k hk).1; omega)
          have HO2 := hid hown2
          clear hown2 hgrow hblk
          go_wp2
          go_roundw
          case rel =>
            refine ⟨i + 1, acc ++ [(i : Int)], by go_num, by omega, by simp; omega, by rw [List.append_assoc]; exact HRES.out, ?_, fr2⟩
            unfold IntOwn
            rw [List.length_append, List.length_singleton, show nums (acc ++ [(i : Int)]) = nums acc ++ [.int .i64 i] from by simp]
            exact HO2.out
          case measure => exact HME.out
      · have b1 : (ph == n) = false := by simp [hh]
        rw [if_neg (fun h => hh h.1)] at hres
        have HRES := hid hres
        clear hres
        go_wp2_with (first
          | (refine wpList_load_mid rfl 89 _ rfl gp (i * 2) rfl [.int .i64 ph, .slice sao pl scap] _ RG.out Tryz.underlying89 rfl szPV ?_))
        go_roundw
        case rel =>
          refine ⟨i + 1, acc, by go_num, by omega, by omega, HRES.out, ?_, HFR.out.alloc _⟩
          exact HO.out.alloc _
        case measure => exact HME.out
    · have hie : i = ps.length := by omega
      have hi2 : ¬ (i : Int) < (ps.length : Int) := by omega
      rw [List.drop_eq_nil_of_le (by have := HAL.out; simp [prsOf]; omega)] at hres
      have hres2 : acc = RES := by simpa [ovL] using hres
      subst hres2
      clear hres hfr
      go_wp2
      go_ret
      exact ⟨_, rfl, HFR.out, HO.out⟩
end Go.Proofs.YtcpgklcimacngaaGreat
