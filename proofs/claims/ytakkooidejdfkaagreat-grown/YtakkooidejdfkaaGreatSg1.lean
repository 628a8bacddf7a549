import Derived.Test.YtakkooidejdfkaaGreatSee
import Derived.Test.YtakkooidejdfkaaGreatKc8
import Derived.Test.YtakkooidejdfkaaGreatSm3
import Derived.Test.YtakkooidejdfkaaGreatKp3
import Derived.Test.YtakkooidejdfkaaGreatPd5
import Derived.Test.YtakkooidejdfkaaGreatKc1
namespace Go.Proofs.YtakkooidejdfkaaGreat
open Go.RowKit
set_option linter.unusedVariables false
set_option linter.unusedSimpArgs false

/-- what stands ahead of each production -/
def aheadsF (hs : List Hd) (ps : List Pr) : List (List Bool) := ps.map fun p => folB hs p.head p.syms
abbrev TksOwn (w : World) (base : Nat) (v : Value) (al : List (List Bool)) : Prop := w.ownsRow base 115 9 v al.length (flatC bls al)
theorem infoTk : (Tryz.prog.info? 115).map (fun i => (i.zero, i.size, i.bytes)) = some (some (.agg (tkA zero9)), 9, 9) := by kernel_rfl
theorem infoTk' : ∃ i, Tryz.prog.info? 115 = some i ∧ i.zero = some (.agg (tkA zero9)) ∧ i.size = 9 ∧ i.bytes = 9 := by
  have h := infoTk
  cases hq : Tryz.prog.info? 115 with
  | none => simp [hq] at h
  | some i => simp [hq] at h; exact ⟨i, rfl, h.1, h.2.1, h.2.2⟩
abbrev nineA (a0 a1 a2 a3 a4 a5 a6 a7 a8 : Bool) : Array Value := #[.bool a0, .bool a1, .bool a2, .bool a3, .bool a4, .bool a5, .bool a6, .bool a7, .bool a8]
theorem bls_one (l : List Bool) : ∀ u ∈ bls l, u.oneCell' = true := by
  intro u hu; simp [bls] at hu
  rcases hu with ⟨_, rfl⟩ | ⟨_, rfl⟩ <;> rfl

set_option maxRecDepth 20000 in
set_option maxHeartbeats 8000000 in
theorem findAhead_any (w : World) (b : Nat) (R H : Int) (vp vh : Value) (ps : List PV) (hs : List Hd) (h : FA w b R H vp vh ps hs) (hps : ps.length ≤ 1000) :
    Calls Tryz.prog 37 #[bptr b] w fun e w' => ∃ v, e = .returned v ∧ Fresh w w' ∧ TksOwn w' w.heap.size v (aheadsF hs (prsOf ps)) := by
  have HF0 := hid h
  obtain ⟨i0, hi0, iz0, iz1, iz2⟩ := infoTk'
  obtain ⟨ao, cap, hv⟩ := own_form h.prs.row.own
  subst hv
  have k2 := h.cell 2
  simp at k2
  clear h
  go_enter Tryz.func37, Tryz.ntmps37
  go_wp2
  go_loopw [3, 5, 6, 7, 8, 15] (fun x3 _ _ _ _ x15 wr => ∃ (i : Nat), x15 = .int .i64 i ∧ i ≤ ps.length ∧ TksOwn wr w.heap.size x3 (aheadsF hs (prsOf (ps.take i))) ∧ Fresh w wr)
      (fun _ _ _ _ _ x _ => ps.length + 1 - (intOf x).toNat)
  case atStart => exact ⟨0, rfl, by omega, World.ownsRow_nil _ _ _ _, Mod.refl _ w⟩
  case round =>
    obtain ⟨i, rfl, hi, hown, hfr⟩ := hrel
    have HME := hid (meas (B := ps.length + 1) i (by omega))
    have HFR := hid hfr
    have hF := HF0.out.fresh hfr
    have HF := hid hF
    have hlen : (aheadsF hs (prsOf (ps.take i))).length ≤ 1000 := by simp [aheadsF, prsOf]; omega
    have HTE : Hid (i = ps.length → ps.take i = ps) := fun e => by rw [e, List.take_length]
    have HTS : Hid (∀ hlt : i < ps.length, aheadsF hs (prsOf (ps.take (i + 1))) = aheadsF hs (prsOf (ps.take i)) ++ [folB hs ps[i].pr.head ps[i].pr.syms]) := fun hlt => by
      rw [takeS hlt]; unfold aheadsF prsOf; rw [List.map_append, List.map_append]; rfl
    generalize hy : aheadsF hs (prsOf (ps.take i)) = ys at *
    have HY := hid hy
    have HO := hid hown
    have HOB := hid hown.lt
    obtain ⟨ro, rc, hro⟩ := own_form hown
    subst hro
    clear hown hy
    by_cases hlt : i < ps.length
    · have hi1 : (i : Int) < (ps.length : Int) := by omega
      obtain ⟨gp, cap', hv'⟩ := Joins.ownsRow_form hF.prs.row.own (by omega)
      rw [Value.slice.injEq] at hv'
      obtain ⟨rfl, _, rfl⟩ := hv'
      have RG : Hid (wr.rangeAt gp (i * 2) [.int .i64 ps[i].pr.head, ps[i].vs]) := hF.prs.row.range i hlt
      have hbl := hF.size
      have HFb := hid (hF.fresh ((Mod.refl _ wr).alloc (.cells #[.int .i64 ps[i].pr.head, ps[i].vs] 108 (0, 0))))
      have HSY := hid (HFb.out.prs.syms ps[i] (by simp))
      have hTS := HTS.out hlt
      generalize ps[i].pr = pr at hTS RG HSY HFb
      generalize ps[i].vs = pvs at RG HSY HFb
      obtain ⟨ph, psy⟩ := pr
      dsimp only at hTS RG HSY HFb
      obtain ⟨sao, scap, hsv, _⟩ := HSY.out
      subst hsv
      have HBL := hid (begF_len hF.ok psy zero9 rfl)
      have HOH := hid (getH_ok hF.ok ph)
      have BA := hid (begin_any _ b R H _ vh ps hs b _ psy HFb.out (by simp; omega) HSY.out)
      have GA := hid (fun w (h : FA w b R H (.slice (some ⟨gp, 0, none⟩) ps.length cap) vh ps hs) => get_any w b R H _ vh ps hs ph h)
      unfold folB at hTS
      generalize begF hs psy zero9 = bg at hTS HBL BA
      generalize getH hs ph = hd at hTS HOH GA
      obtain ⟨bg1, bg2⟩ := bg
      dsimp only at hTS HBL BA
      clear hF hfr
      cases bg2
      · simp only [Bool.false_eq_true, if_false] at hTS
        have HTSS := hid hTS
        obtain ⟨a0, a1, a2, a3, a4, a5, a6, a7, a8, e9⟩ := nine HBL.out
        subst e9
        clear hTS
        go_wp2_with (first
          | (at_builtin; refine wpList_append_mine _ rfl _ _ 88 rfl w.heap.size 115 i0 _ 9 9 Tryz.underlying88 hi0 iz0 iz1 iz2 rfl (by decide) _ _ _ rfl (HO1.out.alloc _) ⟨w1.heap.size + 1, 0, none⟩ 1 1 (bls [a0, a1, a2, a3, a4, a5, a6, a7, a8]) rfl rfl (new_cells2 rfl) (bls_one _) (by unfold maxLen; omega) (by omega) (by have h3 := HFR.out.size; have h4 := hf1.size; simp at h4; simp; omega) ?_)
          | (refine wpList_load_row rfl 115 _ rfl w1.heap.size rfl _ (nineA a0 a1 a2 a3 a4 a5 a6 a7 a8) _ _ (heap_alloc_at _ _) Tryz.underlying115 rfl szTks ?_)
          | (refine wpList_store_new rfl 115 _ _ rfl w1 _ (nineA a0 a1 a2 a3 a4 a5 a6 a7 a8) _ rfl rfl rfl szTks rfl (tk_one [a0, a1, a2, a3, a4, a5, a6, a7, a8]) ?_)
          | (go_at_call 48; refine BA.out.mono ?_; rintro e w1 ⟨rfl, hf1⟩; have HO1 := hid ((ownsRow_other HO.out (fun g hg => (Mod.trans ((Mod.refl (fun _ => False) wr).alloc _) hf1).block g (HOB.out g hg).2 (fun x => x))).alloc (.cells (nineA a0 a1 a2 a3 a4 a5 a6 a7 a8) 115 (0, 0))))
          | (refine wpList_load_mid rfl 108 _ rfl gp (i * 2) rfl [.int .i64 ph, .slice sao psy.length scap] _ RG.out Tryz.underlying108 rfl szPV ?_))
        intro v' w5 hown2 hgrow hblk
        have fr2 : Fresh w w5 := Mod.grown (S := fun _ => False) (((HFR.out.alloc _).trans hf1).alloc _ |>.alloc _) hgrow (fun k hk hlt => by have := (HOB.out k hk).1; omega)
        have HO2 := hid hown2
        clear hown2 hgrow hblk
        go_wp2
        go_roundw
        case rel =>
          refine ⟨i + 1, by go_num, by omega, ?_, fr2⟩
          unfold TksOwn
          rw [HTSS.out, flat_snoc, List.length_append, List.length_singleton]
          exact HO2.out
        case measure => exact HME.out
      · simp only [if_true] at hTS
        have HOL := hid (orL_len HBL.out HOH.out.fo)
        have TU := hid (fun w => tunion_any w bg1 hd.fo HBL.out HOH.out.fo)
        generalize orL bg1 hd.fo = OO at hTS HOL TU
        have HTSS := hid hTS
        obtain ⟨a0, a1, a2, a3, a4, a5, a6, a7, a8, e9⟩ := nine HOL.out
        subst e9
        clear hTS
        go_wp2_with (first
          | (at_builtin; refine wpList_append_mine _ rfl _ _ 88 rfl w.heap.size 115 i0 _ 9 9 Tryz.underlying88 hi0 iz0 iz1 iz2 rfl (by decide) _ _ _ rfl (HO1.out.alloc _) ⟨w3.heap.size, 0, none⟩ 1 1 (bls [a0, a1, a2, a3, a4, a5, a6, a7, a8]) rfl rfl (by have q := @new_cells (w3.setRow w1.heap.size (nineA a0 a1 a2 a3 a4 a5 a6 a7 a8)) (nineA a0 a1 a2 a3 a4 a5 a6 a7 a8) (bls [a0, a1, a2, a3, a4, a5, a6, a7, a8]) 115 rfl; rw [hrs] at q; exact q) (bls_one _) (by unfold maxLen; omega) (by omega) (by have h3 := HFR.out.size; have h4 := f3.out.size; simp at h4; simp; omega) ?_)
          | (refine wpList_load_row rfl 115 _ rfl w1.heap.size rfl _ (nineA a0 a1 a2 a3 a4 a5 a6 a7 a8) _ _ t3'.out Tryz.underlying115 rfl szTks ?_)
          | (refine wpList_store_row rfl 115 _ _ rfl w1.heap.size (nineA a0 a1 a2 a3 a4 a5 a6 a7 a8) rfl rfl _ _ t3.out szTks (sameSize (tk_size HBL.out) rfl) (tk_one [a0, a1, a2, a3, a4, a5, a6, a7, a8]) ?_)
          | (go_at_call 49; refine (TU.out _).mono ?_; rintro e w3 ⟨rfl, hf3⟩; have t3 := hid (hf3.at (heap_alloc_prev t2.out) (fun x => x)); have f3 : Hid (Fresh wr (w3.setRow w1.heap.size (nineA a0 a1 a2 a3 a4 a5 a6 a7 a8))) := (Mod.trans (f2.out.alloc _) hf3).setRow (by intro q; omega) _; have t3' := hid (setRow_heap _ _ _ (nineA a0 a1 a2 a3 a4 a5 a6 a7 a8) _ _ t3.out); have hrs : (w3.setRow w1.heap.size (nineA a0 a1 a2 a3 a4 a5 a6 a7 a8)).heap.size = w3.heap.size := (by simp); have HO1 := hid (ownsRow_other HO.out (fun g hg => f3.out.block g (HOB.out g hg).2 (fun x => x))))
          | (refine wpList_load_mid rfl 115 _ rfl w2.heap.size 12 rfl (bls hd.fo) _ (hdRangeFo HOH.out (heap_alloc_at _ _)) Tryz.underlying115 rfl (szTokL HOH.out.fo) ?_)
          | (refine wpList_load_row rfl 115 _ rfl w1.heap.size rfl _ _ _ _ (heap_alloc_prev t2.out) Tryz.underlying115 rfl (szTokOf HBL.out) ?_)
          | (refine wpList_store_new rfl 130 _ _ rfl w2 _ (hdA hd) _ rfl rfl rfl (szHdOf HOH.out) (sameSize rfl (hd_size HOH.out)) (hd_one _) ?_)
          | (go_at_call 57; refine (GA.out _ (HF.out.fresh (f1.out.alloc _))).mono ?_; rintro e w2 ⟨rfl, hf2⟩; have hz2 : w1.heap.size < w2.heap.size := (by have := hf2.size; simp at this; omega); have f2 : Hid (Fresh wr w2) := Mod.trans (f1.out.alloc _) hf2; have t2 := hid (hf2.at (heap_alloc_at w1 _) (fun x => x)))
          | (refine wpList_store_new rfl 115 _ _ rfl w1 _ (tkA bg1) _ rfl rfl rfl (szTokOf HBL.out) (sameSize rfl (tk_size HBL.out)) (tk_one _) ?_)
          | (go_at_call 48; refine BA.out.mono ?_; rintro e w1 ⟨rfl, hf1⟩; have hz1 : wr.heap.size < w1.heap.size := (by have := hf1.size; simp at this; omega); have f1 : Hid (Fresh wr w1) := Mod.trans ((Mod.refl _ wr).alloc _) hf1; have k1 : (w1.alloc (.cells (tkA bg1) 115 (0, 0))).cell? ⟨wr.heap.size, 0, none⟩ = some (.int .i64 ph) := (by rw [cellOf (heap_alloc_prev (hf1.at (heap_alloc_at _ _) (fun x => x))) 0]; rfl))
          | (refine wpList_load_mid rfl 108 _ rfl gp (i * 2) rfl [.int .i64 ph, .slice sao psy.length scap] _ RG.out Tryz.underlying108 rfl szPV ?_))
        intro v' w5 hown2 hgrow hblk
        have fr2 : Fresh w w5 := Mod.grown (S := fun _ => False) ((HFR.out.trans f3.out).alloc _) hgrow (fun k hk hlt => by have := (HOB.out k hk).1; omega)
        have HO2 := hid hown2
        clear hown2 hgrow hblk
        go_wp2
        go_roundw
        case rel =>
          refine ⟨i + 1, by go_num, by omega, ?_, fr2⟩
          unfold TksOwn
          rw [HTSS.out, flat_snoc, List.length_append, List.length_singleton]
          exact HO2.out
        case measure => exact HME.out
    · have hie : i = ps.length := by omega
      have hi2 : ¬ (i : Int) < (ps.length : Int) := by omega
      have hye := HTE.out hie
      clear hF hfr
      go_wp2
      go_ret
      refine ⟨_, rfl, HFR.out, ?_⟩
      rw [← hye, HY.out]; exact HO.out
end Go.Proofs.YtakkooidejdfkaaGreat
namespace Go.Proofs.YtakkooidejdfkaaGreat
open Go.RowKit
set_option linter.unusedVariables false
set_option linter.unusedSimpArgs false

def ldT (v : Value) : Sem Value := Instr.loadAt 115 v
theorem ldT_rule (v : Value) : Instr.loadAt 115 v = ldT v := rfl
theorem ldT_mid {w : World} {g o : Nat} {l : List Bool} (hl : l.length = 9) (hr : w.rangeAt g o (bls l)) : (ldT (.pointer (some ⟨g, o, none⟩))).run Tryz.prog w = .ok (.agg (tkA l)) w :=
  run_loadAt_mid w g o _ _ _ hr Tryz.underlying115 rfl (szTokL hl)
/-- the productions of a head, ahead of which a token stands -/
def ovL (n t : Int) : List (Pr × List Bool) → Nat → List Int
  | [], _ => []
  | p :: l, i => if p.1.head = n ∧ hasT p.2 t = true then (i : Int) :: ovL n t l (i + 1) else ovL n t l (i + 1)
theorem ovL_len (n t : Int) : ∀ (l : List (Pr × List Bool)) (i : Nat), (ovL n t l i).length ≤ l.length
  | [], _ => by simp [ovL]
  | p :: l, i => by
    unfold ovL
    have := ovL_len n t l (i + 1)
    split <;> simp <;> omega

attribute [local go_sem ↓] ldT_rule
set_option maxRecDepth 20000 in
set_option maxHeartbeats 4000000 in
theorem prodsOver_any (w : World) (R H : Int) (vp : Value) (ps : List PV) (hp : PrsAt w w.heap.size vp ps) (hps : ps.length ≤ 1000) (va : Value) (al : List (List Bool)) (base : Nat) (ha : TksOwn w base va al) (hal : al.length = ps.length) (ha9 : ∀ a ∈ al, a.length = 9) (n t : Int) :
    Calls Tryz.prog 38 #[.agg #[.int .i64 R, .int .i64 H, vp], va, .int .i64 n, .int .i64 t] w fun e w' => ∃ v, e = .returned v ∧ Fresh w w' ∧ IntOwn w' w.heap.size v (ovL n t ((prsOf ps).zip al) 0) := by
  obtain ⟨i0, hi0, iz0, iz1, iz2⟩ := infoI'
  have HP := hid hp
  obtain ⟨pa, pc, hvp⟩ := own_form hp.row.own
  subst hvp
  obtain ⟨aa, ac, hva⟩ := own_form ha
  subst hva
  have HAR : Hid (RowAt bls 9 115 w (.slice aa al.length ac) al) := ⟨ownsRow_base ha (Nat.zero_le _), fun x hx => by simp [bls, ha9 x hx]⟩
  have HA9 := hid ha9
  generalize hR : ovL n t ((prsOf ps).zip al) 0 = RES
  have HR := hid hR
  rw [hal]
  have HAL := hid hal
  clear hp ha ha9 hR hal
  go_enter Tryz.func38, Tryz.ntmps38
  go_wp2
  go_loopw [9, 10, 11, 15] (fun x9 _ _ x15 wr => ∃ (i : Nat) (acc : List Int), x15 = .int .i64 i ∧ i ≤ ps.length ∧ acc.length ≤ i ∧ acc ++ ovL n t (((prsOf ps).zip al).drop i) i = RES ∧ IntOwn wr w.heap.size x9 acc ∧ Fresh w wr)
      (fun _ _ _ x _ => 1001 - (intOf x).toNat)
  case atStart => exact ⟨0, [], rfl, by omega, by simp, HR.out, World.ownsRow_nil _ _ _ _, (Mod.refl _ w).alloc _⟩
  case round =>
    obtain ⟨i, acc, rfl, hi, hacc, hres, hown, hfr⟩ := hrel
    have HME := hid (meas (B := 1001) i (by omega))
    have HFR := hid hfr
    have HO := hid hown
    have HOB := hid hown.lt
    obtain ⟨ro, rc, hro⟩ := own_form hown
    subst hro
    clear hown
    by_cases hlt : i < ps.length
    · have hi1 : (i : Int) < (ps.length : Int) := by omega
      have hi3 : i < al.length := by have := HAL.out; omega
      have hzl : i < ((prsOf ps).zip al).length := by have := HAL.out; simp [prsOf]; omega
      rw [List.drop_eq_getElem_cons hzl] at hres
      have hze : ((prsOf ps).zip al)[i] = (ps[i].pr, al[i]) := by simp [prsOf]
      rw [hze] at hres
      unfold ovL at hres
      dsimp only at hres
      have hPr := HP.out.kept (Nat.le_refl _) hfr (fun _ _ x => x)
      obtain ⟨gp, cap', hv'⟩ := Joins.ownsRow_form hPr.row.own (by omega)
      rw [Value.slice.injEq] at hv'
      obtain ⟨rfl, _, rfl⟩ := hv'
      have RG : Hid (wr.rangeAt gp (i * 2) [.int .i64 ps[i].pr.head, ps[i].vs]) := hPr.row.range i hlt
      obtain ⟨sao, scap, hsv, _⟩ := hPr.syms ps[i] (by simp)
      have hra := (HAR.out.fresh hfr)
      obtain ⟨ga, ac', hva'⟩ := Joins.ownsRow_form hra.own (by omega)
      rw [Value.slice.injEq] at hva'
      obtain ⟨rfl, _, rfl⟩ := hva'
      have hrr := hra.range i hi3
      have h9 := HA9.out al[i] (by simp)
      have TH := hid (fun w => thas_any w al[i] t h9)
      generalize hpl : ps[i].pr.syms.length = pl at hsv
      generalize ps[i].pr.head = ph at hres RG
      rw [hsv] at RG
      have l1 : (ldT (.pointer (some ⟨ga, i * 9, none⟩))).run Tryz.prog (wr.alloc (.cells #[.int .i64 ph, .slice sao pl scap] 108 (0, 0))) = .ok (.agg (tkA al[i])) (wr.alloc (.cells #[.int .i64 ph, .slice sao pl scap] 108 (0, 0))) :=
        ldT_mid h9 (World.rangeAt_alloc hrr _)
      generalize al[i] = ai at hres TH l1
      have b4 : decide ((i : Int) < (ps.length : Int)) = true := by simpa using hi1
      clear hPr hra hrr h9 hfr hze hi3 hzl
      by_cases hh : ph = n
      · subst hh
        generalize hasT ai t = tv at hres TH
        cases tv
        · rw [if_neg (by simp)] at hres
          have HRES := hid hres
          clear hres
          go_wp2_with (first
            | (go_at_call 58; refine (TH.out _).mono ?_; rintro e w1 ⟨rfl, hf1⟩)
            | (refine wpList_load_mid rfl 108 _ rfl gp (i * 2) rfl [.int .i64 ph, .slice sao pl scap] _ RG.out Tryz.underlying108 rfl szPV ?_))
          go_roundw
          case rel =>
            refine ⟨i + 1, acc, by go_num, by omega, by omega, HRES.out, ?_, (HFR.out.alloc _).trans hf1⟩
            exact ownsRow_other HO.out (fun g hg => (Mod.trans ((Mod.refl (fun _ => False) wr).alloc _) hf1).block g (HOB.out g hg).2 (fun x => x))
          case measure => exact HME.out
        · rw [if_pos ⟨rfl, rfl⟩] at hres
          have HRES := hid hres
          clear hres
          go_wp2_with (first
            | (at_builtin; refine wpList_append_mine _ rfl _ _ 22 rfl w.heap.size 3 i0 _ 1 8 Tryz.underlying22 hi0 iz0 iz1 iz2 rfl (by decide) _ _ _ rfl (HO1.out.alloc _) ⟨w1.heap.size, 0, none⟩ 1 1 [.int .i64 i] rfl rfl (new_cells rfl) (by intro u hu; simp at hu; subst hu; rfl) (by unfold maxLen; omega) (by omega) (by have h3 := HFR.out.size; have h4 := hf1.size; simp at h4; simp; omega) ?_)
            | (go_at_call 58; refine (TH.out _).mono ?_; rintro e w1 ⟨rfl, hf1⟩; have HO1 := hid (ownsRow_other HO.out (fun g hg => (Mod.trans ((Mod.refl (fun _ => False) wr).alloc _) hf1).block g (HOB.out g hg).2 (fun x => x))))
            | (refine wpList_load_mid rfl 108 _ rfl gp (i * 2) rfl [.int .i64 ph, .slice sao pl scap] _ RG.out Tryz.underlying108 rfl szPV ?_))
          intro v' w5 hown2 hgrow hblk
          have fr2 : Fresh w w5 := Mod.grown (S := fun _ => False) (((HFR.out.alloc _).trans hf1).alloc _) hgrow (fun k hk hlt => by have := (HOB.out k hk).1; omega)
          have HO2 := hid hown2
          clear hown2 hgrow hblk
          go_wp2
          go_roundw
          case rel =>
            refine ⟨i + 1, acc ++ [(i : Int)], by go_num, by omega, by simp; omega, by rw [List.append_assoc]; exact HRES.out, ?_, fr2⟩
            unfold IntOwn
            rw [List.length_append, List.length_singleton, show nums (acc ++ [(i : Int)]) = nums acc ++ [.int .i64 i] from by simp]
            exact HO2.out
          case measure => exact HME.out
      · have b1 : (ph == n) = false := by simp [hh]
        rw [if_neg (fun h => hh h.1)] at hres
        have HRES := hid hres
        clear hres
        go_wp2_with (first
          | (refine wpList_load_mid rfl 108 _ rfl gp (i * 2) rfl [.int .i64 ph, .slice sao pl scap] _ RG.out Tryz.underlying108 rfl szPV ?_))
        go_roundw
        case rel =>
          refine ⟨i + 1, acc, by go_num, by omega, by omega, HRES.out, ?_, HFR.out.alloc _⟩
          exact HO.out.alloc _
        case measure => exact HME.out
    · have hie : i = ps.length := by omega
      have hi2 : ¬ (i : Int) < (ps.length : Int) := by omega
      rw [List.drop_eq_nil_of_le (by have := HAL.out; simp [prsOf]; omega)] at hres
      have hres2 : acc = RES := by simpa [ovL] using hres
      subst hres2
      clear hres hfr
      go_wp2
      go_ret
      exact ⟨_, rfl, HFR.out, HO.out⟩
end Go.Proofs.YtakkooidejdfkaaGreat
namespace Go.Proofs.YtakkooidejdfkaaGreat
open Go.RowKit
set_option linter.unusedVariables false
set_option linter.unusedSimpArgs false

structure Cl where
  h : Int
  t : Int
  a : Int
  b : Int
def Cl.cells (c : Cl) : List Value := [.int .i64 c.h, .int .i64 c.t, .int .i64 c.a, .int .i64 c.b]
def pairL (n t : Int) : List Int → List Cl
  | [] => []
  | f :: r => (r.map fun s => ⟨n, t, f, s⟩) ++ pairL n t r
def clT (z : List (Pr × List Bool)) (n R : Nat) : Nat → Nat → List Cl
  | 0, _ => []
  | f + 1, t => if t ≤ R then pairL n t (ovL n t z 0) ++ clT z n R f (t + 1) else []
def clN (z : List (Pr × List Bool)) (R H : Nat) : Nat → Nat → List Cl
  | 0, _ => []
  | f + 1, n => if n < H then clT z n R (R + 2) 0 ++ clN z R H f (n + 1) else []
def clashL (z : List (Pr × List Bool)) (R H : Nat) : List Cl := clN z R H (H + 1) 0
theorem pairL_len (n t : Int) : ∀ l : List Int, (pairL n t l).length ≤ l.length * l.length
  | [] => by simp [pairL]
  | f :: r => by
    have ih := pairL_len n t r
    simp only [pairL, List.length_append, List.length_map, List.length_cons]
    have : (r.length + 1) * (r.length + 1) = r.length * r.length + 2 * r.length + 1 := by
      rw [Nat.add_mul, Nat.mul_add]; omega
    omega
theorem pair_le (z : List (Pr × List Bool)) (hz : z.length ≤ 1000) (n t : Int) : (pairL n t (ovL n t z 0)).length ≤ 1000000 := by
  have h1 := pairL_len n t (ovL n t z 0)
  have h2 := ovL_len n t z 0
  have h3 : (ovL n t z 0).length * (ovL n t z 0).length ≤ 1000 * 1000 := Nat.mul_le_mul (by omega) (by omega)
  omega
theorem clT_len (z : List (Pr × List Bool)) (hz : z.length ≤ 1000) (n R : Nat) : ∀ (f t : Nat), (clT z n R f t).length ≤ f * 1000000
  | 0, _ => by simp [clT]
  | f + 1, t => by
    unfold clT
    have h1 := pair_le z hz n t
    have h2 := clT_len z hz n R f (t + 1)
    split
    · rw [List.length_append]; omega
    · simp
theorem clN_len (z : List (Pr × List Bool)) (hz : z.length ≤ 1000) (R H : Nat) (hR : R ≤ 1000) : ∀ (f n : Nat), (clN z R H f n).length ≤ f * 1002000000
  | 0, _ => by simp [clN]
  | f + 1, n => by
    unfold clN
    have h1 := clT_len z hz n R (R + 2) 0
    have h2 := clN_len z hz R H hR f (n + 1)
    split
    · rw [List.length_append]; omega
    · simp
abbrev ClOwn (w : World) (base : Nat) (v : Value) (l : List Cl) : Prop := w.ownsRow base 92 4 v l.length (flatC Cl.cells l)
theorem infoCl : (Tryz.prog.info? 92).map (fun i => (i.zero, i.size, i.bytes)) = some (some (.agg #[.int .i64 0, .int .i64 0, .int .i64 0, .int .i64 0]), 4, 32) := by kernel_rfl
theorem infoCl' : ∃ i, Tryz.prog.info? 92 = some i ∧ i.zero = some (.agg #[.int .i64 0, .int .i64 0, .int .i64 0, .int .i64 0]) ∧ i.size = 4 ∧ i.bytes = 32 := by
  have h := infoCl
  cases hq : Tryz.prog.info? 92 with
  | none => simp [hq] at h
  | some i => simp [hq] at h; exact ⟨i, rfl, h.1, h.2.1, h.2.2⟩
theorem intOwn_cell {w : World} {base : Nat} {g n cap : Nat} {l : List Int} (h : IntOwn w base (.slice (some ⟨g, 0, none⟩) n cap) l) (i : Nat) (hi : i < l.length) : w.cell? ⟨g, i, none⟩ = some (.int .i64 l[i]) := by
  have := h.cells (g := g) rfl i (.int .i64 l[i]) (by simp [hi])
  rwa [Addr.add_mid, Nat.zero_add] at this

set_option maxRecDepth 20000 in
set_option maxHeartbeats 8000000 in
theorem Clashes_any (w : World) (R H : Nat) (vp : Value) (ps : List PV) (hp : PrsAt w w.heap.size vp ps) (hps : ps.length ≤ 1000) (hH : H ≤ 1000) (hR : R ≤ 1000) (hok : ∀ x ∈ allF (prsOf ps) (initH R H), x.ok) :
    Calls Tryz.prog 24 #[.agg #[.int .i64 R, .int .i64 H, vp]] w fun e w' => ∃ v, e = .returned v ∧ Fresh w w' ∧ ClOwn w' w.heap.size v (clashL ((prsOf ps).zip (aheadsF (allF (prsOf ps) (initH R H)) (prsOf ps))) R H) := by
  obtain ⟨i0, hi0, iz0, iz1, iz2⟩ := infoCl'
  obtain ⟨pa, pc, hvp⟩ := own_form hp.row.own
  subst hvp
  have HP := hid hp
  have FI := hid (find_any' (w.alloc (.cells #[.int .i64 R, .int .i64 H, .slice pa ps.length pc] 51 (0, 0))) R H (.slice pa ps.length pc) ps ((hp.kept (Nat.le_refl _) ((Mod.refl (fun _ => False) w).alloc _) (fun _ _ x => x)).up (by simp)) hps hH hR)
  generalize allF (prsOf ps) (initH R H) = AL at FI hok
  have hzl : ((prsOf ps).zip (aheadsF AL (prsOf ps))).length ≤ 1000 := by simp [aheadsF, prsOf]; omega
  have hal : (aheadsF AL (prsOf ps)).length = ps.length := by simp [aheadsF, prsOf]
  have ha9 : ∀ a ∈ aheadsF AL (prsOf ps), a.length = 9 := fun a ha => by
    obtain ⟨p, _, rfl⟩ := List.mem_map.1 ha
    exact folB_len hok _ _
  have hlR := clN_len _ hzl R H hR (H + 1) 0
  generalize hRES : clashL ((prsOf ps).zip (aheadsF AL (prsOf ps))) R H = RES
  have HRES0 := hid hRES
  have hlen : RES.length ≤ 1003002000000 := by
    rw [← hRES]; unfold clashL; omega
  clear hp hRES hlR hok
  go_enter Tryz.func24, Tryz.ntmps24
  go_wp2_with (first
    | (go_at_call 37; refine (findAhead_any w1 b R H (.slice pa ps.length pc) vh ps AL hF1 hps).mono ?_; rintro e w2 ⟨va, rfl, hf2, hoa⟩)
    | (go_at_call 36; refine FI.out.mono ?_; rintro e w1 ⟨b, vh, rfl, hf1, hF1⟩))
  have HBT := hid (hf2.at (hf1.at (heap_alloc_at _ _) (fun x => x)) (fun x => x))
  have HF2 : Hid (Fresh w w2) := Mod.trans ((Mod.refl _ w).alloc _) (hf1.trans hf2)
  have HOA := hid hoa
  have PO := hid (fun (W : World) (hW : Fresh w2 W) (n t : Nat) => prodsOver_any W R H (.slice pa ps.length pc) ps ((HP.out.kept (Nat.le_refl _) (HF2.out.trans hW) (fun _ _ x => x)).up ((HF2.out.trans hW).size)) hps va (aheadsF AL (prsOf ps)) _ (ownsRow_other hoa (fun g hg => hW.block g (hoa.lt g hg).2 (fun x => x))) hal ha9 (n : Int) (t : Int))
  have hzo := hf2.size
  have hzw := HF2.out.size
  generalize (prsOf ps).zip (aheadsF AL (prsOf ps)) = z at HRES0 hzl PO
  clear hoa hF1 hf1 hf2 FI hal ha9
  go_loopw [5, 6, 7, 8, 9, 10, 12, 36, 46] (fun x5 x6 _ _ _ _ _ _ _ wr => ∃ (n : Nat) (acc : List Cl), x6 = .int .i64 n ∧ n ≤ H ∧ acc ++ clN z R H (H + 1 - n) n = RES ∧ ClOwn wr w2.heap.size x5 acc ∧ Fresh w2 wr)
      (fun _ x _ _ _ _ _ _ _ _ => H + 1 - (intOf x).toNat)
  case atStart => exact ⟨0, [], rfl, by omega, HRES0.out, World.ownsRow_nil _ _ _ _, Mod.refl _ _⟩
  case round =>
    obtain ⟨n, acc, rfl, hn, hres, hown, hfr⟩ := hrel
    have HMN := hid (meas (B := H + 1) n (by omega))
    have HFR := hid hfr
    have c1 := cellOf (hfr.at HBT.out (fun x => x)) 1
    have c0 := cellOf (hfr.at HBT.out (fun x => x)) 0
    simp at c1 c0
    obtain ⟨ro, rc, hro⟩ := own_form hown
    have HO := hid hown
    subst hro
    clear hown hfr
    by_cases hlt : n < H
    · have hn1 : (n : Int) < (H : Int) := by omega
      rw [show H + 1 - n = (H - n) + 1 by omega] at hres
      unfold clN at hres
      rw [if_pos hlt] at hres
      have HRN := hid hres
      clear hres
      obtain ⟨wn, hwn⟩ : ∃ wn, wn = wr := ⟨_, rfl⟩
      subst hwn
      go_wp2
      go_loopw [5, 7, 8, 9, 10, 12, 36, 46] (fun x5 x7 _ _ _ _ _ _ wr => ∃ (t : Nat) (acc : List Cl), x7 = .int .i64 t ∧ t ≤ R + 1 ∧ acc ++ (clT z n R (R + 2 - t) t ++ clN z R H (H - n) (n + 1)) = RES ∧ ClOwn wr w2.heap.size x5 acc ∧ Fresh w2 wr)
          (fun _ x _ _ _ _ _ _ _ => R + 2 - (intOf x).toNat)
      case atStart => exact ⟨0, acc, rfl, by omega, HRN.out, HO.out, HFR.out⟩
      case round =>
        obtain ⟨t, acc, rfl, ht, hres, hown, hfr⟩ := hrel
        have HMT := hid (meas (B := R + 2) t (by omega))
        have HFT := hid hfr
        have hb1 := heap_lt (hfr.at HBT.out (fun x => x))
        have c1 := cellOf (hfr.at HBT.out (fun x => x)) 1
        have c0 := cellOf (hfr.at HBT.out (fun x => x)) 0
        have c2 := cellOf (hfr.at HBT.out (fun x => x)) 2
        simp at c1 c0 c2
        obtain ⟨so, sc, hso⟩ := own_form hown
        have HOT := hid hown
        subst hso
        clear hown hfr
        by_cases hlt2 : t ≤ R
        · have ht1 : (t : Int) ≤ (R : Int) := by omega
          rw [show R + 2 - t = (R + 1 - t) + 1 by omega] at hres
          unfold clT at hres
          rw [if_pos hlt2, List.append_assoc] at hres
          obtain ⟨wt, hwt⟩ : ∃ wt, wt = wr := ⟨_, rfl⟩
          subst hwt
          have POT := hid (PO.out wt HFT.out n t)
          generalize hov : ovL (n : Int) (t : Int) z 0 = able at hres POT
          have hal2 : able.length ≤ 1000 := by rw [← hov]; have := ovL_len n t z 0; omega
          generalize hREST : clT z n R (R + 1 - t) (t + 1) ++ clN z R H (H - n) (n + 1) = REST at hres
          have HREST := hid hREST
          clear hREST
          have HRT := hid hres
          clear hres hov
          have HFT2 := HFT
          go_wp2_with (first
            | (go_at_call 38; refine POT.out.mono ?_; rintro e w3 ⟨v8, rfl, hf3, ho8⟩; obtain ⟨a8, c8, e8⟩ := own_form ho8; subst e8; have HO8 := hid ho8; have HF3 := hid (HFT.out.trans hf3); have HOC := hid (ownsRow_other HOT.out (fun g hg => hf3.block g (HOT.out.lt g hg).2 (fun x => x))); have HDI : Hid (∀ k, (Value.slice so acc.length sc).ownBlock = some k → (Value.slice a8 able.length c8).ownBlock ≠ some k) := (fun k hk e => by have q1 := (HOT.out.lt k hk).2; have q2 := (ho8.lt k e).1; omega); clear ho8 hf3)
            | (refine wpList_load_row rfl 51 _ rfl w.heap.size rfl _ #[.int .i64 R, .int .i64 H, .slice pa ps.length pc] _ _ (HFT.out.at HBT.out (fun x => x)) Tryz.underlying51 rfl szTab ?_))
          clear c0 c1 c2
          go_loopw [5, 9, 10, 12, 36, 46] (fun x5 _ _ _ x36 _ wr => ∃ (i : Nat) (acc : List Cl), x36 = .int .i64 i ∧ i ≤ able.length ∧ acc ++ (pairL n t (able.drop i) ++ REST) = RES ∧ ClOwn wr w2.heap.size x5 acc ∧ IntOwn wr wt.heap.size (.slice a8 able.length c8) able ∧ (∀ k, x5.ownBlock = some k → (Value.slice a8 able.length c8).ownBlock ≠ some k) ∧ Fresh w2 wr)
              (fun _ _ _ _ x _ _ => 1001 - (intOf x).toNat)
          case atStart => exact ⟨0, acc, rfl, by omega, HRT.out, HOC.out, HO8.out, HDI.out, HF3.out⟩
          case round =>
            obtain ⟨i, acc, rfl, hi, hres, hown, ho8, hdi, hfr⟩ := hrel
            have HMI := hid (meas (B := 1001) i (by omega))
            have HFI := hid hfr
            have HOI := hid hown
            have HO8I := hid ho8
            have HDII := hid hdi
            obtain ⟨qo, qc, hqo⟩ := own_form hown
            subst hqo
            clear hown hfr hdi
            by_cases hlti : i < able.length
            · have hi1 : (i : Int) < (able.length : Int) := by omega
              obtain ⟨g8, c8', hv8⟩ := Joins.ownsRow_form ho8 (by omega)
              rw [Value.slice.injEq] at hv8
              obtain ⟨rfl, _, rfl⟩ := hv8
              have hcap : able.length ≤ c8 := by
                rcases ho8.2 with ⟨h1, _⟩ | ⟨g', cap', cur, h1, _, _, h4, _⟩
                · cases h1
                · rw [Value.slice.injEq] at h1; omega
              have hcm : c8 ≤ 2 ^ 63 - 1 := by
                rcases ho8.2 with ⟨h1, _⟩ | ⟨g', cap', cur, h1, _, _, _, h5, _⟩
                · cases h1
                · rw [Value.slice.injEq] at h1; unfold maxLen at h5; omega
              have d1 := intOwn_cell ho8 i hlti
              rw [List.drop_eq_getElem_cons hlti] at hres
              unfold pairL at hres
              rw [List.append_assoc] at hres
              generalize able[i] = fst at hres d1
              generalize hR2 : pairL n t (able.drop (i + 1)) ++ REST = REST2 at hres
              have HR2 := hid hR2
              have HRI := hid hres
              clear hres ho8 hR2
              obtain ⟨wi, hwi⟩ : ∃ wi, wi = wr := ⟨_, rfl⟩
              subst hwi
              rcases (show c8 = i + 1 ∨ ¬ c8 = i + 1 by omega) with hc8 | hc8
              · have hle : able.length = i + 1 := by omega
                have HE : Hid (acc ++ REST2 = RES) := by
                  have := HRI.out
                  rw [List.drop_eq_nil_of_le (by omega)] at this
                  unfold Hid
                  simpa using this
                have h0 : able.length - (i + 1) = 0 := by omega
                subst hc8
                have HLE := hid hle
                clear hle
                go_wp2
                go_loopw [5, 12, 46] (fun x5 _ x46 wr => x5 = .slice qo acc.length qc ∧ x46 = .int .i64 0 ∧ wr = wi)
                    (fun _ _ _ _ => 0)
                case atStart => exact ⟨rfl, rfl, rfl⟩
                case round =>
                  obtain ⟨rfl, rfl, hwr⟩ := hrel
                  subst hwr
                  go_wp2
                  go_roundw
                  case rel => exact ⟨i + 1, acc, by go_num, by omega, by rw [HR2.out]; exact HE.out, HOI.out, HO8I.out, HDII.out, HFI.out⟩
                  case measure => exact HMI.out
              · have hc9 : ¬ c8 - (i + 1) = 0 := by omega
                go_wp2
                go_loopw [5, 12, 46] (fun x5 _ x46 wr => ∃ (j : Nat) (acc : List Cl), x46 = .int .i64 j ∧ j ≤ able.length - (i + 1) ∧ acc ++ ((((able.drop (i + 1)).drop j).map fun s => (⟨n, t, fst, s⟩ : Cl)) ++ REST2) = RES ∧ ClOwn wr w2.heap.size x5 acc ∧ IntOwn wr wt.heap.size (.slice (some ⟨g8, 0, none⟩) able.length c8) able ∧ (∀ k, x5.ownBlock = some k → (Value.slice (some ⟨g8, 0, none⟩) able.length c8).ownBlock ≠ some k) ∧ Fresh w2 wr)
                    (fun _ _ x _ => 1001 - (intOf x).toNat)
                case atStart => exact ⟨0, acc, rfl, by omega, HRI.out, HOI.out, HO8I.out, HDII.out, HFI.out⟩
                case round =>
                  obtain ⟨j, acc, rfl, hj, hres, hown, ho8, hdi, hfr⟩ := hrel
                  have HMJ := hid (meas (B := 1001) j (by omega))
                  have HFJ := hid hfr
                  have HOJ := hid hown
                  have HO8J := hid ho8
                  have HDJ := hid hdi
                  have hlacc : acc.length ≤ RES.length := by rw [← hres]; simp
                  obtain ⟨qo, qc, hqo⟩ := own_form hown
                  subst hqo
                  have hzj := hfr.size
                  clear hown hfr hdi
                  by_cases hltj : j < able.length - (i + 1)
                  · have hj1 : (j : Int) < ((able.length - (i + 1) : Nat) : Int) := by omega
                    have hdl : j < (able.drop (i + 1)).length := by simp; omega
                    rw [List.drop_eq_getElem_cons hdl, List.map_cons] at hres
                    have d2 := intOwn_cell ho8 (i + 1 + j) (by omega)
                    have hge : (able.drop (i + 1))[j] = able[i + 1 + j]'(by omega) := by simp
                    rw [hge] at hres
                    generalize able[i + 1 + j]'(by omega) = snd at hres d2
                    have HRJ := hid hres
                    clear hres ho8
                    go_wp2_with (first
                      | (at_builtin; refine wpList_append_mine _ rfl _ _ 46 rfl w2.heap.size 92 i0 _ 4 32 Tryz.underlying46 hi0 iz0 iz1 iz2 rfl (by decide) _ _ _ rfl (HOJ.out.alloc _) ⟨wr.heap.size, 0, none⟩ 1 1 [.int .i64 n, .int .i64 t, .int .i64 fst, .int .i64 snd] rfl rfl (new_cells rfl) (by intro u hu; simp at hu; rcases hu with rfl | rfl | rfl | rfl <;> rfl) (by unfold maxLen; omega) (by omega) (by simp; omega) ?_))
                    intro v' w5 hown2 hgrow hblk
                    have HF5 : Hid (Fresh w2 w5) := Mod.grown (S := fun _ => False) (HFJ.out.alloc _) hgrow (fun k hk hlt => by have := (HOJ.out.lt k hk).1; omega)
                    have H85 : Hid (IntOwn w5 wt.heap.size (.slice (some ⟨g8, 0, none⟩) able.length c8) able) := ownsRow_other (HO8J.out.alloc _) (fun g hg => hgrow.block g ((HO8J.out.alloc _).lt g hg).2 (fun e => HDJ.out g e.symm hg))
                    have HD5 : Hid (∀ k, v'.ownBlock = some k → (Value.slice (some ⟨g8, 0, none⟩) able.length c8).ownBlock ≠ some k) := fun k hk e => by
                      rcases hblk k hk with q1 | q1
                      · exact HDJ.out k q1 e
                      · have q2 := (HO8J.out.lt k e).2
                        first | omega | (simp at q1; omega)
                    have HO5 := hid hown2
                    clear hown2 hgrow hblk
                    go_wp2
                    go_roundw
                    case rel =>
                      refine ⟨j + 1, acc ++ [⟨n, t, fst, snd⟩], by go_num, by omega, ?_, ?_, H85.out, HD5.out, HF5.out⟩
                      · rw [List.append_assoc]; exact HRJ.out
                      · unfold ClOwn
                        rw [flat_snoc, List.length_append, List.length_singleton]
                        exact HO5.out
                    case measure => exact HMJ.out
                  · have hje : j = able.length - (i + 1) := by omega
                    have hj2 : ¬ (j : Int) < ((able.length - (i + 1) : Nat) : Int) := by omega
                    rw [List.drop_eq_nil_of_le (by simp; omega), List.map_nil, List.nil_append] at hres
                    have HRJ := hid hres
                    clear hres ho8
                    go_wp2
                    go_roundw
                    case rel => exact ⟨i + 1, acc, by go_num, by omega, by rw [HR2.out]; exact HRJ.out, HOJ.out, HO8J.out, HDJ.out, HFJ.out⟩
                    case measure => exact HMI.out
            · have hie : i = able.length := by omega
              have hi2 : ¬ (i : Int) < (able.length : Int) := by omega
              rw [hie, List.drop_length] at hres
              have HRI : Hid (acc ++ REST = RES) := by unfold Hid; simpa [pairL] using hres
              clear hres ho8
              go_wp2
              go_roundw
              case rel => exact ⟨t + 1, acc, by go_num, by omega, by rw [show R + 2 - (t + 1) = R + 1 - t by omega, HREST.out]; exact HRI.out, HOI.out, HFI.out⟩
              case measure => exact HMT.out
        · have hte : t = R + 1 := by omega
          have ht2 : ¬ (t : Int) ≤ (R : Int) := by omega
          rw [show R + 2 - t = 1 by omega] at hres
          unfold clT at hres
          rw [if_neg hlt2, List.nil_append] at hres
          have HRT := hid hres
          clear hres
          go_wp2
          go_roundw
          case rel => exact ⟨n + 1, acc, by go_num, by omega, by rw [show H + 1 - (n + 1) = H - n by omega]; exact HRT.out, HOT.out, HFT.out⟩
          case measure => exact HMN.out
    · have hne : n = H := by omega
      have hn2 : ¬ (n : Int) < (H : Int) := by omega
      rw [show H + 1 - n = 1 by omega] at hres
      unfold clN at hres
      rw [if_neg hlt, List.append_nil] at hres
      subst hres
      go_wp2
      go_ret
      exact ⟨_, rfl, HF2.out.trans HFR.out, ownsRow_base HO.out hzw⟩
end Go.Proofs.YtakkooidejdfkaaGreat
namespace Go.Proofs.YtakkooidejdfkaaGreat
open Go.RowKit
set_option linter.unusedVariables false
set_option linter.unusedSimpArgs false

def clashF (s : ByteArray) : List Cl := clashL ((tableOf (rLines s).1).zip (aheadsF (setsF s) (tableOf (rLines s).1))) (frontsOf (rLines s).1).length (headsOf (rLines s).1).length
def ClashRet (s : ByteArray) (w : World) (e : Ending) (w' : World) : Prop :=
  ∃ v, e = .returned (.tuple #[v, .int .i64 0]) ∧ Fresh w w' ∧ ClOwn w' w.heap.size v (clashF s)

set_option maxRecDepth 20000 in
set_option maxHeartbeats 4000000 in
theorem clashes_good (s : ByteArray) (w : World) (hs : s.size ≤ maxLen) (hc : (checkF s).1 = 0) (hok : ∀ x ∈ setsF s, x.ok) :
    Calls Tryz.prog 13 #[.string s] w fun e w' => ClashRet s w e w' := by
  have TB := hid (fun w => table_good s w hs hc)
  obtain ⟨z1, z2, z3⟩ := tab_sizes hc
  have HZ : Hid (∀ pvs : List PV, pvs.map PV.pr = tableOf (rLines s).1 → pvs.length ≤ 1000) := fun pvs h => by
    have : pvs.length = (tableOf (rLines s).1).length := by rw [← h]; simp
    omega
  have HSF : Hid (∀ pvs : List PV, pvs.map PV.pr = tableOf (rLines s).1 → (∀ x ∈ allF (prsOf pvs) (initH ((frontsOf (rLines s).1).length : Nat) (headsOf (rLines s).1).length), x.ok) ∧ clashL ((prsOf pvs).zip (aheadsF (allF (prsOf pvs) (initH ((frontsOf (rLines s).1).length : Nat) (headsOf (rLines s).1).length)) (prsOf pvs))) (frontsOf (rLines s).1).length (headsOf (rLines s).1).length = clashF s) := fun pvs h => by
    unfold prsOf; rw [h]; exact ⟨hok, rfl⟩
  unfold ClashRet
  unfold TableRet at TB
  generalize (frontsOf (rLines s).1).length = R at TB z1 HSF
  generalize (headsOf (rLines s).1).length = H at TB z2 HSF
  generalize clashF s = CF at HSF
  generalize tableOf (rLines s).1 = TAB at TB HZ HSF
  clear hc z3 hok
  go_enter Tryz.func13, Tryz.ntmps13
  go_wp2_with (first
    | (go_at_call 24; refine (Clashes_any _ R H _ pvs (HPU.out _) (HZ.out pvs hmap) (by omega) (by omega) (HSF.out pvs hmap).1).mono ?_; rintro e w2 ⟨v, rfl, hf2, hcl⟩)
    | (go_at_call 14; refine (TB.out _).mono ?_; rintro e w1 ⟨vp, pvs, rfl, hf1, hmap, hprs⟩; obtain ⟨ra, rc, hvp⟩ := own_form hprs.row.own; subst hvp; have HPU : Hid (∀ o : Obj, PrsAt (w1.alloc o) (w1.alloc o).heap.size (.slice ra pvs.length rc) pvs) := fun o => (hprs.kept (Nat.le_refl _) ((Mod.refl (fun _ => False) w1).alloc o) (fun _ _ x => x)).up (by simp)))
  go_ret2
  have hfw : Fresh w (w1.alloc (.cells #[.int .i64 R, .int .i64 H, .slice ra pvs.length rc] 51 (0, 0))) := hf1.alloc _
  rw [(HSF.out pvs hmap).2] at hcl
  exact ⟨_, rfl, hfw.trans hf2, ownsRow_base hcl hfw.size⟩

set_option maxRecDepth 20000 in
set_option maxHeartbeats 4000000 in
theorem clashes_bad (s : ByteArray) (w : World) (hs : s.size ≤ maxLen) (hc : (checkF s).1 ≠ 0) :
    Calls Tryz.prog 13 #[.string s] w fun e w' => e = .returned (.tuple #[.slice none 0 0, .int .i64 (checkF s).1]) ∧ Fresh w w' := by
  have TB := hid (fun w => table_bad s w hs hc)
  have c0 : ((checkF s).1 != 0) = true := by simpa using hc
  clear hc
  go_enter Tryz.func13, Tryz.ntmps13
  go_wp2_with (first
    | (go_at_call 14; refine (TB.out _).mono ?_; rintro e w1 ⟨rfl, hf1⟩))
  go_ret2
  exact ⟨rfl, hf1.alloc _⟩
end Go.Proofs.YtakkooidejdfkaaGreat
namespace Go.Proofs.YtakkooidejdfkaaGreat
open Go.RowKit
set_option linter.unusedVariables false
set_option linter.unusedSimpArgs false

/-- the keep's front of a production: what stands ahead of it by the sets -/
def frF (svs : List SV) (nR : Nat) (q : Int) (sy : List Int) : List Bool :=
  if (kaF svs sy (List.replicate (nR + 1) false)).2 then setAll (kaF svs sy (List.replicate (nR + 1) false)).1 (listT (hdAt svs (-1 - q)).fo) else (kaF svs sy (List.replicate (nR + 1) false)).1
theorem frF_len (svs : List SV) (nR : Nat) (q : Int) (sy : List Int) : (frF svs nR q sy).length = nR + 1 := by
  unfold frF
  split
  · rw [setAll_len, kaF_len]; simp
  · rw [kaF_len]; simp
section
variable {ps : List Pr} {R H : Nat} {hs : List Hd} {svs : List SV}
theorem frF_at (hT : TabOk ps R H) (hR : R ≤ 8) (hS : SetsOk ps R H hs) (hsv : svs.map SV.hd = hs) {p : Pr} (hp : p ∈ ps) : EqB (frF svs R p.head (p.syms.map sInt)) (folB hs p.head p.syms) := by
  have hrep : EqB (List.replicate (R + 1) false) zero9 := fun t => by
    rw [zero9_at]
    by_cases h : t < R + 1 <;> simp [h, List.getElem?_replicate]
  obtain ⟨k1, k2⟩ := ka_beg hR hS hsv p.syms zero9 (List.replicate (R + 1) false) (hT.sy p hp) (by simp) rfl hrep
  have hkl := kaF_len svs (p.syms.map sInt) (List.replicate (R + 1) false)
  rw [List.length_replicate] at hkl
  have hfo := (getH_ok hS.ok p.head).fo
  have ehd : hdAt svs (-1 - p.head) = getH hs p.head := by
    obtain ⟨h0, hn⟩ := hT.hd p hp
    exact hdAt_eq (s := ⟨true, p.head⟩) hsv hS.len rfl h0 hn
  unfold frF folB
  rw [k2, ehd]
  split
  · intro t
    rw [setAll_at, orL_at (by rw [begF_len hS.ok _ _ rfl, hfo]), listT_any hfo, k1 t]
    intro k hk
    obtain ⟨q1, q2, q3⟩ := (listL_mem _ 9).2 k hk
    have := hS.bfo p.head _ q3
    exact ⟨q1, by omega⟩
  · exact k1
end

/-- The clashes that the keep looks for. -/
structure ApOk (svs : List SV) (nR : Nat) (head : List Int) (syms : List (List Int)) (z : List (Pr × List Bool)) : Prop where
  zl : z.length = syms.length
  zh : ∀ p (hp : p < z.length), head[p]? = some z[p].1.head
  zt : ∀ p (hp : p < z.length) (hs : p < syms.length) (t : Nat), (frF svs nR z[p].1.head syms[p]).getD t false = z[p].2.getD t false
theorem apOk {ps : List Pr} {R H : Nat} {hs : List Hd} {svs : List SV} (hT : TabOk ps R H) (hR : R ≤ 8) (hS : SetsOk ps R H hs) (hsv : svs.map SV.hd = hs) :
    ApOk svs R (ps.map Pr.head) (ps.map fun p => p.syms.map sInt) (ps.zip (aheadsF hs ps)) := by
  have hl : (ps.zip (aheadsF hs ps)).length = ps.length := by simp [aheadsF]
  refine ⟨by rw [hl]; simp, fun p hp => ?_, fun p hp h2 t => ?_⟩
  · have h3 : p < ps.length := by omega
    simp [h3]
  · have h3 : p < ps.length := by omega
    have := frF_at hT hR hS hsv (p := ps[p]) (by simp) t
    simpa [aheadsF] using this

/-- the two clashes are one -/
theorem isAggI (w : World) : (isAgg 3).run Tryz.prog w = .ok false w := by
  unfold isAgg; rw [Sem.run_bind, run_underlying Tryz.underlying3]; rfl
theorem partI (xs : Array Value) (i : Nat) (v : Value) (h : xs[i]? = some v) (w : World) : (part 3 xs i).run Tryz.prog w = .ok v w := by
  simp [part, isAggI, h]
theorem stoodCl : Tryz.prog.stoodInHeld 92 = false := by kernel_rfl
theorem guardCl : Tryz.prog.eqGuardType Tryz.prog.depth 92 = false := by kernel_rfl
abbrev clA (h t a b : Int) : Array Value := #[.int .i64 h, .int .i64 t, .int .i64 a, .int .i64 b]
theorem eqCl (d : Nat) (h t a b : Int) (w : World) : (Op.equalIn (d + 4) 92 (.agg (clA h t a b)) (.agg (clA h t a b))).run Tryz.prog w = .ok true w := by
  rw [run_equalIn_struct w (d + 3) _ _ _ (by kernel_rfl) stoodCl]
  have hf : ((Tryz.prog.fieldsOf 92).toList.map fun f => (f.name, f.type, f.offset)) = [("Head", 3, 0), ("Token", 3, 1), ("First", 3, 2), ("Second", 3, 3)] := by kernel_rfl
  generalize (Tryz.prog.fieldsOf 92).toList = fs at hf
  rcases fs with _ | ⟨f0, _ | ⟨f1, _ | ⟨f2, _ | ⟨f3, _ | ⟨f4, fs⟩⟩⟩⟩⟩ <;> simp at hf
  obtain ⟨⟨n0, t0, o0⟩, ⟨n1, t1, o1⟩, ⟨n2, t2, o2⟩, ⟨n3, t3, o3⟩⟩ := hf
  simp only [Op.eqFields, n0, t0, o0, n1, t1, o1, n2, t2, o2, n3, t3, o3]
  simp [partI, run_equalIn_int w (d + 2) 3 .i64 _ _ _ Tryz.underlying3]
end Go.Proofs.YtakkooidejdfkaaGreat
namespace Go.Proofs.YtakkooidejdfkaaGreat
open Go.RowKit
set_option linter.unusedVariables false
set_option linter.unusedSimpArgs false

/-- the heads that derive the empty string by trees of at most this height -/
def NS (ps : List Pr) : Nat → Int → Bool
  | 0, _ => false
  | n + 1, X => ps.any fun p => p.head == X && p.syms.all fun s => s.isH && NS ps n s.num
/-- does a string of symbols begin with t -/
def begX (N : Int → Bool) (F : Int → Bool) (t : Nat) : List Sy → Bool
  | [] => false
  | s :: l => (if s.isH then F s.num else s.num == (t : Int)) || (s.isH && N s.num && begX N F t l)
def FS (ps : List Pr) (N : Int → Bool) (t : Nat) : Nat → Int → Bool
  | 0, _ => false
  | n + 1, X => ps.any fun p => p.head == X && begX N (FS ps N t n) t p.syms
def nulS (N : Int → Bool) (s : Sy) : Bool := s.isH && N s.num

theorem begX_mono {N F F' : Int → Bool} {t : Nat} (h : ∀ X, F X = true → F' X = true) : ∀ l : List Sy, begX N F t l = true → begX N F' t l = true
  | [], e => e
  | s :: l, e => by
    unfold begX at e ⊢
    cases hs : s.isH
    · rw [hs] at e; simpa using e
    · rw [hs] at e
      simp only [if_true, Bool.true_and, Bool.or_eq_true, Bool.and_eq_true] at e ⊢
      rcases e with e | ⟨e1, e2⟩
      · exact .inl (h _ e)
      · exact .inr ⟨e1, begX_mono h l e2⟩
theorem begX_split {N F : Int → Bool} {t : Nat} : ∀ {l : List Sy}, begX N F t l = true → ∃ a s b, l = a ++ s :: b ∧ a.all (nulS N) = true ∧ (if s.isH then F s.num else s.num == (t : Int)) = true
  | [], e => by cases e
  | s :: l, e => by
    unfold begX at e
    simp only [Bool.or_eq_true, Bool.and_eq_true] at e
    rcases e with e | ⟨e1, e2⟩
    · exact ⟨[], s, l, rfl, rfl, e⟩
    · obtain ⟨a, s', b, h1, h2, h3⟩ := begX_split e2
      refine ⟨s :: a, s', b, by rw [h1]; rfl, ?_, h3⟩
      simp [nulS, e1.1, e1.2, h2]
theorem begX_join {N F : Int → Bool} {t : Nat} (s : Sy) (b : List Sy) (h : (if s.isH then F s.num else s.num == (t : Int)) = true) : ∀ a : List Sy, a.all (nulS N) = true → begX N F t (a ++ s :: b) = true
  | [], _ => by simp only [List.nil_append, begX, Bool.or_eq_true]; exact .inl h
  | x :: a, e => by
    simp only [List.all_cons, Bool.and_eq_true] at e
    simp only [List.cons_append, begX, Bool.or_eq_true, Bool.and_eq_true]
    have e1 := e.1
    simp only [nulS, Bool.and_eq_true] at e1
    exact .inr ⟨e1, begX_join s b h a e.2⟩
theorem begX_append {N F : Int → Bool} {t : Nat} : ∀ (a b : List Sy), begX N F t (a ++ b) = (begX N F t a || (a.all (nulS N) && begX N F t b))
  | [], b => by simp [begX]
  | x :: a, b => by
    simp only [List.cons_append, begX, begX_append a b, List.all_cons, nulS]
    cases x.isH <;> cases N x.num <;> simp [Bool.or_assoc]

theorem NS_mono (ps : List Pr) : ∀ (n : Nat) (X : Int), NS ps n X = true → NS ps (n + 1) X = true
  | 0, _, h => by cases h
  | n + 1, X, h => by
    unfold NS at h ⊢
    rw [List.any_eq_true] at h ⊢
    obtain ⟨p, hp, h⟩ := h
    refine ⟨p, hp, ?_⟩
    simp only [Bool.and_eq_true, List.all_eq_true] at h ⊢
    exact ⟨h.1, fun s hs => ⟨(h.2 s hs).1, NS_mono ps n _ (h.2 s hs).2⟩⟩
theorem FS_mono (ps : List Pr) (N : Int → Bool) (t : Nat) : ∀ (n : Nat) (X : Int), FS ps N t n X = true → FS ps N t (n + 1) X = true
  | 0, _, h => by cases h
  | n + 1, X, h => by
    unfold FS at h ⊢
    rw [List.any_eq_true] at h ⊢
    obtain ⟨p, hp, h⟩ := h
    refine ⟨p, hp, ?_⟩
    simp only [Bool.and_eq_true] at h ⊢
    exact ⟨h.1, begX_mono (FS_mono ps N t n) _ h.2⟩

theorem cntF_len (l : List Bool) : cntF l ≤ l.length := by unfold cntF; exact List.length_filter_le _ _
/-- a chain of sets of H things that stays once it stays comes to its end in H steps -/
theorem chain_end {H : Nat} {a : Nat → List Bool} (hl : ∀ n, (a n).length = H) (hm : ∀ n, leB (a n) (a (n + 1))) (hs : ∀ n, a n = a (n + 1) → a (n + 1) = a (n + 2)) : ∀ m, leB (a m) (a H) := by
  have h1 : ∀ n, a n = a (n + 1) ∨ cntF (a n) + n ≤ H := by
    intro n
    induction n with
    | zero => right; have := cntF_len (a 0); rw [hl 0] at this; omega
    | succ n ih =>
      by_cases e : a n = a (n + 1)
      · exact .inl (hs n e)
      · right
        have := (cntF_le (hm n)).2 e
        rcases ih with ih | ih
        · exact absurd ih e
        · omega
  have h2 : a H = a (H + 1) := by
    by_cases e : a H = a (H + 1)
    · exact e
    · have := (cntF_le (hm H)).2 e
      rcases h1 H with h | h
      · exact absurd h e
      · omega
  have h3 : ∀ k, a (H + k) = a (H + k + 1) := by
    intro k
    induction k with
    | zero => exact h2
    | succ k ih => exact hs _ ih
  have h4 : ∀ k, a (H + k) = a H := by
    intro k
    induction k with
    | zero => rfl
    | succ k ih => rw [← ih]; exact (h3 k).symm
  have h5 : ∀ k m, m + k = H → leB (a m) (a H) := by
    intro k
    induction k with
    | zero => intro m e; have : m = H := by omega
              subst this; exact leB_refl _
    | succ k ih => intro m e; exact leB_trans (hm m) (ih (m + 1) (by omega))
  intro m
  by_cases e : m ≤ H
  · exact h5 (H - m) m (by omega)
  · have := h4 (m - H)
    rw [show H + (m - H) = m by omega] at this
    rw [this]; exact leB_refl _

/-- the heads' numbers as bits -/
def bitsOf (H : Nat) (f : Int → Bool) : List Bool := (List.range H).map fun i => f (i : Nat)
theorem bitsOf_at {H : Nat} {f : Int → Bool} {X : Int} (h0 : 0 ≤ X) (h1 : X < H) : (bitsOf H f).getD X.toNat false = f X := by
  have e : ((X.toNat : Nat) : Int) = X := by omega
  unfold bitsOf
  rw [List.getD_eq_getElem?_getD, List.getElem?_map, List.getElem?_range (by omega)]
  simp [e]
theorem bitsOf_le {H : Nat} {f g : Int → Bool} (h : ∀ X, f X = true → g X = true) : leB (bitsOf H f) (bitsOf H g) := by
  unfold bitsOf
  generalize List.range H = l
  induction l with
  | nil => trivial
  | cons x l ih => exact ⟨h _, ih⟩
theorem bitsOf_eq {H : Nat} {f g : Int → Bool} (h : bitsOf H f = bitsOf H g) {X : Int} (h0 : 0 ≤ X) (h1 : X < H) : f X = g X := by
  rw [← bitsOf_at h0 h1 (f := f), h, bitsOf_at h0 h1]
theorem bitsOf_same {H : Nat} {f g : Int → Bool} (h : ∀ X, 0 ≤ X → X < H → f X = g X) : bitsOf H f = bitsOf H g := by
  unfold bitsOf
  apply List.map_congr_left
  intro i hi
  have := List.mem_range.1 hi
  exact h _ (by omega) (by omega)

theorem any_congr' {α : Type} {l : List α} {f g : α → Bool} (h : ∀ x ∈ l, f x = g x) : l.any f = l.any g := by
  induction l with
  | nil => rfl
  | cons x l ih => simp only [List.any_cons, h x (by simp), ih (fun y hy => h y (by simp [hy]))]
theorem all_congr' {α : Type} {l : List α} {f g : α → Bool} (h : ∀ x ∈ l, f x = g x) : l.all f = l.all g := by
  induction l with
  | nil => rfl
  | cons x l ih => simp only [List.all_cons, h x (by simp), ih (fun y hy => h y (by simp [hy]))]
theorem begX_congr {N F F' : Int → Bool} {t : Nat} : ∀ (l : List Sy), (∀ s ∈ l, s.isH = true → F s.num = F' s.num) → begX N F t l = begX N F' t l
  | [], _ => rfl
  | s :: l, h => by
    unfold begX
    rw [begX_congr l (fun x hx => h x (by simp [hx]))]
    cases hs : s.isH
    · rfl
    · rw [h s (by simp) hs]
variable {ps : List Pr} {R H : Nat}
theorem NS_end (hT : TabOk ps R H) (n : Nat) (X : Int) (h0 : 0 ≤ X) (h1 : X < H) (h : NS ps n X = true) : NS ps H X = true := by
  have hc := chain_end (a := fun n => bitsOf H (NS ps n)) (H := H) (fun n => by simp [bitsOf]) (fun n => bitsOf_le (NS_mono ps n)) (by
    intro n e
    refine bitsOf_same (fun X _ _ => ?_)
    show NS ps (n + 1) X = NS ps (n + 2) X
    unfold NS
    refine any_congr' (fun p hp => ?_)
    congr 1
    refine all_congr' (fun s hs => ?_)
    cases hsh : s.isH
    · rfl
    · have := hT.sy p hp s hs
      rw [hsh] at this
      simp only [if_true] at this
      rw [bitsOf_eq e this.1 this.2]) n
  have := leB_at hc X.toNat (by rw [bitsOf_at h0 h1]; exact h)
  rwa [bitsOf_at h0 h1] at this
theorem FS_end (hT : TabOk ps R H) (N : Int → Bool) (t : Nat) (n : Nat) (X : Int) (h0 : 0 ≤ X) (h1 : X < H) (h : FS ps N t n X = true) : FS ps N t H X = true := by
  have hc := chain_end (a := fun n => bitsOf H (FS ps N t n)) (H := H) (fun n => by simp [bitsOf]) (fun n => bitsOf_le (FS_mono ps N t n)) (by
    intro n e
    refine bitsOf_same (fun X _ _ => ?_)
    show FS ps N t (n + 1) X = FS ps N t (n + 2) X
    unfold FS
    refine any_congr' (fun p hp => ?_)
    congr 1
    refine begX_congr _ (fun s hs hsh => ?_)
    have := hT.sy p hp s hs
    rw [hsh] at this
    simp only [if_true] at this
    exact bitsOf_eq e this.1 this.2) n
  have := leB_at hc X.toNat (by rw [bitsOf_at h0 h1]; exact h)
  rwa [bitsOf_at h0 h1] at this
end Go.Proofs.YtakkooidejdfkaaGreat
namespace Go.Proofs.YtakkooidejdfkaaGreat
open Go.RowKit
set_option linter.unusedVariables false
set_option linter.unusedSimpArgs false

/-- a node that a tree grows by -/
structure St where
  leaf : Bool
  num : Int
/-- a production stands ahead of a token -/
def ahd (N : Int → Bool) (F O : Int → Nat → Bool) (p : Pr) (t : Nat) : Bool := begX N (fun X => F X t) t p.syms || (p.syms.all (nulS N) && O p.head t)
/-- productions without clashes, and their sets -/
structure LLG (ps : List Pr) (R H : Nat) (N : Int → Bool) (F O : Int → Nat → Bool) (ch : Int → Nat → Int) : Prop where
  tab : TabOk ps R H
  mx : ∀ p ∈ ps, p.syms.length ≤ 6
  clN : ∀ p ∈ ps, p.syms.all (nulS N) = true → N p.head = true
  clF : ∀ p ∈ ps, ∀ t, begX N (fun X => F X t) t p.syms = true → F p.head t = true
  clO : ∀ p ∈ ps, ∀ a s b, p.syms = a ++ s :: b → s.isH = true → ∀ t, (begX N (fun X => F X t) t b || (b.all (nulS N) && O p.head t)) = true → O s.num t = true
  leN : ∀ X, N X = true → NS ps H X = true
  leF : ∀ X t, F X t = true → FS ps N t H X = true
  st : O 0 R = true
  bF : ∀ X t, F X t = true → t < R
  one : ∀ (i : Nat) p, ps[i]? = some p → ∀ t, t ≤ R → ahd N F O p t = true → ch p.head t = i
  chr : ∀ X t, 0 ≤ ch X t → ∃ p, ps[(ch X t).toNat]? = some p ∧ p.head = X ∧ ahd N F O p t = true

/-- a tree grows up to the leaf of a kind -/
def gTo (ps : List Pr) (ch : Int → Nat → Int) (t : Nat) : Nat → List Sy → List St → Option (List Sy × List St)
  | 0, _, _ => none
  | _ + 1, [], st => some ([], st)
  | f + 1, s :: k, st => if s.isH = false then some (k, st ++ [⟨true, s.num⟩]) else
      if 0 ≤ ch s.num t then (match ps[(ch s.num t).toNat]? with
        | some p => gTo ps ch t f (p.syms ++ k) (st ++ [⟨false, ch s.num t⟩])
        | none => none) else none
theorem gTo_mono {ps : List Pr} {ch : Int → Nat → Int} {t : Nat} : ∀ (f : Nat) (k : List Sy) (st : List St) (r : List Sy × List St), gTo ps ch t f k st = some r → ∀ g, f ≤ g → gTo ps ch t g k st = some r
  | 0, _, _, _, h, _, _ => by cases h
  | f + 1, [], st, r, h, g, hg => by
    obtain ⟨g, rfl⟩ : ∃ k, g = k + 1 := ⟨g - 1, by omega⟩
    exact h
  | f + 1, s :: k, st, r, h, g, hg => by
    obtain ⟨g, rfl⟩ : ∃ k, g = k + 1 := ⟨g - 1, by omega⟩
    unfold gTo at h ⊢
    split
    · rename_i e; rw [if_pos e] at h; exact h
    · rename_i e
      rw [if_neg e] at h
      split
      · rename_i e2
        rw [if_pos e2] at h
        cases hp : ps[(ch s.num t).toNat]? with
        | none => rw [hp] at h; cases h
        | some p =>
          rw [hp] at h
          exact gTo_mono f _ _ r h g (by omega)
      · rename_i e2; rw [if_neg e2] at h; exact h
theorem gTo_len {ps : List Pr} {ch : Int → Nat → Int} {t : Nat} : ∀ (f : Nat) (k : List Sy) (st : List St) (r : List Sy × List St), gTo ps ch t f k st = some r → st.length ≤ r.2.length
  | 0, _, _, _, h => by cases h
  | f + 1, [], st, r, h => by cases h; exact Nat.le_refl _
  | f + 1, s :: k, st, r, h => by
    unfold gTo at h
    split at h
    · cases h; simp
    · split at h
      · split at h
        · have := gTo_len f _ _ r h; simp at this; omega
        · cases h
      · cases h

def szN : Nat → Nat
  | 0 => 0
  | n + 1 => 1 + 6 * szN n
theorem szN_mono : ∀ n, szN n ≤ szN (n + 1)
  | 0 => by decide
  | n + 1 => by have := szN_mono n; simp only [szN] at *; omega
theorem szN_le {n m : Nat} (h : n ≤ m) : szN n ≤ szN m := by
  obtain ⟨k, rfl⟩ : ∃ k, m = n + k := ⟨m - n, by omega⟩
  induction k with
  | zero => exact Nat.le_refl _
  | succ k ih => exact Nat.le_trans (ih (by omega)) (szN_mono _)
section
variable {ps : List Pr} {R H : Nat} {N : Int → Bool} {F O : Int → Nat → Bool} {ch : Int → Nat → Int}

theorem LLG.nsN (g : LLG ps R H N F O ch) : ∀ (n : Nat) (X : Int), NS ps n X = true → N X = true
  | 0, _, h => by cases h
  | n + 1, X, h => by
    unfold NS at h
    rw [List.any_eq_true] at h
    obtain ⟨p, hp, h⟩ := h
    simp only [Bool.and_eq_true, List.all_eq_true, beq_iff_eq] at h
    rw [← h.1]
    refine g.clN p hp ?_
    rw [List.all_eq_true]
    intro s hs
    simp only [nulS, Bool.and_eq_true]
    exact ⟨(h.2 s hs).1, g.nsN n _ (h.2 s hs).2⟩
theorem LLG.fsF (g : LLG ps R H N F O ch) (t : Nat) : ∀ (n : Nat) (X : Int), FS ps N t n X = true → F X t = true
  | 0, _, h => by cases h
  | n + 1, X, h => by
    unfold FS at h
    rw [List.any_eq_true] at h
    obtain ⟨p, hp, h⟩ := h
    simp only [Bool.and_eq_true, beq_iff_eq] at h
    rw [← h.1]
    exact g.clF p hp t (begX_mono (g.fsF t n) _ h.2)
theorem at_of {p : Pr} (h : p ∈ ps) : ∃ i : Nat, ps[i]? = some p := by
  obtain ⟨i, hi, rfl⟩ := List.getElem_of_mem h
  exact ⟨i, by simp⟩
/-- the one production of a nullable head, and what is below it -/
theorem LLG.nul1 (g : LLG ps R H N F O ch) {n : Nat} {X : Int} (h : NS ps (n + 1) X = true) {t : Nat} (ht : t ≤ R) (ho : O X t = true) :
    ∃ (i : Nat) (p : Pr), ps[i]? = some p ∧ p.head = X ∧ ch X t = i ∧ p.syms.length ≤ 6 ∧ ∀ s ∈ p.syms, s.isH = true ∧ NS ps n s.num = true ∧ O s.num t = true := by
  unfold NS at h
  rw [List.any_eq_true] at h
  obtain ⟨p, hp, h⟩ := h
  simp only [Bool.and_eq_true, List.all_eq_true, beq_iff_eq] at h
  obtain ⟨i, hi⟩ := at_of hp
  have hall : p.syms.all (nulS N) = true := by
    rw [List.all_eq_true]; intro s hs
    simp only [nulS, Bool.and_eq_true]
    exact ⟨(h.2 s hs).1, g.nsN n _ (h.2 s hs).2⟩
  have ha : ahd N F O p t = true := by unfold ahd; rw [hall, h.1, ho]; simp
  refine ⟨i, p, hi, h.1, ?_, g.mx p hp, fun s hs => ⟨(h.2 s hs).1, (h.2 s hs).2, ?_⟩⟩
  · rw [← h.1]; exact g.one i p hi t ht ha
  · obtain ⟨a, b, e⟩ := List.append_of_mem hs
    refine g.clO p hp a s b e (h.2 s hs).1 t ?_
    have hb : b.all (nulS N) = true := by
      rw [List.all_eq_true] at hall ⊢
      intro x hx; exact hall x (by rw [e]; simp [hx])
    rw [hb, h.1, ho]; simp
/-- what may be empty here does not begin with what follows it -/
theorem LLG.notF (g : LLG ps R H N F O ch) {t : Nat} (ht : t ≤ R) : ∀ (n : Nat) (X : Int), NS ps n X = true → O X t = true → F X t = false
  | 0, _, h, _ => by cases h
  | n + 1, X, h, ho => by
    obtain ⟨i, p, hi, hp, hc, _, hall⟩ := g.nul1 h ht ho
    cases hf : F X t
    · rfl
    · exfalso
      have h2 := g.leF X t hf
      obtain ⟨m, hm⟩ : ∃ m, H = m + 1 := by
        cases H with
        | zero => cases h2
        | succ m => exact ⟨m, rfl⟩
      rw [hm] at h2
      unfold FS at h2
      rw [List.any_eq_true] at h2
      obtain ⟨q, hq, h2⟩ := h2
      simp only [Bool.and_eq_true, beq_iff_eq] at h2
      obtain ⟨j, hj⟩ := at_of hq
      have hb := begX_mono (g.fsF t m) _ h2.2
      have ha : ahd N F O q t = true := by unfold ahd; rw [hb]; rfl
      have hc2 := g.one j q hj t ht ha
      rw [h2.1, hc] at hc2
      have e : i = j := by omega
      subst e
      rw [hi] at hj
      cases hj
      obtain ⟨a, s, b, e, _, hs⟩ := begX_split hb
      have hm : s ∈ p.syms := by rw [e]; simp
      obtain ⟨k1, k2, k3⟩ := hall s hm
      rw [k1] at hs
      simp only [if_true] at hs
      have := g.notF ht n s.num k2 k3
      rw [this] at hs; cases hs

theorem gTo_open {i : Nat} {p : Pr} {s : Sy} {t : Nat} (hi : ps[i]? = some p) (hs : s.isH = true) (hc : ch s.num t = i) (f : Nat) (k : List Sy) (st : List St) :
    gTo ps ch t (f + 1) (s :: k) st = gTo ps ch t f (p.syms ++ k) (st ++ [⟨false, i⟩]) := by
  rw [gTo, if_neg (by rw [hs]; simp), hc, if_pos (by omega), Int.toNat_natCast, hi]
/-- a list of symbols goes by, if each of them does -/
theorem gTo_list {t B : Nat} : ∀ (l : List Sy), (∀ s ∈ l, ∃ (c : Nat) (ns : List St), ns.length = c ∧ c ≤ B ∧ ∀ f k st, gTo ps ch t (c + f) (s :: k) st = gTo ps ch t f k (st ++ ns)) →
    ∃ (c : Nat) (ns : List St), ns.length = c ∧ c ≤ l.length * B ∧ ∀ f k st, gTo ps ch t (c + f) (l ++ k) st = gTo ps ch t f k (st ++ ns)
  | [], _ => ⟨0, [], rfl, by simp, fun f k st => by simp⟩
  | s :: l, h => by
    obtain ⟨c1, n1, h1, h2, h3⟩ := h s (by simp)
    obtain ⟨c2, n2, h4, h5, h6⟩ := gTo_list l (fun x hx => h x (by simp [hx]))
    refine ⟨c1 + c2, n1 ++ n2, by simp [h1, h4], ?_, fun f k st => ?_⟩
    · simp only [List.length_cons, Nat.add_mul, Nat.one_mul]; omega
    · rw [Nat.add_assoc, List.cons_append, h3, h6, List.append_assoc]
theorem LLG.null (g : LLG ps R H N F O ch) {t : Nat} (ht : t ≤ R) : ∀ (n : Nat) (s : Sy), s.isH = true → NS ps n s.num = true → O s.num t = true →
    ∃ (c : Nat) (ns : List St), ns.length = c ∧ c ≤ szN n ∧ ∀ f k st, gTo ps ch t (c + f) (s :: k) st = gTo ps ch t f k (st ++ ns)
  | 0, _, _, h, _ => by cases h
  | n + 1, s, hs, h, ho => by
    obtain ⟨i, p, hi, hp, hc, hl, hall⟩ := g.nul1 h ht ho
    obtain ⟨c, ns, h1, h2, h3⟩ := gTo_list (ps := ps) (ch := ch) (t := t) (B := szN n) p.syms (fun x hx => g.null ht n x (hall x hx).1 (hall x hx).2.1 (hall x hx).2.2)
    refine ⟨c + 1, ⟨false, i⟩ :: ns, by simp [h1], ?_, fun f k st => ?_⟩
    · have := Nat.mul_le_mul_right (szN n) hl
      simp only [szN]; omega
    · rw [show c + 1 + f = c + f + 1 by omega, gTo_open hi hs hc, h3, List.append_assoc]; rfl
def szF (B : Nat) : Nat → Nat
  | 0 => 0
  | n + 1 => 1 + 6 * B + szF B n
theorem LLG.first (g : LLG ps R H N F O ch) {t : Nat} (ht : t ≤ R) : ∀ (n : Nat) (s : Sy), s.isH = true → FS ps N t n s.num = true →
    ∃ (c : Nat) (ns : List St) (k' : List Sy), ns.length = c ∧ c ≤ szF (szN H) n ∧ k'.length ≤ 6 * n ∧ ∀ f k st, gTo ps ch t (c + f + 1) (s :: k) st = some (k' ++ k, st ++ ns ++ [⟨true, t⟩])
  | 0, _, _, h => by cases h
  | n + 1, s, hs, h => by
    unfold FS at h
    rw [List.any_eq_true] at h
    obtain ⟨p, hp, h⟩ := h
    simp only [Bool.and_eq_true, beq_iff_eq] at h
    obtain ⟨i, hi⟩ := at_of hp
    have hb := begX_mono (g.fsF t n) _ h.2
    have ha : ahd N F O p t = true := by unfold ahd; rw [hb]; rfl
    have hc := g.one i p hi t ht ha
    rw [h.1] at hc
    obtain ⟨a, x, b, e, h1, h2⟩ := begX_split h.2
    have hl := g.mx p hp
    have hlen : a.length + b.length + 1 ≤ 6 := by rw [e] at hl; simp at hl; omega
    have hxF : (if x.isH then F x.num t else x.num == (t : Int)) = true := by
      cases hx : x.isH
      · rw [hx] at h2; exact h2
      · rw [hx] at h2; exact g.fsF t n _ h2
    obtain ⟨c, ns, k1, k2, k3⟩ := gTo_list (ps := ps) (ch := ch) (t := t) (B := szN H) a (fun y hy => by
      have hy1 := (List.all_eq_true.1 h1) y hy
      simp only [nulS, Bool.and_eq_true] at hy1
      refine g.null ht H y hy1.1 (g.leN _ hy1.2) ?_
      obtain ⟨a1, a2, ea⟩ := List.append_of_mem hy
      refine g.clO p hp a1 y (a2 ++ x :: b) (by rw [e, ea]; simp) hy1.1 t ?_
      have : begX N (fun X => F X t) t (a2 ++ x :: b) = true := begX_join x b hxF a2 (by
        rw [List.all_eq_true] at h1 ⊢; intro z hz; exact h1 z (by rw [ea]; simp [hz]))
      rw [this]; rfl)
    have hcB : c ≤ 6 * szN H := Nat.le_trans k2 (Nat.mul_le_mul_right _ (by omega))
    cases hx : x.isH
    · rw [hx] at h2
      simp only [Bool.false_eq_true, if_false, beq_iff_eq] at h2
      refine ⟨c + 1, ⟨false, i⟩ :: ns, b, by simp [k1], by simp only [szF]; omega, by omega, fun f k st => ?_⟩
      rw [show c + 1 + f + 1 = c + (f + 1) + 1 by omega, gTo_open hi hs hc, e, List.append_assoc, k3, List.cons_append, gTo, if_pos hx, h2]
      simp
    · rw [hx] at h2
      simp only [if_true] at h2
      obtain ⟨c', ns', k', m1, m2, m3, m4⟩ := g.first ht n x hx h2
      refine ⟨c + 1 + c', ⟨false, i⟩ :: (ns ++ ns'), k' ++ b, by simp [k1, m1]; omega, by simp only [szF]; omega, by simp; omega, fun f k st => ?_⟩
      rw [show c + 1 + c' + f + 1 = c + (c' + f + 1) + 1 by omega, gTo_open hi hs hc, e, List.append_assoc, k3, List.cons_append, m4]
      simp

/-- what can come next, of a stack -/
def wanT (N : Int → Bool) (F : Int → Nat → Bool) (R : Nat) (k : List Sy) (t : Nat) : Bool := begX N (fun X => F X t) t k || (k.all (nulS N) && (t == R))
/-- what can come behind a head on the stack follows it -/
def StkOk (N : Int → Bool) (F O : Int → Nat → Bool) (R : Nat) (k : List Sy) : Prop := ∀ a s b, k = a ++ s :: b → s.isH = true → ∀ t, wanT N F R b t = true → O s.num t = true
theorem LLG.stk0 (g : LLG ps R H N F O ch) : StkOk N F O R [⟨true, 0⟩] := by
  intro a s b e hs t ht
  cases a with
  | nil =>
    simp only [List.nil_append, List.cons.injEq] at e
    obtain ⟨rfl, rfl⟩ := e
    simp only [wanT, begX, List.all_nil, Bool.true_and, Bool.false_or, beq_iff_eq] at ht
    rw [ht]; exact g.st
  | cons x a => simp at e
theorem StkOk.tail {s : Sy} {k : List Sy} (h : StkOk N F O R (s :: k)) : StkOk N F O R k := fun a x b e hx t ht => h (s :: a) x b (by rw [e]; rfl) hx t ht
theorem app_split {α : Type} {l k a b : List α} {s : α} (h : l ++ k = a ++ s :: b) : (∃ c, k = c ++ s :: b) ∨ ∃ b', b = b' ++ k ∧ l = a ++ s :: b' := by
  rcases List.append_eq_append_iff.1 h with ⟨c, h1, h2⟩ | ⟨c, h1, h2⟩
  · exact .inl ⟨c, h2⟩
  · cases c with
    | nil => simp only [List.nil_append] at h2; exact .inl ⟨[], h2.symm⟩
    | cons x c =>
      simp only [List.cons_append, List.cons.injEq] at h2
      obtain ⟨rfl, rfl⟩ := h2
      exact .inr ⟨c, rfl, h1⟩
theorem LLG.stkOpen (g : LLG ps R H N F O ch) {p : Pr} (hp : p ∈ ps) {s : Sy} {k : List Sy} (hs : s.isH = true) (he : p.head = s.num) (h : StkOk N F O R (s :: k)) : StkOk N F O R (p.syms ++ k) := by
  intro a x b e hx t ht
  rcases app_split e with ⟨c, hc⟩ | ⟨b', rfl, hb⟩
  · exact h (s :: c) x b (by rw [hc]; rfl) hx t ht
  · refine g.clO p hp a x b' hb hx t ?_
    unfold wanT at ht
    rw [begX_append] at ht
    cases hq : begX N (fun X => F X t) t b'
    · rw [hq] at ht
      simp only [Bool.false_or, List.all_append] at ht ⊢
      have hw : b'.all (nulS N) = true ∧ wanT N F R k t = true := by
        unfold wanT
        cases h1 : b'.all (nulS N)
        · rw [h1] at ht; simp at ht
        · rw [h1] at ht; simp only [Bool.true_and] at ht; exact ⟨rfl, ht⟩
      rw [hw.1, he, h [] s k rfl hs t hw.2]; rfl
    · rfl
theorem LLG.stkTo (g : LLG ps R H N F O ch) {t : Nat} : ∀ (f : Nat) (k : List Sy) (st : List St) (r : List Sy × List St), gTo ps ch t f k st = some r → StkOk N F O R k → StkOk N F O R r.1
  | 0, _, _, _, h, _ => by cases h
  | f + 1, [], st, r, h, hk => by cases h; exact hk
  | f + 1, s :: k, st, r, h, hk => by
    unfold gTo at h
    split at h
    · cases h; exact hk.tail
    · rename_i hs
      split at h
      · rename_i h0
        obtain ⟨p, hp, he, _⟩ := g.chr _ _ h0
        rw [hp] at h
        exact g.stkTo f _ _ r h (g.stkOpen (List.mem_of_getElem? hp) (by simpa using hs) he hk)
      · cases h
/-- how many rounds are enough -/
def enough (H n : Nat) : Nat := n * szN H + szF (szN H) H + 1
theorem LLG.grows (g : LLG ps R H N F O ch) {t : Nat} (ht : t ≤ R) (k : List Sy) (hk : StkOk N F O R k) (hw : wanT N F R k t = true) (st : List St) :
    ∃ r, gTo ps ch t (enough H k.length) k st = some r ∧ r.1.length ≤ k.length + 6 * H ∧ r.2.length ≤ st.length + enough H k.length := by
  have key : ∀ (a : List Sy) (x : List Sy), k = a ++ x → a.all (nulS N) = true → wanT N F R x t = true → ∃ (c : Nat) (ns : List St), ns.length = c ∧ c ≤ a.length * szN H ∧ ∀ f k st, gTo ps ch t (c + f) (a ++ k) st = gTo ps ch t f k (st ++ ns) := by
    intro a x e ha hx
    refine gTo_list a (fun y hy => ?_)
    have hy1 := (List.all_eq_true.1 ha) y hy
    simp only [nulS, Bool.and_eq_true] at hy1
    refine g.null ht H y hy1.1 (g.leN _ hy1.2) ?_
    obtain ⟨a1, a2, ea⟩ := List.append_of_mem hy
    refine hk a1 y (a2 ++ x) (by rw [e, ea]; simp) hy1.1 t ?_
    have ha2 : a2.all (nulS N) = true := by
      rw [List.all_eq_true] at ha ⊢; intro z hz; exact ha z (by rw [ea]; simp [hz])
    unfold wanT at hx ⊢
    rw [begX_append, List.all_append, ha2]
    simp only [Bool.true_and]
    rw [Bool.or_assoc, hx]; simp
  unfold wanT at hw
  cases hb : begX N (fun X => F X t) t k
  · rw [hb] at hw
    simp only [Bool.false_or, Bool.and_eq_true, beq_iff_eq] at hw
    obtain ⟨hw1, rfl⟩ := hw
    obtain ⟨c, ns, h1, h2, h3⟩ := key k [] (by simp) hw1 (by simp [wanT, begX])
    refine ⟨([], st ++ ns), ?_, by simp, by simp only [List.length_append, h1, enough]; omega⟩
    have h4 := h3 1 [] st
    rw [List.append_nil] at h4
    refine gTo_mono (c + 1) k st _ (by rw [h4]; rfl) _ (by unfold enough; omega)
  · obtain ⟨a, s, b, rfl, ha, hs⟩ := begX_split hb
    obtain ⟨c, ns, h1, h2, h3⟩ := key a (s :: b) rfl ha (by
      unfold wanT
      have : begX N (fun X => F X t) t ([] ++ s :: b) = true := begX_join s b hs [] rfl
      rw [List.nil_append] at this
      rw [this]; rfl)
    have hal : a.length * szN H ≤ (a ++ s :: b).length * szN H := Nat.mul_le_mul_right _ (by simp)
    cases hx : s.isH
    · rw [hx] at hs
      refine ⟨(b, st ++ ns ++ [⟨true, s.num⟩]), ?_, by simp; omega, by simp only [List.length_append, h1, enough, List.length_singleton] at *; omega⟩
      refine gTo_mono (c + 1) _ st _ ?_ _ (by unfold enough; omega)
      rw [h3, gTo, if_pos hx]
    · rw [hx] at hs
      simp only [if_true] at hs
      obtain ⟨c', ns', k', m1, m2, m3, m4⟩ := g.first ht H s hx (g.leF _ _ hs)
      refine ⟨(k' ++ b, st ++ ns ++ ns' ++ [⟨true, t⟩]), ?_, by simp; omega, by simp only [List.length_append, h1, m1, enough, List.length_singleton] at *; omega⟩
      refine gTo_mono (c + (c' + 0 + 1)) _ st _ ?_ _ (by unfold enough; omega)
      rw [h3]
      exact m4 0 b (st ++ ns)
end
end Go.Proofs.YtakkooidejdfkaaGreat
namespace Go.Proofs.YtakkooidejdfkaaGreat
open Go.RowKit
set_option linter.unusedVariables false
set_option linter.unusedSimpArgs false

theorem headsL_sub : ∀ (l : List Ln) (acc : List Wd) (d : Wd), d ∈ acc → d ∈ headsL l acc
  | [], _, _, h => h
  | x :: l, acc, d, h => by
    unfold headsL
    split
    · exact headsL_sub l acc d h
    · split
      · exact headsL_sub l acc d h
      · exact headsL_sub l _ d (by simp [h])
theorem wordF_mem {ds : List Wd} {ls : List Int} : wordF ds ls < ds.length ↔ ∃ d ∈ ds, d.ls = ls := by
  unfold wordF
  rw [List.findIdx_lt_length]
  simp
theorem headsL_mem : ∀ (l : List Ln) (acc : List Wd) (y : Ln), y ∈ l → ruleB y = false → ∃ d ∈ headsL l acc, d.ls = y.front.ls
  | [], _, _, h, _ => by cases h
  | x :: l, acc, y, h, hy => by
    simp only [List.mem_cons] at h
    unfold headsL
    rcases h with rfl | h
    · rw [if_neg (by rw [hy]; simp)]
      split
      · rename_i e
        obtain ⟨d, h1, h2⟩ := wordF_mem.1 e
        exact ⟨d, headsL_sub l acc d h1, h2⟩
      · exact ⟨y.front, headsL_sub l _ _ (by simp), rfl⟩
    · split
      · exact headsL_mem l acc y h hy
      · split
        · exact headsL_mem l acc y h hy
        · exact headsL_mem l _ y h hy
theorem heads_cnt (lns : List Ln) : ∀ i, i ≤ lns.length → (headsL (lns.take i) []).length ≤ cntHeads lns i
  | 0, _ => by simp [headsL]
  | i + 1, hi => by
    have ih := heads_cnt lns i (by omega)
    have hil : i < lns.length := by omega
    rw [takeS hil, headsL_snoc, cntHeads_succ lns i hil]
    split
    · omega
    · rename_i hr
      split
      · omega
      · rename_i hw
        have ha : aheadB lns i = false := by
          unfold aheadB
          rw [List.getElem?_eq_getElem hil]
          simp only [decide_eq_false_iff_not]
          intro hf
          apply hw
          rw [wordF_mem]
          unfold frontF at hf
          have hlt : lns.findIdx (fun y => y.front.ls == lns[i].front.ls) < lns.length := by omega
          have h1 := List.findIdx_getElem (w := hlt)
          generalize lns.findIdx (fun y => y.front.ls == lns[i].front.ls) = j at *
          simp only [beq_iff_eq] at h1
          have hjr : ruleB lns[j] = false := by
            have : headB lns[j].front = headB lns[i].front := headB_ls h1
            unfold ruleB at hr ⊢
            rw [this]; simpa using hr
          obtain ⟨d, hd1, hd2⟩ := headsL_mem (lns.take i) [] lns[j] (List.mem_take_iff_getElem.2 ⟨j, by omega, rfl⟩) hjr
          exact ⟨d, hd1, by rw [hd2, h1]⟩
        rw [ha]
        simp only [Bool.or_false]
        have hr2 : ruleB lns[i] = false := by simpa using hr
        rw [hr2]
        simp only [List.length_append, List.length_singleton, Bool.false_eq_true, if_false]
        omega
theorem counts_le {lns : List Ln} (hp : ∀ y ∈ lns, 0 ≤ y.front.place) (h : tooMany lns = -1) : (headsOf lns).length ≤ 8 ∧ (tableOf lns).length ≤ 20 ∧ ∀ p ∈ tableOf lns, p.syms.length ≤ 6 := by
  refine ⟨?_, ?_, ?_⟩
  · have hc := heads_cnt lns lns.length (Nat.le_refl _)
    rw [List.take_length] at hc
    unfold headsOf
    by_cases h0 : lns.length = 0
    · have : lns = [] := List.eq_nil_of_length_eq_zero h0
      subst this; simp [headsL]
    · have := many_rules hp _ 0 h (by omega) (lns.length - 1) (by omega) (by omega)
      unfold overB at this
      simp only [Bool.or_eq_false_iff, decide_eq_false_iff_not] at this
      have h1 := this.1.2
      rw [show lns.length - 1 + 1 = lns.length by omega] at h1
      omega
  · have e : (tableOf lns).length = cntProds lns lns.length := by unfold tableOf prodsOf cntProds; rw [List.take_length, List.length_map]
    rw [e]
    by_cases h0 : lns.length = 0
    · rw [h0]; simp [cntProds]
    · have := many_rules hp _ 0 h (by omega) (lns.length - 1) (by omega) (by omega)
      unfold overB at this
      simp only [Bool.or_eq_false_iff, decide_eq_false_iff_not] at this
      have h1 := this.1.1.2
      rw [show lns.length - 1 + 1 = lns.length by omega] at h1
      omega
  · intro p hpm
    unfold tableOf at hpm
    obtain ⟨y, hy, rfl⟩ := List.mem_map.1 hpm
    have hy2 := (List.mem_filter.1 hy).1
    obtain ⟨k, hk, rfl⟩ := List.getElem_of_mem hy2
    have := many_rules hp _ 0 h (by omega) k hk (by omega)
    unfold overB at this
    simp only [Bool.or_eq_false_iff, decide_eq_false_iff_not] at this
    unfold prOf
    simp only [List.length_map]
    omega

/-- what begins, by the sets -/
def hN (hs : List Hd) (X : Int) : Bool := (getH hs X).nul
def hF (hs : List Hd) (X : Int) (t : Nat) : Bool := (getH hs X).fi.getD t false
def hO (hs : List Hd) (X : Int) (t : Nat) : Bool := (getH hs X).fo.getD t false
theorem withT_hit {a : List Bool} (ha : a.length = 9) {n : Int} (h0 : 0 ≤ n) (h9 : n < 9) (t : Nat) : (withT a n).getD t false = (a.getD t false || (n == (t : Int))) := by
  unfold withT
  rw [if_pos ⟨h0, h9⟩]
  simp only [List.getD_eq_getElem?_getD, List.getElem?_set]
  by_cases e : n.toNat = t
  · have e2 : (n == (t : Int)) = true := by simp; omega
    rw [if_pos e, if_pos (by omega), e2]; simp
  · have e2 : (n == (t : Int)) = false := by simp; omega
    rw [if_neg e, e2]; simp
theorem begF_nul (hs : List Hd) : ∀ (l : List Sy) (acc : List Bool), (begF hs l acc).2 = l.all (nulS (hN hs))
  | [], _ => rfl
  | s :: l, acc => by
    unfold begF
    cases h1 : s.isH
    · simp [nulS, h1]
    · simp only [Bool.true_eq_false, if_false, List.all_cons, nulS, h1, Bool.true_and, hN]
      cases h2 : (getH hs s.num).nul
      · simp
      · simp only [Bool.true_eq_false, if_false, Bool.true_and]; exact begF_nul hs l _
theorem begF_at {R H : Nat} {hs : List Hd} (hok : ∀ x ∈ hs, x.ok) (hR : R ≤ 8) (t : Nat) : ∀ (l : List Sy) (acc : List Bool), acc.length = 9 → (∀ s ∈ l, 0 ≤ s.num ∧ s.num < (if s.isH then (H : Int) else R)) →
    (begF hs l acc).1.getD t false = (acc.getD t false || begX (hN hs) (fun X => hF hs X t) t l)
  | [], acc, _, _ => by simp [begF, begX]
  | s :: l, acc, ha, hv => by
    have hv1 := hv s (by simp)
    unfold begF begX
    cases h1 : s.isH
    · rw [h1] at hv1
      simp only [Bool.false_eq_true, if_false] at hv1
      simp only [if_true, Bool.false_eq_true, if_false, Bool.false_and, Bool.or_false]
      exact withT_hit ha hv1.1 (by omega) t
    · simp only [Bool.true_eq_false, if_false, if_true, Bool.true_and]
      have hfl := (getH_ok hok s.num).fi
      cases h2 : (getH hs s.num).nul
      · simp only [if_true, hN, h2, Bool.false_and, Bool.or_false]
        rw [orL_at (by rw [ha, hfl])]; rfl
      · simp only [Bool.true_eq_false, if_false]
        rw [begF_at hok hR t l _ (orL_len ha hfl) (fun x hx => hv x (by simp [hx])), orL_at (by rw [ha, hfl])]
        simp only [hN, h2, Bool.true_and, hF, Bool.or_assoc]
theorem zero9_f (t : Nat) : zero9.getD t false = false := by rw [zero9_at]
theorem folB_at {R H : Nat} {hs : List Hd} (hok : ∀ x ∈ hs, x.ok) (hR : R ≤ 8) (t : Nat) (ph : Int) (l : List Sy) (hv : ∀ s ∈ l, 0 ≤ s.num ∧ s.num < (if s.isH then (H : Int) else R)) :
    (folB hs ph l).getD t false = (begX (hN hs) (fun X => hF hs X t) t l || (l.all (nulS (hN hs)) && hO hs ph t)) := by
  have h1 := begF_at hok hR t l zero9 rfl hv
  rw [zero9_f, Bool.false_or] at h1
  unfold folB
  rw [begF_nul]
  split
  · rename_i e
    rw [orL_at (by rw [begF_len hok _ _ rfl, (getH_ok hok _).fo]), h1, e]; simp [hO]
  · rename_i e
    rw [h1]
    have : l.all (nulS (hN hs)) = false := by simpa using e
    rw [this]; simp
end Go.Proofs.YtakkooidejdfkaaGreat
namespace Go.Proofs.YtakkooidejdfkaaGreat
open Go.RowKit
set_option linter.unusedVariables false
set_option linter.unusedSimpArgs false

/-- what the finder finds has a tree -/
structure Fd (ps : List Pr) (H : Nat) (hs : List Hd) : Prop where
  ok : ∀ x ∈ hs, x.ok
  n : ∀ X, hN hs X = true → NS ps H X = true
  f : ∀ X t, hF hs X t = true → FS ps (NS ps H) t H X = true
theorem begX_weak {N N' F F' : Int → Bool} {t : Nat} (hn : ∀ X, N X = true → N' X = true) (h : ∀ X, F X = true → F' X = true) : ∀ l : List Sy, begX N F t l = true → begX N' F' t l = true
  | [], e => e
  | s :: l, e => by
    unfold begX at e ⊢
    cases hs : s.isH
    · rw [hs] at e; simpa using e
    · rw [hs] at e
      simp only [if_true, Bool.true_and, Bool.or_eq_true, Bool.and_eq_true] at e ⊢
      rcases e with e | ⟨e1, e2⟩
      · exact .inl (h _ e)
      · exact .inr ⟨hn _ e1, begX_weak hn h l e2⟩
theorem Fd.step {ps : List Pr} {R H : Nat} (hT : TabOk ps R H) (hR : R ≤ 8) {hs : List Hd} (h : Fd ps H hs) {p : Pr} (hp : p ∈ ps) : Fd ps H (growB1 hs p).1 := by
  have hok := h.ok
  have hh := hT.hd p hp
  refine ⟨(growB1_grows hok p false).ok, ?_, ?_⟩
  · intro X hX
    unfold hN growB1 at hX
    rw [getH_put] at hX
    split at hX
    · rename_i e
      dsimp only at hX
      simp only [Bool.or_eq_true] at hX
      rw [e.1]
      rcases hX with hX | hX
      · exact h.n _ hX
      · rw [begF_nul] at hX
        refine NS_end hT (H + 1) _ hh.1 hh.2 ?_
        unfold NS
        rw [List.any_eq_true]
        refine ⟨p, hp, ?_⟩
        simp only [Bool.and_eq_true, beq_self_eq_true, true_and]
        rw [List.all_eq_true] at hX ⊢
        intro s hs1
        have := hX s hs1
        simp only [nulS, Bool.and_eq_true] at this ⊢
        exact ⟨this.1, h.n _ this.2⟩
    · exact h.n X hX
  · intro X t hX
    unfold hF growB1 at hX
    rw [getH_put] at hX
    split at hX
    · rename_i e
      dsimp only at hX
      rw [orL_at (by rw [(getH_ok hok _).fi, begF_len hok _ _ rfl])] at hX
      simp only [Bool.or_eq_true] at hX
      rw [e.1]
      rcases hX with hX | hX
      · exact h.f _ t hX
      · rw [begF_at hok hR t p.syms zero9 rfl (hT.sy p hp), zero9_f, Bool.false_or] at hX
        refine FS_end hT _ t (H + 1) _ hh.1 hh.2 ?_
        unfold FS
        rw [List.any_eq_true]
        refine ⟨p, hp, ?_⟩
        simp only [Bool.and_eq_true, beq_self_eq_true, true_and]
        exact begX_weak h.n (fun Y hY => h.f Y t hY) _ hX
    · exact h.f X t hX
theorem Fd.list {ps : List Pr} {R H : Nat} (hT : TabOk ps R H) (hR : R ≤ 8) : ∀ (l : List Pr) (hs : List Hd) (g : Bool), (∀ p ∈ l, p ∈ ps) → Fd ps H hs → Fd ps H (growBL l hs g).1
  | [], _, _, _, h => h
  | p :: l, hs, g, hl, h => Fd.list hT hR l _ _ (fun q hq => hl q (by simp [hq])) (h.step hT hR (hl p (by simp)))
theorem keepN {hs hs' : List Hd} (h : Keeps Hd.nul hs hs') (X : Int) : hN hs' X = hN hs X := h X
theorem allF_fd {ps : List Pr} {R H : Nat} (hT : TabOk ps R H) (hR : R ≤ 8) : Fd ps H (allF ps (initH R H)) := by
  have ok0 := initH_ok (R : Int) H
  have hz : ∀ n, (getH (initH (R : Int) H) n).fi = zero9 ∧ (getH (initH (R : Int) H) n).nul = false := fun n => by
    rw [getH_init]; split
    · unfold headI; split <;> exact ⟨rfl, rfl⟩
    · exact ⟨rfl, rfl⟩
  have i0 : Fd ps H (initH (R : Int) H) := ⟨ok0, fun X h => (by unfold hN at h; rw [(hz X).2] at h; cases h), fun X t h => (by unfold hF at h; rw [(hz X).1, zero9_f] at h; cases h)⟩
  obtain ⟨i1, ok1, _, _⟩ := fixG_end (stepB_grows ps) (I := Fd ps H) (fun hs _ h => Fd.list hT hR ps hs false (fun _ hp => hp) h) ok0 i0
  generalize hq1 : fixG (stepB ps) (initH (R : Int) H) = hs1 at i1 ok1
  obtain ⟨⟨kn2, kf2⟩, ok2, _, _⟩ := fixG_end (stepS_grows ps) (I := fun hs => Keeps Hd.nul hs1 hs ∧ Keeps Hd.fi hs1 hs) (fun hs _ h => ⟨h.1.trans (growSL_keeps (fun _ _ => rfl) ps hs false), h.2.trans (growSL_keeps (fun _ _ => rfl) ps hs false)⟩) ok1 ⟨Keeps.refl _ _, Keeps.refl _ _⟩
  generalize hq2 : fixG (stepS ps) hs1 = hs2 at kn2 kf2 ok2
  obtain ⟨⟨kn3, kf3⟩, ok3, _, _⟩ := fixG_end (stepR_grows ps) (I := fun hs => Keeps Hd.nul hs2 hs ∧ Keeps Hd.fi hs2 hs) (fun hs _ h => ⟨h.1.trans (growRL_keeps (fun _ _ => rfl) ps hs false), h.2.trans (growRL_keeps (fun _ _ => rfl) ps hs false)⟩) ok2 ⟨Keeps.refl _ _, Keeps.refl _ _⟩
  generalize hq3 : fixG (stepR ps) hs2 = hs3 at kn3 kf3 ok3
  obtain ⟨⟨kn4, kf4⟩, ok4, _, _⟩ := fixG_end (stepU_grows ps) (I := fun hs => Keeps Hd.nul hs3 hs ∧ Keeps Hd.fi hs3 hs) (fun hs _ h => ⟨h.1.trans (growFL_keeps (fun _ _ => rfl) ps hs false), h.2.trans (growFL_keeps (fun _ _ => rfl) ps hs false)⟩) ok3 ⟨Keeps.refl _ _, Keeps.refl _ _⟩
  have hall : allF ps (initH (R : Int) H) = fixG (stepU ps) hs3 := by unfold allF; rw [hq1, hq2, hq3]
  rw [hall]
  generalize fixG (stepU ps) hs3 = hs4 at kn4 kf4 ok4
  have kn : Keeps Hd.nul hs1 hs4 := (kn2.trans kn3).trans kn4
  have kf : Keeps Hd.fi hs1 hs4 := (kf2.trans kf3).trans kf4
  refine ⟨ok4, fun X h => i1.n X ?_, fun X t h => i1.f X t ?_⟩
  · unfold hN at h ⊢; rw [kn X] at h; exact h
  · unfold hF at h ⊢; rw [kf X] at h; exact h

/-- the production that a token chooses -/
def chF (hs : List Hd) (ps : List Pr) (X : Int) (t : Nat) : Int := match ovL X t (ps.zip (aheadsF hs ps)) 0 with
  | [] => -1
  | a :: _ => a
theorem ovL_mem (n t : Int) : ∀ (z : List (Pr × List Bool)) (i : Nat) (k : Int), k ∈ ovL n t z i ↔ ∃ (j : Nat) (x : Pr × List Bool), z[j]? = some x ∧ k = (i : Int) + j ∧ x.1.head = n ∧ hasT x.2 t = true
  | [], i, k => by simp [ovL]
  | q :: z, i, k => by
    have ih := ovL_mem n t z (i + 1) k
    unfold ovL
    constructor
    · intro h
      split at h
      · rename_i e
        simp only [List.mem_cons] at h
        rcases h with rfl | h
        · exact ⟨0, q, rfl, by simp, e.1, e.2⟩
        · obtain ⟨j, x, h1, h2, h3⟩ := ih.1 h
          exact ⟨j + 1, x, by simpa using h1, by omega, h3⟩
      · obtain ⟨j, x, h1, h2, h3⟩ := ih.1 h
        exact ⟨j + 1, x, by simpa using h1, by omega, h3⟩
    · rintro ⟨j, x, h1, h2, h3⟩
      cases j with
      | zero =>
        simp only [List.getElem?_cons_zero, Option.some.injEq] at h1
        subst h1
        rw [if_pos h3]
        simp [h2]
      | succ j =>
        have := ih.2 ⟨j, x, by simpa using h1, by omega, h3⟩
        split
        · simp [this]
        · exact this
theorem pairL_nil {n t : Int} {l : List Int} (h : pairL n t l = []) : l.length ≤ 1 := by
  match l with
  | [] => simp
  | [_] => simp
  | a :: b :: r => simp [pairL] at h
theorem clT_nil {z : List (Pr × List Bool)} {n R : Nat} : ∀ (f t : Nat), clT z n R f t = [] → ∀ u : Nat, t ≤ u → u ≤ R → R + 1 ≤ t + f → (ovL n u z 0).length ≤ 1
  | 0, t, _, u, h1, h2, h3 => by omega
  | f + 1, t, h, u, h1, h2, h3 => by
    unfold clT at h
    rw [if_pos (by omega)] at h
    obtain ⟨h4, h5⟩ := List.append_eq_nil_iff.1 h
    by_cases e : t = u
    · subst e; exact pairL_nil h4
    · exact clT_nil f (t + 1) h5 u (by omega) h2 (by omega)
theorem clN_nil {z : List (Pr × List Bool)} {R H : Nat} : ∀ (f n : Nat), clN z R H f n = [] → ∀ m u : Nat, n ≤ m → m < H → H ≤ n + f → u ≤ R → (ovL m u z 0).length ≤ 1
  | 0, n, _, m, u, h1, h2, h3, _ => by omega
  | f + 1, n, h, m, u, h1, h2, h3, h6 => by
    unfold clN at h
    rw [if_pos (by omega)] at h
    obtain ⟨h4, h5⟩ := List.append_eq_nil_iff.1 h
    by_cases e : n = m
    · subst e; exact clT_nil _ 0 h4 u (by omega) h6 (by omega)
    · exact clN_nil f (n + 1) h5 m u (by omega) h2 (by omega) h6
theorem zip_at {hs : List Hd} {ps : List Pr} {j : Nat} {x : Pr × List Bool} : (ps.zip (aheadsF hs ps))[j]? = some x ↔ ∃ p, ps[j]? = some p ∧ x = (p, folB hs p.head p.syms) := by
  unfold aheadsF
  rw [List.zip_map_right, List.getElem?_map]
  constructor
  · intro h
    cases hq : (ps.zip ps)[j]? with
    | none => rw [hq] at h; cases h
    | some y =>
      rw [hq] at h
      rw [List.getElem?_zip_eq_some] at hq
      obtain ⟨y1, y2⟩ := y
      have e : y1 = y2 := by have := hq.1.symm.trans hq.2; simpa using this
      subst e
      refine ⟨y1, hq.1, ?_⟩
      simp only [Option.map_some, Option.some.injEq] at h
      rw [← h]; rfl
  · rintro ⟨p, h1, rfl⟩
    have : (ps.zip ps)[j]? = some (p, p) := by rw [List.getElem?_zip_eq_some]; exact ⟨h1, h1⟩
    rw [this]; rfl
theorem llg {ps : List Pr} {R H : Nat} (hT : TabOk ps R H) (hR : R ≤ 8) (hH : 0 < H) (hmx : ∀ p ∈ ps, p.syms.length ≤ 6)
    (hcl : clashL (ps.zip (aheadsF (allF ps (initH R H)) ps)) R H = []) : LLG ps R H (hN (allF ps (initH R H))) (hF (allF ps (initH R H))) (hO (allF ps (initH R H))) (chF (allF ps (initH R H)) ps) := by
  have hS := allF_ok hT hR
  have hD := allF_fd hT hR
  generalize allF ps (initH R H) = hs at *
  have hnN : ∀ n X, NS ps n X = true → hN hs X = true := by
    intro n
    induction n with
    | zero => intro X h; cases h
    | succ n ih =>
      intro X h
      unfold NS at h
      rw [List.any_eq_true] at h
      obtain ⟨p, hp, h⟩ := h
      simp only [Bool.and_eq_true, List.all_eq_true, beq_iff_eq] at h
      rw [← h.1]
      refine hS.clN p hp ?_
      rw [begF_nul, List.all_eq_true]
      intro s hs1
      simp only [nulS, Bool.and_eq_true]
      exact ⟨(h.2 s hs1).1, ih _ (h.2 s hs1).2⟩
  have hNeq : NS ps H = hN hs := by
    funext X
    rw [Bool.eq_iff_iff]
    exact ⟨hnN H X, hD.n X⟩
  have hah : ∀ p ∈ ps, ∀ t : Nat, hasT (folB hs p.head p.syms) t = ahd (hN hs) (hF hs) (hO hs) p t := fun p hp t => by
    unfold hasT ahd
    rw [if_pos (by omega), Int.toNat_natCast]
    exact folB_at hS.ok hR t p.head p.syms (hT.sy p hp)
  refine ⟨hT, hmx, ?_, ?_, ?_, hD.n, ?_, hS.st2 hH, hS.bfi, ?_, ?_⟩
  · intro p hp h; exact hS.clN p hp (by rw [begF_nul]; exact h)
  · intro p hp t h; refine hS.clF p hp t ?_
    rw [begF_at hS.ok hR t p.syms zero9 rfl (hT.sy p hp), zero9_f, Bool.false_or]; exact h
  · intro p hp a s b e hs1 t h
    refine hS.clS p hp a s b e hs1 t ?_
    rw [folB_at hS.ok hR t p.head b (fun x hx => hT.sy p hp x (by rw [e]; simp [hx]))]; exact h
  · intro X t h; rw [← hNeq]; exact hD.f X t h
  · intro i p hi t ht ha
    have hp := List.mem_of_getElem? hi
    have hh := hT.hd p hp
    have hm : (i : Int) ∈ ovL p.head t (ps.zip (aheadsF hs ps)) 0 := by
      rw [ovL_mem]
      exact ⟨i, _, zip_at.2 ⟨p, hi, rfl⟩, by simp, rfl, by rw [hah p hp]; exact ha⟩
    have h1 := clN_nil (z := ps.zip (aheadsF hs ps)) (R := R) (H := H) (H + 1) 0 hcl p.head.toNat t (by omega) (by omega) (by omega) ht
    rw [show ((p.head.toNat : Nat) : Int) = p.head by omega] at h1
    unfold chF
    generalize ovL p.head t (ps.zip (aheadsF hs ps)) 0 = l at hm h1
    match l with
    | [] => cases hm
    | [a] => simp at hm; simp [hm]
    | a :: b :: r => simp at h1
  · intro X t h0
    unfold chF at h0 ⊢
    cases hq : ovL X t (ps.zip (aheadsF hs ps)) 0 with
    | nil => rw [hq] at h0; simp at h0
    | cons a r =>
      have hm : a ∈ ovL X t (ps.zip (aheadsF hs ps)) 0 := by rw [hq]; simp
      rw [ovL_mem] at hm
      obtain ⟨j, x, h1, h2, h3, h4⟩ := hm
      obtain ⟨p, h5, rfl⟩ := zip_at.1 h1
      refine ⟨p, ?_, h3, ?_⟩
      · simp only []
        rw [h2]; simpa using h5
      · rw [← hah p (List.mem_of_getElem? h5)]; exact h4
end Go.Proofs.YtakkooidejdfkaaGreat
namespace Go.Proofs.YtakkooidejdfkaaGreat
open Go.RowKit
set_option linter.unusedVariables false
set_option linter.unusedSimpArgs false

structure Nd where
  prod : Int
  kind : Int
  place : Int
  size : Int
/-- the nodes, without their sizes; n leaves lie ahead -/
def ndL : List St → Nat → List Nd
  | [], _ => []
  | s :: l, n => if s.leaf then ⟨-1, s.num, n, 0⟩ :: ndL l (n + 1) else ⟨s.num, -1, n, 0⟩ :: ndL l n
theorem ndL_len : ∀ (l : List St) (n : Nat), (ndL l n).length = l.length
  | [], _ => rfl
  | s :: l, n => by unfold ndL; split <;> simp [ndL_len l]
def arF (ps : List Pr) (n : Nd) : Nat := if n.prod < 0 then 0 else match ps[n.prod.toNat]? with
  | some p => p.syms.length
  | none => 0
/-- a node's size: S: the sizes of the nodes behind it -/
def szL (S : List Nat) : Nat → Nat → Nat
  | 0, z => z
  | l + 1, z => match S[z - 1]? with
    | some d => szL S l (z + d)
    | none => z
def sizesF (ps : List Pr) : List Nd → List Nat
  | [] => []
  | n :: l => szL (sizesF ps l) (arF ps n) 1 :: sizesF ps l
theorem sizesF_len (ps : List Pr) : ∀ l, (sizesF ps l).length = l.length
  | [] => rfl
  | n :: l => by simp [sizesF, sizesF_len ps l]
def setSz (n : Nd) (z : Nat) : Nd := { n with size := z }
def nodesF (ps : List Pr) (st : List St) : List Nd := List.zipWith setSz (ndL st 0) (sizesF ps (ndL st 0))
theorem nodesF_len (ps : List Pr) (st : List St) : (nodesF ps st).length = st.length := by simp [nodesF, ndL_len, sizesF_len]
theorem szL_bd {S : List Nat} (hS : ∀ j d, S[j]? = some d → 1 ≤ d ∧ j + d ≤ S.length) : ∀ (l z : Nat), 1 ≤ z → z ≤ S.length + 1 → 1 ≤ szL S l z ∧ szL S l z ≤ S.length + 1
  | 0, z, h1, h2 => ⟨h1, h2⟩
  | l + 1, z, h1, h2 => by
    unfold szL
    cases hq : S[z - 1]? with
    | none => exact ⟨h1, h2⟩
    | some d =>
      have := hS _ _ hq
      exact szL_bd hS l (z + d) (by omega) (by omega)
theorem sizesF_bd (ps : List Pr) : ∀ (l : List Nd) (j d : Nat), (sizesF ps l)[j]? = some d → 1 ≤ d ∧ j + d ≤ l.length
  | [], j, d, h => by simp [sizesF] at h
  | n :: l, 0, d, h => by
    simp only [sizesF, List.getElem?_cons_zero, Option.some.injEq] at h
    have := szL_bd (S := sizesF ps l) (fun j d h => by rw [sizesF_len]; exact sizesF_bd ps l j d h) (arF ps n) 1 (by omega) (by omega)
    rw [sizesF_len] at this
    simp only [List.length_cons]; omega
  | n :: l, j + 1, d, h => by
    simp only [sizesF, List.getElem?_cons_succ] at h
    have := sizesF_bd ps l j d h
    simp only [List.length_cons]; omega
theorem sizesF_drop (ps : List Pr) : ∀ (l : List Nd) (i : Nat), (sizesF ps l).drop i = sizesF ps (l.drop i)
  | [], i => by simp [sizesF]
  | n :: l, 0 => rfl
  | n :: l, i + 1 => by simp only [sizesF, List.drop_succ_cons]; exact sizesF_drop ps l i
theorem sizesF_at (ps : List Pr) (l : List Nd) (i : Nat) (hi : i < l.length) : (sizesF ps l)[i]? = some (szL ((sizesF ps l).drop (i + 1)) (arF ps l[i]) 1) := by
  have h1 : (sizesF ps l)[i]? = ((sizesF ps l).drop i)[0]? := by simp
  rw [h1, sizesF_drop, List.drop_eq_getElem_cons hi, sizesF_drop]
  rfl

/-- what is wanted, of a stack -/
def wanB (hs : List Hd) (R : Nat) (k : List Sy) : List Bool := if (begF hs k zero9).2 then withT (begF hs k zero9).1 R else (begF hs k zero9).1
def gToF (ps : List Pr) (hs : List Hd) (H t : Nat) (k : List Sy) (st : List St) : List Sy × List St := (gTo ps (chF hs ps) t (enough H k.length) k st).getD (k, st)
structure GOut where
  err : Int
  wanted : List Int
  place : Nat
  st : List St
def grwF (ps : List Pr) (hs : List Hd) (R H : Nat) : List Int → Nat → List Sy → List St → GOut
  | [], a, k, st => if (wanB hs R k).getD R false then ⟨0, [], 0, (gToF ps hs H R k st).2⟩ else ⟨10, listT (wanB hs R k), a, []⟩
  | t :: l, a, k, st => if (wanB hs R k).getD t.toNat false then grwF ps hs R H l (a + 1) (gToF ps hs H t.toNat k st).1 (gToF ps hs H t.toNat k st).2 else ⟨10, listT (wanB hs R k), a, []⟩
theorem wanB_at {R H : Nat} {hs : List Hd} (hok : ∀ x ∈ hs, x.ok) (hR : R ≤ 8) (k : List Sy) (hv : ∀ s ∈ k, 0 ≤ s.num ∧ s.num < (if s.isH then (H : Int) else R)) (t : Nat) : (wanB hs R k).getD t false = wanT (hN hs) (hF hs) R k t := by
  have h1 := begF_at hok hR t k zero9 rfl hv
  rw [zero9_f, Bool.false_or] at h1
  unfold wanB wanT
  rw [begF_nul]
  split
  · rename_i e
    rw [withT_hit (begF_len hok _ _ rfl) (by omega) (by omega), h1, e]
    simp only [Bool.true_and]
    congr 1
    rw [Bool.eq_iff_iff]; simp; omega
  · rename_i e
    have : k.all (nulS (hN hs)) = false := by simpa using e
    rw [h1, this]; simp
theorem wanB_len {hs : List Hd} (hok : ∀ x ∈ hs, x.ok) (R : Nat) (k : List Sy) : (wanB hs R k).length = 9 := by
  unfold wanB
  split
  · exact withT_len (begF_len hok _ _ rfl)
  · exact begF_len hok _ _ rfl
end Go.Proofs.YtakkooidejdfkaaGreat
namespace Go.Proofs.YtakkooidejdfkaaGreat
open Go.RowKit
set_option linter.unusedVariables false
set_option linter.unusedSimpArgs false

def St.cells (s : St) : List Value := [.bool s.leaf, .int .i8 s.num]
abbrev StOwn (w : World) (base : Nat) (v : Value) (l : List St) : Prop := w.ownsRow base 126 2 v l.length (flatC St.cells l)
theorem infoSt : (Tryz.prog.info? 126).map (fun i => (i.zero, i.size, i.bytes)) = some (some (.agg #[.bool false, .int .i8 0]), 2, 2) := by kernel_rfl
theorem infoSt' : ∃ i, Tryz.prog.info? 126 = some i ∧ i.zero = some (.agg #[.bool false, .int .i8 0]) ∧ i.size = 2 ∧ i.bytes = 2 := by
  have h := infoSt
  cases hq : Tryz.prog.info? 126 with
  | none => simp [hq] at h
  | some i => simp [hq] at h; exact ⟨i, rfl, h.1, h.2.1, h.2.2⟩
theorem flatC_snoc {α : Type} (f : α → List Value) (l : List α) (x : α) : flatC f (l ++ [x]) = flatC f l ++ f x := by simp [flatC]
/-- the grower in memory: B: below it nothing is changed -/
structure GA (w : World) (b B : Nat) (R H : Int) (vp vg vk vs : Value) (k : List Sy) (st : List St) : Prop where
  lo : B ≤ b
  blk : w.heap[b]? = some (.cells #[.int .i64 R, .int .i64 H, vp, vg, vk, vs] 79 (0, 0))
  ks : SyOwn w B vk k.reverse
  ss : StOwn w B vs st
  kb : vk.ownBlock ≠ some b
  sb : vs.ownBlock ≠ some b
  ap : ∀ j, vk.ownBlock = some j → vs.ownBlock ≠ some j
section
variable {w W w1 : World} {b B : Nat} {R H : Int} {vp vg vk vs v' : Value} {k : List Sy} {st : List St}
theorem GA.lt (h : GA w b B R H vp vg vk vs k st) : b < w.heap.size := heap_lt h.blk
theorem GA.cell (h : GA w b B R H vp vg vk vs k st) (o : Nat) : w.cell? ⟨b, o, none⟩ = #[.int .i64 R, .int .i64 H, vp, vg, vk, vs][o]? := cellOf h.blk o
theorem GA.frozen (h : GA w b B R H vp vg vk vs k st) (o : Nat) : w.frozen? ⟨b, o, none⟩ = false := frozenOf h.blk o
theorem GA.fresh (h : GA w b B R H vp vg vk vs k st) (hf : Fresh w W) : GA W b B R H vp vg vk vs k st :=
  ⟨h.lo, hf.at h.blk (fun x => x), ownsRow_other h.ks (fun g hg => hf.block g (h.ks.lt g hg).2 (fun x => x)), ownsRow_other h.ss (fun g hg => hf.block g (h.ss.lt g hg).2 (fun x => x)), h.kb, h.sb, h.ap⟩
theorem GA.grown5 (h : GA w b B R H vp vg vk vs k st) (hW : Fresh w W) (hg : W.grownBy w1 vs.ownBlock) : w1.heap[b]? = some (.cells #[.int .i64 R, .int .i64 H, vp, vg, vk, vs] 79 (0, 0)) := by
  have hbb := hW.at h.blk (fun x => x)
  rw [hg.block b (heap_lt hbb) (fun e => h.sb e.symm)]; exact hbb
theorem GA.grown4 (h : GA w b B R H vp vg vk vs k st) (hW : Fresh w W) (hg : W.grownBy w1 vk.ownBlock) : w1.heap[b]? = some (.cells #[.int .i64 R, .int .i64 H, vp, vg, vk, vs] 79 (0, 0)) := by
  have hbb := hW.at h.blk (fun x => x)
  rw [hg.block b (heap_lt hbb) (fun e => h.kb e.symm)]; exact hbb
/-- one step more -/
theorem GA.step (h : GA w b B R H vp vg vk vs k st) (hW : Fresh w W) {x : St} (hown : w1.ownsRow B 126 2 v' (st.length + 1) (flatC St.cells st ++ x.cells)) (hg : W.grownBy w1 vs.ownBlock)
    (hb : ∀ j, v'.ownBlock = some j → vs.ownBlock = some j ∨ W.heap.size ≤ j) :
    GA (w1.setCell ⟨b, 5, none⟩ v') b B R H vp vg vk v' k (st ++ [x]) ∧ UpB B w (w1.setCell ⟨b, 5, none⟩ v') := by
  have h1 := h.grown5 hW hg
  have hlt := h.lt
  have hsz := hW.size
  have hv'b : v'.ownBlock ≠ some b := fun e => by
    rcases hb b e with h2 | h2
    · exact h.sb h2
    · omega
  refine ⟨⟨h.lo, ?_, ?_, ?_, h.kb, hv'b, ?_⟩, ?_⟩
  · rw [Proofs.YtakkooidejdfkaaGreat.heap_setCell_same h1 5 v']; rfl
  · refine ownsRow_other h.ks (fun g hg' => ?_)
    have hl := h.ks.lt g hg'
    rw [Proofs.YtakkooidejdfkaaGreat.heap_setCell_other _ (by intro e; exact h.kb (by rw [hg']; exact congrArg some e)), hg.block g (by omega) (fun e => h.ap g hg' e.symm), hW.block g hl.2 (fun x => x)]
  · show World.ownsRow _ _ _ _ _ (st ++ [x]).length _
    rw [flatC_snoc, List.length_append, List.length_singleton]
    exact ownsRow_other hown (fun g hg' => by rw [Proofs.YtakkooidejdfkaaGreat.heap_setCell_other _ (by intro e; exact hv'b (by rw [hg']; exact congrArg some e))])
  · intro j hj hj'
    rcases hb j hj' with h2 | h2
    · exact h.ap j hj h2
    · have := (h.ks.lt j hj).2; omega
  · have m1 : UpB B w W := hW.mono (fun _ _ x => x.elim)
    exact (m1.grown hg (fun j hj _ => (h.ss.lt j hj).1)).setCell (fun _ => h.lo) _
/-- one symbol more on the stack -/
theorem GA.push (h : GA w b B R H vp vg vk vs k st) (hW : Fresh w W) {x : Sy} (hown : w1.ownsRow B 74 2 v' (k.reverse.length + 1) (flatC Sy.cells k.reverse ++ x.cells)) (hg : W.grownBy w1 vk.ownBlock)
    (hb : ∀ j, v'.ownBlock = some j → vk.ownBlock = some j ∨ W.heap.size ≤ j) :
    GA (w1.setCell ⟨b, 4, none⟩ v') b B R H vp vg v' vs (x :: k) st ∧ UpB B w (w1.setCell ⟨b, 4, none⟩ v') := by
  have h1 := h.grown4 hW hg
  have hlt := h.lt
  have hsz := hW.size
  have hv'b : v'.ownBlock ≠ some b := fun e => by
    rcases hb b e with h2 | h2
    · exact h.kb h2
    · omega
  refine ⟨⟨h.lo, ?_, ?_, ?_, hv'b, h.sb, ?_⟩, ?_⟩
  · rw [Proofs.YtakkooidejdfkaaGreat.heap_setCell_same h1 4 v']; rfl
  · show World.ownsRow _ _ _ _ _ (x :: k).reverse.length _
    rw [List.reverse_cons, flatC_snoc, List.length_append, List.length_singleton]
    exact ownsRow_other hown (fun g hg' => by rw [Proofs.YtakkooidejdfkaaGreat.heap_setCell_other _ (by intro e; exact hv'b (by rw [hg']; exact congrArg some e))])
  · refine ownsRow_other h.ss (fun g hg' => ?_)
    have hl := h.ss.lt g hg'
    rw [Proofs.YtakkooidejdfkaaGreat.heap_setCell_other _ (by intro e; exact h.sb (by rw [hg']; exact congrArg some e)), hg.block g (by omega) (fun e => h.ap g e.symm hg'), hW.block g hl.2 (fun x => x)]
  · intro j hj hj'
    rcases hb j hj with h2 | h2
    · exact h.ap j h2 hj'
    · have := (h.ss.lt j hj').2; omega
  · have m1 : UpB B w W := hW.mono (fun _ _ x => x.elim)
    exact (m1.grown hg (fun j hj _ => (h.ks.lt j hj).1)).setCell (fun _ => h.lo) _
/-- a row without its last -/
theorem ownsRow_pop {e : TypeId} {size n cap : Nat} {ao : Option Addr} {xs ys : List Value} (h : w.ownsRow B e size (.slice ao (n + 1) cap) (n + 1) (xs ++ ys)) (hy : ys.length = size) : w.ownsRow B e size (.slice ao n cap) n xs := by
  obtain ⟨h1, h2⟩ := h
  have hx : xs.length = n * size := by
    rw [List.length_append, hy, Nat.add_mul, Nat.one_mul] at h1; omega
  refine ⟨hx, ?_⟩
  rcases h2 with ⟨_, h0⟩ | ⟨g, cap', cur, hv, hb, hg, hnc, hcm, hcs, ht⟩
  · omega
  · rw [Value.slice.injEq] at hv
    obtain ⟨rfl, _, rfl⟩ := hv
    refine .inr ⟨g, cap, cur, rfl, hb, hg, by omega, hcm, hcs, ?_⟩
    have e1 : (xs ++ ys).take (n * size) = xs := by rw [List.take_append_of_le_length (by omega), List.take_of_length_le (by omega)]
    rw [← ht, List.take_take, Nat.min_eq_left (by rw [Nat.add_mul]; omega)] at e1
    exact e1
theorem GA.pop {ao : Option Addr} {cap : Nat} {s : Sy} (h : GA w b B R H vp vg (.slice ao (k.length + 1) cap) vs (s :: k) st) :
    GA (w.setCell ⟨b, 4, none⟩ (.slice ao k.length cap)) b B R H vp vg (.slice ao k.length cap) vs k st ∧ UpB B w (w.setCell ⟨b, 4, none⟩ (.slice ao k.length cap)) := by
  have hks := h.ks
  unfold SyOwn at hks
  rw [List.reverse_cons, flatC_snoc, List.length_append, List.length_singleton, List.length_reverse] at hks
  have hp := ownsRow_pop hks rfl
  have hob : Value.ownBlock (.slice ao k.length cap) = Value.ownBlock (.slice ao (k.length + 1) cap) := by cases ao <;> rfl
  refine ⟨⟨h.lo, ?_, ?_, ?_, by rw [hob]; exact h.kb, h.sb, fun j hj => h.ap j (by rw [hob] at hj; exact hj)⟩, (Mod.refl _ w).setCell (fun _ => h.lo) _⟩
  · rw [Proofs.YtakkooidejdfkaaGreat.heap_setCell_same h.blk 4 _]; rfl
  · show World.ownsRow _ _ _ _ _ k.reverse.length _
    rw [List.length_reverse]
    exact ownsRow_other hp (fun g hg' => by rw [Proofs.YtakkooidejdfkaaGreat.heap_setCell_other _ (by intro e; exact h.kb (by rw [← hob, hg']; exact congrArg some e))])
  · exact ownsRow_other h.ss (fun g hg' => by rw [Proofs.YtakkooidejdfkaaGreat.heap_setCell_other _ (by intro e; exact h.sb (by rw [hg']; exact congrArg some e))])
end
end Go.Proofs.YtakkooidejdfkaaGreat
namespace Go.Proofs.YtakkooidejdfkaaGreat
open Go.RowKit
set_option linter.unusedVariables false
set_option linter.unusedSimpArgs false

def Nd.cells (n : Nd) : List Value := [.int .i64 n.prod, .int .i64 n.kind, .int .i64 n.place, .int .i64 n.size]
abbrev NdOwn (w : World) (base : Nat) (v : Value) (l : List Nd) : Prop := w.ownsRow base 59 4 v l.length (flatC Nd.cells l)
abbrev ndA (p k a s : Int) : Array Value := #[.int .i64 p, .int .i64 k, .int .i64 a, .int .i64 s]
theorem stoodNd : Tryz.prog.stoodInHeld 59 = false := by kernel_rfl
theorem guardNd : Tryz.prog.eqGuardType Tryz.prog.depth 59 = false := by kernel_rfl
theorem eqNd (d : Nat) (h t a b : Int) (w : World) : (Op.equalIn (d + 4) 59 (.agg (ndA h t a b)) (.agg (ndA h t a b))).run Tryz.prog w = .ok true w := by
  rw [run_equalIn_struct w (d + 3) _ _ _ (by kernel_rfl) stoodNd]
  have hf : ((Tryz.prog.fieldsOf 59).toList.map fun f => (f.name, f.type, f.offset)) = [("Prod", 3, 0), ("Kind", 3, 1), ("At", 3, 2), ("Size", 3, 3)] := by kernel_rfl
  generalize (Tryz.prog.fieldsOf 59).toList = fs at hf
  rcases fs with _ | ⟨f0, _ | ⟨f1, _ | ⟨f2, _ | ⟨f3, _ | ⟨f4, fs⟩⟩⟩⟩⟩ <;> simp at hf
  obtain ⟨⟨n0, t0, o0⟩, ⟨n1, t1, o1⟩, ⟨n2, t2, o2⟩, ⟨n3, t3, o3⟩⟩ := hf
  simp only [Op.eqFields, n0, t0, o0, n1, t1, o1, n2, t2, o2, n3, t3, o3]
  simp [partI, run_equalIn_int w (d + 2) 3 .i64 _ _ _ Tryz.underlying3]
abbrev toA (h t a : Int) : Array Value := #[.int .i64 h, .int .i64 t, .int .i64 a]
def ldN (v : Value) : Sem Value := Instr.loadAt 59 v
theorem ldN_rule (v : Value) : Instr.loadAt 59 v = ldN v := rfl
theorem szNd : (Tryz.prog.info? 59).map (·.size) = some 4 := by kernel_rfl
theorem ldN_mid {w : World} {g o : Nat} {p k a s : Int} (hr : w.rangeAt g o [.int .i64 p, .int .i64 k, .int .i64 a, .int .i64 s]) : (ldN (.pointer (some ⟨g, o, none⟩))).run Tryz.prog w = .ok (.agg (ndA p k a s)) w :=
  run_loadAt_mid w g o _ _ _ hr Tryz.underlying59 rfl szNd
abbrev NdsAt := RowAt Nd.cells 4 59

attribute [local go_sem ↓] ldN_rule
set_option maxRecDepth 20000 in
set_option maxHeartbeats 2000000 in
theorem sameNodes_any (w : World) (va vb : Value) (la lb : List Nd) (ha : NdsAt w va la) (hb : NdsAt w vb lb) (hl : la.length ≤ 10000000000000) (hl2 : lb.length ≤ 10000000000000) (h : la = lb ∨ la.length ≠ lb.length) :
    Calls Tryz.prog 9 #[va, vb] w fun e w' => e = .returned (.bool (decide (la.length = lb.length))) ∧ Fresh w w' := by
  obtain ⟨aa, ca, hva⟩ := own_form ha.own
  subst hva
  obtain ⟨ab, cb, hvb⟩ := own_form hb.own
  subst hvb
  have HA := hid ha
  have HB := hid hb
  clear ha hb
  rcases h with rfl | h
  · go_enter Tryz.func9, Tryz.ntmps9
    go_wp2
    go_loopw [5] (fun x5 wr => ∃ (i : Nat), x5 = .int .i64 i ∧ i ≤ la.length ∧ ∃ m, wr = w.drewN m)
      (fun x _ => 10000000000001 - (intOf x).toNat)
    case atStart => exact ⟨0, rfl, by omega, 0, rfl⟩
    case round =>
      obtain ⟨i, rfl, hi, m, hfr⟩ := hrel
      subst hfr
      have HFR : Hid (∀ m, Fresh w (w.drewN m)) := fun m => fdrewN' w m
      have HME := hid (meas (B := 10000000000001) i (by omega))
      by_cases hlt : i < la.length
      · have hi1 : (i : Int) < (la.length : Int) := by omega
        obtain ⟨g, c', hg⟩ := Joins.ownsRow_form HA.out.own (by omega)
        rw [Value.slice.injEq] at hg
        obtain ⟨rfl, _, rfl⟩ := hg
        obtain ⟨g2, c2', hg2⟩ := Joins.ownsRow_form HB.out.own (by omega)
        rw [Value.slice.injEq] at hg2
        obtain ⟨rfl, _, rfl⟩ := hg2
        have r1 := HA.out.range i hlt
        have r2 := HB.out.range i hlt
        generalize la[i] = li at r1 r2
        obtain ⟨p, k, a, s⟩ := li
        have l1 : ∀ m, (ldN (.pointer (some ⟨g, i * 4, none⟩))).run Tryz.prog (w.drewN m) = .ok (.agg (ndA p k a s)) (w.drewN m) := fun m => ldN_mid (w := w.drewN m) (rangeAt_block r1 rfl)
        have l2 : ∀ m, (ldN (.pointer (some ⟨g2, i * 4, none⟩))).run Tryz.prog (w.drewN m) = .ok (.agg (ndA p k a s)) (w.drewN m) := fun m => ldN_mid (w := w.drewN m) (rangeAt_block r2 rfl)
        have q1 : ∀ w, (Op.equalIn 10000 59 (.agg (ndA p k a s)) (.agg (ndA p k a s))).run Tryz.prog w = .ok true w := fun w => eqNd 9996 p k a s w
        have g1 := guardNd
        clear r1 r2
        go_wp2_with fail
        go_quiet (fail)
        go_wp2
        go_roundw
        case rel => exact ⟨i + 1, by go_num, by omega, _, rfl⟩
        case measure => exact HME.out
      · have hi2 : ¬ (i : Int) < (la.length : Int) := by omega
        go_wp2
        go_ret
        exact ⟨by simp, HFR.out _⟩
  · have b1 : ((la.length : Int) != (lb.length : Int)) = true := by simp; omega
    have hd : decide (la.length = lb.length) = false := by simpa using h
    rw [hd]
    clear hd h
    go_enter Tryz.func9, Tryz.ntmps9
    go_wp2
    go_ret
    exact ⟨rfl, Mod.refl _ w⟩

end Go.Proofs.YtakkooidejdfkaaGreat
namespace Go.Proofs.YtakkooidejdfkaaGreat
open Go.RowKit
set_option linter.unusedVariables false
set_option linter.unusedSimpArgs false

set_option maxRecDepth 20000 in
set_option maxHeartbeats 2000000 in
theorem isIn_any (w : World) (v : Value) (l : List Int) (n : Int) (h : IntAt w v l) (hl : l.length ≤ 1000) :
    Calls Tryz.prog 29 #[v, .int .i64 n] w fun e w' => e = .returned (.bool (l.any (· == n))) ∧ w' = w := by
  obtain ⟨ao, cap, rfl, hc, hcell⟩ := h
  have HC := hid hcell
  generalize hR : l.any (· == n) = RES
  have HR := hid hR
  clear hcell hR
  go_enter Tryz.func29, Tryz.ntmps29
  go_wp2
  go_loopw [6, 9] (fun _ x5 wr => ∃ (i : Nat), x5 = .int .i64 i ∧ i ≤ l.length ∧ (l.drop i).any (· == n) = RES ∧ wr = w)
      (fun _ x _ => 1001 - (intOf x).toNat)
  case atStart => exact ⟨0, rfl, by omega, HR.out, rfl⟩
  case round =>
    obtain ⟨i, rfl, hi, hres, hfr⟩ := hrel
    subst hfr
    have HME := hid (meas (B := 1001) i (by omega))
    by_cases hlt : i < l.length
    · have hi1 : (i : Int) < (l.length : Int) := by omega
      rw [List.drop_eq_getElem_cons hlt, List.any_cons] at hres
      obtain ⟨g, o, rfl, hcl⟩ := HC.out i hlt
      have c1 := hcl
      generalize l[i] = li at hres c1
      cases hq : (li == n)
      · rw [hq, Bool.false_or] at hres
        have HRES := hid hres
        clear hcl hres
        go_wp2
        go_roundw
        case rel => exact ⟨i + 1, by go_num, by omega, HRES.out, by first | rfl | trivial⟩
        case measure => exact HME.out
      · rw [hq, Bool.true_or] at hres
        have HRES := hid hres
        clear hcl hres
        go_wp2
        go_ret
        exact ⟨ret_bool HRES.out, rfl⟩
    · have hie : i = l.length := by omega
      have hi2 : ¬ (i : Int) < (l.length : Int) := by omega
      rw [hie, List.drop_length] at hres
      have HRES := hid hres
      clear hres
      go_wp2
      go_ret
      exact ⟨ret_bool (by rw [← HRES.out]; rfl), rfl⟩

/-- all kinds are rules' numbers -/
def kindsOk (R : Int) (l : List Int) : Bool := l.all fun k => decide (0 ≤ k) && decide (k < R)
set_option maxRecDepth 20000 in
set_option maxHeartbeats 2000000 in
theorem areRules_any (w : World) (R H : Int) (vp v : Value) (l : List Int) (h : IntAt w v l) (hl : l.length ≤ 1000) :
    Calls Tryz.prog 15 #[.agg #[.int .i64 R, .int .i64 H, vp], v] w fun e w' => e = .returned (.bool (kindsOk R l)) ∧ Fresh w w' := by
  obtain ⟨ao, cap, rfl, hc, hcell⟩ := h
  have HC := hid hcell
  generalize hR : kindsOk R l = RES
  have HR := hid hR
  clear hcell hR
  go_enter Tryz.func15, Tryz.ntmps15
  go_wp2
  go_loopw [6, 9] (fun _ x5 wr => ∃ (i : Nat), x5 = .int .i64 i ∧ i ≤ l.length ∧ kindsOk R (l.drop i) = RES ∧ Fresh w wr ∧ wr.cell? ⟨w.heap.size, 0, none⟩ = some (.int .i64 R))
      (fun _ x _ => 1001 - (intOf x).toNat)
  case atStart => exact ⟨0, rfl, by omega, HR.out, (Mod.refl _ w).alloc _, by rw [cellOf (heap_alloc_at w _) 0]; rfl⟩
  case round =>
    obtain ⟨i, rfl, hi, hres, hfr, c0⟩ := hrel
    have HFR := hid hfr
    have C0 := hid c0
    have HME := hid (meas (B := 1001) i (by omega))
    by_cases hlt : i < l.length
    · have hi1 : (i : Int) < (l.length : Int) := by omega
      unfold kindsOk at hres
      rw [List.drop_eq_getElem_cons hlt, List.all_cons] at hres
      obtain ⟨g, o, rfl, hcl⟩ := HC.out i hlt
      have c1 := fcell' hfr hcl
      generalize l[i] = li at hres c1
      by_cases h0 : 0 ≤ li
      · by_cases h1 : li < R
        · rw [decide_eq_true h0, decide_eq_true h1] at hres
          have HRES := hid hres
          clear hcl hres hfr
          go_wp2
          go_roundw
          case rel => exact ⟨i + 1, by go_num, by omega, HRES.out, HFR.out, C0.out⟩
          case measure => exact HME.out
        · rw [decide_eq_true h0, decide_eq_false h1] at hres
          have HRES := hid hres
          clear hcl hres hfr
          go_wp2
          go_ret
          exact ⟨ret_bool HRES.out, HFR.out⟩
      · rw [decide_eq_false h0] at hres
        have HRES := hid hres
        clear hcl hres hfr
        go_wp2
        go_ret
        exact ⟨ret_bool HRES.out, HFR.out⟩
    · have hie : i = l.length := by omega
      have hi2 : ¬ (i : Int) < (l.length : Int) := by omega
      rw [hie, List.drop_length] at hres
      have HRES := hid hres
      clear hres hfr
      go_wp2
      go_ret
      exact ⟨ret_bool (by rw [← HRES.out]; rfl), HFR.out⟩

def placeF (toks : List Tk) (n : Int) (len : Nat) : Int := if n < 0 then len else match toks[n.toNat]? with
  | some t => t.a
  | none => len
end Go.Proofs.YtakkooidejdfkaaGreat
namespace Go.Proofs.YtakkooidejdfkaaGreat
open Go.RowKit
set_option linter.unusedVariables false
set_option linter.unusedSimpArgs false

def gdA (fp : Value) (L : List Int) : Array Value := (fp :: nums L).toArray
theorem gd_at {fp : Value} {L : List Int} {j : Nat} (h : j < L.length) : (gdA fp L)[1 + j]? = some (.int .i64 (L.getD j 0)) := by
  unfold gdA
  rw [List.getElem?_toArray, Nat.add_comm, List.getElem?_cons_succ, List.getElem?_map, List.getElem?_eq_getElem h]
  simp [h]
set_option maxRecDepth 20000 in
set_option maxHeartbeats 2000000 in
theorem choose_any (w : World) (gb : Nat) (fp : Value) (L : List Int) (hL : L.length = 72) (hb : w.heap[gb]? = some (.cells (gdA fp L) 113 (0, 0))) (n t : Nat) (hn : n < 8) (ht : t < 9) :
    Calls Tryz.prog 52 #[bptr gb, .int .i64 n, .int .i64 t] w fun e w' => e = .returned (.int .i64 (L.getD (n * 9 + t) 0)) ∧ w' = w := by
  have c1 : w.cell? ⟨gb, 1 + n * 9 + t, none⟩ = some (.int .i64 (L.getD (n * 9 + t) 0)) := by
    rw [cellOf hb, Nat.add_assoc, gd_at (by omega)]
  generalize L.getD (n * 9 + t) 0 = V at c1
  have h1 : (n : Int) < 8 := by omega
  have h2 : (t : Int) < 9 := by omega
  clear hb hL
  go_enter Tryz.func52, Tryz.ntmps52
  go_wp2
  go_ret
  exact ⟨rfl, rfl⟩
end Go.Proofs.YtakkooidejdfkaaGreat
namespace Go.Proofs.YtakkooidejdfkaaGreat
open Go.RowKit
set_option linter.unusedVariables false
set_option linter.unusedSimpArgs false

def ldY (v : Value) : Sem Value := Instr.loadAt 74 v
theorem ldY_rule (v : Value) : Instr.loadAt 74 v = ldY v := rfl
theorem ldY_mid {w : World} {g o : Nat} {h : Bool} {n : Int} (hr : w.rangeAt g o [.bool h, .int .i64 n]) : (ldY (.pointer (some ⟨g, o, none⟩))).run Tryz.prog w = .ok (.agg #[.bool h, .int .i64 n]) w :=
  run_loadAt_mid w g o _ _ _ hr Tryz.underlying74 rfl szSy2
attribute [local go_sem ↓] ldY_rule
attribute [local go_sem ↓] apS_rule
set_option maxRecDepth 20000 in
set_option maxHeartbeats 4000000 in
theorem open_any (w : World) (b B : Nat) (R H : Int) (vp vg vk vs : Value) (k : List Sy) (st : List St) (ps : List PV) (i : Nat) (h : GA w b B R H vp vg vk vs k st) (hp : PrsAt w B vp ps) (hi : i < ps.length) (hps : ps.length ≤ 100)
    (hst : st.length ≤ 1000000000000) (hk : k.length ≤ 100000000000) (hsy : ps[i].pr.syms.length ≤ 6) (hB : B ≤ w.heap.size) :
    Calls Tryz.prog 53 #[bptr b, .int .i64 i] w fun e w' => e = .returned (.tuple #[]) ∧ ∃ vk' vs', GA w' b B R H vp vg vk' vs' (ps[i].pr.syms ++ k) (st ++ [⟨false, i⟩]) ∧ UpB B w w' := by
  generalize hsyE : ps[i].pr.syms = sy at hsy ⊢
  have HSE := hid hsyE
  clear hsyE
  obtain ⟨is, his, sz0, sz1, sz2⟩ := infoSt'
  obtain ⟨iy, hiy, yz0, yz1, yz2⟩ := infoSy'
  obtain ⟨pa, pc, hvp⟩ := own_form hp.row.own
  subst hvp
  obtain ⟨sa, sc, hvs⟩ := own_form h.ss
  subst hvs
  obtain ⟨gp, cap', hv'⟩ := Joins.ownsRow_form hp.row.own (by omega)
  rw [Value.slice.injEq] at hv'
  obtain ⟨rfl, _, rfl⟩ := hv'
  have k2 := h.cell 2
  have k5 := h.cell 5
  simp at k2 k5
  have z5 := h.frozen 5
  have hi1 : (i : Int) < (ps.length : Int) := by omega
  have hi2 : (i : Int) ≤ 127 := by omega
  have hi3 : ¬ (ps.length ≤ i) := by omega
  have hi4 : ¬ ((i : Int) < 0) := by omega
  have HG := hid h
  have HP := hid hp
  have hbl := h.lt
  have HO := hid h.ss
  clear h hp
  go_enter Tryz.func53, Tryz.ntmps53
  go_wp2_with (first
    | (at_builtin; refine wpList_append_mine _ rfl _ _ 77 rfl B 126 is _ 2 2 Tryz.underlying77 his sz0 sz1 sz2 rfl (by decide) _ _ _ rfl (HO.out.alloc _) ⟨w.heap.size, 0, none⟩ 1 1 [.bool false, .int .i8 i] rfl rfl (new_cells rfl) (by intro u hu; simp at hu; rcases hu with rfl | rfl <;> rfl) (by unfold maxLen; omega) (by omega) (by simp; omega) ?_))
  intro v' w5 hown hgrow hblk
  obtain ⟨sa1, sc1, hvs1⟩ := own_form hown
  subst hvs1
  have G5 := HG.out.grown5 ((Mod.refl _ w).alloc _) hgrow
  have f5 := frozenOf G5 5
  have g5 := cellOf G5 5
  simp at g5
  obtain ⟨G1, U1⟩ := HG.out.step (x := ⟨false, i⟩) ((Mod.refl _ w).alloc _) hown hgrow (fun j hj => by simpa using hblk j hj)
  generalize hWW : w5.setCell ⟨b, 5, none⟩ (.slice sa1 (st.length + 1) sc1) = W1 at G1 U1
  have HWW := hid hWW
  have PA1 := HP.out.kept hB U1 (fun j h1 h2 => by omega)
  have HP1 := hid PA1
  have j2 := G1.cell 2
  simp at j2
  have cs := PA1.row.cell i 1 hi (by omega)
  have hSY := PA1.syms ps[i] (by simp)
  rw [HSE.out] at hSY
  have HSY := hid hSY
  have HG1 := hid G1
  have HU1 := hid U1
  have hb1 := G1.lt
  have hB1 : B ≤ W1.heap.size := by have := U1.size; omega
  simp [PV.cells] at cs
  clear hSY
  generalize ps[i].vs = pvs at HSY cs
  obtain ⟨sao, scap, hsv, hsc, hscm, hsyc⟩ := HSY.out
  subst hsv
  have HSC := hid hsyc
  clear hsyc hown hgrow hblk G5 G1 U1 PA1
  go_wp2
  clear hWW
  go_loopw [5] (fun x5 wr => ∃ (m : Nat) (q : Int) (vk' : Value), x5 = .int .i64 q ∧ q = (m : Int) - 1 ∧ m ≤ sy.length ∧ GA wr b B R H (.slice (some ⟨gp, 0, none⟩) ps.length pc) vg vk' (.slice sa1 (st.length + 1) sc1) (sy.drop m ++ k) (st ++ [⟨false, i⟩]) ∧ UpB B w wr)
      (fun x _ => (intOf x + 1).toNat)
  case atStart => exact ⟨sy.length, _, vk, rfl, rfl, Nat.le_refl _, by rw [List.drop_length]; exact HG1.out, HU1.out⟩
  case round =>
    clear j2 cs hb1 hB1 HWW f5 z5 k5 k2
    obtain ⟨m, q, vk', rfl, hq, hm, hG, hU⟩ := hrel
    by_cases hm0 : m = 0
    · have hq0 : q = -1 := by omega
      subst hq0
      subst hm0
      have HGF := hid hG
      have HUF := hid hU
      clear hG hU hq
      go_wp2
      exact bodyPost_end (results_none rfl _ _ _) rfl ⟨rfl, vk', _, HGF.out, HUF.out⟩
    · obtain ⟨m', rfl⟩ : ∃ m', m = m' + 1 := ⟨m - 1, by omega⟩
      have hqe : q = (m' : Int) := by omega
      clear hq
      subst hqe
      have hml : m' < sy.length := by omega
      have hm1 : (m' : Int) < (sy.length : Int) := by omega
      have HME : Hid (((m' : Int) - 1 + 1).toNat < ((m' : Int) + 1).toNat) := by unfold Hid; omega
      have HDR : Hid (sy.drop m' = sy[m'] :: sy.drop (m' + 1)) := List.drop_eq_getElem_cons hml
      obtain ⟨g, o, rfl, hgB, hrg⟩ := HSC.out m' hml
      have hrg1 : wr.rangeAt g (o + m' * 2) (sy[m']).cells := rangeAt_block hrg (by
        rw [hU.block g (by omega) (by omega)]; exact (HU1.out.block g (by omega) (by omega)).symm)
      generalize sy[m'] = s at hrg1 HDR
      obtain ⟨sh, sn⟩ := s
      have l1 : (ldY (.pointer (some ⟨g, o + m' * 2, none⟩))).run Tryz.prog wr = _ := ldY_mid hrg1
      have l2 : (ldY (.pointer (some ⟨g, o + m' * 2, none⟩))).run Tryz.prog wr.drew = _ := ldY_mid (w := wr.drew) (rangeAt_block hrg1 rfl)
      have hKl : (sy.drop (m' + 1) ++ k).length ≤ 100000000006 := by simp; omega
      have HDK : Hid (∀ x : Sy, x :: (sy.drop (m' + 1) ++ k) = (x :: sy.drop (m' + 1)) ++ k) := fun x => rfl
      generalize sy.drop (m' + 1) ++ k = K at hG hKl HDK
      have hks := hG.ks
      unfold SyOwn at hks
      rw [List.length_reverse] at hks
      obtain ⟨ka, kc, hvk⟩ := own_form hks
      subst hvk
      have k4 := hG.cell 4
      have z4 := hG.frozen 4
      simp at k4
      have hwb := hG.lt
      have hwB : B ≤ wr.heap.size := by have := hU.size; omega
      have HGr := hid hG
      have HUr := hid hU
      have HKS := hid hks
      clear hG hU hks hrg hrg1
      go_wp2
      have FW : Hid (∀ o : Obj, Fresh wr (wr.alloc o).drew) := fun o => ((Mod.refl _ wr).alloc o).drew
      obtain ⟨v', w2, hrun, hown, hgrow, hblk⟩ := apS_mine (P := Tryz.prog) (wr.alloc (.cells #[.bool sh, .int .i64 sn] 74)).drew B 76 76 74 iy _ 2 16 Tryz.underlying76 hiy yz0 yz1 yz2 rfl (by decide) (.slice ka K.length kc) K.length (flatC Sy.cells K.reverse) (ownsRow_other HKS.out (fun g hg => (FW.out _).block g (HKS.out.lt g hg).2 (fun x => x))) ⟨wr.heap.size, 0, none⟩ 1 1 [.bool sh, .int .i64 sn] rfl (new_cells rfl) (by intro u hu; simp at hu; rcases hu with rfl | rfl <;> rfl) (by unfold maxLen; omega) (by omega) (by simp [World.drew]; omega)
      have HB := HGr.out.grown4 (FW.out _) hgrow
      have hc2 : w2.cell? ⟨b, 4, none⟩ = some (.slice ka K.length kc) := (cellOf HB 4)
      have hf2 := frozenOf HB 4
      have HO2 := hid hown
      have HG2 := hid hgrow
      have HBK := hid hblk
      obtain ⟨a', cap', hv'⟩ := own_form hown
      clear hown hgrow hblk HB
      subst hv'
      go_region
      all_goals
        obtain ⟨G3, U3⟩ := HGr.out.push (x := ⟨sh, sn⟩) (FW.out _) (by rw [List.length_reverse]; exact HO2.out) HG2.out HBK.out
        generalize hWW : w2.setCell _ _ = W3 at G3 U3 ⊢
        have HG3 := hid G3
        have HU3 := hid U3
        clear G3 U3 hWW hc2 hf2 k4 z4 l1 l2 hrun
        go_wp2
        go_roundw
        case rel =>
          refine ⟨m', (m' : Int) - 1, .slice a' (K.length + 1) cap', rfl, rfl, by omega, ?_, Mod.trans HUr.out HU3.out⟩
          rw [HDR.out, ← HDK.out]; exact HG3.out
        case measure => exact HME.out
end Go.Proofs.YtakkooidejdfkaaGreat
