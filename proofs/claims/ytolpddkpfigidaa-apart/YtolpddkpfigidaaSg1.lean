import Derived.Test.YtolpddkpfigidaaSee
import Derived.Test.YtolpddkpfigidaaKc8
import Derived.Test.YtolpddkpfigidaaRows
import Derived.ProofKit
namespace Go.Proofs.Ytolpddkpfigidaa
open Go.RowKit
set_option linter.unusedVariables false
set_option linter.unusedSimpArgs false

/-- what stands ahead of each production -/
def aheadsF (hs : List Hd) (ps : List Pr) : List (List Bool) := ps.map fun p => folB hs p.head p.syms
abbrev TksOwn (w : World) (base : Nat) (v : Value) (al : List (List Bool)) : Prop := w.ownsRow base 152 9 v al.length (flatC bls al)
theorem infoTk : (Try.prog.info? 152).map (fun i => (i.zero, i.size, i.bytes)) = some (some (.agg (tkA zero9)), 9, 9) := by kernel_rfl
theorem infoTk' : ∃ i, Try.prog.info? 152 = some i ∧ i.zero = some (.agg (tkA zero9)) ∧ i.size = 9 ∧ i.bytes = 9 := by
  have h := infoTk
  cases hq : Try.prog.info? 152 with
  | none => simp [hq] at h
  | some i => simp [hq] at h; exact ⟨i, rfl, h.1, h.2.1, h.2.2⟩
abbrev nineA (a0 a1 a2 a3 a4 a5 a6 a7 a8 : Bool) : Array Value := #[.bool a0, .bool a1, .bool a2, .bool a3, .bool a4, .bool a5, .bool a6, .bool a7, .bool a8]
theorem bls_one (l : List Bool) : ∀ u ∈ bls l, u.oneCell' = true := by
  intro u hu; simp [bls] at hu
  rcases hu with ⟨_, rfl⟩ | ⟨_, rfl⟩ <;> rfl

set_option maxRecDepth 20000 in
set_option maxHeartbeats 8000000 in
theorem findAhead_any (w : World) (b : Nat) (R H : Int) (vp vh : Value) (ps : List PV) (hs : List Hd) (h : FA w b R H vp vh ps hs) (hps : ps.length ≤ 1000) :
    Calls Try.prog 74 #[bptr b] w fun e w' => ∃ v, e = .returned v ∧ Fresh w w' ∧ TksOwn w' w.heap.size v (aheadsF hs (prsOf ps)) := by
  have HF0 := hid h
  obtain ⟨i0, hi0, iz0, iz1, iz2⟩ := infoTk'
  obtain ⟨ao, cap, hv⟩ := own_form h.prs.row.own
  subst hv
  have k2 := h.cell 2
  simp at k2
  clear h
  go_enter Try.func74, Try.ntmps74
  go_wp2
  go_loopw [3, 5, 6, 7, 8, 15] (fun x3 _ _ _ _ x15 wr => ∃ (i : Nat), x15 = .int .i64 i ∧ i ≤ ps.length ∧ TksOwn wr w.heap.size x3 (aheadsF hs (prsOf (ps.take i))) ∧ Fresh w wr)
      (fun _ _ _ _ _ x _ => ps.length + 1 - (intOf x).toNat)
  case atStart => exact ⟨0, rfl, by omega, World.ownsRow_nil _ _ _ _, Mod.refl _ w⟩
  case round =>
    obtain ⟨i, rfl, hi, hown, hfr⟩ := hrel
    have HME := hid (meas (B := ps.length + 1) i (by omega))
    have HFR := hid hfr
    have hF := HF0.out.fresh hfr
    have HF := hid hF
    have hlen : (aheadsF hs (prsOf (ps.take i))).length ≤ 1000 := by simp [aheadsF, prsOf]; omega
    have HTE : Hid (i = ps.length → ps.take i = ps) := fun e => by rw [e, List.take_length]
    have HTS : Hid (∀ hlt : i < ps.length, aheadsF hs (prsOf (ps.take (i + 1))) = aheadsF hs (prsOf (ps.take i)) ++ [folB hs ps[i].pr.head ps[i].pr.syms]) := fun hlt => by
      rw [takeS hlt]; unfold aheadsF prsOf; rw [List.map_append, List.map_append]; rfl
    generalize hy : aheadsF hs (prsOf (ps.take i)) = ys at *
    have HY := hid hy
    have HO := hid hown
    have HOB := hid hown.lt
    obtain ⟨ro, rc, hro⟩ := own_form hown
    subst hro
    clear hown hy
    by_cases hlt : i < ps.length
    · have hi1 : (i : Int) < (ps.length : Int) := by omega
      obtain ⟨gp, cap', hv'⟩ := Joins.ownsRow_form hF.prs.row.own (by omega)
      rw [Value.slice.injEq] at hv'
      obtain ⟨rfl, _, rfl⟩ := hv'
      have RG : Hid (wr.rangeAt gp (i * 2) [.int .i64 ps[i].pr.head, ps[i].vs]) := hF.prs.row.range i hlt
      have hbl := hF.size
      have HFb := hid (hF.fresh ((Mod.refl _ wr).alloc (.cells #[.int .i64 ps[i].pr.head, ps[i].vs] 178 (0, 0))))
      have HSY := hid (HFb.out.prs.syms ps[i] (by simp))
      have hTS := HTS.out hlt
      generalize ps[i].pr = pr at hTS RG HSY HFb
      generalize ps[i].vs = pvs at RG HSY HFb
      obtain ⟨ph, psy⟩ := pr
      dsimp only at hTS RG HSY HFb
      obtain ⟨sao, scap, hsv, _⟩ := HSY.out
      subst hsv
      have HBL := hid (begF_len hF.ok psy zero9 rfl)
      have HOH := hid (getH_ok hF.ok ph)
      have BA := hid (begin_any _ b R H _ vh ps hs b _ psy HFb.out (by simp; omega) HSY.out)
      have GA := hid (fun w (h : FA w b R H (.slice (some ⟨gp, 0, none⟩) ps.length cap) vh ps hs) => get_any w b R H _ vh ps hs ph h)
      unfold folB at hTS
      generalize begF hs psy zero9 = bg at hTS HBL BA
      generalize getH hs ph = hd at hTS HOH GA
      obtain ⟨bg1, bg2⟩ := bg
      dsimp only at hTS HBL BA
      clear hF hfr
      cases bg2
      · simp only [Bool.false_eq_true, if_false] at hTS
        have HTSS := hid hTS
        obtain ⟨a0, a1, a2, a3, a4, a5, a6, a7, a8, e9⟩ := nine HBL.out
        subst e9
        clear hTS
        go_wp2_with (first
          | (at_builtin; refine wpList_append_mine _ rfl _ _ 156 rfl w.heap.size 152 i0 _ 9 9 Try.underlying156 hi0 iz0 iz1 iz2 rfl (by decide) _ _ _ rfl (HO1.out.alloc _) ⟨w1.heap.size + 1, 0, none⟩ 1 1 (bls [a0, a1, a2, a3, a4, a5, a6, a7, a8]) rfl rfl (new_cells2 rfl) (bls_one _) (by unfold maxLen; omega) (by omega) (by have h3 := HFR.out.size; have h4 := hf1.size; simp at h4; simp; omega) ?_)
          | (refine wpList_load_row rfl 152 _ rfl w1.heap.size rfl _ (nineA a0 a1 a2 a3 a4 a5 a6 a7 a8) _ _ (heap_alloc_at _ _) Try.underlying152 rfl szTks ?_)
          | (refine wpList_store_new rfl 152 _ _ rfl w1 _ (nineA a0 a1 a2 a3 a4 a5 a6 a7 a8) _ rfl rfl rfl szTks rfl (tk_one [a0, a1, a2, a3, a4, a5, a6, a7, a8]) ?_)
          | (go_at_call 93; refine BA.out.mono ?_; rintro e w1 ⟨rfl, hf1⟩; have HO1 := hid ((ownsRow_other HO.out (fun g hg => (Mod.trans ((Mod.refl (fun _ => False) wr).alloc _) hf1).block g (HOB.out g hg).2 (fun x => x))).alloc (.cells (nineA a0 a1 a2 a3 a4 a5 a6 a7 a8) 152 (0, 0))))
          | (refine wpList_load_mid rfl 178 _ rfl gp (i * 2) rfl [.int .i64 ph, .slice sao psy.length scap] _ RG.out Try.underlying178 rfl szPV ?_))
        intro v' w5 hown2 hgrow hblk
        have fr2 : Fresh w w5 := Mod.grown (S := fun _ => False) (((HFR.out.alloc _).trans hf1).alloc _ |>.alloc _) hgrow (fun k hk hlt => by have := (HOB.out k hk).1; omega)
        have HO2 := hid hown2
        clear hown2 hgrow hblk
        go_wp2
        go_roundw
        case rel =>
          refine ⟨i + 1, by go_num, by omega, ?_, fr2⟩
          unfold TksOwn
          rw [HTSS.out, flat_snoc, List.length_append, List.length_singleton]
          exact HO2.out
        case measure => exact HME.out
      · simp only [if_true] at hTS
        have HOL := hid (orL_len HBL.out HOH.out.fo)
        have TU := hid (fun w => tunion_any w bg1 hd.fo HBL.out HOH.out.fo)
        generalize orL bg1 hd.fo = OO at hTS HOL TU
        have HTSS := hid hTS
        obtain ⟨a0, a1, a2, a3, a4, a5, a6, a7, a8, e9⟩ := nine HOL.out
        subst e9
        clear hTS
        go_wp2_with (first
          | (at_builtin; refine wpList_append_mine _ rfl _ _ 156 rfl w.heap.size 152 i0 _ 9 9 Try.underlying156 hi0 iz0 iz1 iz2 rfl (by decide) _ _ _ rfl (HO1.out.alloc _) ⟨w3.heap.size, 0, none⟩ 1 1 (bls [a0, a1, a2, a3, a4, a5, a6, a7, a8]) rfl rfl (by have q := @new_cells (w3.setRow w1.heap.size (nineA a0 a1 a2 a3 a4 a5 a6 a7 a8)) (nineA a0 a1 a2 a3 a4 a5 a6 a7 a8) (bls [a0, a1, a2, a3, a4, a5, a6, a7, a8]) 152 rfl; rw [hrs] at q; exact q) (bls_one _) (by unfold maxLen; omega) (by omega) (by have h3 := HFR.out.size; have h4 := f3.out.size; simp at h4; simp; omega) ?_)
          | (refine wpList_load_row rfl 152 _ rfl w1.heap.size rfl _ (nineA a0 a1 a2 a3 a4 a5 a6 a7 a8) _ _ t3'.out Try.underlying152 rfl szTks ?_)
          | (refine wpList_store_row rfl 152 _ _ rfl w1.heap.size (nineA a0 a1 a2 a3 a4 a5 a6 a7 a8) rfl rfl _ _ t3.out szTks (sameSize (tk_size HBL.out) rfl) (tk_one [a0, a1, a2, a3, a4, a5, a6, a7, a8]) ?_)
          | (go_at_call 95; refine (TU.out _).mono ?_; rintro e w3 ⟨rfl, hf3⟩; have t3 := hid (hf3.at (heap_alloc_prev t2.out) (fun x => x)); have f3 : Hid (Fresh wr (w3.setRow w1.heap.size (nineA a0 a1 a2 a3 a4 a5 a6 a7 a8))) := (Mod.trans (f2.out.alloc _) hf3).setRow (by intro q; omega) _; have t3' := hid (setRow_heap _ _ _ (nineA a0 a1 a2 a3 a4 a5 a6 a7 a8) _ _ t3.out); have hrs : (w3.setRow w1.heap.size (nineA a0 a1 a2 a3 a4 a5 a6 a7 a8)).heap.size = w3.heap.size := (by simp); have HO1 := hid (ownsRow_other HO.out (fun g hg => f3.out.block g (HOB.out g hg).2 (fun x => x))))
          | (refine wpList_load_mid rfl 152 _ rfl w2.heap.size 12 rfl (bls hd.fo) _ (hdRangeFo HOH.out (heap_alloc_at _ _)) Try.underlying152 rfl (szTokL HOH.out.fo) ?_)
          | (refine wpList_load_row rfl 152 _ rfl w1.heap.size rfl _ _ _ _ (heap_alloc_prev t2.out) Try.underlying152 rfl (szTokOf HBL.out) ?_)
          | (refine wpList_store_new rfl 154 _ _ rfl w2 _ (hdA hd) _ rfl rfl rfl (szHdOf HOH.out) (sameSize rfl (hd_size HOH.out)) (hd_one _) ?_)
          | (go_at_call 94; refine (GA.out _ (HF.out.fresh (f1.out.alloc _))).mono ?_; rintro e w2 ⟨rfl, hf2⟩; have hz2 : w1.heap.size < w2.heap.size := (by have := hf2.size; simp at this; omega); have f2 : Hid (Fresh wr w2) := Mod.trans (f1.out.alloc _) hf2; have t2 := hid (hf2.at (heap_alloc_at w1 _) (fun x => x)))
          | (refine wpList_store_new rfl 152 _ _ rfl w1 _ (tkA bg1) _ rfl rfl rfl (szTokOf HBL.out) (sameSize rfl (tk_size HBL.out)) (tk_one _) ?_)
          | (go_at_call 93; refine BA.out.mono ?_; rintro e w1 ⟨rfl, hf1⟩; have hz1 : wr.heap.size < w1.heap.size := (by have := hf1.size; simp at this; omega); have f1 : Hid (Fresh wr w1) := Mod.trans ((Mod.refl _ wr).alloc _) hf1; have k1 : (w1.alloc (.cells (tkA bg1) 152 (0, 0))).cell? ⟨wr.heap.size, 0, none⟩ = some (.int .i64 ph) := (by rw [cellOf (heap_alloc_prev (hf1.at (heap_alloc_at _ _) (fun x => x))) 0]; rfl))
          | (refine wpList_load_mid rfl 178 _ rfl gp (i * 2) rfl [.int .i64 ph, .slice sao psy.length scap] _ RG.out Try.underlying178 rfl szPV ?_))
        intro v' w5 hown2 hgrow hblk
        have fr2 : Fresh w w5 := Mod.grown (S := fun _ => False) ((HFR.out.trans f3.out).alloc _) hgrow (fun k hk hlt => by have := (HOB.out k hk).1; omega)
        have HO2 := hid hown2
        clear hown2 hgrow hblk
        go_wp2
        go_roundw
        case rel =>
          refine ⟨i + 1, by go_num, by omega, ?_, fr2⟩
          unfold TksOwn
          rw [HTSS.out, flat_snoc, List.length_append, List.length_singleton]
          exact HO2.out
        case measure => exact HME.out
    · have hie : i = ps.length := by omega
      have hi2 : ¬ (i : Int) < (ps.length : Int) := by omega
      have hye := HTE.out hie
      clear hF hfr
      go_wp2
      go_ret
      refine ⟨_, rfl, HFR.out, ?_⟩
      rw [← hye, HY.out]; exact HO.out
end Go.Proofs.Ytolpddkpfigidaa
namespace Go.Proofs.Ytolpddkpfigidaa
open Go.RowKit
set_option linter.unusedVariables false
set_option linter.unusedSimpArgs false

def ldT (v : Value) : Sem Value := Instr.loadAt 152 v
theorem ldT_rule (v : Value) : Instr.loadAt 152 v = ldT v := rfl
theorem ldT_mid {w : World} {g o : Nat} {l : List Bool} (hl : l.length = 9) (hr : w.rangeAt g o (bls l)) : (ldT (.pointer (some ⟨g, o, none⟩))).run Try.prog w = .ok (.agg (tkA l)) w :=
  run_loadAt_mid w g o _ _ _ hr Try.underlying152 rfl (szTokL hl)
/-- the productions of a head, ahead of which a token stands -/
def ovL (n t : Int) : List (Pr × List Bool) → Nat → List Int
  | [], _ => []
  | p :: l, i => if p.1.head = n ∧ hasT p.2 t = true then (i : Int) :: ovL n t l (i + 1) else ovL n t l (i + 1)
theorem ovL_len (n t : Int) : ∀ (l : List (Pr × List Bool)) (i : Nat), (ovL n t l i).length ≤ l.length
  | [], _ => by simp [ovL]
  | p :: l, i => by
    unfold ovL
    have := ovL_len n t l (i + 1)
    split <;> simp <;> omega

attribute [local go_sem ↓] ldT_rule
set_option maxRecDepth 20000 in
set_option maxHeartbeats 4000000 in
theorem prodsOver_any (w : World) (R H : Int) (vp : Value) (ps : List PV) (hp : PrsAt w w.heap.size vp ps) (hps : ps.length ≤ 1000) (va : Value) (al : List (List Bool)) (base : Nat) (ha : TksOwn w base va al) (hal : al.length = ps.length) (ha9 : ∀ a ∈ al, a.length = 9) (n t : Int) :
    Calls Try.prog 75 #[.agg #[.int .i64 R, .int .i64 H, vp], va, .int .i64 n, .int .i64 t] w fun e w' => ∃ v, e = .returned v ∧ Fresh w w' ∧ IntOwn w' w.heap.size v (ovL n t ((prsOf ps).zip al) 0) := by
  obtain ⟨i0, hi0, iz0, iz1, iz2⟩ := infoI'
  have HP := hid hp
  obtain ⟨pa, pc, hvp⟩ := own_form hp.row.own
  subst hvp
  obtain ⟨aa, ac, hva⟩ := own_form ha
  subst hva
  have HAR : Hid (RowAt bls 9 152 w (.slice aa al.length ac) al) := ⟨ownsRow_base ha (Nat.zero_le _), fun x hx => by simp [bls, ha9 x hx]⟩
  have HA9 := hid ha9
  generalize hR : ovL n t ((prsOf ps).zip al) 0 = RES
  have HR := hid hR
  rw [hal]
  have HAL := hid hal
  clear hp ha ha9 hR hal
  go_enter Try.func75, Try.ntmps75
  go_wp2
  go_loopw [9, 10, 11, 15] (fun x9 _ _ x15 wr => ∃ (i : Nat) (acc : List Int), x15 = .int .i64 i ∧ i ≤ ps.length ∧ acc.length ≤ i ∧ acc ++ ovL n t (((prsOf ps).zip al).drop i) i = RES ∧ IntOwn wr w.heap.size x9 acc ∧ Fresh w wr)
      (fun _ _ _ x _ => 1001 - (intOf x).toNat)
  case atStart => exact ⟨0, [], rfl, by omega, by simp, HR.out, World.ownsRow_nil _ _ _ _, (Mod.refl _ w).alloc _⟩
  case round =>
    obtain ⟨i, acc, rfl, hi, hacc, hres, hown, hfr⟩ := hrel
    have HME := hid (meas (B := 1001) i (by omega))
    have HFR := hid hfr
    have HO := hid hown
    have HOB := hid hown.lt
    obtain ⟨ro, rc, hro⟩ := own_form hown
    subst hro
    clear hown
    by_cases hlt : i < ps.length
    · have hi1 : (i : Int) < (ps.length : Int) := by omega
      have hi3 : i < al.length := by have := HAL.out; omega
      have hzl : i < ((prsOf ps).zip al).length := by have := HAL.out; simp [prsOf]; omega
      rw [List.drop_eq_getElem_cons hzl] at hres
      have hze : ((prsOf ps).zip al)[i] = (ps[i].pr, al[i]) := by simp [prsOf]
      rw [hze] at hres
      unfold ovL at hres
      dsimp only at hres
      have hPr := HP.out.kept (Nat.le_refl _) hfr (fun _ _ x => x)
      obtain ⟨gp, cap', hv'⟩ := Joins.ownsRow_form hPr.row.own (by omega)
      rw [Value.slice.injEq] at hv'
      obtain ⟨rfl, _, rfl⟩ := hv'
      have RG : Hid (wr.rangeAt gp (i * 2) [.int .i64 ps[i].pr.head, ps[i].vs]) := hPr.row.range i hlt
      obtain ⟨sao, scap, hsv, _⟩ := hPr.syms ps[i] (by simp)
      have hra := (HAR.out.fresh hfr)
      obtain ⟨ga, ac', hva'⟩ := Joins.ownsRow_form hra.own (by omega)
      rw [Value.slice.injEq] at hva'
      obtain ⟨rfl, _, rfl⟩ := hva'
      have hrr := hra.range i hi3
      have h9 := HA9.out al[i] (by simp)
      have TH := hid (fun w => thas_any w al[i] t h9)
      generalize hpl : ps[i].pr.syms.length = pl at hsv
      generalize ps[i].pr.head = ph at hres RG
      rw [hsv] at RG
      have l1 : (ldT (.pointer (some ⟨ga, i * 9, none⟩))).run Try.prog (wr.alloc (.cells #[.int .i64 ph, .slice sao pl scap] 178 (0, 0))) = .ok (.agg (tkA al[i])) (wr.alloc (.cells #[.int .i64 ph, .slice sao pl scap] 178 (0, 0))) :=
        ldT_mid h9 (World.rangeAt_alloc hrr _)
      generalize al[i] = ai at hres TH l1
      have b4 : decide ((i : Int) < (ps.length : Int)) = true := by simpa using hi1
      clear hPr hra hrr h9 hfr hze hi3 hzl
      by_cases hh : ph = n
      · subst hh
        generalize hasT ai t = tv at hres TH
        cases tv
        · rw [if_neg (by simp)] at hres
          have HRES := hid hres
          clear hres
          go_wp2_with (first
            | (go_at_call 96; refine (TH.out _).mono ?_; rintro e w1 ⟨rfl, hf1⟩)
            | (refine wpList_load_mid rfl 178 _ rfl gp (i * 2) rfl [.int .i64 ph, .slice sao pl scap] _ RG.out Try.underlying178 rfl szPV ?_))
          go_roundw
          case rel =>
            refine ⟨i + 1, acc, by go_num, by omega, by omega, HRES.out, ?_, (HFR.out.alloc _).trans hf1⟩
            exact ownsRow_other HO.out (fun g hg => (Mod.trans ((Mod.refl (fun _ => False) wr).alloc _) hf1).block g (HOB.out g hg).2 (fun x => x))
          case measure => exact HME.out
        · rw [if_pos ⟨rfl, rfl⟩] at hres
          have HRES := hid hres
          clear hres
          go_wp2_with (first
            | (at_builtin; refine wpList_append_mine _ rfl _ _ 48 rfl w.heap.size 3 i0 _ 1 8 Try.underlying48 hi0 iz0 iz1 iz2 rfl (by decide) _ _ _ rfl (HO1.out.alloc _) ⟨w1.heap.size, 0, none⟩ 1 1 [.int .i64 i] rfl rfl (new_cells rfl) (by intro u hu; simp at hu; subst hu; rfl) (by unfold maxLen; omega) (by omega) (by have h3 := HFR.out.size; have h4 := hf1.size; simp at h4; simp; omega) ?_)
            | (go_at_call 96; refine (TH.out _).mono ?_; rintro e w1 ⟨rfl, hf1⟩; have HO1 := hid (ownsRow_other HO.out (fun g hg => (Mod.trans ((Mod.refl (fun _ => False) wr).alloc _) hf1).block g (HOB.out g hg).2 (fun x => x))))
            | (refine wpList_load_mid rfl 178 _ rfl gp (i * 2) rfl [.int .i64 ph, .slice sao pl scap] _ RG.out Try.underlying178 rfl szPV ?_))
          intro v' w5 hown2 hgrow hblk
          have fr2 : Fresh w w5 := Mod.grown (S := fun _ => False) (((HFR.out.alloc _).trans hf1).alloc _) hgrow (fun k hk hlt => by have := (HOB.out k hk).1; omega)
          have HO2 := hid hown2
          clear hown2 hgrow hblk
          go_wp2
          go_roundw
          case rel =>
            refine ⟨i + 1, acc ++ [(i : Int)], by go_num, by omega, by simp; omega, by rw [List.append_assoc]; exact HRES.out, ?_, fr2⟩
            unfold IntOwn
            rw [List.length_append, List.length_singleton, show nums (acc ++ [(i : Int)]) = nums acc ++ [.int .i64 i] from by simp]
            exact HO2.out
          case measure => exact HME.out
      · have b1 : (ph == n) = false := by simp [hh]
        rw [if_neg (fun h => hh h.1)] at hres
        have HRES := hid hres
        clear hres
        go_wp2_with (first
          | (refine wpList_load_mid rfl 178 _ rfl gp (i * 2) rfl [.int .i64 ph, .slice sao pl scap] _ RG.out Try.underlying178 rfl szPV ?_))
        go_roundw
        case rel =>
          refine ⟨i + 1, acc, by go_num, by omega, by omega, HRES.out, ?_, HFR.out.alloc _⟩
          exact HO.out.alloc _
        case measure => exact HME.out
    · have hie : i = ps.length := by omega
      have hi2 : ¬ (i : Int) < (ps.length : Int) := by omega
      rw [List.drop_eq_nil_of_le (by have := HAL.out; simp [prsOf]; omega)] at hres
      have hres2 : acc = RES := by simpa [ovL] using hres
      subst hres2
      clear hres hfr
      go_wp2
      go_ret
      exact ⟨_, rfl, HFR.out, HO.out⟩
end Go.Proofs.Ytolpddkpfigidaa
namespace Go.Proofs.Ytolpddkpfigidaa
open Go.RowKit
set_option linter.unusedVariables false
set_option linter.unusedSimpArgs false

structure Cl where
  h : Int
  t : Int
  a : Int
  b : Int
def Cl.cells (c : Cl) : List Value := [.int .i64 c.h, .int .i64 c.t, .int .i64 c.a, .int .i64 c.b]
def pairL (n t : Int) : List Int → List Cl
  | [] => []
  | f :: r => (r.map fun s => ⟨n, t, f, s⟩) ++ pairL n t r
def clT (z : List (Pr × List Bool)) (n R : Nat) : Nat → Nat → List Cl
  | 0, _ => []
  | f + 1, t => if t ≤ R then pairL n t (ovL n t z 0) ++ clT z n R f (t + 1) else []
def clN (z : List (Pr × List Bool)) (R H : Nat) : Nat → Nat → List Cl
  | 0, _ => []
  | f + 1, n => if n < H then clT z n R (R + 2) 0 ++ clN z R H f (n + 1) else []
def clashL (z : List (Pr × List Bool)) (R H : Nat) : List Cl := clN z R H (H + 1) 0
theorem pairL_len (n t : Int) : ∀ l : List Int, (pairL n t l).length ≤ l.length * l.length
  | [] => by simp [pairL]
  | f :: r => by
    have ih := pairL_len n t r
    simp only [pairL, List.length_append, List.length_map, List.length_cons]
    have : (r.length + 1) * (r.length + 1) = r.length * r.length + 2 * r.length + 1 := by
      rw [Nat.add_mul, Nat.mul_add]; omega
    omega
theorem pair_le (z : List (Pr × List Bool)) (hz : z.length ≤ 1000) (n t : Int) : (pairL n t (ovL n t z 0)).length ≤ 1000000 := by
  have h1 := pairL_len n t (ovL n t z 0)
  have h2 := ovL_len n t z 0
  have h3 : (ovL n t z 0).length * (ovL n t z 0).length ≤ 1000 * 1000 := Nat.mul_le_mul (by omega) (by omega)
  omega
theorem clT_len (z : List (Pr × List Bool)) (hz : z.length ≤ 1000) (n R : Nat) : ∀ (f t : Nat), (clT z n R f t).length ≤ f * 1000000
  | 0, _ => by simp [clT]
  | f + 1, t => by
    unfold clT
    have h1 := pair_le z hz n t
    have h2 := clT_len z hz n R f (t + 1)
    split
    · rw [List.length_append]; omega
    · simp
theorem clN_len (z : List (Pr × List Bool)) (hz : z.length ≤ 1000) (R H : Nat) (hR : R ≤ 1000) : ∀ (f n : Nat), (clN z R H f n).length ≤ f * 1002000000
  | 0, _ => by simp [clN]
  | f + 1, n => by
    unfold clN
    have h1 := clT_len z hz n R (R + 2) 0
    have h2 := clN_len z hz R H hR f (n + 1)
    split
    · rw [List.length_append]; omega
    · simp
abbrev ClOwn (w : World) (base : Nat) (v : Value) (l : List Cl) : Prop := w.ownsRow base 77 4 v l.length (flatC Cl.cells l)
theorem infoCl : (Try.prog.info? 77).map (fun i => (i.zero, i.size, i.bytes)) = some (some (.agg #[.int .i64 0, .int .i64 0, .int .i64 0, .int .i64 0]), 4, 32) := by kernel_rfl
theorem infoCl' : ∃ i, Try.prog.info? 77 = some i ∧ i.zero = some (.agg #[.int .i64 0, .int .i64 0, .int .i64 0, .int .i64 0]) ∧ i.size = 4 ∧ i.bytes = 32 := by
  have h := infoCl
  cases hq : Try.prog.info? 77 with
  | none => simp [hq] at h
  | some i => simp [hq] at h; exact ⟨i, rfl, h.1, h.2.1, h.2.2⟩
theorem intOwn_cell {w : World} {base : Nat} {g n cap : Nat} {l : List Int} (h : IntOwn w base (.slice (some ⟨g, 0, none⟩) n cap) l) (i : Nat) (hi : i < l.length) : w.cell? ⟨g, i, none⟩ = some (.int .i64 l[i]) := by
  have := h.cells (g := g) rfl i (.int .i64 l[i]) (by simp [hi])
  rwa [Addr.add_mid, Nat.zero_add] at this

set_option maxRecDepth 20000 in
set_option maxHeartbeats 8000000 in
theorem Clashes_any (w : World) (R H : Nat) (vp : Value) (ps : List PV) (hp : PrsAt w w.heap.size vp ps) (hps : ps.length ≤ 1000) (hH : H ≤ 1000) (hR : R ≤ 1000) (hok : ∀ x ∈ allF (prsOf ps) (initH R H), x.ok) :
    Calls Try.prog 47 #[.agg #[.int .i64 R, .int .i64 H, vp]] w fun e w' => ∃ v, e = .returned v ∧ Fresh w w' ∧ ClOwn w' w.heap.size v (clashL ((prsOf ps).zip (aheadsF (allF (prsOf ps) (initH R H)) (prsOf ps))) R H) := by
  obtain ⟨i0, hi0, iz0, iz1, iz2⟩ := infoCl'
  obtain ⟨pa, pc, hvp⟩ := own_form hp.row.own
  subst hvp
  have HP := hid hp
  have FI := hid (find_any' (w.alloc (.cells #[.int .i64 R, .int .i64 H, .slice pa ps.length pc] 114 (0, 0))) R H (.slice pa ps.length pc) ps ((hp.kept (Nat.le_refl _) ((Mod.refl (fun _ => False) w).alloc _) (fun _ _ x => x)).up (by simp)) hps hH hR)
  generalize allF (prsOf ps) (initH R H) = AL at FI hok
  have hzl : ((prsOf ps).zip (aheadsF AL (prsOf ps))).length ≤ 1000 := by simp [aheadsF, prsOf]; omega
  have hal : (aheadsF AL (prsOf ps)).length = ps.length := by simp [aheadsF, prsOf]
  have ha9 : ∀ a ∈ aheadsF AL (prsOf ps), a.length = 9 := fun a ha => by
    obtain ⟨p, _, rfl⟩ := List.mem_map.1 ha
    exact folB_len hok _ _
  have hlR := clN_len _ hzl R H hR (H + 1) 0
  generalize hRES : clashL ((prsOf ps).zip (aheadsF AL (prsOf ps))) R H = RES
  have HRES0 := hid hRES
  have hlen : RES.length ≤ 1003002000000 := by
    rw [← hRES]; unfold clashL; omega
  clear hp hRES hlR hok
  go_enter Try.func47, Try.ntmps47
  go_wp2_with (first
    | (go_at_call 74; refine (findAhead_any w1 b R H (.slice pa ps.length pc) vh ps AL hF1 hps).mono ?_; rintro e w2 ⟨va, rfl, hf2, hoa⟩)
    | (go_at_call 72; refine FI.out.mono ?_; rintro e w1 ⟨b, vh, rfl, hf1, hF1⟩))
  have HBT := hid (hf2.at (hf1.at (heap_alloc_at _ _) (fun x => x)) (fun x => x))
  have HF2 : Hid (Fresh w w2) := Mod.trans ((Mod.refl _ w).alloc _) (hf1.trans hf2)
  have HOA := hid hoa
  have PO := hid (fun (W : World) (hW : Fresh w2 W) (n t : Nat) => prodsOver_any W R H (.slice pa ps.length pc) ps ((HP.out.kept (Nat.le_refl _) (HF2.out.trans hW) (fun _ _ x => x)).up ((HF2.out.trans hW).size)) hps va (aheadsF AL (prsOf ps)) _ (ownsRow_other hoa (fun g hg => hW.block g (hoa.lt g hg).2 (fun x => x))) hal ha9 (n : Int) (t : Int))
  have hzo := hf2.size
  have hzw := HF2.out.size
  generalize (prsOf ps).zip (aheadsF AL (prsOf ps)) = z at HRES0 hzl PO
  clear hoa hF1 hf1 hf2 FI hal ha9
  go_loopw [5, 6, 7, 8, 9, 10, 12, 36, 46] (fun x5 x6 _ _ _ _ _ _ _ wr => ∃ (n : Nat) (acc : List Cl), x6 = .int .i64 n ∧ n ≤ H ∧ acc ++ clN z R H (H + 1 - n) n = RES ∧ ClOwn wr w2.heap.size x5 acc ∧ Fresh w2 wr)
      (fun _ x _ _ _ _ _ _ _ _ => H + 1 - (intOf x).toNat)
  case atStart => exact ⟨0, [], rfl, by omega, HRES0.out, World.ownsRow_nil _ _ _ _, Mod.refl _ _⟩
  case round =>
    obtain ⟨n, acc, rfl, hn, hres, hown, hfr⟩ := hrel
    have HMN := hid (meas (B := H + 1) n (by omega))
    have HFR := hid hfr
    have c1 := cellOf (hfr.at HBT.out (fun x => x)) 1
    have c0 := cellOf (hfr.at HBT.out (fun x => x)) 0
    simp at c1 c0
    obtain ⟨ro, rc, hro⟩ := own_form hown
    have HO := hid hown
    subst hro
    clear hown hfr
    by_cases hlt : n < H
    · have hn1 : (n : Int) < (H : Int) := by omega
      rw [show H + 1 - n = (H - n) + 1 by omega] at hres
      unfold clN at hres
      rw [if_pos hlt] at hres
      have HRN := hid hres
      clear hres
      obtain ⟨wn, hwn⟩ : ∃ wn, wn = wr := ⟨_, rfl⟩
      subst hwn
      go_wp2
      go_loopw [5, 7, 8, 9, 10, 12, 36, 46] (fun x5 x7 _ _ _ _ _ _ wr => ∃ (t : Nat) (acc : List Cl), x7 = .int .i64 t ∧ t ≤ R + 1 ∧ acc ++ (clT z n R (R + 2 - t) t ++ clN z R H (H - n) (n + 1)) = RES ∧ ClOwn wr w2.heap.size x5 acc ∧ Fresh w2 wr)
          (fun _ x _ _ _ _ _ _ _ => R + 2 - (intOf x).toNat)
      case atStart => exact ⟨0, acc, rfl, by omega, HRN.out, HO.out, HFR.out⟩
      case round =>
        obtain ⟨t, acc, rfl, ht, hres, hown, hfr⟩ := hrel
        have HMT := hid (meas (B := R + 2) t (by omega))
        have HFT := hid hfr
        have hb1 := heap_lt (hfr.at HBT.out (fun x => x))
        have c1 := cellOf (hfr.at HBT.out (fun x => x)) 1
        have c0 := cellOf (hfr.at HBT.out (fun x => x)) 0
        have c2 := cellOf (hfr.at HBT.out (fun x => x)) 2
        simp at c1 c0 c2
        obtain ⟨so, sc, hso⟩ := own_form hown
        have HOT := hid hown
        subst hso
        clear hown hfr
        by_cases hlt2 : t ≤ R
        · have ht1 : (t : Int) ≤ (R : Int) := by omega
          rw [show R + 2 - t = (R + 1 - t) + 1 by omega] at hres
          unfold clT at hres
          rw [if_pos hlt2, List.append_assoc] at hres
          obtain ⟨wt, hwt⟩ : ∃ wt, wt = wr := ⟨_, rfl⟩
          subst hwt
          have POT := hid (PO.out wt HFT.out n t)
          generalize hov : ovL (n : Int) (t : Int) z 0 = able at hres POT
          have hal2 : able.length ≤ 1000 := by rw [← hov]; have := ovL_len n t z 0; omega
          generalize hREST : clT z n R (R + 1 - t) (t + 1) ++ clN z R H (H - n) (n + 1) = REST at hres
          have HREST := hid hREST
          clear hREST
          have HRT := hid hres
          clear hres hov
          have HFT2 := HFT
          go_wp2_with (first
            | (go_at_call 75; refine POT.out.mono ?_; rintro e w3 ⟨v8, rfl, hf3, ho8⟩; obtain ⟨a8, c8, e8⟩ := own_form ho8; subst e8; have HO8 := hid ho8; have HF3 := hid (HFT.out.trans hf3); have HOC := hid (ownsRow_other HOT.out (fun g hg => hf3.block g (HOT.out.lt g hg).2 (fun x => x))); have HDI : Hid (∀ k, (Value.slice so acc.length sc).ownBlock = some k → (Value.slice a8 able.length c8).ownBlock ≠ some k) := (fun k hk e => by have q1 := (HOT.out.lt k hk).2; have q2 := (ho8.lt k e).1; omega); clear ho8 hf3)
            | (refine wpList_load_row rfl 114 _ rfl w.heap.size rfl _ #[.int .i64 R, .int .i64 H, .slice pa ps.length pc] _ _ (HFT.out.at HBT.out (fun x => x)) Try.underlying114 rfl szTab ?_))
          clear c0 c1 c2
          go_loopw [5, 9, 10, 12, 36, 46] (fun x5 _ _ _ x36 _ wr => ∃ (i : Nat) (acc : List Cl), x36 = .int .i64 i ∧ i ≤ able.length ∧ acc ++ (pairL n t (able.drop i) ++ REST) = RES ∧ ClOwn wr w2.heap.size x5 acc ∧ IntOwn wr wt.heap.size (.slice a8 able.length c8) able ∧ (∀ k, x5.ownBlock = some k → (Value.slice a8 able.length c8).ownBlock ≠ some k) ∧ Fresh w2 wr)
              (fun _ _ _ _ x _ _ => 1001 - (intOf x).toNat)
          case atStart => exact ⟨0, acc, rfl, by omega, HRT.out, HOC.out, HO8.out, HDI.out, HF3.out⟩
          case round =>
            obtain ⟨i, acc, rfl, hi, hres, hown, ho8, hdi, hfr⟩ := hrel
            have HMI := hid (meas (B := 1001) i (by omega))
            have HFI := hid hfr
            have HOI := hid hown
            have HO8I := hid ho8
            have HDII := hid hdi
            obtain ⟨qo, qc, hqo⟩ := own_form hown
            subst hqo
            clear hown hfr hdi
            by_cases hlti : i < able.length
            · have hi1 : (i : Int) < (able.length : Int) := by omega
              obtain ⟨g8, c8', hv8⟩ := Joins.ownsRow_form ho8 (by omega)
              rw [Value.slice.injEq] at hv8
              obtain ⟨rfl, _, rfl⟩ := hv8
              have hcap : able.length ≤ c8 := by
                rcases ho8.2 with ⟨h1, _⟩ | ⟨g', cap', cur, h1, _, _, h4, _⟩
                · cases h1
                · rw [Value.slice.injEq] at h1; omega
              have hcm : c8 ≤ 2 ^ 63 - 1 := by
                rcases ho8.2 with ⟨h1, _⟩ | ⟨g', cap', cur, h1, _, _, _, h5, _⟩
                · cases h1
                · rw [Value.slice.injEq] at h1; unfold maxLen at h5; omega
              have d1 := intOwn_cell ho8 i hlti
              rw [List.drop_eq_getElem_cons hlti] at hres
              unfold pairL at hres
              rw [List.append_assoc] at hres
              generalize able[i] = fst at hres d1
              generalize hR2 : pairL n t (able.drop (i + 1)) ++ REST = REST2 at hres
              have HR2 := hid hR2
              have HRI := hid hres
              clear hres ho8 hR2
              obtain ⟨wi, hwi⟩ : ∃ wi, wi = wr := ⟨_, rfl⟩
              subst hwi
              rcases (show c8 = i + 1 ∨ ¬ c8 = i + 1 by omega) with hc8 | hc8
              · have hle : able.length = i + 1 := by omega
                have HE : Hid (acc ++ REST2 = RES) := by
                  have := HRI.out
                  rw [List.drop_eq_nil_of_le (by omega)] at this
                  unfold Hid
                  simpa using this
                have h0 : able.length - (i + 1) = 0 := by omega
                subst hc8
                have HLE := hid hle
                clear hle
                go_wp2
                go_loopw [5, 12, 46] (fun x5 _ x46 wr => x5 = .slice qo acc.length qc ∧ x46 = .int .i64 0 ∧ wr = wi)
                    (fun _ _ _ _ => 0)
                case atStart => exact ⟨rfl, rfl, rfl⟩
                case round =>
                  obtain ⟨rfl, rfl, hwr⟩ := hrel
                  subst hwr
                  go_wp2
                  go_roundw
                  case rel => exact ⟨i + 1, acc, by go_num, by omega, by rw [HR2.out]; exact HE.out, HOI.out, HO8I.out, HDII.out, HFI.out⟩
                  case measure => exact HMI.out
              · have hc9 : ¬ c8 - (i + 1) = 0 := by omega
                go_wp2
                go_loopw [5, 12, 46] (fun x5 _ x46 wr => ∃ (j : Nat) (acc : List Cl), x46 = .int .i64 j ∧ j ≤ able.length - (i + 1) ∧ acc ++ ((((able.drop (i + 1)).drop j).map fun s => (⟨n, t, fst, s⟩ : Cl)) ++ REST2) = RES ∧ ClOwn wr w2.heap.size x5 acc ∧ IntOwn wr wt.heap.size (.slice (some ⟨g8, 0, none⟩) able.length c8) able ∧ (∀ k, x5.ownBlock = some k → (Value.slice (some ⟨g8, 0, none⟩) able.length c8).ownBlock ≠ some k) ∧ Fresh w2 wr)
                    (fun _ _ x _ => 1001 - (intOf x).toNat)
                case atStart => exact ⟨0, acc, rfl, by omega, HRI.out, HOI.out, HO8I.out, HDII.out, HFI.out⟩
                case round =>
                  obtain ⟨j, acc, rfl, hj, hres, hown, ho8, hdi, hfr⟩ := hrel
                  have HMJ := hid (meas (B := 1001) j (by omega))
                  have HFJ := hid hfr
                  have HOJ := hid hown
                  have HO8J := hid ho8
                  have HDJ := hid hdi
                  have hlacc : acc.length ≤ RES.length := by rw [← hres]; simp
                  obtain ⟨qo, qc, hqo⟩ := own_form hown
                  subst hqo
                  have hzj := hfr.size
                  clear hown hfr hdi
                  by_cases hltj : j < able.length - (i + 1)
                  · have hj1 : (j : Int) < ((able.length - (i + 1) : Nat) : Int) := by omega
                    have hdl : j < (able.drop (i + 1)).length := by simp; omega
                    rw [List.drop_eq_getElem_cons hdl, List.map_cons] at hres
                    have d2 := intOwn_cell ho8 (i + 1 + j) (by omega)
                    have hge : (able.drop (i + 1))[j] = able[i + 1 + j]'(by omega) := by simp
                    rw [hge] at hres
                    generalize able[i + 1 + j]'(by omega) = snd at hres d2
                    have HRJ := hid hres
                    clear hres ho8
                    go_wp2_with (first
                      | (at_builtin; refine wpList_append_mine _ rfl _ _ 70 rfl w2.heap.size 77 i0 _ 4 32 Try.underlying70 hi0 iz0 iz1 iz2 rfl (by decide) _ _ _ rfl (HOJ.out.alloc _) ⟨wr.heap.size, 0, none⟩ 1 1 [.int .i64 n, .int .i64 t, .int .i64 fst, .int .i64 snd] rfl rfl (new_cells rfl) (by intro u hu; simp at hu; rcases hu with rfl | rfl | rfl | rfl <;> rfl) (by unfold maxLen; omega) (by omega) (by simp; omega) ?_))
                    intro v' w5 hown2 hgrow hblk
                    have HF5 : Hid (Fresh w2 w5) := Mod.grown (S := fun _ => False) (HFJ.out.alloc _) hgrow (fun k hk hlt => by have := (HOJ.out.lt k hk).1; omega)
                    have H85 : Hid (IntOwn w5 wt.heap.size (.slice (some ⟨g8, 0, none⟩) able.length c8) able) := ownsRow_other (HO8J.out.alloc _) (fun g hg => hgrow.block g ((HO8J.out.alloc _).lt g hg).2 (fun e => HDJ.out g e.symm hg))
                    have HD5 : Hid (∀ k, v'.ownBlock = some k → (Value.slice (some ⟨g8, 0, none⟩) able.length c8).ownBlock ≠ some k) := fun k hk e => by
                      rcases hblk k hk with q1 | q1
                      · exact HDJ.out k q1 e
                      · have q2 := (HO8J.out.lt k e).2
                        first | omega | (simp at q1; omega)
                    have HO5 := hid hown2
                    clear hown2 hgrow hblk
                    go_wp2
                    go_roundw
                    case rel =>
                      refine ⟨j + 1, acc ++ [⟨n, t, fst, snd⟩], by go_num, by omega, ?_, ?_, H85.out, HD5.out, HF5.out⟩
                      · rw [List.append_assoc]; exact HRJ.out
                      · unfold ClOwn
                        rw [flat_snoc, List.length_append, List.length_singleton]
                        exact HO5.out
                    case measure => exact HMJ.out
                  · have hje : j = able.length - (i + 1) := by omega
                    have hj2 : ¬ (j : Int) < ((able.length - (i + 1) : Nat) : Int) := by omega
                    rw [List.drop_eq_nil_of_le (by simp; omega), List.map_nil, List.nil_append] at hres
                    have HRJ := hid hres
                    clear hres ho8
                    go_wp2
                    go_roundw
                    case rel => exact ⟨i + 1, acc, by go_num, by omega, by rw [HR2.out]; exact HRJ.out, HOJ.out, HO8J.out, HDJ.out, HFJ.out⟩
                    case measure => exact HMI.out
            · have hie : i = able.length := by omega
              have hi2 : ¬ (i : Int) < (able.length : Int) := by omega
              rw [hie, List.drop_length] at hres
              have HRI : Hid (acc ++ REST = RES) := by unfold Hid; simpa [pairL] using hres
              clear hres ho8
              go_wp2
              go_roundw
              case rel => exact ⟨t + 1, acc, by go_num, by omega, by rw [show R + 2 - (t + 1) = R + 1 - t by omega, HREST.out]; exact HRI.out, HOI.out, HFI.out⟩
              case measure => exact HMT.out
        · have hte : t = R + 1 := by omega
          have ht2 : ¬ (t : Int) ≤ (R : Int) := by omega
          rw [show R + 2 - t = 1 by omega] at hres
          unfold clT at hres
          rw [if_neg hlt2, List.nil_append] at hres
          have HRT := hid hres
          clear hres
          go_wp2
          go_roundw
          case rel => exact ⟨n + 1, acc, by go_num, by omega, by rw [show H + 1 - (n + 1) = H - n by omega]; exact HRT.out, HOT.out, HFT.out⟩
          case measure => exact HMN.out
    · have hne : n = H := by omega
      have hn2 : ¬ (n : Int) < (H : Int) := by omega
      rw [show H + 1 - n = 1 by omega] at hres
      unfold clN at hres
      rw [if_neg hlt, List.append_nil] at hres
      subst hres
      go_wp2
      go_ret
      exact ⟨_, rfl, HF2.out.trans HFR.out, ownsRow_base HO.out hzw⟩
end Go.Proofs.Ytolpddkpfigidaa
namespace Go.Proofs.Ytolpddkpfigidaa
open Go.RowKit
set_option linter.unusedVariables false
set_option linter.unusedSimpArgs false

def clashF (s : ByteArray) : List Cl := clashL ((tableOf (rLines s).1).zip (aheadsF (setsF s) (tableOf (rLines s).1))) (frontsOf (rLines s).1).length (headsOf (rLines s).1).length
def ClashRet (s : ByteArray) (w : World) (e : Ending) (w' : World) : Prop :=
  ∃ v, e = .returned (.tuple #[v, .int .i64 0]) ∧ Fresh w w' ∧ ClOwn w' w.heap.size v (clashF s)

set_option maxRecDepth 20000 in
set_option maxHeartbeats 4000000 in
theorem clashes_good (s : ByteArray) (w : World) (hs : s.size ≤ maxLen) (hc : (checkF s).1 = 0) (hok : ∀ x ∈ setsF s, x.ok) :
    Calls Try.prog 30 #[.string s] w fun e w' => ClashRet s w e w' := by
  have TB := hid (fun w => table_good s w hs hc)
  obtain ⟨z1, z2, z3⟩ := tab_sizes hc
  have HZ : Hid (∀ pvs : List PV, pvs.map PV.pr = tableOf (rLines s).1 → pvs.length ≤ 1000) := fun pvs h => by
    have : pvs.length = (tableOf (rLines s).1).length := by rw [← h]; simp
    omega
  have HSF : Hid (∀ pvs : List PV, pvs.map PV.pr = tableOf (rLines s).1 → (∀ x ∈ allF (prsOf pvs) (initH ((frontsOf (rLines s).1).length : Nat) (headsOf (rLines s).1).length), x.ok) ∧ clashL ((prsOf pvs).zip (aheadsF (allF (prsOf pvs) (initH ((frontsOf (rLines s).1).length : Nat) (headsOf (rLines s).1).length)) (prsOf pvs))) (frontsOf (rLines s).1).length (headsOf (rLines s).1).length = clashF s) := fun pvs h => by
    unfold prsOf; rw [h]; exact ⟨hok, rfl⟩
  unfold ClashRet
  unfold TableRet at TB
  generalize (frontsOf (rLines s).1).length = R at TB z1 HSF
  generalize (headsOf (rLines s).1).length = H at TB z2 HSF
  generalize clashF s = CF at HSF
  generalize tableOf (rLines s).1 = TAB at TB HZ HSF
  clear hc z3 hok
  go_enter Try.func30, Try.ntmps30
  go_wp2_with (first
    | (go_at_call 47; refine (Clashes_any _ R H _ pvs (HPU.out _) (HZ.out pvs hmap) (by omega) (by omega) (HSF.out pvs hmap).1).mono ?_; rintro e w2 ⟨v, rfl, hf2, hcl⟩)
    | (go_at_call 44; refine (TB.out _).mono ?_; rintro e w1 ⟨vp, pvs, rfl, hf1, hmap, hprs⟩; obtain ⟨ra, rc, hvp⟩ := own_form hprs.row.own; subst hvp; have HPU : Hid (∀ o : Obj, PrsAt (w1.alloc o) (w1.alloc o).heap.size (.slice ra pvs.length rc) pvs) := fun o => (hprs.kept (Nat.le_refl _) ((Mod.refl (fun _ => False) w1).alloc o) (fun _ _ x => x)).up (by simp)))
  go_ret2
  have hfw : Fresh w (w1.alloc (.cells #[.int .i64 R, .int .i64 H, .slice ra pvs.length rc] 114 (0, 0))) := hf1.alloc _
  rw [(HSF.out pvs hmap).2] at hcl
  exact ⟨_, rfl, hfw.trans hf2, ownsRow_base hcl hfw.size⟩

set_option maxRecDepth 20000 in
set_option maxHeartbeats 4000000 in
theorem clashes_bad (s : ByteArray) (w : World) (hs : s.size ≤ maxLen) (hc : (checkF s).1 ≠ 0) :
    Calls Try.prog 30 #[.string s] w fun e w' => e = .returned (.tuple #[.slice none 0 0, .int .i64 (checkF s).1]) ∧ Fresh w w' := by
  have TB := hid (fun w => table_bad s w hs hc)
  have c0 : ((checkF s).1 != 0) = true := by simpa using hc
  clear hc
  go_enter Try.func30, Try.ntmps30
  go_wp2_with (first
    | (go_at_call 44; refine (TB.out _).mono ?_; rintro e w1 ⟨rfl, hf1⟩))
  go_ret2
  exact ⟨rfl, hf1.alloc _⟩
end Go.Proofs.Ytolpddkpfigidaa
namespace Go.Proofs.Ytolpddkpfigidaa
open Go.RowKit
set_option linter.unusedVariables false
set_option linter.unusedSimpArgs false

/-- the keep's front of a production: what stands ahead of it by the sets -/
def frF (svs : List SV) (nR : Nat) (q : Int) (sy : List Int) : List Bool :=
  if (kaF svs sy (List.replicate (nR + 1) false)).2 then setAll (kaF svs sy (List.replicate (nR + 1) false)).1 (listT (hdAt svs (-1 - q)).fo) else (kaF svs sy (List.replicate (nR + 1) false)).1
theorem frF_len (svs : List SV) (nR : Nat) (q : Int) (sy : List Int) : (frF svs nR q sy).length = nR + 1 := by
  unfold frF
  split
  · rw [setAll_len, kaF_len]; simp
  · rw [kaF_len]; simp
section
variable {ps : List Pr} {R H : Nat} {hs : List Hd} {svs : List SV}
theorem frF_at (hT : TabOk ps R H) (hR : R ≤ 8) (hS : SetsOk ps R H hs) (hsv : svs.map SV.hd = hs) {p : Pr} (hp : p ∈ ps) : EqB (frF svs R p.head (p.syms.map sInt)) (folB hs p.head p.syms) := by
  have hrep : EqB (List.replicate (R + 1) false) zero9 := fun t => by
    rw [zero9_at]
    by_cases h : t < R + 1 <;> simp [h, List.getElem?_replicate]
  obtain ⟨k1, k2⟩ := ka_beg hR hS hsv p.syms zero9 (List.replicate (R + 1) false) (hT.sy p hp) (by simp) rfl hrep
  have hkl := kaF_len svs (p.syms.map sInt) (List.replicate (R + 1) false)
  rw [List.length_replicate] at hkl
  have hfo := (getH_ok hS.ok p.head).fo
  have ehd : hdAt svs (-1 - p.head) = getH hs p.head := by
    obtain ⟨h0, hn⟩ := hT.hd p hp
    exact hdAt_eq (s := ⟨true, p.head⟩) hsv hS.len rfl h0 hn
  unfold frF folB
  rw [k2, ehd]
  split
  · intro t
    rw [setAll_at, orL_at (by rw [begF_len hS.ok _ _ rfl, hfo]), listT_any hfo, k1 t]
    intro k hk
    obtain ⟨q1, q2, q3⟩ := (listL_mem _ 9).2 k hk
    have := hS.bfo p.head _ q3
    exact ⟨q1, by omega⟩
  · exact k1
end

/-- The clashes that the keep looks for. -/
structure ApOk (svs : List SV) (nR : Nat) (head : List Int) (syms : List (List Int)) (z : List (Pr × List Bool)) : Prop where
  zl : z.length = syms.length
  zh : ∀ p (hp : p < z.length), head[p]? = some z[p].1.head
  zt : ∀ p (hp : p < z.length) (hs : p < syms.length) (t : Nat), (frF svs nR z[p].1.head syms[p]).getD t false = z[p].2.getD t false
theorem apOk {ps : List Pr} {R H : Nat} {hs : List Hd} {svs : List SV} (hT : TabOk ps R H) (hR : R ≤ 8) (hS : SetsOk ps R H hs) (hsv : svs.map SV.hd = hs) :
    ApOk svs R (ps.map Pr.head) (ps.map fun p => p.syms.map sInt) (ps.zip (aheadsF hs ps)) := by
  have hl : (ps.zip (aheadsF hs ps)).length = ps.length := by simp [aheadsF]
  refine ⟨by rw [hl]; simp, fun p hp => ?_, fun p hp h2 t => ?_⟩
  · have h3 : p < ps.length := by omega
    simp [h3]
  · have h3 : p < ps.length := by omega
    have := frF_at hT hR hS hsv (p := ps[p]) (by simp) t
    simpa [aheadsF] using this

/-- the two clashes are one -/
theorem isAggI (w : World) : (isAgg 3).run Try.prog w = .ok false w := by
  unfold isAgg; rw [Sem.run_bind, run_underlying Try.underlying3]; rfl
theorem partI (xs : Array Value) (i : Nat) (v : Value) (h : xs[i]? = some v) (w : World) : (part 3 xs i).run Try.prog w = .ok v w := by
  simp [part, isAggI, h]
theorem stoodCl : Try.prog.stoodInHeld 77 = false := by kernel_rfl
theorem guardCl : Try.prog.eqGuardType Try.prog.depth 77 = false := by kernel_rfl
abbrev clA (h t a b : Int) : Array Value := #[.int .i64 h, .int .i64 t, .int .i64 a, .int .i64 b]
theorem eqCl (d : Nat) (h t a b : Int) (w : World) : (Op.equalIn (d + 4) 77 (.agg (clA h t a b)) (.agg (clA h t a b))).run Try.prog w = .ok true w := by
  rw [run_equalIn_struct w (d + 3) _ _ _ (by kernel_rfl) stoodCl]
  have hf : ((Try.prog.fieldsOf 77).toList.map fun f => (f.name, f.type, f.offset)) = [("Head", 3, 0), ("Token", 3, 1), ("First", 3, 2), ("Second", 3, 3)] := by kernel_rfl
  generalize (Try.prog.fieldsOf 77).toList = fs at hf
  rcases fs with _ | ⟨f0, _ | ⟨f1, _ | ⟨f2, _ | ⟨f3, _ | ⟨f4, fs⟩⟩⟩⟩⟩ <;> simp at hf
  obtain ⟨⟨n0, t0, o0⟩, ⟨n1, t1, o1⟩, ⟨n2, t2, o2⟩, ⟨n3, t3, o3⟩⟩ := hf
  simp only [Op.eqFields, n0, t0, o0, n1, t1, o1, n2, t2, o2, n3, t3, o3]
  simp [partI, run_equalIn_int w (d + 2) 3 .i64 _ _ _ Try.underlying3]
end Go.Proofs.Ytolpddkpfigidaa
namespace Go.Proofs.Ytolpddkpfigidaa
open Go.RowKit
set_option linter.unusedVariables false
set_option linter.unusedSimpArgs false

/-- the fronts in memory: a row of slices, each of a block of its own -/
structure FrAt (w : World) (base n : Nat) (v : Value) (gs : List Nat) (fr : List (List Bool)) : Prop where
  own : w.ownsRow base 47 1 v gs.length (gs.map fun g => .slice (some ⟨g, 0, none⟩) n n)
  len : gs.length = fr.length
  blk : ∀ (i g : Nat) (f : List Bool), gs[i]? = some g → fr[i]? = some f → g < w.heap.size ∧ w.heap[g]? = some (.cells (tkA f) 4 (0, 0))
  ne : ∀ g ∈ gs, v.ownBlock ≠ some g
theorem FrAt.fresh {w w' : World} {base n : Nat} {v : Value} {gs : List Nat} {fr : List (List Bool)} (h : FrAt w base n v gs fr) (hf : Fresh w w') : FrAt w' base n v gs fr :=
  ⟨ownsRow_other h.own (fun g hg => hf.block g (h.own.lt g hg).2 (fun x => x)), h.len, fun i g f h1 h2 => ⟨by have := hf.size; have := (h.blk i g f h1 h2).1; omega, hf.at (h.blk i g f h1 h2).2 (fun x => x)⟩, h.ne⟩
theorem FrAt.nil (w : World) (base n : Nat) : FrAt w base n (.slice none 0 0) [] [] :=
  ⟨World.ownsRow_nil _ _ _ _, rfl, fun i g f h => by simp at h, fun g h => by simp at h⟩
theorem FrAt.next {w w' : World} {base n : Nat} {v v' : Value} {gs : List Nat} {fr : List (List Bool)} {g : Nat} {f : List Bool} (h : FrAt w base n v gs fr) (hg : w.heap[g]? = some (.cells (tkA f) 4 (0, 0))) (hne : v.ownBlock ≠ some g)
    (hown : w'.ownsRow base 47 1 v' (gs.length + 1) ((gs.map fun g => .slice (some ⟨g, 0, none⟩) n n) ++ [.slice (some ⟨g, 0, none⟩) n n])) (hgr : w.grownBy w' v.ownBlock) (hblk : ∀ k, v'.ownBlock = some k → v.ownBlock = some k ∨ w.heap.size ≤ k) :
    FrAt w' base n v' (gs ++ [g]) (fr ++ [f]) := by
  have hgl := heap_lt hg
  have hk : ∀ (k : Nat) (o : Obj), k < w.heap.size → v.ownBlock ≠ some k → w.heap[k]? = some o → w'.heap[k]? = some o := fun k o h1 h2 h3 => by
    rw [hgr.block k h1 (fun e => h2 e.symm)]; exact h3
  have hsz : w.heap.size ≤ w'.heap.size := hgr.size
  refine ⟨by simpa using hown, by simp [h.len], fun i g' f' h1 h2 => ?_, fun g' h1 e => ?_⟩
  · by_cases hi : i < gs.length
    · rw [List.getElem?_append_left hi] at h1
      rw [List.getElem?_append_left (by rw [← h.len]; exact hi)] at h2
      obtain ⟨q1, q2⟩ := h.blk i g' f' h1 h2
      exact ⟨by omega, hk _ _ q1 (h.ne g' (List.mem_of_getElem? h1)) q2⟩
    · have hi2 : i = gs.length := by
        have := (List.getElem?_eq_some_iff.1 h1).1
        simp at this; omega
      subst hi2
      rw [List.getElem?_append_right (Nat.le_refl _)] at h1
      rw [h.len, List.getElem?_append_right (Nat.le_refl _)] at h2
      simp at h1 h2
      subst h1; subst h2
      exact ⟨by omega, hk _ _ hgl hne hg⟩
  · rcases hblk _ e with q | q
    · simp only [List.mem_append, List.mem_singleton] at h1
      rcases h1 with h1 | rfl
      · exact h.ne g' h1 q
      · exact hne q
    · simp only [List.mem_append, List.mem_singleton] at h1
      rcases h1 with h1 | rfl
      · obtain ⟨i, hi, rfl⟩ := List.getElem_of_mem h1
        have := (h.blk i gs[i] (fr[i]'(by rw [← h.len]; exact hi)) (by simp [hi]) (by simp [← h.len, hi])).1
        omega
      · omega
theorem infoBS : (Try.prog.info? 47).map (fun i => (i.zero, i.size, i.bytes)) = some (some (.slice none 0 0), 1, 24) := by kernel_rfl
theorem infoBS' : ∃ i, Try.prog.info? 47 = some i ∧ i.zero = some (.slice none 0 0) ∧ i.size = 1 ∧ i.bytes = 24 := by
  have h := infoBS
  cases hq : Try.prog.info? 47 with
  | none => simp [hq] at h
  | some i => simp [hq] at h; exact ⟨i, rfl, h.1, h.2.1, h.2.2⟩
def frL (svs : List SV) (nR : Nat) (head : List Int) (syms : List (List Int)) : List (List Bool) := (head.zip syms).map fun x => frF svs nR x.1 x.2
end Go.Proofs.Ytolpddkpfigidaa
namespace Go.Proofs.Ytolpddkpfigidaa
open Go.RowKit
set_option linter.unusedVariables false
set_option linter.unusedSimpArgs false

def ldC (v : Value) : Sem Value := Instr.loadAt 77 v
theorem ldC_rule (v : Value) : Instr.loadAt 77 v = ldC v := rfl
theorem szCl : (Try.prog.info? 77).map (·.size) = some 4 := by kernel_rfl
theorem ldC_mid {w : World} {g o : Nat} {h t a b : Int} (hr : w.rangeAt g o (Cl.mk h t a b).cells) : (ldC (.pointer (some ⟨g, o, none⟩))).run Try.prog w = .ok (.agg (clA h t a b)) w :=
  run_loadAt_mid w g o _ _ _ hr Try.underlying77 rfl szCl
attribute [local go_sem ↓] ldC_rule

set_option maxRecDepth 20000 in
set_option maxHeartbeats 1000000 in
theorem apart_good (s : ByteArray) (w : World) (hs : s.size ≤ 800) (hc : checkF s = (0, 0)) (hl2 : (linesF s).2 = true) (hok : ∀ x ∈ setsF s, x.ok)
    (hH : (setsF s).length = (linesF s).1.heads.length) (hCO : ∀ svs : List SV, svs.map SV.hd = setsF s → ClosedOk svs (linesF s).1.rules.length (linesF s).1.head (linesF s).1.syms)
    (Z : List (Pr × List Bool)) (hZ : clashF s = clashL Z (linesF s).1.rules.length (linesF s).1.heads.length) (hAP : ∀ svs : List SV, svs.map SV.hd = setsF s → ApOk svs (linesF s).1.rules.length (linesF s).1.head (linesF s).1.syms Z) (hCL : (clashF s).length ≤ 2000000000000) :
    Calls Try.prog 9 #[.string s] w fun e w' => e = .returned (.bool true) ∧ Fresh w w' := by
  have C1 := hid (fun w => right_good s w hs hc)
  have C2 := hid (fun w => clashes_good s w (by unfold maxLen; omega) (by rw [hc]) hok)
  have C3 := hid (fun w => check_any s w (by unfold maxLen; omega))
  have C4 := hid (fun w => sets_good s w (by unfold maxLen; omega) (by rw [hc]))
  obtain ⟨i0, hi0, iz0, iz1, iz2⟩ := infoBS'
  rw [hc] at C3
  rw [hl2] at C1
  unfold ClashRet at C2
  unfold SetsRet at C4
  generalize (linesF s).1 = X at C1 hH hCO hZ hAP
  generalize setsF s = SF at C4 hH hCO hAP
  generalize clashF s = CF at C2 hZ hCL
  have HH := hid hH
  have HCO := hid hCO
  have HAP := hid hAP
  have HZ := hid hZ
  clear hc hl2 hH hCO hok hZ hAP
  go_enter Try.func9, Try.ntmps9
  go_wp2_with (first
    | (go_at_call 30; refine (C2.out _).mono ?_; rintro e w2 ⟨vc, rfl, hf2, hoc⟩; obtain ⟨ca, cc, hvc⟩ := own_form hoc; subst hvc)
    | (go_at_call 18; refine (C1.out _).mono ?_; rintro e w1 ⟨b, rfl, hlx, hf1⟩))
  refine (C3.out _).mono ?_
  rintro e w3 ⟨rfl, hf3⟩
  go_wp2_with (first
    | (go_at_call 24; refine (C4.out _).mono ?_; rintro e w4 ⟨vl, svs, rfl, hsv, hS⟩))
  obtain ⟨z0, z1, z2, z3, z4, z5, nv, zv, hLA⟩ := hlx
  have hLA4 := ((hLA.fresh hf2).fresh hf3).fresh hS.fresh
  have hCK := HCO.out svs hsv
  have hAK := HAP.out svs hsv
  have hlen : svs.length = X.heads.length := by rw [← HH.out, ← hsv]; simp
  obtain ⟨K, hKb, hKv, hKV⟩ := mkKV hLA4 hS hlen hCK.pos hCK.ne hCK.hl
  have HFW : Hid (Fresh w w4) := ((hf1.trans hf2).trans hf3).trans hS.fresh
  have HCC : Hid (ClOwn w4 0 (.slice ca CF.length cc) CF) := ownsRow_base (ownsRow_other hoc (fun g hg => (hf3.trans hS.fresh).block g (hoc.lt g hg).2 (fun x => x))) (Nat.zero_le _)
  have HCK := hid hCK
  have HAK := hid hAK
  have HKV := hid hKV
  have HSH0 := shaped_true K w4 _ _ _ svs hKV hCK.bH (by have := hCK.bR; omega) hCK.ris
  have HZ2 : Hid (CF = clashL Z X.rules.length svs.length) := by unfold Hid; rw [hlen]; exact HZ.out
  obtain ⟨kb, a0, c0, a2, c2, g3, c3, g5, c5, gl, cl, sv⟩ := K
  dsimp only at hKb
  dsimp only [KP.vl] at hKv HSH0
  subst hKb
  subst hKv
  have HSH := hid HSH0
  clear hLA hLA4 hS hCK hAK hKV HSH0 hlen hsv hf1 hf2 hf3 hoc
  go_wp2_with (first
    | (go_at_call 25; refine (HSH.out).mono ?_; rintro e w5 ⟨rfl, m5, hm5⟩; have HF45 : Hid (Fresh w4 w5) := (by rw [hm5]; exact fdrewN' _ _); clear hm5))
  have hbR := HCK.out.bR
  have hbH := HCK.out.bH
  have hbP := HCK.out.bP
  generalize hnR : X.rules.length = nR at HKV HCK HAK hbR HSH HZ2
  generalize X.head = head at HKV HCK HAK
  generalize X.syms = syms at HKV HCK HAK hbP
  clear hnR HSH C1 C2 C3 C4 HH HCO HAP HZ
  generalize hFL : frL svs nR head syms = FL
  have hFLl : FL.length = syms.length := by rw [← hFL]; simp [frL, HCK.out.hl]
  have HFL := hid hFL
  clear hFL
  go_loopw [12, 13, 14, 15, 16, 17] (fun x11 x12 _ _ _ _ wr => ∃ (p : Nat) (gs : List Nat), x12 = .int .i64 p ∧ p ≤ syms.length ∧ FrAt wr w5.heap.size (nR + 1) x11 gs (FL.take p) ∧ Fresh w5 wr)
      (fun _ x _ _ _ _ _ => 1001 - (intOf x).toNat)
  case atStart => exact ⟨0, [], rfl, by omega, FrAt.nil _ _ _, Mod.refl _ _⟩
  case round =>
    obtain ⟨p, gs, rfl, hp, hFr, hfp⟩ := hrel
    obtain ⟨wo, hwo⟩ : ∃ wo, wo = wr := ⟨_, rfl⟩
    subst hwo
    have HMP := hid (meas (B := 1001) p (by omega))
    have HFP := hid hfp
    have HFR := hid hFr
    have HGL : Hid (gs.length = p) := by unfold Hid; rw [hFr.len]; simp; omega
    have hgb : gs.length ≤ 1000 := by have := HGL.out; omega
    obtain ⟨fa, fc, hfa⟩ := own_form hFr.own
    subst hfa
    have HF4 : Hid (Fresh w4 wo) := HF45.out.trans hfp
    have k5 := fcell' HF4.out HKV.out.k5
    dsimp only at k5
    clear hfp hFr
    by_cases hlp : p < syms.length
    · have hp1 : (p : Int) < (syms.length : Int) := by omega
      have hlh : p < head.length := by rw [HCK.out.hl]; exact hlp
      obtain ⟨q, hq, hpq⟩ := HCK.out.hd p hlh
      have k3 := fcell' HF4.out HKV.out.k3
      have c3 := fcell' HF4.out (HKV.out.hd p hlh)
      rw [hpq] at c3
      obtain ⟨c5, hsy⟩ := (HKV.out.fresh HF4.out).sy p hlp
      obtain ⟨_, _, t2, _, _⟩ := (HKV.out.fresh HF4.out).st5 q hq
      have lq := ((HKV.out.fresh HF4.out).ls svs[q] (by simp)).2
      have hl9 := listT_len svs[q].hd.fo
      have hRi := (HCK.out.ris svs[q] (by simp)).2
      have HKA := hid (kahead_any _ wo nR head syms svs (HKV.out.fresh HF4.out) hbH (by omega) (fun s hs => (HCK.out.ris s hs).1) (sv p) syms[p] hsy (HCK.out.sl syms[p] (by simp)) (HCK.out.so syms[p] (by simp)))
      dsimp only [KP.vl] at HKA
      have hfe : FL[p]'(by omega) = frF svs nR (q : Int) syms[p] := by
        have h := HFL.out
        subst h
        simp [frL, hpq]
      have hhd : hdAt svs (-1 - (q : Int)) = svs[q].hd := by
        unfold hdAt
        rw [show (-1 - (-1 - (q : Int))).toNat = q by omega]
        simp [hq]
      unfold frF at hfe
      rw [hhd] at hfe
      have hkl := kaF_len svs syms[p] (List.replicate (nR + 1) false)
      rw [List.length_replicate] at hkl
      dsimp only at k3 c3 c5 t2
      generalize kaF svs syms[p] (List.replicate (nR + 1) false) = ka at HKA hfe hkl
      generalize svs[q] = sq at t2 lq hl9 hfe hRi
      obtain ⟨sqh, sq1, sq2⟩ := sq
      dsimp only at t2 lq hl9 hfe hRi
      generalize listT sqh.fo = fl at lq hl9 hfe hRi
      obtain ⟨ya, yc, ey, _, hyc⟩ := lq
      subst ey
      obtain ⟨sa, sc, es, _, _⟩ := hsy
      dsimp only at es
      rw [es] at c5 HKA
      obtain ⟨kf, ke⟩ := ka
      dsimp only at HKA hfe hkl
      have HRI := hid hRi
      have HYC := hid hyc
      have HFE := hid hfe
      have hq1 : (q : Int) < (svs.length : Int) := by omega
      have T2 := hid t2
      have K3 := hid k3
      have C3 := hid c3
      have hne : ∀ k, (Value.slice fa gs.length fc).ownBlock = some k → k < wo.heap.size := fun k hk => (HFR.out.own.lt k hk).2
      have HNE := hid hne
      clear hfe hyc hRi hhd hpq es t2 k3 c3 hne
      go_wp2_with (first
        | (go_at_call 31; refine (HKA.out).mono ?_; rintro e w1 ⟨rfl, hf1, hb1⟩; have HF1 := hid hf1; have HB1 := hid hb1; have t2 := fcell' hf1 T2.out; have k3 := fcell' hf1 K3.out; have c3 := fcell' hf1 C3.out; clear hf1 hb1))
      clear t2 k3 c3 k5 c5
      go_loopw [17] (fun x16 wr => ∃ (i : Nat) (o1 : List Bool), x16 = .int .i64 i ∧ i ≤ fl.length ∧ o1.length = nR + 1 ∧ (if ke then setAll o1 (fl.drop i) else o1) = FL[p]'(by omega) ∧ Fresh wo wr ∧ wr.heap[wo.heap.size]? = some (.cells (tkA o1) 4 (0, 0)))
          (fun x _ => 1001 - (intOf x).toNat)
      case atStart => exact ⟨0, kf, rfl, by omega, hkl, HFE.out.symm, HF1.out, HB1.out⟩
      case round =>
        obtain ⟨i, o1, rfl, hi, ho1, hset, hfi, hbi⟩ := hrel
        have HMI := hid (meas (B := 1001) i (by omega))
        have HFI := hid hfi
        have HBI := hid hbi
        have hblt := heap_lt hbi
        have HFIN : Hid (o1 = FL[p]'(by omega) → ∀ (v' : Value) (w' : World), w'.ownsRow w5.heap.size 47 1 v' (gs.length + 1) ((gs.map fun g => .slice (some ⟨g, 0, none⟩) (nR + 1) (nR + 1)) ++ [.slice (some ⟨wo.heap.size, 0, none⟩) (nR + 1) (nR + 1)]) → ∀ o : Obj, (wr.alloc o).grownBy w' (Value.slice fa gs.length fc).ownBlock → (∀ k, v'.ownBlock = some k → (Value.slice fa gs.length fc).ownBlock = some k ∨ (wr.alloc o).heap.size ≤ k) → FrAt w' w5.heap.size (nR + 1) v' (gs ++ [wo.heap.size]) (FL.take (p + 1)) ∧ Fresh w5 w') := by
          intro e v' w' h1 o h2 h3
          have hfo : Fresh wo (wr.alloc o) := HFI.out.alloc o
          refine ⟨?_, Mod.grown (S := fun _ => False) (HFP.out.trans hfo) h2 (fun k hk hlt => by have := (HFR.out.own.lt k hk).1; omega)⟩
          rw [takeS (show p < FL.length by omega), ← e]
          exact FrAt.next (HFR.out.fresh hfo) (heap_alloc_prev HBI.out) (fun e => by have := HNE.out _ e; omega) h1 h2 h3
        have HGB : Hid (∀ o : Obj, (wr.alloc o).ownsRow w5.heap.size 47 1 (.slice fa gs.length fc) gs.length (gs.map fun g => .slice (some ⟨g, 0, none⟩) (nR + 1) (nR + 1))) := fun o => (HFR.out.fresh (HFI.out.alloc o)).own
        have hzz : w5.heap.size ≤ wr.heap.size := by have := HFP.out.size; have := hfi.size; omega
        by_cases hli : i < fl.length
        · have hi1 : (i : Int) < (fl.length : Int) := by omega
          have b5 : decide ((i : Int) < (fl.length : Int)) = true := by simpa using hi1
          cases ke
          · simp only [Bool.false_eq_true, if_false] at hset
            have HSET := hid hset
            clear hset hfi hbi
            go_wp2_with (first
              | (at_builtin; refine wpList_append_mine _ rfl _ _ 73 rfl w5.heap.size 47 i0 _ 1 24 Try.underlying73 hi0 iz0 iz1 iz2 rfl (by decide) (.slice fa gs.length fc) gs.length _ rfl (HGB.out _) ⟨wr.heap.size, 0, none⟩ 1 1 [.slice (some ⟨wo.heap.size, 0, none⟩) (nR + 1) (nR + 1)] rfl rfl (new_cells rfl) (by intro u hu; simp at hu; subst hu; rfl) (by unfold maxLen; omega) (by omega) (by simp; omega) ?_))
            intro v' w6 hown2 hgrow hblk
            have FIN := hid (HFIN.out HSET.out v' w6 hown2 _ hgrow (by simpa using hblk))
            clear hown2 hgrow hblk
            go_wp2
            go_roundw
            case rel => exact ⟨p + 1, _, by go_num, by omega, FIN.out.1, FIN.out.2⟩
            case measure => exact HMP.out
          · simp only [if_true] at hset
            rw [List.drop_eq_getElem_cons hli] at hset
            obtain ⟨gq, oq, hqa, hcq⟩ := HYC.out i hli
            subst hqa
            have c7 := fcell' hfi hcq
            obtain ⟨r1, r2, _⟩ := HRI.out i hli
            unfold setAll at hset
            rw [List.foldl_cons] at hset
            generalize fl[i] = fv at hset c7 r1 r2
            obtain ⟨n, rfl⟩ : ∃ n : Nat, fv = n := ⟨fv.toNat, by omega⟩
            rw [Int.toNat_natCast] at hset
            have HSET := hid hset
            have hn1 : n < nR + 1 := by omega
            have hn2 : (n : Int) < (nR : Int) + 1 := by omega
            have c6 : wr.cell? ⟨wo.heap.size, n, none⟩ = some (.bool (o1.getD n false)) := by rw [cellOf HBI.out, tk_atD (by rw [ho1]; exact hn1)]
            have z6 := frozenOf HBI.out n
            generalize o1.getD n false = ov at c6
            have HO1 : Hid ((o1.set n true).length = nR + 1) := by unfold Hid; simpa using ho1
            clear hset hcq hfi ho1 hbi HFIN HGB
            go_wp2
            go_roundw
            case rel =>
              refine ⟨i + 1, o1.set n true, by go_num, by omega, HO1.out, ?_, HFI.out.setCell (by simp) _, ?_⟩
              · first | exact HSET.out | (simp only [if_true]; exact HSET.out)
              · rw [Proofs.Ytolpddkpfigidaa.heap_setCell_same HBI.out, tk_set]
            case measure => exact HMI.out
        · have hie : i = fl.length := by omega
          have hi2 : ¬ (i : Int) < (fl.length : Int) := by omega
          have b5 : decide ((i : Int) < (fl.length : Int)) = false := by simpa using hi2
          have hset2 : o1 = FL[p]'(by omega) := by
            rw [hie, List.drop_length] at hset
            cases ke
            · simpa using hset
            · simpa [setAll] using hset
          have HSET := hid hset2
          clear hset hset2 hfi hbi
          go_wp2_with (first
            | (at_builtin; refine wpList_append_mine _ rfl _ _ 73 rfl w5.heap.size 47 i0 _ 1 24 Try.underlying73 hi0 iz0 iz1 iz2 rfl (by decide) (.slice fa gs.length fc) gs.length _ rfl (HGB.out _) ⟨wr.heap.size, 0, none⟩ 1 1 [.slice (some ⟨wo.heap.size, 0, none⟩) (nR + 1) (nR + 1)] rfl rfl (new_cells rfl) (by intro u hu; simp at hu; subst hu; rfl) (by unfold maxLen; omega) (by omega) (by simp; omega) ?_))
          intro v' w6 hown2 hgrow hblk
          have FIN := hid (HFIN.out HSET.out v' w6 hown2 _ hgrow (by simpa using hblk))
          clear hown2 hgrow hblk
          go_wp2
          go_roundw
          case rel => exact ⟨p + 1, _, by go_num, by omega, FIN.out.1, FIN.out.2⟩
          case measure => exact HMP.out
    · have hpe : p = syms.length := by omega
      have hp2 : ¬ (p : Int) < (syms.length : Int) := by omega
      have HFQ : Hid (FrAt wo w5.heap.size (nR + 1) (.slice fa gs.length fc) gs FL) := by
        have := HFR.out
        rwa [hpe, ← hFLl, List.take_length] at this
      have hgs : gs.length = syms.length := by have := HGL.out; omega
      have hnz := HCK.out.ne
      obtain ⟨fg, fc', hfg⟩ := Joins.ownsRow_form HFQ.out.own (by omega)
      rw [Value.slice.injEq] at hfg
      obtain ⟨rfl, _, rfl⟩ := hfg
      have HCELL : Hid (∀ i, i < syms.length → ∃ (hz : i < Z.length) (gi : Nat), wo.cell? ⟨g3, i, none⟩ = some (.int .i64 Z[i].1.head) ∧ wo.cell? ⟨fg, i, none⟩ = some (.slice (some ⟨gi, 0, none⟩) (nR + 1) (nR + 1)) ∧ ∀ t : Nat, t ≤ nR → wo.cell? ⟨gi, t, none⟩ = some (.bool (hasT Z[i].2 t))) := by
        intro i hi
        have hz : i < Z.length := by rw [HAK.out.zl]; exact hi
        have hlh : i < head.length := by rw [HCK.out.hl]; exact hi
        have e1 := HAK.out.zh i hz
        rw [List.getElem?_eq_getElem hlh] at e1
        have e1' : head[i] = Z[i].1.head := by simpa using e1
        have hg : i < gs.length := by omega
        refine ⟨hz, gs[i], ?_, ?_, fun t ht => ?_⟩
        · rw [← e1']; exact fcell' HF4.out (HKV.out.hd i hlh)
        · have := HFQ.out.own.cells (g := fg) rfl i (.slice (some ⟨gs[i], 0, none⟩) (nR + 1) (nR + 1)) (by simp [hg])
          rwa [Addr.add_mid, Nat.zero_add] at this
        · have hf : i < FL.length := by omega
          have q := (HFQ.out.blk i gs[i] FL[i] (by simp [hg]) (by simp [hf])).2
          have hfe : FL[i] = frF svs nR Z[i].1.head syms[i] := by
            have h := HFL.out
            subst h
            simp [frL, e1']
          rw [cellOf q, hfe, tk_atD (by rw [frF_len]; omega), HAK.out.zt i hz hi t]
          simp [hasT]
      have HROW : Hid (RowAt Cl.cells 4 77 wo (.slice ca CF.length cc) CF) := ⟨ownsRow_other HCC.out (fun g hg => HF4.out.block g (HCC.out.lt g hg).2 (fun x => x)), fun x _ => rfl⟩
      have HZL : Hid (Z.length = syms.length) := HAK.out.zl
      have HZ3 : Hid (CF.drop 0 = clN Z nR svs.length (svs.length + 1 - 0) 0) := by
        unfold Hid; rw [List.drop_zero]; exact HZ2.out
      have HFO : Hid (Fresh w wo) := HFW.out.trans HF4.out
      have K0 := hid (fcell' HF4.out HKV.out.k0)
      have K2 := hid (fcell' HF4.out HKV.out.k2)
      have K3 := hid (fcell' HF4.out HKV.out.k3)
      dsimp only at K0 K2 K3
      clear HFQ HFR HFL HKV HCK HAK HCC HZ2 HFP HMP
      generalize svs.length = H at *
      go_wp2
      clear k5
      go_loopw [18, 19, 20, 21, 22] (fun x17 x18 _ _ _ wr => ∃ (h k : Nat), x17 = .int .i64 k ∧ x18 = .int .i64 h ∧ h ≤ H ∧ k ≤ CF.length ∧ CF.drop k = clN Z nR H (H + 1 - h) h ∧ Fresh wo wr)
          (fun _ x _ _ _ _ => 1001 - (intOf x).toNat)
      case atStart => exact ⟨0, 0, rfl, rfl, by omega, by omega, HZ3.out, Mod.refl _ _⟩
      case round =>
        obtain ⟨h, k, rfl, rfl, hh, hk, hdr, hfh⟩ := hrel
        have HMH := hid (meas (B := 1001) h (by omega))
        have HFH := hid hfh
        have k2 := fcell' hfh K2.out
        clear hfh
        by_cases hlh : h < H
        · have hh1 : (h : Int) < (H : Int) := by omega
          rw [show H + 1 - h = (H - h) + 1 by omega] at hdr
          unfold clN at hdr
          rw [if_pos hlh] at hdr
          have HDR := hid hdr
          clear hdr
          go_wp2
          clear k2
          go_loopw [18, 20, 21, 22] (fun x17 x19 _ _ wr => ∃ (t k : Nat), x17 = .int .i64 k ∧ x19 = .int .i64 t ∧ t ≤ nR + 1 ∧ k ≤ CF.length ∧ CF.drop k = clT Z h nR (nR + 2 - t) t ++ clN Z nR H (H - h) (h + 1) ∧ Fresh wo wr)
              (fun _ x _ _ _ => 1001 - (intOf x).toNat)
          case atStart => exact ⟨0, k, rfl, rfl, by omega, hk, HDR.out, HFH.out⟩
          case round =>
            obtain ⟨t, k, rfl, rfl, ht, hk, hdr, hft⟩ := hrel
            have HMT := hid (meas (B := 1001) t (by omega))
            have HFT := hid hft
            have k0 := fcell' hft K0.out
            clear hft
            by_cases hlt : t ≤ nR
            · have ht1 : (t : Int) ≤ (nR : Int) := by omega
              have ht3 : (t : Int) < (nR : Int) + 1 := by omega
              rw [show nR + 2 - t = (nR + 1 - t) + 1 by omega] at hdr
              unfold clT at hdr
              rw [if_pos hlt, List.append_assoc] at hdr
              generalize hREST : clT Z h nR (nR + 1 - t) (t + 1) ++ clN Z nR H (H - h) (h + 1) = REST at hdr
              have HREST := hid hREST
              have HDT := hid hdr
              clear hREST hdr
              go_wp2
              clear k0
              go_loopw [18, 21, 22] (fun x17 x20 _ wr => ∃ (i k : Nat), x17 = .int .i64 k ∧ x20 = .int .i64 i ∧ i ≤ syms.length ∧ k ≤ CF.length ∧ CF.drop k = pairL h t (ovL h t (Z.drop i) i) ++ REST ∧ Fresh wo wr)
                  (fun _ x _ _ => 1001 - (intOf x).toNat)
              case atStart => exact ⟨0, k, rfl, rfl, by omega, hk, HDT.out, HFT.out⟩
              case round =>
                obtain ⟨i, k, rfl, rfl, hi, hk, hdr, hfi⟩ := hrel
                have HMI := hid (meas (B := 1001) i (by omega))
                have HFI := hid hfi
                clear hfi
                by_cases hli : i < syms.length
                · have hi1 : (i : Int) < (gs.length : Int) := by omega
                  have hi3 : (i : Int) < (syms.length : Int) := by omega
                  obtain ⟨hz, gi, u1, u2, u3⟩ := HCELL.out i hli
                  have u4 := u3 t hlt
                  have U1 := hid u1
                  have U2 := hid u2
                  have U4 := hid u4
                  rw [List.drop_eq_getElem_cons hz] at hdr
                  unfold ovL at hdr
                  clear u1 u2 u3 u4
                  generalize Z[i].1.head = hdi at hdr U1
                  generalize hasT Z[i].2 (t : Int) = ti at hdr U4
                  by_cases hm : hdi = (h : Int) ∧ ti = true
                  · rw [if_pos hm] at hdr
                    obtain ⟨e1, e2⟩ := hm
                    subst e1
                    subst e2
                    unfold pairL at hdr
                    rw [List.append_assoc] at hdr
                    generalize hR2 : pairL h t (ovL h t (Z.drop (i + 1)) (i + 1)) ++ REST = REST2 at hdr
                    have HR2 := hid hR2
                    have HDI := hid hdr
                    clear hR2 hdr
                    go_wp2
                    go_loopw [18, 22] (fun x17 x21 wr => ∃ (j k : Nat), x17 = .int .i64 k ∧ x21 = .int .i64 j ∧ i + 1 ≤ j ∧ j ≤ syms.length ∧ k ≤ CF.length ∧ CF.drop k = ((ovL h t (Z.drop j) j).map fun s => (⟨h, t, i, s⟩ : Cl)) ++ REST2 ∧ Fresh wo wr)
                        (fun _ x _ => 1001 - (intOf x).toNat)
                    case atStart => exact ⟨i + 1, k, rfl, by go_num, by omega, by omega, hk, HDI.out, HFI.out⟩
                    case round =>
                      obtain ⟨j, k, rfl, rfl, hij, hj, hk, hdr, hfj⟩ := hrel
                      have HMJ := hid (meas (B := 1001) j (by omega))
                      have HFJ := hid hfj
                      have k3 := fcell' hfj K3.out
                      by_cases hlj : j < syms.length
                      · have hj1 : (j : Int) < (gs.length : Int) := by omega
                        have hj3 : (j : Int) < (syms.length : Int) := by omega
                        obtain ⟨hz2, gj, v1, v2, v3⟩ := HCELL.out j hlj
                        have v4 := fcell' hfj (v3 t hlt)
                        replace v1 := fcell' hfj v1
                        replace v2 := fcell' hfj v2
                        have u1 := fcell' hfj U1.out
                        have u2 := fcell' hfj U2.out
                        have u4 := fcell' hfj U4.out
                        rw [List.drop_eq_getElem_cons hz2] at hdr
                        unfold ovL at hdr
                        clear v3
                        generalize Z[j].1.head = hdj at hdr v1
                        generalize hasT Z[j].2 (t : Int) = tj at hdr v4
                        by_cases hmj : hdj = (h : Int)
                        · subst hmj
                          cases tj
                          · rw [if_neg (by simp)] at hdr
                            have HDJ := hid hdr
                            clear hdr hfj
                            go_wp2
                            go_roundw
                            case rel => exact ⟨j + 1, k, rfl, by go_num, by omega, by omega, hk, HDJ.out, HFJ.out⟩
                            case measure => exact HMJ.out
                          · rw [if_pos ⟨rfl, rfl⟩, List.map_cons, List.cons_append] at hdr
                            have hkl : k < CF.length := by
                              rcases Nat.lt_or_ge k CF.length with q | q
                              · exact q
                              · rw [List.drop_eq_nil_of_le q] at hdr; cases hdr
                            rw [List.drop_eq_getElem_cons hkl, List.cons.injEq] at hdr
                            obtain ⟨hd1, hd2⟩ := hdr
                            have hk1 : (k : Int) < (CF.length : Int) := by omega
                            have hrr := (HROW.out.fresh hfj)
                            obtain ⟨cg, cc', hcg⟩ := Joins.ownsRow_form hrr.own (by omega)
                            rw [Value.slice.injEq] at hcg
                            obtain ⟨rfl, _, rfl⟩ := hcg
                            have l1 : (ldC (.pointer (some ⟨cg, k * 4, none⟩))).run Try.prog wr = .ok (.agg (clA h t i j)) wr := by
                              have q := hrr.range k hkl
                              rw [hd1] at q
                              exact ldC_mid q
                            have q1 : ∀ w, (Op.equalIn 10000 77 (.agg (clA h t i j)) (.agg (clA h t i j))).run Try.prog w = .ok true w := fun w => eqCl 9996 h t i j w
                            have g1 := guardCl
                            have HDJ := hid hd2
                            clear hd1 hd2 hfj hrr
                            go_wp2
                            go_roundw
                            case rel => exact ⟨j + 1, k + 1, by go_num, by go_num, by omega, by omega, by omega, HDJ.out, HFJ.out⟩
                            case measure => exact HMJ.out
                        · have b1 : (hdj == (h : Int)) = false := by simpa using hmj
                          rw [if_neg (fun e => hmj e.1)] at hdr
                          have HDJ := hid hdr
                          clear hdr hfj
                          go_wp2
                          go_roundw
                          case rel => exact ⟨j + 1, k, rfl, by go_num, by omega, by omega, hk, HDJ.out, HFJ.out⟩
                          case measure => exact HMJ.out
                      · have hj2 : ¬ (j : Int) < (gs.length : Int) := by omega
                        have e0 : Z.drop j = [] := List.drop_eq_nil_of_le (by have := HZL.out; omega)
                        rw [e0] at hdr
                        have HDJ : Hid (CF.drop k = REST2) := by unfold Hid; simpa [ovL] using hdr
                        clear e0
                        clear hdr hfj
                        go_wp2
                        go_roundw
                        case rel => exact ⟨i + 1, k, rfl, by go_num, by omega, hk, by rw [HR2.out]; exact HDJ.out, HFJ.out⟩
                        case measure => exact HMI.out
                  · rw [if_neg hm] at hdr
                    have HDI := hid hdr
                    clear hdr
                    go_wp2
                    go_loopw [18, 22] (fun x17 x21 wr => ∃ (j : Nat), x17 = .int .i64 k ∧ x21 = .int .i64 j ∧ i + 1 ≤ j ∧ j ≤ syms.length ∧ Fresh wo wr)
                        (fun _ x _ => 1001 - (intOf x).toNat)
                    case atStart => exact ⟨i + 1, rfl, by go_num, by omega, by omega, HFI.out⟩
                    case round =>
                      obtain ⟨j, rfl, rfl, hij, hj, hfj⟩ := hrel
                      have HMJ := hid (meas (B := 1001) j (by omega))
                      have HFJ := hid hfj
                      have k3 := fcell' hfj K3.out
                      by_cases hlj : j < syms.length
                      · have hj1 : (j : Int) < (gs.length : Int) := by omega
                        have hj3 : (j : Int) < (syms.length : Int) := by omega
                        obtain ⟨hz2, gj, v1, v2, v3⟩ := HCELL.out j hlj
                        replace v1 := fcell' hfj v1
                        have u1 := fcell' hfj U1.out
                        have u2 := fcell' hfj U2.out
                        have u4 := fcell' hfj U4.out
                        clear v2 v3
                        generalize Z[j].1.head = hdj at v1
                        by_cases hmi : hdi = (h : Int)
                        · have hti : ti = false := by
                            cases ti
                            · rfl
                            · exact absurd ⟨hmi, rfl⟩ hm
                          subst hmi
                          subst hti
                          clear hfj
                          by_cases hmj : hdj = (h : Int)
                          · subst hmj
                            go_wp2
                            go_roundw
                            case rel => exact ⟨j + 1, rfl, by go_num, by omega, by omega, HFJ.out⟩
                            case measure => exact HMJ.out
                          · have b1 : (hdj == (h : Int)) = false := by simpa using hmj
                            go_wp2
                            go_roundw
                            case rel => exact ⟨j + 1, rfl, by go_num, by omega, by omega, HFJ.out⟩
                            case measure => exact HMJ.out
                        · have b1 : (hdi == (h : Int)) = false := by simpa using hmi
                          clear hfj
                          go_wp2
                          go_roundw
                          case rel => exact ⟨j + 1, rfl, by go_num, by omega, by omega, HFJ.out⟩
                          case measure => exact HMJ.out
                      · have hj2 : ¬ (j : Int) < (gs.length : Int) := by omega
                        clear hfj
                        go_wp2
                        go_roundw
                        case rel => exact ⟨i + 1, k, rfl, by go_num, by omega, hk, HDI.out, HFJ.out⟩
                        case measure => exact HMI.out
                · have hi2 : ¬ (i : Int) < (gs.length : Int) := by omega
                  have e0 : Z.drop i = [] := List.drop_eq_nil_of_le (by have := HZL.out; omega)
                  rw [e0] at hdr
                  have HDI : Hid (CF.drop k = REST) := by unfold Hid; simpa [ovL, pairL] using hdr
                  clear e0
                  clear hdr
                  go_wp2
                  go_roundw
                  case rel => exact ⟨t + 1, k, rfl, by go_num, by omega, hk, by rw [show nR + 2 - (t + 1) = nR + 1 - t by omega, HREST.out]; exact HDI.out, HFI.out⟩
                  case measure => exact HMT.out
            · have ht2 : ¬ (t : Int) ≤ (nR : Int) := by omega
              rw [show nR + 2 - t = 1 by omega] at hdr
              unfold clT at hdr
              rw [if_neg hlt, List.nil_append] at hdr
              have HDT := hid hdr
              clear hdr
              go_wp2
              go_roundw
              case rel => exact ⟨h + 1, k, rfl, by go_num, by omega, hk, by rw [show H + 1 - (h + 1) = H - h by omega]; exact HDT.out, HFT.out⟩
              case measure => exact HMH.out
        · have hh2 : ¬ (h : Int) < (H : Int) := by omega
          rw [show H + 1 - h = 1 by omega] at hdr
          unfold clN at hdr
          rw [if_neg hlh] at hdr
          have hke : k = CF.length := by
            have := List.drop_eq_nil_iff.1 hdr
            omega
          subst hke
          clear hdr
          go_wp2
          go_ret
          exact ⟨rfl, HFO.out.trans HFH.out⟩
end Go.Proofs.Ytolpddkpfigidaa
namespace Go.Proofs.Ytolpddkpfigidaa
open Go.RowKit
set_option linter.unusedVariables false
set_option linter.unusedSimpArgs false

set_option maxRecDepth 20000 in
set_option maxHeartbeats 4000000 in
theorem apart_bad (s : ByteArray) (w : World) (hs : s.size ≤ maxLen) (hc : (checkF s).1 ≠ 0) : Calls Try.prog 9 #[.string s] w fun e w' => e = .returned (.bool true) ∧ Fresh w w' := by
  have C1 := hid (fun w => right_bad s w hs hc)
  have C2 := hid (fun w => clashes_bad s w hs hc)
  have C3 := hid (fun w => check_any s w hs)
  generalize (checkF s).1 = c at C2 C3
  clear hc
  go_enter Try.func9, Try.ntmps9
  go_wp2_with (first
    | (go_at_call 10; refine (C3.out _).mono ?_; rintro e w3 ⟨rfl, hf3⟩)
    | (go_at_call 30; refine (C2.out _).mono ?_; rintro e w2 ⟨rfl, hf2⟩)
    | (go_at_call 18; refine (C1.out _).mono ?_; rintro e w1 ⟨rfl, hf1⟩))
  go_ret
  exact ⟨rfl, (hf1.trans hf2).trans hf3⟩

theorem apart_any (s : ByteArray) (w : World) (hs : s.size ≤ maxLen) : Calls Try.prog 9 #[.string s] w fun e w' => e = .returned (.bool true) ∧ Fresh w w' := by
  by_cases hc : (checkF s).1 = 0
  · have hc2 := check_zero hc
    obtain ⟨h1, h2, h3, h4, h5⟩ := check_parts hc2
    have hI := linesInv hc2
    have hI2 := linesInv2 hc2
    obtain ⟨t1, t2, t3, t4⟩ := lines_table hc2
    have hT := tabOk h3 hI.places hI2.mem
    have hR := rules_le (fun y hy => (hI.places y hy).1) h5
    obtain ⟨z1, z2, z3⟩ := tab_sizes hc
    have hS := allF_ok hT hR
    have hpp : 0 < (prodsOf (rLines s).1).length := by
      unfold hasProd at h4
      rw [List.any_eq_true] at h4
      obtain ⟨y, hy, hq⟩ := h4
      exact List.length_pos_of_mem (List.mem_filter.2 ⟨hy, hq⟩)
    have hpt : 0 < (tableOf (rLines s).1).length := by unfold tableOf; simpa using hpp
    have hH0 : 0 < (headsOf (rLines s).1).length := by
      have := hI2.mem (prodsOf (rLines s).1)[0] (by simp)
      omega
    have hsl : ∀ p ∈ tableOf (rLines s).1, p.syms.length ≤ 1000 := fun p hp => by
      obtain ⟨y, hy, rfl⟩ := List.mem_map.1 hp
      have := ((rLines_ok s).2 y (List.mem_filter.1 hy).1).sb
      simp only [prOf, List.length_map]; omega
    refine apart_good s w h1 hc2 (linesAs hc2).1 hS.ok ?_ ?_ ((tableOf (rLines s).1).zip (aheadsF (setsF s) (tableOf (rLines s).1))) ?_ ?_ ?_
    · rw [t2]; exact hS.len
    · intro svs hsv
      rw [t1, t3, t4]
      exact closedOk hT hR hH0 (by omega) hS hsv hpt (by omega) hsl
    · rw [t1, t2]; rfl
    · intro svs hsv
      rw [t1, t3, t4]
      exact apOk hT hR hS hsv
    · have hzl : ((tableOf (rLines s).1).zip (aheadsF (setsF s) (tableOf (rLines s).1))).length ≤ 1000 := by simp [aheadsF]; omega
      have := clN_len _ hzl (frontsOf (rLines s).1).length (headsOf (rLines s).1).length (by omega) ((headsOf (rLines s).1).length + 1) 0
      unfold clashF clashL
      omega
  · exact apart_bad s w hs hc
end Go.Proofs.Ytolpddkpfigidaa
namespace Go.Proofs.Ytolpddkpfigidaa
open Go.ChangeShapes Go.WideShapes Go.ChangeAt Go.RowKit
open Go.ChangeMaps (open_string shut_string)
set_option linter.unusedVariables false
set_option linter.unusedSimpArgs false

theorem Try.own : ownKnob Try.prog.godebug = none := by kernel_rfl
theorem Try.laidOut : laidOutB Try.prog = true := by kernel_rfl

set_option maxRecDepth 100000 in
theorem apart_lifted (os : Os) (started : os.Started) (H : Type) (enc : TypeId × Value → H) :
    ReturnsInHanded {} Try.checked os 9 .any (Rows.apartSpec.pre6 enc Try.prog Try.f9 Rows.apartRow.domain false) (Rows.apartSpec.post enc Try.prog Try.f9 false true false false) := by
  refine returnsInHanded_of_change (C := Try.checked) Try.own started (by kernel_rfl) Try.func9
    (ChangeSpec.witness6 (enc := enc) (C := Try.checked) false ⟨#[], #[.string ⟨#[]⟩], []⟩ 8 (by kernel_rfl) (by kernel_rfl) (by kernel_rfl) (by kernel_rfl)) ?_
  intro W base args ds gs before hval0 hW hcnd _
  have hval : ∀ (j : Nat) t v, Try.f9.params[j]? = some t → args[j]? = some v → Value.okWide Try.prog W .any base t v := hval0
  have hW' := hW
  obtain ⟨p, q, hA0, hV, rfl, hfz, hnd⟩ := hW
  have hA : DataW.TrodAll enc Try.prog W 0 (fun _ => true) true Try.f9.params.toList args.toList ds p := hA0
  rw [Try.params9] at hA hval
  obtain ⟨v0, d0, rfl, rfl, h0⟩ := trodAll_one hA
  obtain ⟨rfl, rfl⟩ := trodVars_none hV
  obtain ⟨s, rfl, rfl, rfl, ws⟩ := open_string Try.underlying9 (hval 0 9 v0 rfl rfl) h0
  clear hA0 hval0
  simp only [List.append_nil] at hW'
  refine (apart_any s W ws).mono fun e W' ⟨he, hF⟩ => ?_
  subst he
  have hB := hF.below
  refine ⟨_, rfl, _, _, _, [], [], [], hW', ?_, ?_, ?_, hB.frame _, fun h => by cases h⟩
  · exact trodAll_mk1 (shut_bool Try.underlying4 true)
  · exact trodAll_mk1 (shut_string Try.underlying9 ws)
  · trivial

theorem apart_holds : Rows.ApartSaid :=
  OpenClaim.holds_of_wide 9 Try.f9 rfl rfl rfl rfl rfl rfl rfl ⟨rfl, rfl, rfl, rfl, rfl⟩ rfl rfl rfl rfl rfl (by kernel_rfl) Try.func9 (by kernel_rfl)
    (of_decide_eq_true (by kernel_rfl)) (by unfold Func.isWrapper; first | (rw [if_pos (by decide +kernel)]; kernel_rfl) | (rw [if_neg (by decide +kernel)]; exact ⟨rfl, rfl⟩))
    (fun os started H enc _ => apart_lifted os started H enc)
#print axioms apart_holds
end Go.Proofs.Ytolpddkpfigidaa
