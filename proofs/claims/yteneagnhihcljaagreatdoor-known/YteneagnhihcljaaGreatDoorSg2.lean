import Derived.Test.YteneagnhihcljaaGreatDoorSed
namespace Go.Proofs.YteneagnhihcljaaGreatDoor
open Go.RowKit
set_option linter.unusedVariables false
set_option linter.unusedSimpArgs false

def ldT (v : Value) : Sem Value := Instr.loadAt 110 v
theorem ldT_rule (v : Value) : Instr.loadAt 110 v = ldT v := rfl
theorem ldT_mid {w : World} {g o : Nat} {l : List Bool} (hl : l.length = 9) (hr : w.rangeAt g o (bls l)) : (ldT (.pointer (some ⟨g, o, none⟩))).run Tryz.prog w = .ok (.agg (tkA l)) w :=
  run_loadAt_mid w g o _ _ _ hr Tryz.underlying110 rfl (szTokL hl)
/-- the productions of a head, ahead of which a token stands -/
def ovL (n t : Int) : List (Pr × List Bool) → Nat → List Int
  | [], _ => []
  | p :: l, i => if p.1.head = n ∧ hasT p.2 t = true then (i : Int) :: ovL n t l (i + 1) else ovL n t l (i + 1)
theorem ovL_len (n t : Int) : ∀ (l : List (Pr × List Bool)) (i : Nat), (ovL n t l i).length ≤ l.length
  | [], _ => by simp [ovL]
  | p :: l, i => by
    unfold ovL
    have := ovL_len n t l (i + 1)
    split <;> simp <;> omega

attribute [local go_sem ↓] ldT_rule
set_option maxRecDepth 20000 in
set_option maxHeartbeats 4000000 in
theorem prodsOver_any (w : World) (R H : Int) (vp : Value) (ps : List PV) (hp : PrsAt w w.heap.size vp ps) (hps : ps.length ≤ 1000) (va : Value) (al : List (List Bool)) (base : Nat) (ha : TksOwn w base va al) (hal : al.length = ps.length) (ha9 : ∀ a ∈ al, a.length = 9) (n t : Int) :
    Calls Tryz.prog 44 #[.agg #[.int .i64 R, .int .i64 H, vp], va, .int .i64 n, .int .i64 t] w fun e w' => ∃ v, e = .returned v ∧ Fresh w w' ∧ IntOwn w' w.heap.size v (ovL n t ((prsOf ps).zip al) 0) := by
  obtain ⟨i0, hi0, iz0, iz1, iz2⟩ := infoI'
  have HP := hid hp
  obtain ⟨pa, pc, hvp⟩ := own_form hp.row.own
  subst hvp
  obtain ⟨aa, ac, hva⟩ := own_form ha
  subst hva
  have HAR : Hid (RowAt bls 9 110 w (.slice aa al.length ac) al) := ⟨ownsRow_base ha (Nat.zero_le _), fun x hx => by simp [bls, ha9 x hx]⟩
  have HA9 := hid ha9
  generalize hR : ovL n t ((prsOf ps).zip al) 0 = RES
  have HR := hid hR
  rw [hal]
  have HAL := hid hal
  clear hp ha ha9 hR hal
  go_enter Tryz.func44, Tryz.ntmps44
  go_wp2
  go_loopw [9, 10, 11, 15] (fun x9 _ _ x15 wr => ∃ (i : Nat) (acc : List Int), x15 = .int .i64 i ∧ i ≤ ps.length ∧ acc.length ≤ i ∧ acc ++ ovL n t (((prsOf ps).zip al).drop i) i = RES ∧ IntOwn wr w.heap.size x9 acc ∧ Fresh w wr)
      (fun _ _ _ x _ => 1001 - (intOf x).toNat)
  case atStart => exact ⟨0, [], rfl, by omega, by simp, HR.out, World.ownsRow_nil _ _ _ _, (Mod.refl _ w).alloc _⟩
  case round =>
    obtain ⟨i, acc, rfl, hi, hacc, hres, hown, hfr⟩ := hrel
    have HME := hid (meas (B := 1001) i (by omega))
    have HFR := hid hfr
    have HO := hid hown
    have HOB := hid hown.lt
    obtain ⟨ro, rc, hro⟩ := own_form hown
    subst hro
    clear hown
    by_cases hlt : i < ps.length
    · have hi1 : (i : Int) < (ps.length : Int) := by omega
      have hi3 : i < al.length := by have := HAL.out; omega
      have hzl : i < ((prsOf ps).zip al).length := by have := HAL.out; simp [prsOf]; omega
      rw [List.drop_eq_getElem_cons hzl] at hres
      have hze : ((prsOf ps).zip al)[i] = (ps[i].pr, al[i]) := by simp [prsOf]
      rw [hze] at hres
      unfold ovL at hres
      dsimp only at hres
      have hPr := HP.out.kept (Nat.le_refl _) hfr (fun _ _ x => x)
      obtain ⟨gp, cap', hv'⟩ := Joins.ownsRow_form hPr.row.own (by omega)
      rw [Value.slice.injEq] at hv'
      obtain ⟨rfl, _, rfl⟩ := hv'
      have RG : Hid (wr.rangeAt gp (i * 2) [.int .i64 ps[i].pr.head, ps[i].vs]) := hPr.row.range i hlt
      obtain ⟨sao, scap, hsv, _⟩ := hPr.syms ps[i] (by simp)
      have hra := (HAR.out.fresh hfr)
      obtain ⟨ga, ac', hva'⟩ := Joins.ownsRow_form hra.own (by omega)
      rw [Value.slice.injEq] at hva'
      obtain ⟨rfl, _, rfl⟩ := hva'
      have hrr := hra.range i hi3
      have h9 := HA9.out al[i] (by simp)
      have TH := hid (fun w => thas_any w al[i] t h9)
      generalize hpl : ps[i].pr.syms.length = pl at hsv
      generalize ps[i].pr.head = ph at hres RG
      rw [hsv] at RG
      have l1 : (ldT (.pointer (some ⟨ga, i * 9, none⟩))).run Tryz.prog (wr.alloc (.cells #[.int .i64 ph, .slice sao pl scap] 73 (0, 0))) = .ok (.agg (tkA al[i])) (wr.alloc (.cells #[.int .i64 ph, .slice sao pl scap] 73 (0, 0))) :=
        ldT_mid h9 (World.rangeAt_alloc hrr _)
      generalize al[i] = ai at hres TH l1
      have b4 : decide ((i : Int) < (ps.length : Int)) = true := by simpa using hi1
      clear hPr hra hrr h9 hfr hze hi3 hzl
      by_cases hh : ph = n
      · subst hh
        generalize hasT ai t = tv at hres TH
        cases tv
        · rw [if_neg (by simp)] at hres
          have HRES := hid hres
          clear hres
          go_wp2_with (first
            | (go_at_call 67; refine (TH.out _).mono ?_; rintro e w1 ⟨rfl, hf1⟩)
            | (refine wpList_load_mid rfl 73 _ rfl gp (i * 2) rfl [.int .i64 ph, .slice sao pl scap] _ RG.out Tryz.underlying73 rfl szPV ?_))
          go_roundw
          case rel =>
            refine ⟨i + 1, acc, by go_num, by omega, by omega, HRES.out, ?_, (HFR.out.alloc _).trans hf1⟩
            exact ownsRow_other HO.out (fun g hg => (Mod.trans ((Mod.refl (fun _ => False) wr).alloc _) hf1).block g (HOB.out g hg).2 (fun x => x))
          case measure => exact HME.out
        · rw [if_pos ⟨rfl, rfl⟩] at hres
          have HRES := hid hres
          clear hres
          go_wp2_with (first
            | (at_builtin; refine wpList_append_mine _ rfl _ _ 22 rfl w.heap.size 3 i0 _ 1 8 Tryz.underlying22 hi0 iz0 iz1 iz2 rfl (by decide) _ _ _ rfl (HO1.out.alloc _) ⟨w1.heap.size, 0, none⟩ 1 1 [.int .i64 i] rfl rfl (new_cells rfl) (by intro u hu; simp at hu; subst hu; rfl) (by unfold maxLen; omega) (by omega) (by have h3 := HFR.out.size; have h4 := hf1.size; simp at h4; simp; omega) ?_)
            | (go_at_call 67; refine (TH.out _).mono ?_; rintro e w1 ⟨rfl, hf1⟩; have HO1 := hid (ownsRow_other HO.out (fun g hg => (Mod.trans ((Mod.refl (fun _ => False) wr).alloc _) hf1).block g (HOB.out g hg).2 (fun x => x))))
            | (refine wpList_load_mid rfl 73 _ rfl gp (i * 2) rfl [.int .i64 ph, .slice sao pl scap] _ RG.out Tryz.underlying73 rfl szPV ?_))
          intro v' w5 hown2 hgrow hblk
          have fr2 : Fresh w w5 := Mod.grown (S := fun _ => False) (((HFR.out.alloc _).trans hf1).alloc _) hgrow (fun k hk hlt => by have := (HOB.out k hk).1; omega)
          have HO2 := hid hown2
          clear hown2 hgrow hblk
          go_wp2
          go_roundw
          case rel =>
            refine ⟨i + 1, acc ++ [(i : Int)], by go_num, by omega, by simp; omega, by rw [List.append_assoc]; exact HRES.out, ?_, fr2⟩
            unfold IntOwn
            rw [List.length_append, List.length_singleton, show nums (acc ++ [(i : Int)]) = nums acc ++ [.int .i64 i] from by simp]
            exact HO2.out
          case measure => exact HME.out
      · have b1 : (ph == n) = false := by simp [hh]
        rw [if_neg (fun h => hh h.1)] at hres
        have HRES := hid hres
        clear hres
        go_wp2_with (first
          | (refine wpList_load_mid rfl 73 _ rfl gp (i * 2) rfl [.int .i64 ph, .slice sao pl scap] _ RG.out Tryz.underlying73 rfl szPV ?_))
        go_roundw
        case rel =>
          refine ⟨i + 1, acc, by go_num, by omega, by omega, HRES.out, ?_, HFR.out.alloc _⟩
          exact HO.out.alloc _
        case measure => exact HME.out
    · have hie : i = ps.length := by omega
      have hi2 : ¬ (i : Int) < (ps.length : Int) := by omega
      rw [List.drop_eq_nil_of_le (by have := HAL.out; simp [prsOf]; omega)] at hres
      have hres2 : acc = RES := by simpa [ovL] using hres
      subst hres2
      clear hres hfr
      go_wp2
      go_ret
      exact ⟨_, rfl, HFR.out, HO.out⟩
end Go.Proofs.YteneagnhihcljaaGreatDoor
namespace Go.Proofs.YteneagnhihcljaaGreatDoor
open Go.RowKit
set_option linter.unusedVariables false
set_option linter.unusedSimpArgs false

structure Cl where
  h : Int
  t : Int
  a : Int
  b : Int
def Cl.cells (c : Cl) : List Value := [.int .i64 c.h, .int .i64 c.t, .int .i64 c.a, .int .i64 c.b]
def pairL (n t : Int) : List Int → List Cl
  | [] => []
  | f :: r => (r.map fun s => ⟨n, t, f, s⟩) ++ pairL n t r
def clT (z : List (Pr × List Bool)) (n R : Nat) : Nat → Nat → List Cl
  | 0, _ => []
  | f + 1, t => if t ≤ R then pairL n t (ovL n t z 0) ++ clT z n R f (t + 1) else []
def clN (z : List (Pr × List Bool)) (R H : Nat) : Nat → Nat → List Cl
  | 0, _ => []
  | f + 1, n => if n < H then clT z n R (R + 2) 0 ++ clN z R H f (n + 1) else []
def clashL (z : List (Pr × List Bool)) (R H : Nat) : List Cl := clN z R H (H + 1) 0
theorem pairL_len (n t : Int) : ∀ l : List Int, (pairL n t l).length ≤ l.length * l.length
  | [] => by simp [pairL]
  | f :: r => by
    have ih := pairL_len n t r
    simp only [pairL, List.length_append, List.length_map, List.length_cons]
    have : (r.length + 1) * (r.length + 1) = r.length * r.length + 2 * r.length + 1 := by
      rw [Nat.add_mul, Nat.mul_add]; omega
    omega
theorem pair_le (z : List (Pr × List Bool)) (hz : z.length ≤ 1000) (n t : Int) : (pairL n t (ovL n t z 0)).length ≤ 1000000 := by
  have h1 := pairL_len n t (ovL n t z 0)
  have h2 := ovL_len n t z 0
  have h3 : (ovL n t z 0).length * (ovL n t z 0).length ≤ 1000 * 1000 := Nat.mul_le_mul (by omega) (by omega)
  omega
theorem clT_len (z : List (Pr × List Bool)) (hz : z.length ≤ 1000) (n R : Nat) : ∀ (f t : Nat), (clT z n R f t).length ≤ f * 1000000
  | 0, _ => by simp [clT]
  | f + 1, t => by
    unfold clT
    have h1 := pair_le z hz n t
    have h2 := clT_len z hz n R f (t + 1)
    split
    · rw [List.length_append]; omega
    · simp
theorem clN_len (z : List (Pr × List Bool)) (hz : z.length ≤ 1000) (R H : Nat) (hR : R ≤ 1000) : ∀ (f n : Nat), (clN z R H f n).length ≤ f * 1002000000
  | 0, _ => by simp [clN]
  | f + 1, n => by
    unfold clN
    have h1 := clT_len z hz n R (R + 2) 0
    have h2 := clN_len z hz R H hR f (n + 1)
    split
    · rw [List.length_append]; omega
    · simp
abbrev ClOwn (w : World) (base : Nat) (v : Value) (l : List Cl) : Prop := w.ownsRow base 104 4 v l.length (flatC Cl.cells l)
theorem infoCl : (Tryz.prog.info? 104).map (fun i => (i.zero, i.size, i.bytes)) = some (some (.agg #[.int .i64 0, .int .i64 0, .int .i64 0, .int .i64 0]), 4, 32) := by kernel_rfl
theorem infoCl' : ∃ i, Tryz.prog.info? 104 = some i ∧ i.zero = some (.agg #[.int .i64 0, .int .i64 0, .int .i64 0, .int .i64 0]) ∧ i.size = 4 ∧ i.bytes = 32 := by
  have h := infoCl
  cases hq : Tryz.prog.info? 104 with
  | none => simp [hq] at h
  | some i => simp [hq] at h; exact ⟨i, rfl, h.1, h.2.1, h.2.2⟩
theorem intOwn_cell {w : World} {base : Nat} {g n cap : Nat} {l : List Int} (h : IntOwn w base (.slice (some ⟨g, 0, none⟩) n cap) l) (i : Nat) (hi : i < l.length) : w.cell? ⟨g, i, none⟩ = some (.int .i64 l[i]) := by
  have := h.cells (g := g) rfl i (.int .i64 l[i]) (by simp [hi])
  rwa [Addr.add_mid, Nat.zero_add] at this

set_option maxRecDepth 20000 in
set_option maxHeartbeats 8000000 in
theorem Clashes_any (w : World) (R H : Nat) (vp : Value) (ps : List PV) (hp : PrsAt w w.heap.size vp ps) (hps : ps.length ≤ 1000) (hH : H ≤ 1000) (hR : R ≤ 1000) (hok : ∀ x ∈ allF (prsOf ps) (initH R H), x.ok) :
    Calls Tryz.prog 27 #[.agg #[.int .i64 R, .int .i64 H, vp]] w fun e w' => ∃ v, e = .returned v ∧ Fresh w w' ∧ ClOwn w' w.heap.size v (clashL ((prsOf ps).zip (aheadsF (allF (prsOf ps) (initH R H)) (prsOf ps))) R H) := by
  obtain ⟨i0, hi0, iz0, iz1, iz2⟩ := infoCl'
  obtain ⟨pa, pc, hvp⟩ := own_form hp.row.own
  subst hvp
  have HP := hid hp
  have FI := hid (find_any' (w.alloc (.cells #[.int .i64 R, .int .i64 H, .slice pa ps.length pc] 42 (0, 0))) R H (.slice pa ps.length pc) ps ((hp.kept (Nat.le_refl _) ((Mod.refl (fun _ => False) w).alloc _) (fun _ _ x => x)).up (by simp)) hps hH hR)
  generalize allF (prsOf ps) (initH R H) = AL at FI hok
  have hzl : ((prsOf ps).zip (aheadsF AL (prsOf ps))).length ≤ 1000 := by simp [aheadsF, prsOf]; omega
  have hal : (aheadsF AL (prsOf ps)).length = ps.length := by simp [aheadsF, prsOf]
  have ha9 : ∀ a ∈ aheadsF AL (prsOf ps), a.length = 9 := fun a ha => by
    obtain ⟨p, _, rfl⟩ := List.mem_map.1 ha
    exact folB_len hok _ _
  have hlR := clN_len _ hzl R H hR (H + 1) 0
  generalize hRES : clashL ((prsOf ps).zip (aheadsF AL (prsOf ps))) R H = RES
  have HRES0 := hid hRES
  have hlen : RES.length ≤ 1003002000000 := by
    rw [← hRES]; unfold clashL; omega
  clear hp hRES hlR hok
  go_enter Tryz.func27, Tryz.ntmps27
  go_wp2_with (first
    | (go_at_call 43; refine (findAhead_any w1 b R H (.slice pa ps.length pc) vh ps AL hF1 hps).mono ?_; rintro e w2 ⟨va, rfl, hf2, hoa⟩)
    | (go_at_call 42; refine FI.out.mono ?_; rintro e w1 ⟨b, vh, rfl, hf1, hF1⟩))
  have HBT := hid (hf2.at (hf1.at (heap_alloc_at _ _) (fun x => x)) (fun x => x))
  have HF2 : Hid (Fresh w w2) := Mod.trans ((Mod.refl _ w).alloc _) (hf1.trans hf2)
  have HOA := hid hoa
  have PO := hid (fun (W : World) (hW : Fresh w2 W) (n t : Nat) => prodsOver_any W R H (.slice pa ps.length pc) ps ((HP.out.kept (Nat.le_refl _) (HF2.out.trans hW) (fun _ _ x => x)).up ((HF2.out.trans hW).size)) hps va (aheadsF AL (prsOf ps)) _ (ownsRow_other hoa (fun g hg => hW.block g (hoa.lt g hg).2 (fun x => x))) hal ha9 (n : Int) (t : Int))
  have hzo := hf2.size
  have hzw := HF2.out.size
  generalize (prsOf ps).zip (aheadsF AL (prsOf ps)) = z at HRES0 hzl PO
  clear hoa hF1 hf1 hf2 FI hal ha9
  go_loopw [5, 6, 7, 8, 9, 10, 12, 36, 46] (fun x5 x6 _ _ _ _ _ _ _ wr => ∃ (n : Nat) (acc : List Cl), x6 = .int .i64 n ∧ n ≤ H ∧ acc ++ clN z R H (H + 1 - n) n = RES ∧ ClOwn wr w2.heap.size x5 acc ∧ Fresh w2 wr)
      (fun _ x _ _ _ _ _ _ _ _ => H + 1 - (intOf x).toNat)
  case atStart => exact ⟨0, [], rfl, by omega, HRES0.out, World.ownsRow_nil _ _ _ _, Mod.refl _ _⟩
  case round =>
    obtain ⟨n, acc, rfl, hn, hres, hown, hfr⟩ := hrel
    have HMN := hid (meas (B := H + 1) n (by omega))
    have HFR := hid hfr
    have c1 := cellOf (hfr.at HBT.out (fun x => x)) 1
    have c0 := cellOf (hfr.at HBT.out (fun x => x)) 0
    simp at c1 c0
    obtain ⟨ro, rc, hro⟩ := own_form hown
    have HO := hid hown
    subst hro
    clear hown hfr
    by_cases hlt : n < H
    · have hn1 : (n : Int) < (H : Int) := by omega
      rw [show H + 1 - n = (H - n) + 1 by omega] at hres
      unfold clN at hres
      rw [if_pos hlt] at hres
      have HRN := hid hres
      clear hres
      obtain ⟨wn, hwn⟩ : ∃ wn, wn = wr := ⟨_, rfl⟩
      subst hwn
      go_wp2
      go_loopw [5, 7, 8, 9, 10, 12, 36, 46] (fun x5 x7 _ _ _ _ _ _ wr => ∃ (t : Nat) (acc : List Cl), x7 = .int .i64 t ∧ t ≤ R + 1 ∧ acc ++ (clT z n R (R + 2 - t) t ++ clN z R H (H - n) (n + 1)) = RES ∧ ClOwn wr w2.heap.size x5 acc ∧ Fresh w2 wr)
          (fun _ x _ _ _ _ _ _ _ => R + 2 - (intOf x).toNat)
      case atStart => exact ⟨0, acc, rfl, by omega, HRN.out, HO.out, HFR.out⟩
      case round =>
        obtain ⟨t, acc, rfl, ht, hres, hown, hfr⟩ := hrel
        have HMT := hid (meas (B := R + 2) t (by omega))
        have HFT := hid hfr
        have hb1 := heap_lt (hfr.at HBT.out (fun x => x))
        have c1 := cellOf (hfr.at HBT.out (fun x => x)) 1
        have c0 := cellOf (hfr.at HBT.out (fun x => x)) 0
        have c2 := cellOf (hfr.at HBT.out (fun x => x)) 2
        simp at c1 c0 c2
        obtain ⟨so, sc, hso⟩ := own_form hown
        have HOT := hid hown
        subst hso
        clear hown hfr
        by_cases hlt2 : t ≤ R
        · have ht1 : (t : Int) ≤ (R : Int) := by omega
          rw [show R + 2 - t = (R + 1 - t) + 1 by omega] at hres
          unfold clT at hres
          rw [if_pos hlt2, List.append_assoc] at hres
          obtain ⟨wt, hwt⟩ : ∃ wt, wt = wr := ⟨_, rfl⟩
          subst hwt
          have POT := hid (PO.out wt HFT.out n t)
          generalize hov : ovL (n : Int) (t : Int) z 0 = able at hres POT
          have hal2 : able.length ≤ 1000 := by rw [← hov]; have := ovL_len n t z 0; omega
          generalize hREST : clT z n R (R + 1 - t) (t + 1) ++ clN z R H (H - n) (n + 1) = REST at hres
          have HREST := hid hREST
          clear hREST
          have HRT := hid hres
          clear hres hov
          have HFT2 := HFT
          go_wp2_with (first
            | (go_at_call 44; refine POT.out.mono ?_; rintro e w3 ⟨v8, rfl, hf3, ho8⟩; obtain ⟨a8, c8, e8⟩ := own_form ho8; subst e8; have HO8 := hid ho8; have HF3 := hid (HFT.out.trans hf3); have HOC := hid (ownsRow_other HOT.out (fun g hg => hf3.block g (HOT.out.lt g hg).2 (fun x => x))); have HDI : Hid (∀ k, (Value.slice so acc.length sc).ownBlock = some k → (Value.slice a8 able.length c8).ownBlock ≠ some k) := (fun k hk e => by have q1 := (HOT.out.lt k hk).2; have q2 := (ho8.lt k e).1; omega); clear ho8 hf3)
            | (refine wpList_load_row rfl 42 _ rfl w.heap.size rfl _ #[.int .i64 R, .int .i64 H, .slice pa ps.length pc] _ _ (HFT.out.at HBT.out (fun x => x)) Tryz.underlying42 rfl szTab ?_))
          clear c0 c1 c2
          go_loopw [5, 9, 10, 12, 36, 46] (fun x5 _ _ _ x36 _ wr => ∃ (i : Nat) (acc : List Cl), x36 = .int .i64 i ∧ i ≤ able.length ∧ acc ++ (pairL n t (able.drop i) ++ REST) = RES ∧ ClOwn wr w2.heap.size x5 acc ∧ IntOwn wr wt.heap.size (.slice a8 able.length c8) able ∧ (∀ k, x5.ownBlock = some k → (Value.slice a8 able.length c8).ownBlock ≠ some k) ∧ Fresh w2 wr)
              (fun _ _ _ _ x _ _ => 1001 - (intOf x).toNat)
          case atStart => exact ⟨0, acc, rfl, by omega, HRT.out, HOC.out, HO8.out, HDI.out, HF3.out⟩
          case round =>
            obtain ⟨i, acc, rfl, hi, hres, hown, ho8, hdi, hfr⟩ := hrel
            have HMI := hid (meas (B := 1001) i (by omega))
            have HFI := hid hfr
            have HOI := hid hown
            have HO8I := hid ho8
            have HDII := hid hdi
            obtain ⟨qo, qc, hqo⟩ := own_form hown
            subst hqo
            clear hown hfr hdi
            by_cases hlti : i < able.length
            · have hi1 : (i : Int) < (able.length : Int) := by omega
              obtain ⟨g8, c8', hv8⟩ := Joins.ownsRow_form ho8 (by omega)
              rw [Value.slice.injEq] at hv8
              obtain ⟨rfl, _, rfl⟩ := hv8
              have hcap : able.length ≤ c8 := by
                rcases ho8.2 with ⟨h1, _⟩ | ⟨g', cap', cur, h1, _, _, h4, _⟩
                · cases h1
                · rw [Value.slice.injEq] at h1; omega
              have hcm : c8 ≤ 2 ^ 63 - 1 := by
                rcases ho8.2 with ⟨h1, _⟩ | ⟨g', cap', cur, h1, _, _, _, h5, _⟩
                · cases h1
                · rw [Value.slice.injEq] at h1; unfold maxLen at h5; omega
              have d1 := intOwn_cell ho8 i hlti
              rw [List.drop_eq_getElem_cons hlti] at hres
              unfold pairL at hres
              rw [List.append_assoc] at hres
              generalize able[i] = fst at hres d1
              generalize hR2 : pairL n t (able.drop (i + 1)) ++ REST = REST2 at hres
              have HR2 := hid hR2
              have HRI := hid hres
              clear hres ho8 hR2
              obtain ⟨wi, hwi⟩ : ∃ wi, wi = wr := ⟨_, rfl⟩
              subst hwi
              rcases (show c8 = i + 1 ∨ ¬ c8 = i + 1 by omega) with hc8 | hc8
              · have hle : able.length = i + 1 := by omega
                have HE : Hid (acc ++ REST2 = RES) := by
                  have := HRI.out
                  rw [List.drop_eq_nil_of_le (by omega)] at this
                  unfold Hid
                  simpa using this
                have h0 : able.length - (i + 1) = 0 := by omega
                subst hc8
                have HLE := hid hle
                clear hle
                go_wp2
                go_loopw [5, 12, 46] (fun x5 _ x46 wr => x5 = .slice qo acc.length qc ∧ x46 = .int .i64 0 ∧ wr = wi)
                    (fun _ _ _ _ => 0)
                case atStart => exact ⟨rfl, rfl, rfl⟩
                case round =>
                  obtain ⟨rfl, rfl, hwr⟩ := hrel
                  subst hwr
                  go_wp2
                  go_roundw
                  case rel => exact ⟨i + 1, acc, by go_num, by omega, by rw [HR2.out]; exact HE.out, HOI.out, HO8I.out, HDII.out, HFI.out⟩
                  case measure => exact HMI.out
              · have hc9 : ¬ c8 - (i + 1) = 0 := by omega
                go_wp2
                go_loopw [5, 12, 46] (fun x5 _ x46 wr => ∃ (j : Nat) (acc : List Cl), x46 = .int .i64 j ∧ j ≤ able.length - (i + 1) ∧ acc ++ ((((able.drop (i + 1)).drop j).map fun s => (⟨n, t, fst, s⟩ : Cl)) ++ REST2) = RES ∧ ClOwn wr w2.heap.size x5 acc ∧ IntOwn wr wt.heap.size (.slice (some ⟨g8, 0, none⟩) able.length c8) able ∧ (∀ k, x5.ownBlock = some k → (Value.slice (some ⟨g8, 0, none⟩) able.length c8).ownBlock ≠ some k) ∧ Fresh w2 wr)
                    (fun _ _ x _ => 1001 - (intOf x).toNat)
                case atStart => exact ⟨0, acc, rfl, by omega, HRI.out, HOI.out, HO8I.out, HDII.out, HFI.out⟩
                case round =>
                  obtain ⟨j, acc, rfl, hj, hres, hown, ho8, hdi, hfr⟩ := hrel
                  have HMJ := hid (meas (B := 1001) j (by omega))
                  have HFJ := hid hfr
                  have HOJ := hid hown
                  have HO8J := hid ho8
                  have HDJ := hid hdi
                  have hlacc : acc.length ≤ RES.length := by rw [← hres]; simp
                  obtain ⟨qo, qc, hqo⟩ := own_form hown
                  subst hqo
                  have hzj := hfr.size
                  clear hown hfr hdi
                  by_cases hltj : j < able.length - (i + 1)
                  · have hj1 : (j : Int) < ((able.length - (i + 1) : Nat) : Int) := by omega
                    have hdl : j < (able.drop (i + 1)).length := by simp; omega
                    rw [List.drop_eq_getElem_cons hdl, List.map_cons] at hres
                    have d2 := intOwn_cell ho8 (i + 1 + j) (by omega)
                    have hge : (able.drop (i + 1))[j] = able[i + 1 + j]'(by omega) := by simp
                    rw [hge] at hres
                    generalize able[i + 1 + j]'(by omega) = snd at hres d2
                    have HRJ := hid hres
                    clear hres ho8
                    go_wp2_with (first
                      | (at_builtin; refine wpList_append_mine _ rfl _ _ 75 rfl w2.heap.size 104 i0 _ 4 32 Tryz.underlying75 hi0 iz0 iz1 iz2 rfl (by decide) _ _ _ rfl (HOJ.out.alloc _) ⟨wr.heap.size, 0, none⟩ 1 1 [.int .i64 n, .int .i64 t, .int .i64 fst, .int .i64 snd] rfl rfl (new_cells rfl) (by intro u hu; simp at hu; rcases hu with rfl | rfl | rfl | rfl <;> rfl) (by unfold maxLen; omega) (by omega) (by simp; omega) ?_))
                    intro v' w5 hown2 hgrow hblk
                    have HF5 : Hid (Fresh w2 w5) := Mod.grown (S := fun _ => False) (HFJ.out.alloc _) hgrow (fun k hk hlt => by have := (HOJ.out.lt k hk).1; omega)
                    have H85 : Hid (IntOwn w5 wt.heap.size (.slice (some ⟨g8, 0, none⟩) able.length c8) able) := ownsRow_other (HO8J.out.alloc _) (fun g hg => hgrow.block g ((HO8J.out.alloc _).lt g hg).2 (fun e => HDJ.out g e.symm hg))
                    have HD5 : Hid (∀ k, v'.ownBlock = some k → (Value.slice (some ⟨g8, 0, none⟩) able.length c8).ownBlock ≠ some k) := fun k hk e => by
                      rcases hblk k hk with q1 | q1
                      · exact HDJ.out k q1 e
                      · have q2 := (HO8J.out.lt k e).2
                        first | omega | (simp at q1; omega)
                    have HO5 := hid hown2
                    clear hown2 hgrow hblk
                    go_wp2
                    go_roundw
                    case rel =>
                      refine ⟨j + 1, acc ++ [⟨n, t, fst, snd⟩], by go_num, by omega, ?_, ?_, H85.out, HD5.out, HF5.out⟩
                      · rw [List.append_assoc]; exact HRJ.out
                      · unfold ClOwn
                        rw [flat_snoc, List.length_append, List.length_singleton]
                        exact HO5.out
                    case measure => exact HMJ.out
                  · have hje : j = able.length - (i + 1) := by omega
                    have hj2 : ¬ (j : Int) < ((able.length - (i + 1) : Nat) : Int) := by omega
                    rw [List.drop_eq_nil_of_le (by simp; omega), List.map_nil, List.nil_append] at hres
                    have HRJ := hid hres
                    clear hres ho8
                    go_wp2
                    go_roundw
                    case rel => exact ⟨i + 1, acc, by go_num, by omega, by rw [HR2.out]; exact HRJ.out, HOJ.out, HO8J.out, HDJ.out, HFJ.out⟩
                    case measure => exact HMI.out
            · have hie : i = able.length := by omega
              have hi2 : ¬ (i : Int) < (able.length : Int) := by omega
              rw [hie, List.drop_length] at hres
              have HRI : Hid (acc ++ REST = RES) := by unfold Hid; simpa [pairL] using hres
              clear hres ho8
              go_wp2
              go_roundw
              case rel => exact ⟨t + 1, acc, by go_num, by omega, by rw [show R + 2 - (t + 1) = R + 1 - t by omega, HREST.out]; exact HRI.out, HOI.out, HFI.out⟩
              case measure => exact HMT.out
        · have hte : t = R + 1 := by omega
          have ht2 : ¬ (t : Int) ≤ (R : Int) := by omega
          rw [show R + 2 - t = 1 by omega] at hres
          unfold clT at hres
          rw [if_neg hlt2, List.nil_append] at hres
          have HRT := hid hres
          clear hres
          go_wp2
          go_roundw
          case rel => exact ⟨n + 1, acc, by go_num, by omega, by rw [show H + 1 - (n + 1) = H - n by omega]; exact HRT.out, HOT.out, HFT.out⟩
          case measure => exact HMN.out
    · have hne : n = H := by omega
      have hn2 : ¬ (n : Int) < (H : Int) := by omega
      rw [show H + 1 - n = 1 by omega] at hres
      unfold clN at hres
      rw [if_neg hlt, List.append_nil] at hres
      subst hres
      go_wp2
      go_ret
      exact ⟨_, rfl, HF2.out.trans HFR.out, ownsRow_base HO.out hzw⟩
end Go.Proofs.YteneagnhihcljaaGreatDoor
