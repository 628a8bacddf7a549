import Derived.Test.YteneagnhihcljaaGreatDoorSe8
namespace Go.Proofs.YteneagnhihcljaaGreatDoor
open Go.RowKit
set_option linter.unusedVariables false
set_option linter.unusedSimpArgs false

def growRS : List Sy → List Hd → Bool → List Hd × Bool
  | [], hs, g => (hs, g)
  | s :: l, hs, g => if s.isH = false then growRS l hs g else
      growRS l (putF hs s.num { getH hs s.num with rch := true }) (g || putB hs s.num { getH hs s.num with rch := true })
def growRL : List Pr → List Hd → Bool → List Hd × Bool
  | [], hs, g => (hs, g)
  | p :: l, hs, g => if (getH hs p.head).rch = false then growRL l hs g else growRL l (growRS p.syms hs g).1 (growRS p.syms hs g).2

set_option maxRecDepth 20000 in
set_option maxHeartbeats 8000000 in
theorem growR_any (w : World) (b : Nat) (R H : Int) (vp vh : Value) (ps : List PV) (hs : List Hd) (h : FA w b R H vp vh ps hs) (hps : ps.length ≤ 1000) :
    Calls Tryz.prog 79 #[bptr b] w fun e w' => e = .returned (.bool (growRL (prsOf ps) hs false).2) ∧ FA w' b R H vp vh ps (growRL (prsOf ps) hs false).1 ∧ Mod (growBegV vh) w w' := by
  have HF0 := hid h
  obtain ⟨ao, cap, hv⟩ := own_form h.prs.row.own
  subst hv
  have k2 := h.cell 2
  simp at k2
  generalize hR : growRL (prsOf ps) hs false = RES
  have HR := hid hR
  clear hR h
  go_enter Tryz.func79, Tryz.ntmps79
  go_wp2
  go_loopw [3, 5, 6, 8, 9, 16, 30] (fun x3 _ _ _ _ x16 _ wr => ∃ (i : Nat) (gr : Bool) (hs' : List Hd), x3 = .bool gr ∧ x16 = .int .i64 i ∧ i ≤ ps.length ∧ FA wr b R H (.slice ao ps.length cap) vh ps hs' ∧ growRL (prsOf (ps.drop i)) hs' gr = RES ∧ Mod (growBegV vh) w wr)
      (fun _ _ _ _ _ x _ _ => ps.length + 1 - (intOf x).toNat)
  case atStart => exact ⟨0, false, hs, rfl, rfl, by omega, HF0.out, HR.out, Mod.refl _ w⟩
  case round =>
    obtain ⟨i, gr, hs', rfl, rfl, hi, hF, hres, hmod⟩ := hrel
    obtain ⟨wo, hwo⟩ : ∃ wo, wo = wr := ⟨_, rfl⟩
    subst hwo
    have HME := hid (meas (B := ps.length + 1) i (by omega))
    have HMOD := hid hmod
    have HF := hid hF
    clear hmod
    by_cases hlt : i < ps.length
    · have hi1 : (i : Int) < (ps.length : Int) := by omega
      rw [List.drop_eq_getElem_cons hlt] at hres
      obtain ⟨gp, cap', hv'⟩ := Joins.ownsRow_form hF.prs.row.own (by omega)
      rw [Value.slice.injEq] at hv'
      obtain ⟨rfl, _, rfl⟩ := hv'
      have RG : Hid (wo.rangeAt gp (i * 2) [.int .i64 ps[i].pr.head, ps[i].vs]) := hF.prs.row.range i hlt
      have hbl := hF.size
      have HFb := hid (hF.fresh ((Mod.refl _ wo).alloc (.cells #[.int .i64 ps[i].pr.head, ps[i].vs] 73 (0, 0))))
      have HSY : Hid (∀ (w1 : World) (hs1 : List Hd), FA w1 b R H (.slice (some ⟨gp, 0, none⟩) ps.length cap) vh ps hs1 → SymAt w1 b ps[i].vs ps[i].pr.syms) := fun w1 hs1 h => h.prs.syms ps[i] (by simp)
      unfold prsOf at hres
      rw [List.map_cons] at hres
      unfold growRL at hres
      generalize ps[i].pr = pr at hres RG HSY HFb
      generalize ps[i].vs = pvs at RG HSY HFb
      obtain ⟨ph, psy⟩ := pr
      dsimp only at hres RG HSY HFb
      obtain ⟨sao, scap, hsv, hsc1, hsc2, _⟩ := HSY.out _ _ hF
      subst hsv
      unfold maxLen at hsc2
      have HOH := hid (getH_ok hF.ok ph)
      have GA := hid (fun w (h : FA w b R H (.slice (some ⟨gp, 0, none⟩) ps.length cap) vh ps hs') => get_any w b R H _ vh ps hs' ph h)
      generalize getH hs' ph = hd at hres HOH GA
      clear hF
      cases hn : hd.rch
      · rw [if_pos hn] at hres
        have HRES := hid hres
        clear hres
        go_wp2_with (first
          | (refine wpList_load_mid rfl 73 _ rfl gp (i * 2) rfl [.int .i64 ph, .slice sao psy.length scap] _ RG.out Tryz.underlying73 rfl szPV ?_)
          | (go_at_call 66; refine (GA.out _ HFb.out).mono ?_; rintro e w1 ⟨rfl, hf1⟩; have k1 : (w1.alloc (.cells (hdA hd) 139 (0, 0))).cell? ⟨w1.heap.size, 1, none⟩ = some (.bool hd.rch) := (by rw [cellOf (heap_alloc_at _ _) 1]; exact hd_at1 hd); rw [hn] at k1; have hfa : Hid (Fresh wo (w1.alloc (.cells (hdA hd) 139 (0, 0)))) := (Mod.trans ((Mod.refl _ wo).alloc _) hf1 |>.alloc _))
          | (refine wpList_store_new rfl 139 _ _ rfl w1 _ (hdA hd) _ rfl rfl rfl (szHdOf HOH.out) (sameSize rfl (hd_size HOH.out)) (hd_one _) ?_))
        go_roundw
        case rel => exact ⟨i + 1, gr, hs', rfl, by go_num, by omega, HF.out.fresh hfa.out, HRES.out, Mod.trans HMOD.out (Mod.mono hfa.out (fun _ _ x => x.elim))⟩
        case measure => exact HME.out
      · rw [if_neg (by simp [hn])] at hres
        generalize hRR : growRS psy hs' gr = RR at hres
        have HRR := hid hRR
        have HRES := hid hres
        clear hres hRR
        go_wp2_with (first
          | (refine wpList_load_mid rfl 73 _ rfl gp (i * 2) rfl [.int .i64 ph, .slice sao psy.length scap] _ RG.out Tryz.underlying73 rfl szPV ?_)
          | (go_at_call 66; refine (GA.out _ HFb.out).mono ?_; rintro e w1 ⟨rfl, hf1⟩; have hz1 : wo.heap.size < w1.heap.size := (by have := hf1.size; simp at this; omega); have k1 : (w1.alloc (.cells (hdA hd) 139 (0, 0))).cell? ⟨w1.heap.size, 1, none⟩ = some (.bool hd.rch) := (by rw [cellOf (heap_alloc_at _ _) 1]; exact hd_at1 hd); rw [hn] at k1; have k2 : (w1.alloc (.cells (hdA hd) 139 (0, 0))).cell? ⟨wo.heap.size, 1, none⟩ = some (.slice sao psy.length scap) := (by rw [cellOf (heap_alloc_prev (hf1.at (heap_alloc_at _ _) (fun x => x))) 1]; rfl); have hfa : Hid (Fresh wo (w1.alloc (.cells (hdA hd) 139 (0, 0)))) := (Mod.trans ((Mod.refl _ wo).alloc _) hf1 |>.alloc _))
          | (refine wpList_store_new rfl 139 _ _ rfl w1 _ (hdA hd) _ rfl rfl rfl (szHdOf HOH.out) (sameSize rfl (hd_size HOH.out)) (hd_one _) ?_))
        go_loopw [3, 8, 9, 30] (fun x3 _ _ x30 wr => ∃ (j : Nat) (gr1 : Bool) (hs1 : List Hd), x3 = .bool gr1 ∧ x30 = .int .i64 j ∧ j ≤ psy.length ∧ FA wr b R H (.slice (some ⟨gp, 0, none⟩) ps.length cap) vh ps hs1 ∧ growRS (psy.drop j) hs1 gr1 = RR ∧ Mod (growBegV vh) w wr)
          (fun _ _ _ x _ => psy.length + 1 - (intOf x).toNat)
        case atStart => exact ⟨0, gr, hs', rfl, rfl, by omega, HF.out.fresh hfa.out, HRR.out, Mod.trans HMOD.out (Mod.mono hfa.out (fun _ _ x => x.elim))⟩
        case round =>
          obtain ⟨j, gr1, hs1, rfl, rfl, hj, hF1, hres1, hmod1⟩ := hrel
          have HMJ := hid (meas (B := psy.length + 1) j (by omega))
          have HM1 := hid hmod1
          have HF1 := hid hF1
          clear hmod1
          by_cases hlj : j < psy.length
          · have hj1 : (j : Int) < (psy.length : Int) := by omega
            rw [List.drop_eq_getElem_cons hlj] at hres1
            obtain ⟨ao2, cap2, hv2, hd1, hd2, hcells⟩ := HSY.out _ _ hF1
            rw [Value.slice.injEq] at hv2
            obtain ⟨rfl, _, rfl⟩ := hv2
            obtain ⟨gs, os, rfl, hgs, hrs⟩ := hcells j hlj
            have RS : Hid (wr.rangeAt gs (os + j * 2) [.bool psy[j].isH, .int .i64 psy[j].num]) := hrs
            unfold growRS at hres1
            generalize psy[j].isH = sh at hres1 RS
            generalize psy[j].num = sn at hres1 RS
            have hbi := hF1.size
            clear hcells hrs
            cases sh
            · rw [if_pos rfl] at hres1
              have HRES1 := hid hres1
              clear hres1 hF1
              go_wp2_with (first
                | (refine wpList_load_mid rfl 84 _ rfl gs (os + j * 2) rfl [.bool false, .int .i64 sn] _ RS.out Tryz.underlying84 rfl szSy ?_))
              go_roundw
              case rel => exact ⟨j + 1, gr1, hs1, rfl, by go_num, by omega, HF1.out.fresh ((Mod.refl _ wr).alloc _), HRES1.out, Mod.trans HM1.out ((Mod.refl _ wr).alloc _)⟩
              case measure => exact HMJ.out
            · rw [if_neg (by simp)] at hres1
              have HOH1 := hid (getH_ok hF1.ok sn)
              have GA1 := hid (fun w (h : FA w b R H (.slice (some ⟨gp, 0, none⟩) ps.length cap) vh ps hs1) => get_any w b R H _ vh ps hs1 sn h)
              have PA1 := hid (fun w (x : Hd) (hx : x.ok) (h : FA w b R H (.slice (some ⟨gp, 0, none⟩) ps.length cap) vh ps hs1) => put_any w b R H _ vh ps hs1 sn x hx h)
              have HFc := hid (hF1.fresh ((Mod.refl _ wr).alloc (.cells #[.bool true, .int .i64 sn] 84 (0, 0))))
              generalize getH hs1 sn = hd1 at hres1 HOH1 GA1
              have HO1 : Hid (Hd.ok { hd1 with rch := true }) := ⟨HOH1.out.fi, HOH1.out.fo⟩
              generalize hpb : putB hs1 sn { hd1 with rch := true } = pb at hres1
              have HPB := hid hpb
              have HRES1 := hid hres1
              clear hres1 hF1 hpb
              go_wp2_with (first
                | (refine wpList_load_mid rfl 84 _ rfl gs (os + j * 2) rfl [.bool true, .int .i64 sn] _ RS.out Tryz.underlying84 rfl szSy ?_)
                | (go_at_call 66; refine (GA1.out _ HFc.out).mono ?_; rintro e w2 ⟨rfl, hf2⟩; have hz2 : wr.heap.size < w2.heap.size := (by have := hf2.size; simp at this; omega); have c3 : (w2.alloc (.cells (hdA hd1) 139 (0, 0))).cell? ⟨w2.heap.size, 1, none⟩ = some (.bool hd1.rch) := (by rw [cellOf (heap_alloc_at _ _) 1]; exact hd_at1 hd1); have z3 := frozen_at (heap_alloc_at w2 (.cells (hdA hd1) 139 (0, 0))) 1; have hfz : Hid (Fresh wr (w2.alloc (.cells ((hdA hd1).setIfInBounds 1 (.bool true)) 139 (0, 0)))) := (Mod.trans ((Mod.refl _ wr).alloc _) hf2 |>.alloc _); have hb4 : Hid ((w2.alloc (.cells ((hdA hd1).setIfInBounds 1 (.bool true)) 139 (0, 0))).heap[w2.heap.size]? = some (.cells (hdA { hd1 with rch := true }) 139 (0, 0))) := (by unfold Hid; rw [hd_set1]; exact heap_alloc_at _ _); have k4 : (w2.alloc (.cells ((hdA hd1).setIfInBounds 1 (.bool true)) 139 (0, 0))).cell? ⟨wr.heap.size, 1, none⟩ = some (.int .i64 sn) := (by rw [cellOf (heap_alloc_prev (hf2.at (heap_alloc_at _ _) (fun x => x))) 1]; rfl))
                | (refine wpList_store_new rfl 139 _ _ rfl w2 _ (hdA hd1) _ rfl rfl rfl (szHdOf HOH1.out) (sameSize rfl (hd_size HOH1.out)) (hd_one _) ?_)
                | (refine wpList_load_row rfl 139 _ rfl w2.heap.size rfl _ _ _ _ hb4.out Tryz.underlying139 rfl (szHdOf HO1.out) ?_)
                | (go_at_call 87; refine (PA1.out _ { hd1 with rch := true } HO1.out (HF1.out.fresh hfz.out)).mono ?_; rintro e w4 ⟨rfl, hF4, hm4⟩; rw [HPB.out]))
              · have hq : pb = true := by assumption
                go_roundw
                case rel =>
                  refine ⟨j + 1, true, _, rfl, by go_num, by omega, hF4, ?_, Mod.trans HM1.out (Mod.trans (Mod.mono hfz.out (fun _ _ x => x.elim)) hm4)⟩
                  have := HRES1.out; rw [hq, Bool.or_true] at this; exact this
                case measure => exact HMJ.out
              · have hq : pb = false := by assumption
                go_roundw
                case rel =>
                  refine ⟨j + 1, gr1, _, rfl, by go_num, by omega, hF4, ?_, Mod.trans HM1.out (Mod.trans (Mod.mono hfz.out (fun _ _ x => x.elim)) hm4)⟩
                  have := HRES1.out; rw [hq, Bool.or_false] at this; exact this
                case measure => exact HMJ.out
          · have hje : j = psy.length := by omega
            rw [hje, List.drop_length] at hres1
            have hres2 : (hs1, gr1) = RR := hres1
            have HRES1 := hid hres2
            have hj2 : ¬ (j : Int) < (psy.length : Int) := by omega
            clear hres1 hres2 hF1
            go_wp2
            go_roundw
            case rel =>
              refine ⟨i + 1, gr1, hs1, rfl, by go_num, by omega, HF1.out, ?_, HM1.out⟩
              have := HRES.out; rw [← HRES1.out] at this; exact this
            case measure => exact HME.out
    · have hie : i = ps.length := by omega
      rw [hie, List.drop_length] at hres
      have hres2 : (hs', gr) = RES := hres
      have HRES := hid hres2
      have hi2 : ¬ (i : Int) < (ps.length : Int) := by omega
      clear hres hF
      go_wp2
      go_ret
      exact ⟨ret_bool (by rw [← HRES.out]), by rw [← HRES.out]; exact HF.out, HMOD.out⟩
end Go.Proofs.YteneagnhihcljaaGreatDoor
namespace Go.Proofs.YteneagnhihcljaaGreatDoor
open Go.RowKit
set_option linter.unusedVariables false
set_option linter.unusedSimpArgs false

def folB (hs : List Hd) (ph : Int) (l : List Sy) : List Bool := if (begF hs l zero9).2 then orL (begF hs l zero9).1 (getH hs ph).fo else (begF hs l zero9).1
def growS1 (hs : List Hd) (ph sn : Int) (l : List Sy) : Hd := { getH hs sn with fo := orL (getH hs sn).fo (folB hs ph l) }
def growSS (ph : Int) : List Sy → List Hd → Bool → List Hd × Bool
  | [], hs, g => (hs, g)
  | s :: l, hs, g => if s.isH = false then growSS ph l hs g else
      growSS ph l (putF hs s.num (growS1 hs ph s.num l)) (g || putB hs s.num (growS1 hs ph s.num l))
def growSL : List Pr → List Hd → Bool → List Hd × Bool
  | [], hs, g => (hs, g)
  | p :: l, hs, g => growSL l (growSS p.head p.syms hs g).1 (growSS p.head p.syms hs g).2
theorem SymAt.drop {w : World} {B gs os cap : Nat} {l : List Sy} (h : SymAt w B (.slice (some ⟨gs, os, none⟩) l.length cap) l) (k : Nat) (hk : k ≤ l.length) :
    SymAt w B (.slice (some ⟨gs, os + k * 2, none⟩) (l.length - k) (cap - k)) (l.drop k) := by
  obtain ⟨ao, c, h1, h2, h3, h4⟩ := h
  rw [Value.slice.injEq] at h1
  obtain ⟨rfl, _, rfl⟩ := h1
  refine ⟨some ⟨gs, os + k * 2, none⟩, cap - k, by simp, by simp; omega, by omega, fun i hi => ?_⟩
  simp only [List.length_drop] at hi
  obtain ⟨g, o, e1, e2, e3⟩ := h4 (k + i) (by omega)
  simp only [Option.some.injEq, Addr.mk.injEq] at e1
  obtain ⟨rfl, rfl, _⟩ := e1
  refine ⟨gs, os + k * 2, rfl, e2, ?_⟩
  have e : os + (k + i) * 2 = os + k * 2 + i * 2 := by omega
  rw [e] at e3
  simpa using e3
theorem SymAt.none {w : World} {B : Nat} {ao : Option Addr} {l : List Sy} (hl : l = []) {n : Nat} (hn : n = 0) : SymAt w B (.slice ao n 0) l := by
  subst hl; subst hn
  exact ⟨ao, 0, rfl, by simp, by unfold maxLen; omega, fun i hi => by simp at hi⟩
theorem heap_setCells_other {w : World} {g o : Nat} {vs : List Value} {b : Nat} (hb : b ≠ g) : (w.setCells g o vs).heap[b]? = w.heap[b]? := by
  induction vs generalizing w o with
  | nil => rfl
  | cons v vs ih => rw [World.setCells, ih]; exact heap_setCell_other v (by simpa using hb)
theorem folB_len {hs : List Hd} (h : ∀ x ∈ hs, x.ok) (ph : Int) (l : List Sy) : (folB hs ph l).length = 9 := by
  unfold folB
  have := begF_len h l zero9 rfl
  split
  · exact orL_len this (getH_ok h _).fo
  · exact this

end Go.Proofs.YteneagnhihcljaaGreatDoor
namespace Go.Proofs.YteneagnhihcljaaGreatDoor
open Go.RowKit
set_option linter.unusedVariables false
set_option linter.unusedSimpArgs false

def leB : List Bool → List Bool → Prop
  | [], [] => True
  | x :: xs, y :: ys => (x = true → y = true) ∧ leB xs ys
  | _, _ => False
theorem leB_refl : ∀ l : List Bool, leB l l
  | [] => trivial
  | x :: l => ⟨fun h => h, leB_refl l⟩
theorem leB_trans : ∀ {a b c : List Bool}, leB a b → leB b c → leB a c
  | [], [], [], _, _ => trivial
  | x :: xs, y :: ys, z :: zs, h, k => ⟨fun e => k.1 (h.1 e), leB_trans h.2 k.2⟩
theorem leB_len : ∀ {a b : List Bool}, leB a b → a.length = b.length
  | [], [], _ => rfl
  | _ :: xs, _ :: ys, h => by simp [leB_len h.2]
theorem leB_append : ∀ {a b c d : List Bool}, leB a b → leB c d → leB (a ++ c) (b ++ d)
  | [], [], _, _, _, k => k
  | _ :: xs, _ :: ys, _, _, h, k => ⟨h.1, leB_append h.2 k⟩
def cntF (l : List Bool) : Nat := (l.filter fun b => !b).length
theorem cntF_le : ∀ {a b : List Bool}, leB a b → cntF b ≤ cntF a ∧ (a ≠ b → cntF b < cntF a)
  | [], [], _ => ⟨Nat.le_refl _, fun h => absurd rfl h⟩
  | x :: xs, y :: ys, h => by
    have ih := cntF_le h.2
    cases x <;> cases y
    · simp only [cntF, List.filter_cons, Bool.not_false, if_true, List.length_cons, ne_eq, List.cons.injEq, true_and] at *
      exact ⟨by omega, fun e => by have := ih.2 e; omega⟩
    · simp only [cntF, List.filter_cons, Bool.not_false, Bool.not_true, Bool.false_eq_true, if_true, if_false, List.length_cons] at *
      exact ⟨by omega, fun _ => by omega⟩
    · have := h.1 rfl; cases this
    · simp only [cntF, List.filter_cons, Bool.not_true, Bool.false_eq_true, if_false, ne_eq, List.cons.injEq, true_and] at *
      exact ih
theorem leB_orL : ∀ {a b : List Bool}, a.length = b.length → leB a (orL a b)
  | [], [], _ => trivial
  | x :: xs, y :: ys, h => ⟨fun e => by simp [e], leB_orL (by simpa using h)⟩
theorem leB_at : ∀ {a b : List Bool}, leB a b → ∀ i, a.getD i false = true → b.getD i false = true
  | [], [], _, i, h => by simp at h
  | x :: xs, y :: ys, h, 0, e => h.1 e
  | x :: xs, y :: ys, h, i + 1, e => by simpa using leB_at h.2 i (by simpa using e)
theorem leB_of : ∀ {a b : List Bool}, a.length = b.length → (∀ i, a.getD i false = true → b.getD i false = true) → leB a b
  | [], [], _, _ => trivial
  | x :: xs, y :: ys, h, k => ⟨fun e => k 0 e, leB_of (by simpa using h) (fun i e => by simpa using k (i + 1) (by simpa using e))⟩
theorem orL_at : ∀ {a b : List Bool}, a.length = b.length → ∀ i, (orL a b).getD i false = (a.getD i false || b.getD i false)
  | [], [], _, i => by simp [orL]
  | x :: xs, y :: ys, h, 0 => rfl
  | x :: xs, y :: ys, h, i + 1 => by simpa [orL] using orL_at (a := xs) (b := ys) (by simpa using h) i

def Hd.bits (h : Hd) : List Bool := h.nul :: h.rch :: h.fru :: (h.fi ++ h.fo)
def Hd.le (a b : Hd) : Prop := leB a.bits b.bits
theorem Hd.le_refl (a : Hd) : a.le a := leB_refl _
theorem Hd.le_trans {a b c : Hd} (h : a.le b) (k : b.le c) : a.le c := leB_trans h k
theorem bits_inj {a b : Hd} (ha : a.ok) (hb : b.ok) (h : a.bits = b.bits) : a = b := by
  obtain ⟨n, r, f, fi, fo⟩ := a
  obtain ⟨n', r', f', fi', fo'⟩ := b
  simp only [Hd.bits, List.cons.injEq] at h
  obtain ⟨rfl, rfl, rfl, h⟩ := h
  have := List.append_inj h (by rw [ha.fi, hb.fi])
  obtain ⟨rfl, rfl⟩ := this
  rfl
def Hd.cnt (h : Hd) : Nat := cntF h.bits
def cntH : List Hd → Nat
  | [] => 0
  | h :: l => h.cnt + cntH l
theorem cntH_set : ∀ (hs : List Hd) (k : Nat) (x : Hd) (hk : k < hs.length), cntH (hs.set k x) + hs[k].cnt = cntH hs + x.cnt
  | h :: l, 0, x, _ => by simp only [List.set_cons_zero, cntH, List.getElem_cons_zero]; omega
  | h :: l, k + 1, x, hk => by
    have := cntH_set l k x (by simpa using hk)
    simp only [List.set_cons_succ, cntH, List.getElem_cons_succ]; omega

/-- what a put does, where the new is at least the old -/
theorem put_cnt {hs : List Hd} (hok : ∀ x ∈ hs, x.ok) {n : Int} {x : Hd} (hx : x.ok) (hle : (getH hs n).le x) :
    cntH (putF hs n x) ≤ cntH hs ∧ (putB hs n x = true → cntH (putF hs n x) < cntH hs) ∧ (putB hs n x = false → putF hs n x = hs) := by
  unfold putF putB getH at *
  by_cases h0 : 0 ≤ n
  · rw [if_pos h0] at hle ⊢
    rw [if_pos h0]
    by_cases hk : n.toNat < hs.length
    · rw [List.getElem?_eq_getElem hk] at hle ⊢
      simp only [Option.getD_some] at hle
      have hc := cntH_set hs n.toNat x hk
      have hl := cntF_le hle
      have h1 : (hs[n.toNat]).cnt = cntF hs[n.toNat].bits := rfl
      have h2 : x.cnt = cntF x.bits := rfl
      refine ⟨by omega, ?_, ?_⟩
      · intro hp
        have hne : hs[n.toNat].bits ≠ x.bits := by
          intro e
          have := bits_inj (hok _ (by simp)) hx e
          have h3 : hdEq hs[n.toNat] x = true := hdEq_iff.2 this
          simp [h3] at hp
        have := hl.2 hne
        omega
      · intro hp
        have : hdEq hs[n.toNat] x = true := by simpa using hp
        rw [← hdEq_iff.1 this, List.set_getElem_self]
    · rw [List.getElem?_eq_none (by omega), List.set_eq_of_length_le (by omega)]
      exact ⟨Nat.le_refl _, fun h => (by cases h), fun _ => rfl⟩
  · rw [if_neg h0, if_neg h0]
    exact ⟨Nat.le_refl _, fun h => (by cases h), fun _ => rfl⟩
end Go.Proofs.YteneagnhihcljaaGreatDoor
namespace Go.Proofs.YteneagnhihcljaaGreatDoor
open Go.RowKit
set_option linter.unusedVariables false
set_option linter.unusedSimpArgs false

/-- a step of growing: all stays ok, no length changes, the false ones get fewer where something is new, and nothing changes where nothing is new -/
structure Grows (hs : List Hd) (r : List Hd × Bool) (g : Bool) : Prop where
  ok : ∀ x ∈ r.1, x.ok
  len : r.1.length = hs.length
  cnt : cntH r.1 ≤ cntH hs
  more : r.2 = true → g = true ∨ cntH r.1 < cntH hs
  same : r.2 = false → g = false ∧ r.1 = hs
theorem Grows.refl {hs : List Hd} (h : ∀ x ∈ hs, x.ok) (g : Bool) : Grows hs (hs, g) g := ⟨h, rfl, Nat.le_refl _, fun e => .inl e, fun e => ⟨e, rfl⟩⟩
theorem Grows.put {hs : List Hd} (hok : ∀ x ∈ hs, x.ok) {n : Int} {x : Hd} (hx : x.ok) (hle : (getH hs n).le x) (g : Bool) : Grows hs (putF hs n x, g || putB hs n x) g := by
  obtain ⟨h1, h2, h3⟩ := put_cnt hok hx hle
  refine ⟨putF_ok hok n hx, putF_len _ _ _, h1, ?_, ?_⟩
  · intro e
    cases g
    · right; exact h2 (by simpa using e)
    · left; rfl
  · intro e
    dsimp only at e
    simp only [Bool.or_eq_false_iff] at e
    exact ⟨e.1, h3 e.2⟩
theorem Grows.trans {hs : List Hd} {a b : List Hd × Bool} {g : Bool} (h : Grows hs a g) (k : Grows a.1 b a.2) : Grows hs b g := by
  refine ⟨k.ok, k.len.trans h.len, Nat.le_trans k.cnt h.cnt, ?_, ?_⟩
  · intro e
    have c1 := h.cnt
    have c2 := k.cnt
    rcases k.more e with h1 | h1
    · rcases h.more h1 with h2 | h2
      · exact .inl h2
      · right; omega
    · right; omega
  · intro e
    obtain ⟨e1, e2⟩ := k.same e
    obtain ⟨e3, e4⟩ := h.same e1
    exact ⟨e3, by rw [e2, e4]⟩

theorem bits_le {h k : Hd} (h1 : h.nul = true → k.nul = true) (h2 : h.rch = true → k.rch = true) (h3 : h.fru = true → k.fru = true) (h4 : leB h.fi k.fi) (h5 : leB h.fo k.fo) : h.le k :=
  ⟨h1, h2, h3, leB_append h4 h5⟩
theorem le_nf {h : Hd} (hk : h.ok) (e : Bool) {r : List Bool} (hr : r.length = 9) : h.le { h with nul := h.nul || e, fi := orL h.fi r } :=
  bits_le (fun x => by simp [x]) (fun x => x) (fun x => x) (leB_orL (by rw [hk.fi, hr])) (leB_refl _)
theorem le_fo {h : Hd} (hk : h.ok) {r : List Bool} (hr : r.length = 9) : h.le { h with fo := orL h.fo r } :=
  bits_le (fun x => x) (fun x => x) (fun x => x) (leB_refl _) (leB_orL (by rw [hk.fo, hr]))
theorem le_rch (h : Hd) : h.le { h with rch := true } := bits_le (fun x => x) (fun _ => rfl) (fun x => x) (leB_refl _) (leB_refl _)
theorem le_fru (h : Hd) (e : Bool) : h.le { h with fru := h.fru || e } := bits_le (fun x => x) (fun x => x) (fun x => by simp [x]) (leB_refl _) (leB_refl _)

theorem growB1_grows {hs : List Hd} (hok : ∀ x ∈ hs, x.ok) (p : Pr) (g : Bool) : Grows hs ((growB1 hs p).1, g || (growB1 hs p).2) g := by
  unfold growB1
  refine Grows.put hok ?_ ?_ g
  · exact ⟨orL_len (getH_ok hok _).fi (begF_len hok _ _ rfl), (getH_ok hok _).fo⟩
  · exact le_nf (getH_ok hok _) _ (begF_len hok _ _ rfl)
theorem growBL_grows : ∀ (l : List Pr) {hs : List Hd} (_ : ∀ x ∈ hs, x.ok) (g : Bool), Grows hs (growBL l hs g) g
  | [], _, hok, g => Grows.refl hok g
  | p :: l, hs, hok, g => by
    have h1 := growB1_grows hok p g
    exact h1.trans (growBL_grows l h1.ok _)
theorem growF1_grows {hs : List Hd} (hok : ∀ x ∈ hs, x.ok) (p : Pr) (g : Bool) : Grows hs ((growF1 hs p).1, g || (growF1 hs p).2) g := by
  unfold growF1
  refine Grows.put hok ?_ ?_ g
  · exact ⟨(getH_ok hok p.head).fi, (getH_ok hok p.head).fo⟩
  · exact le_fru _ _
theorem growFL_grows : ∀ (l : List Pr) {hs : List Hd} (_ : ∀ x ∈ hs, x.ok) (g : Bool), Grows hs (growFL l hs g) g
  | [], _, hok, g => Grows.refl hok g
  | p :: l, hs, hok, g => by
    have h1 := growF1_grows hok p g
    exact h1.trans (growFL_grows l h1.ok _)
theorem growRS_grows : ∀ (l : List Sy) {hs : List Hd} (_ : ∀ x ∈ hs, x.ok) (g : Bool), Grows hs (growRS l hs g) g
  | [], _, hok, g => Grows.refl hok g
  | s :: l, hs, hok, g => by
    unfold growRS
    split
    · exact growRS_grows l hok g
    · have h1 : Grows hs (putF hs s.num { getH hs s.num with rch := true }, g || putB hs s.num { getH hs s.num with rch := true }) g := by
        refine Grows.put hok ?_ ?_ g
        · exact ⟨(getH_ok hok s.num).fi, (getH_ok hok s.num).fo⟩
        · exact le_rch _
      exact h1.trans (growRS_grows l h1.ok _)
theorem growRL_grows : ∀ (l : List Pr) {hs : List Hd} (_ : ∀ x ∈ hs, x.ok) (g : Bool), Grows hs (growRL l hs g) g
  | [], _, hok, g => Grows.refl hok g
  | p :: l, hs, hok, g => by
    unfold growRL
    split
    · exact growRL_grows l hok g
    · have h1 := growRS_grows p.syms hok g
      exact h1.trans (growRL_grows l h1.ok _)
theorem growSS_grows (ph : Int) : ∀ (l : List Sy) {hs : List Hd} (_ : ∀ x ∈ hs, x.ok) (g : Bool), Grows hs (growSS ph l hs g) g
  | [], _, hok, g => Grows.refl hok g
  | s :: l, hs, hok, g => by
    unfold growSS
    split
    · exact growSS_grows ph l hok g
    · have h1 : Grows hs (putF hs s.num (growS1 hs ph s.num l), g || putB hs s.num (growS1 hs ph s.num l)) g := by
        refine Grows.put hok ?_ ?_ g
        · exact ⟨(getH_ok hok s.num).fi, orL_len (getH_ok hok s.num).fo (folB_len hok _ _)⟩
        · exact le_fo (getH_ok hok _) (folB_len hok _ _)
      exact h1.trans (growSS_grows ph l h1.ok _)
theorem growSL_grows : ∀ (l : List Pr) {hs : List Hd} (_ : ∀ x ∈ hs, x.ok) (g : Bool), Grows hs (growSL l hs g) g
  | [], _, hok, g => Grows.refl hok g
  | p :: l, hs, hok, g => by
    have h1 := growSS_grows p.head p.syms hok g
    exact h1.trans (growSL_grows l h1.ok _)

/-- again and again, till nothing is new -/
def iterG (step : List Hd → List Hd × Bool) : Nat → List Hd → List Hd
  | 0, hs => hs
  | f + 1, hs => if (step hs).2 then iterG step f (step hs).1 else (step hs).1
def fixG (step : List Hd → List Hd × Bool) (hs : List Hd) : List Hd := iterG step (cntH hs + 1) hs
def stepB (ps : List Pr) (hs : List Hd) : List Hd × Bool := growBL ps hs false
def stepS (ps : List Pr) (hs : List Hd) : List Hd × Bool := growSL ps hs false
def stepR (ps : List Pr) (hs : List Hd) : List Hd × Bool := growRL ps hs false
def stepU (ps : List Pr) (hs : List Hd) : List Hd × Bool := growFL ps hs false
def allF (ps : List Pr) (hs : List Hd) : List Hd := fixG (stepU ps) (fixG (stepR ps) (fixG (stepS ps) (fixG (stepB ps) hs)))
def GrowStep (step : List Hd → List Hd × Bool) : Prop := ∀ hs : List Hd, (∀ x ∈ hs, x.ok) → Grows hs (step hs) false
theorem stepB_grows (ps : List Pr) : GrowStep (stepB ps) := fun _ h => growBL_grows ps h false
theorem stepS_grows (ps : List Pr) : GrowStep (stepS ps) := fun _ h => growSL_grows ps h false
theorem stepR_grows (ps : List Pr) : GrowStep (stepR ps) := fun _ h => growRL_grows ps h false
theorem stepU_grows (ps : List Pr) : GrowStep (stepU ps) := fun _ h => growFL_grows ps h false
/-- what holds at first and is kept by every step holds at the end, where a step tells nothing new -/
theorem iterG_end {step : List Hd → List Hd × Bool} (hg : GrowStep step) {I : List Hd → Prop} (hI : ∀ hs, (∀ x ∈ hs, x.ok) → I hs → I (step hs).1) :
    ∀ (f : Nat) (hs : List Hd), (∀ x ∈ hs, x.ok) → cntH hs < f → I hs → I (iterG step f hs) ∧ (∀ x ∈ iterG step f hs, x.ok) ∧ (iterG step f hs).length = hs.length ∧ step (iterG step f hs) = (iterG step f hs, false)
  | 0, hs, _, hc, _ => by omega
  | f + 1, hs, hok, hc, hi => by
    have h1 := hg hs hok
    unfold iterG
    cases hq : (step hs).2
    · simp only [Bool.false_eq_true, if_false]
      have e := (h1.same hq).2
      have e2 : step hs = (hs, false) := Prod.ext e hq
      rw [e]
      exact ⟨hi, hok, rfl, e2⟩
    · simp only [if_true]
      have hl : cntH (step hs).1 < cntH hs := by
        rcases h1.more hq with h2 | h2
        · cases h2
        · exact h2
      have := iterG_end hg hI f (step hs).1 h1.ok (by omega) (hI hs hok hi)
      exact ⟨this.1, this.2.1, by rw [this.2.2.1, h1.len], this.2.2.2⟩
theorem fixG_end {step : List Hd → List Hd × Bool} (hg : GrowStep step) {I : List Hd → Prop} (hI : ∀ hs, (∀ x ∈ hs, x.ok) → I hs → I (step hs).1) {hs : List Hd} (hok : ∀ x ∈ hs, x.ok) (h : I hs) :
    I (fixG step hs) ∧ (∀ x ∈ fixG step hs, x.ok) ∧ (fixG step hs).length = hs.length ∧ step (fixG step hs) = (fixG step hs, false) :=
  iterG_end hg hI _ hs hok (by omega) h
end Go.Proofs.YteneagnhihcljaaGreatDoor
