import Derived.Test.YteneagnhihcljaaGreatDoorTw7
import Derived.Test.YteneagnhihcljaaGreatDoorTw9
import Derived.Test.YteneagnhihcljaaGreatDoorKc9
namespace Go.Proofs.YteneagnhihcljaaGreatDoor
open Go.RowKit
set_option linter.unusedVariables false
set_option linter.unusedSimpArgs false

theorem listT_has {l : List Bool} (h : l.length = 9) (t : Nat) : (listT l).any (· == (t : Int)) = l.getD t false := listT_any h t
theorem par_one (vn vw : Value) (a : Int) (h1 : vn.oneCell' = true) (h2 : vw.oneCell' = true) : (#[vn, vw, Value.int .i64 a] : Array Value).all (·.oneCell') = true :=
  all_oneCell_toArray (cs := [vn, vw, .int .i64 a]) (by intro v hv; simp only [List.mem_cons, List.not_mem_nil, or_false] at hv; rcases hv with rfl | rfl | rfl; exact h1; exact h2; rfl)
/-- where the growing stands -/
def GrS (ps : List Pr) (hs : List Hd) (R H : Nat) (kinds : List Int) (G : GOut) (a : Nat) (k : List Sy) (st : List St) : Prop :=
  if a ≤ kinds.length then grwF ps hs R H (kinds.drop a) a k st = G else G = ⟨0, [], 0, st⟩
theorem GrS.kind {ps : List Pr} {hs : List Hd} {R H : Nat} {kinds : List Int} {G : GOut} {a : Nat} {k : List Sy} {st : List St} (h : GrS ps hs R H kinds G a k st) (ha : a < kinds.length) (t : Nat) (ht : kinds[a] = t) :
    if (wanB hs R k).getD t false then GrS ps hs R H kinds G (a + 1) (gToF ps hs H t k st).1 (gToF ps hs H t k st).2 else G = ⟨10, listT (wanB hs R k), a, []⟩ := by
  unfold GrS at h ⊢
  rw [if_pos (by omega), List.drop_eq_getElem_cons ha, ht] at h
  unfold grwF at h
  rw [Int.toNat_natCast] at h
  rw [if_pos (show a + 1 ≤ kinds.length by omega)]
  split
  · rename_i e; rw [if_pos e] at h; exact h
  · rename_i e; rw [if_neg e] at h; exact h.symm
theorem GrS.last {ps : List Pr} {hs : List Hd} {R H : Nat} {kinds : List Int} {G : GOut} {a : Nat} {k : List Sy} {st : List St} (h : GrS ps hs R H kinds G a k st) (ha : a = kinds.length) :
    if (wanB hs R k).getD R false then GrS ps hs R H kinds G (a + 1) (gToF ps hs H R k st).1 (gToF ps hs H R k st).2 else G = ⟨10, listT (wanB hs R k), a, []⟩ := by
  unfold GrS at h ⊢
  rw [if_pos (by omega), ha, List.drop_length] at h
  unfold grwF at h
  rw [if_neg (show ¬ (a + 1 ≤ kinds.length) by omega)]
  split
  · rename_i e; rw [if_pos e] at h; exact h.symm
  · rename_i e; rw [if_neg e] at h; rw [ha]; exact h.symm

theorem gbound {a kl sl rl pl : Nat} (ha : a ≤ 60) (h1 : kl ≤ 1 + 48 * a) (h2 : sl ≤ a * 2000000000) (h3 : rl ≤ sl + (kl * 335923 + 16124313)) (h4 : pl ≤ kl + 48) (h5 : sl ≤ rl) :
    rl ≤ 1000000000000 ∧ kl + 6 * rl ≤ 100000000000 + 6 * sl ∧ rl ≤ (a + 1) * 2000000000 ∧ pl ≤ 1 + 48 * (a + 1) := by omega
abbrev parA (vn vw : Value) (a : Int) : Array Value := #[vn, vw, .int .i64 a]
theorem szPar : (Tryz.prog.info? 50).map (·.size) = some 3 := by kernel_rfl
set_option maxRecDepth 20000 in
set_option maxHeartbeats 8000000 in
theorem grow_any (w : World) (R H : Nat) (vp vk : Value) (ps : List PV) (kinds : List Int) (hs : List Hd) (hp : PrsAt w w.heap.size vp ps) (hk : IntAt w vk kinds) (hkl : kinds.length ≤ 60) (hkk : kindsOk R kinds = true)
    (hT : Tab (prsOf ps) R H hs) (hse : hs = allF (prsOf ps) (initH R H)) :
    Calls Tryz.prog 14 #[.agg #[.int .i64 R, .int .i64 H, vp], vk] w fun e w' => ∃ vn vw, e = .returned (.tuple #[.agg (parA vn vw (grwF (prsOf ps) hs R H kinds 0 [⟨true, 0⟩] []).place), .int .i64 (grwF (prsOf ps) hs R H kinds 0 [⟨true, 0⟩] []).err]) ∧ Fresh w w' ∧
      NdOwn w' w.heap.size vn (nodesF (prsOf ps) (grwF (prsOf ps) hs R H kinds 0 [⟨true, 0⟩] []).st) ∧ IntOwn w' w.heap.size vw (grwF (prsOf ps) hs R H kinds 0 [⟨true, 0⟩] []).wanted := by
  have hpl : ps.length ≤ 20 := by have := hT.hl; simpa [prsOf] using this
  have hR := hT.hR
  have hH := hT.hH
  obtain ⟨pa, pc, hvp⟩ := own_form hp.row.own
  subst hvp
  obtain ⟨ka, kc, rfl, hkc, hkcell⟩ := hk
  have HKC := hid hkcell
  have HP := hid hp
  have HT := hid hT
  have HKK := hid hkk
  have NG : Hid (∀ W : World, Fresh w W → Calls Tryz.prog 30 #[.agg #[.int .i64 R, .int .i64 H, .slice pa ps.length pc]] W fun e w' => ∃ gb fb vh, e = .returned (bptr gb) ∧ Fresh W w' ∧
      w'.heap[gb]? = some (.cells (gdA (bptr fb) (tabL ((prsOf ps).zip (aheadsF hs (prsOf ps))) 72)) 108 (0, 0)) ∧ FA w' fb R H (.slice pa ps.length pc) vh ps hs) := fun W hW => by
    have h := newGuide_any W R H (.slice pa ps.length pc) ps ((HP.out.kept (Nat.le_refl _) hW (fun _ _ x => x)).up hW.size) (by omega) (by omega) (by omega) (by rw [← hse]; exact HT.out.ok)
    rw [← hse] at h
    exact h
  generalize hG : grwF (prsOf ps) hs R H kinds 0 [⟨true, 0⟩] [] = G
  have HG := hid hG
  clear hp hkcell hT hkk hse hG
  go_enter Tryz.func14, Tryz.ntmps14
  go_wp2_with (first
    | (go_at_call 30; refine (NG.out _ (((Mod.refl _ w).alloc _).alloc _)).mono ?_; rintro e w1 ⟨gb, fb, vh, rfl, hf1, hgd, hFA⟩; have hT1 := hf1.at (heap_alloc_prev (heap_alloc_at w _)) (fun x => x); have t0 := cellOf hT1 0; have t1 := cellOf hT1 1; have t2 := cellOf hT1 2; simp at t0 t1 t2; have htl := heap_lt hT1; have HT1 := hid hT1; clear hT1))
  have hgl : gb < w1.heap.size := heap_lt hgd
  have hP1 := hf1.at (heap_alloc_at (w.alloc _) _) (fun x => x)
  have hP1 : w1.heap[w.heap.size + 1]? = some (.cells (parA (.slice none 0 0) (.slice none 0 0) 0) 50 (0, 0)) := by simpa using hP1
  have hpl1 := heap_lt hP1
  have HP1 := hid hP1
  have HGD0 := hid hgd
  have HFA := hid hFA
  have HF1 : Hid (Fresh w w1) := Mod.trans (((Mod.refl _ w).alloc _).alloc _) hf1
  have HGA0 : Hid (GA (((w1.alloc (.cells #[.bool true, .int .i64 0] 84 (0, 0))).alloc (.cells #[.bool true, .int .i64 0] 84 (0, 0))).alloc (.cells #[.int .i64 R, .int .i64 H, .slice pa ps.length pc, bptr gb, .slice (some ⟨w1.heap.size + 1, 0, none⟩) 1 1, .slice none 0 0] 88 (0, 0))) (w1.heap.size + 1 + 1) w1.heap.size R H (.slice pa ps.length pc) (bptr gb) (.slice (some ⟨w1.heap.size + 1, 0, none⟩) 1 1) (.slice none 0 0) [⟨true, 0⟩] []) := by
    refine ⟨by omega, ?_, ?_, World.ownsRow_nil _ _ _ _, by simp [Value.ownBlock], by simp [Value.ownBlock], by simp [Value.ownBlock]⟩
    · exact heap_alloc3_3 _ _ _ _
    · refine ⟨rfl, .inr ⟨w1.heap.size + 1, 1, #[.bool true, .int .i64 0], rfl, by omega, ?_, by simp, by unfold maxLen; omega, rfl, rfl⟩⟩
      exact heap_alloc3_2 _ _ _ _
  have HU0 : Hid (UpB w1.heap.size w1 (((w1.alloc (.cells #[.bool true, .int .i64 0] 84 (0, 0))).alloc (.cells #[.bool true, .int .i64 0] 84 (0, 0))).alloc (.cells #[.int .i64 R, .int .i64 H, .slice pa ps.length pc, bptr gb, .slice (some ⟨w1.heap.size + 1, 0, none⟩) 1 1, .slice none 0 0] 88 (0, 0)))) := (((Mod.refl _ w1).alloc _).alloc _).alloc _
  generalize (((w1.alloc (.cells #[.bool true, .int .i64 0] 84 (0, 0))).alloc (.cells #[.bool true, .int .i64 0] 84 (0, 0))).alloc (.cells #[.int .i64 R, .int .i64 H, .slice pa ps.length pc, bptr gb, .slice (some ⟨w1.heap.size + 1, 0, none⟩) 1 1, .slice none 0 0] 88 (0, 0))) = W3 at HGA0 HU0 ⊢
  obtain ⟨b, hbE⟩ : ∃ b, w1.heap.size + 1 + 1 = b := ⟨_, rfl⟩
  rw [hbE] at HGA0 ⊢
  clear hP1 hgd hFA hf1 t0 t1 t2 hbE NG
  go_loopw [9, 10, 11] (fun x9 _ _ wr => ∃ (a : Nat) (k : List Sy) (st : List St) (vk' vs' : Value), x9 = .int .i64 a ∧ a ≤ kinds.length + 1 ∧ GrS (prsOf ps) hs R H kinds G a k st ∧ GA wr b w1.heap.size R H (.slice pa ps.length pc) (bptr gb) vk' vs' k st ∧ UpB w1.heap.size w1 wr ∧
        StkOk (hN hs) (hF hs) (hO hs) R k ∧ StkIn R H k ∧ (∀ s ∈ st, 0 ≤ s.num ∧ s.num ≤ 127) ∧ k.length ≤ 1 + 48 * a ∧ st.length ≤ a * 2000000000)
      (fun x _ _ _ => 63 - (intOf x).toNat)
  case atStart => exact ⟨0, [⟨true, 0⟩], [], _, _, rfl, by omega, by unfold GrS; rw [if_pos (by omega)]; exact HG.out, HGA0.out, HU0.out, HT.out.start.1, HT.out.start.2, by simp, by simp, by simp⟩
  case round =>
    obtain ⟨a, k, st, vk', vs', rfl, ha, hgs, hGA, hU, hso, hsi, hnm, hkl1, hsl1⟩ := hrel
    have HGS := hgs
    have HGA := hid hGA
    have HUW := hid hU
    have HSO := hid hso
    have HSI := hid hsi
    have HNM := hid hnm
    have HFW : Hid (Fresh w wr) := Mod.trans' HF1.out hU (fun i h1 h2 => by omega)
    have hwB : w1.heap.size ≤ wr.heap.size := hU.size
    have hTb := hU.at HT1.out (by omega)
    have t0 := cellOf hTb 0
    have t1 := cellOf hTb 1
    have t2 := cellOf hTb 2
    simp at t0 t1 t2
    have HPr := hid (hU.at HP1.out (by omega))
    have HTb := hid hTb
    have HGD := hid (hU.at HGD0.out (by omega))
    have HFAr := hid (HFA.out.kept hU (fun k hk => hk))
    have HPR : Hid (PrsAt wr w1.heap.size (.slice pa ps.length pc) ps) := (HP.out.kept (Nat.le_refl _) HFW.out (fun _ _ x => x)).up HF1.out.size
    have k4 := hGA.cell 4
    simp at k4
    clear hGA hU hso hsi hnm hTb
    by_cases han : a ≤ kinds.length
    · have han1 : (a : Int) ≤ (kinds.length : Int) := by omega
      have WAN := hid (wanted_any wr gb fb (tabL ((prsOf ps).zip (aheadsF hs (prsOf ps))) 72) R H (.slice pa ps.length pc) vh ps hs k vk' w1.heap.size HGD.out HFAr.out HGA.out.ks (by omega) hR)
      by_cases hlt : a < kinds.length
      · have hlt1 : (a : Int) < (kinds.length : Int) := by omega
        have hka := (List.all_eq_true.1 HKK.out) kinds[a] (by simp)
        simp only [Bool.and_eq_true, decide_eq_true_eq] at hka
        obtain ⟨t, ht⟩ : ∃ t : Nat, kinds[a] = t := ⟨kinds[a].toNat, by omega⟩
        have htR : t ≤ R := by omega
        have STP : Hid ((wanB hs R k).getD t false = true → _) := fun h => HT.out.step htR HSO.out HSI.out HNM.out h
        obtain ⟨kg, ko, rfl, hkv⟩ := HKC.out a hlt
        have ck := fcell' HFW.out hkv
        rw [ht] at ck
        clear hka hkv
        have hcs := HGS.kind hlt t ht
        have WB9 := hid (wanB_len HT.out.ok R k)
        have LH := hid (listT_has WB9.out t)
        generalize hWT : wanB hs R k = WT at hcs WB9 LH WAN STP
        have hll : (listT WT).length ≤ 1000 := by have := listT_len WT; omega
        generalize hbit : WT.getD t false = bit at hcs LH STP
        clear hWT hbit
        cases bit
        · simp only [Bool.false_eq_true, if_false] at hcs
          have HGE := hid hcs
          clear hcs
          go_wp2_with (first
            | (refine wpList_store_row rfl 50 _ _ rfl (w.heap.size + 1) (parA (.slice none 0 0) (.slice wa (listT WT).length wc) a) rfl rfl _ _ hP2.out szPar rfl (par_one _ _ _ rfl rfl) ?_)
            | (go_at_call 32; refine (isIn_any w2 _ (listT WT) t (IntOwn.at' HW2.out) hll).mono ?_; rw [LH.out]; rintro e w' ⟨rfl, hw⟩; rw [hw]; clear hw)
            | (go_at_call 31; refine WAN.out.mono ?_; rintro e w2 ⟨v2, rfl, hf2, ho2⟩; obtain ⟨wa, wc, hv2⟩ := own_form ho2; subst hv2; have HW2 := hid ho2; have HF2 := hid hf2; have hP2 := hid (hf2.at HPr.out (fun x => x)); clear ho2 hf2))
          refine bodyPost_ret (results_row1 rfl _ _ (w.heap.size + 1) 50 (parA (.slice none 0 0) (.slice wa (listT WT).length wc) a) (0, 0) _ rfl (setRow_heap _ _ _ _ _ _ hP2.out) Tryz.underlying50 rfl szPar) rfl ?_
          have FF : Fresh w (w2.setRow (w.heap.size + 1) (parA (.slice none 0 0) (.slice wa (listT WT).length wc) a)) := (HFW.out.trans HF2.out).setRow (fun h => by omega) _
          refine ⟨.slice none 0 0, .slice wa (listT WT).length wc, by rw [HGE.out]; rfl, FF, ?_, ?_⟩
          · rw [HGE.out]; exact World.ownsRow_nil _ _ _ _
          · rw [HGE.out]
            refine ownsRow_base (ownsRow_other HW2.out (fun g hg => ?_)) HFW.out.size
            have := (HW2.out.lt g hg).1
            have h2 := HFW.out.size
            exact setRow_other _ _ _ _ (by omega)
        · simp only [if_true] at hcs
          have HGN := hid hcs
          have hst := STP.out rfl
          obtain ⟨s1, s2, s3, s4, s5, s6, s7⟩ := hst
          have S4 := hid s4
          have S5 := hid s5
          have S6 := hid s6
          have S1 := hid s1
          generalize gToF (prsOf ps) hs H t k st = rr at HGN s2 s3 S4 S5 S6 S1 s7
          clear hcs s1 s4 s5 s6
          obtain ⟨q1, q2, q3, q4⟩ := gbound (show a ≤ 60 by omega) hkl1 hsl1 s3 s2 s7
          have GT : Hid (∀ w2 : World, Fresh wr w2 → Calls Tryz.prog 33 #[bptr b, .int .i64 (t : Nat)] w2 fun e w' => e = .returned (.tuple #[]) ∧ ∃ vk'' vs'', GA w' b w1.heap.size R H (.slice pa ps.length pc) (bptr gb) vk'' vs'' rr.1 rr.2 ∧ UpB w1.heap.size w2 w') := fun w2 hf2 =>
            growTo_any w2 b w1.heap.size gb (bptr fb) (tabL ((prsOf ps).zip (aheadsF hs (prsOf ps))) 72) R H _ vk' vs' k st ps t (enough H k.length) rr (HGA.out.fresh hf2) ⟨hgl, hf2.at HGD.out (fun x => x), tabL_len _ (Nat.le_refl _)⟩ (HPR.out.kept hwB hf2 (fun _ _ x => x)) (by omega) (fun p hp => HT.out.syms p.pr (List.mem_map.2 ⟨p, hp, rfl⟩)) HSI.out hR hH (by omega) (by have := hf2.size; omega) S1.out q1 q2
          clear q1 q2
          have HME : Hid (63 - (a + 1) < 63 - a) := by unfold Hid; omega
          go_wp2_with (first
            | (go_at_call 33; have stage := HF2.out; refine (GT.out w2 HF2.out).mono ?_; rintro e w3 ⟨rfl, vk3, vs3, hG3, hU3⟩; have HG3 := hid hG3; have HU3 := hid hU3; clear hG3 hU3)
            | (go_at_call 32; refine (isIn_any w2 _ (listT WT) t (IntOwn.at' HW2.out) hll).mono ?_; rw [LH.out]; rintro e w' ⟨rfl, hw⟩; rw [hw]; clear hw)
            | (go_at_call 31; refine WAN.out.mono ?_; rintro e w2 ⟨v2, rfl, hf2, ho2⟩; obtain ⟨wa, wc, hv2⟩ := own_form ho2; subst hv2; have HW2 := hid ho2; have HF2 := hid hf2; clear ho2 hf2))
          go_roundw
          case rel =>
            exact ⟨a + 1, rr.1, rr.2, vk3, vs3, by go_num, by omega, HGN.out, HG3.out, Mod.trans HUW.out (Mod.trans (HF2.out.mono (fun _ _ x => x.elim)) HU3.out), S4.out, S5.out, S6.out, q4, q3⟩
          case measure => simpa [intOf] using HME.out
      · have hae : a = kinds.length := by omega
        have hlt1 : ¬ (a : Int) < (kinds.length : Int) := by omega
        have hlt2 : ¬ (a < kinds.length) := by omega
        have STP : Hid ((wanB hs R k).getD R false = true → _) := fun h => HT.out.step (Nat.le_refl _) HSO.out HSI.out HNM.out h
        have hcs := HGS.last hae
        clear hae
        have WB9 := hid (wanB_len HT.out.ok R k)
        have LH := hid (listT_has WB9.out R)
        generalize hWT : wanB hs R k = WT at hcs WB9 LH WAN STP
        have hll : (listT WT).length ≤ 1000 := by have := listT_len WT; omega
        generalize hbit : WT.getD R false = bit at hcs LH STP
        clear hWT hbit
        cases bit
        · simp only [Bool.false_eq_true, if_false] at hcs
          have HGE := hid hcs
          clear hcs
          go_wp2_with (first
            | (refine wpList_store_row rfl 50 _ _ rfl (w.heap.size + 1) (parA (.slice none 0 0) (.slice wa (listT WT).length wc) a) rfl rfl _ _ hP2.out szPar rfl (par_one _ _ _ rfl rfl) ?_)
            | (go_at_call 32; refine (isIn_any w2 _ (listT WT) R (IntOwn.at' HW2.out) hll).mono ?_; rw [LH.out]; rintro e w' ⟨rfl, hw⟩; rw [hw]; clear hw)
            | (go_at_call 31; refine WAN.out.mono ?_; rintro e w2 ⟨v2, rfl, hf2, ho2⟩; obtain ⟨wa, wc, hv2⟩ := own_form ho2; subst hv2; have HW2 := hid ho2; have HF2 := hid hf2; have hP2 := hid (hf2.at HPr.out (fun x => x)); clear ho2 hf2))
          refine bodyPost_ret (results_row1 rfl _ _ (w.heap.size + 1) 50 (parA (.slice none 0 0) (.slice wa (listT WT).length wc) a) (0, 0) _ rfl (setRow_heap _ _ _ _ _ _ hP2.out) Tryz.underlying50 rfl szPar) rfl ?_
          have FF : Fresh w (w2.setRow (w.heap.size + 1) (parA (.slice none 0 0) (.slice wa (listT WT).length wc) a)) := (HFW.out.trans HF2.out).setRow (fun h => by omega) _
          refine ⟨.slice none 0 0, .slice wa (listT WT).length wc, by rw [HGE.out]; rfl, FF, ?_, ?_⟩
          · rw [HGE.out]; exact World.ownsRow_nil _ _ _ _
          · rw [HGE.out]
            refine ownsRow_base (ownsRow_other HW2.out (fun g hg => ?_)) HFW.out.size
            have := (HW2.out.lt g hg).1
            have h2 := HFW.out.size
            exact setRow_other _ _ _ _ (by omega)
        · simp only [if_true] at hcs
          have HGN := hid hcs
          have hst := STP.out rfl
          obtain ⟨s1, s2, s3, s4, s5, s6, s7⟩ := hst
          have S4 := hid s4
          have S5 := hid s5
          have S6 := hid s6
          have S1 := hid s1
          generalize gToF (prsOf ps) hs H R k st = rr at HGN s2 s3 S4 S5 S6 S1 s7
          clear hcs s1 s4 s5 s6
          obtain ⟨q1, q2, q3, q4⟩ := gbound (show a ≤ 60 by omega) hkl1 hsl1 s3 s2 s7
          have GT : Hid (∀ w2 : World, Fresh wr w2 → Calls Tryz.prog 33 #[bptr b, .int .i64 (R : Nat)] w2 fun e w' => e = .returned (.tuple #[]) ∧ ∃ vk'' vs'', GA w' b w1.heap.size R H (.slice pa ps.length pc) (bptr gb) vk'' vs'' rr.1 rr.2 ∧ UpB w1.heap.size w2 w') := fun w2 hf2 =>
            growTo_any w2 b w1.heap.size gb (bptr fb) (tabL ((prsOf ps).zip (aheadsF hs (prsOf ps))) 72) R H _ vk' vs' k st ps R (enough H k.length) rr (HGA.out.fresh hf2) ⟨hgl, hf2.at HGD.out (fun x => x), tabL_len _ (Nat.le_refl _)⟩ (HPR.out.kept hwB hf2 (fun _ _ x => x)) (by omega) (fun p hp => HT.out.syms p.pr (List.mem_map.2 ⟨p, hp, rfl⟩)) HSI.out hR hH (by omega) (by have := hf2.size; omega) S1.out q1 q2
          clear q1 q2
          have HME : Hid (63 - (a + 1) < 63 - a) := by unfold Hid; omega
          go_wp2_with (first
            | (go_at_call 33; have stage := HF2.out; refine (GT.out w2 HF2.out).mono ?_; rintro e w3 ⟨rfl, vk3, vs3, hG3, hU3⟩; have HG3 := hid hG3; have HU3 := hid hU3; clear hG3 hU3)
            | (go_at_call 32; refine (isIn_any w2 _ (listT WT) R (IntOwn.at' HW2.out) hll).mono ?_; rw [LH.out]; rintro e w' ⟨rfl, hw⟩; rw [hw]; clear hw)
            | (go_at_call 31; refine WAN.out.mono ?_; rintro e w2 ⟨v2, rfl, hf2, ho2⟩; obtain ⟨wa, wc, hv2⟩ := own_form ho2; subst hv2; have HW2 := hid ho2; have HF2 := hid hf2; clear ho2 hf2))
          go_roundw
          case rel =>
            exact ⟨a + 1, rr.1, rr.2, vk3, vs3, by go_num, by omega, HGN.out, HG3.out, Mod.trans HUW.out (Mod.trans (HF2.out.mono (fun _ _ x => x.elim)) HU3.out), S4.out, S5.out, S6.out, q4, q3⟩
          case measure => simpa [intOf] using HME.out
    · have hGe : G = ⟨0, [], 0, st⟩ := by
        have h := HGS
        unfold GrS at h
        rw [if_neg han] at h; exact h
      have HGE := hid hGe
      have han1 : ¬ (a : Int) ≤ (kinds.length : Int) := by omega
      have hst12 : st.length ≤ 1000000000000 := by
        have h1 : a ≤ 61 := by omega
        have h2 : a * 2000000000 ≤ 61 * 2000000000 := Nat.mul_le_mul_right _ h1
        exact Nat.le_trans hsl1 (Nat.le_trans h2 (by decide))
      obtain ⟨sa, sc, hvs⟩ := own_form HGA.out.ss
      have k5 := HGA.out.cell 5
      simp at k5
      subst hvs
      have hwb := HGA.out.lt
      have WD : Hid (∀ W : World, Fresh wr W → Calls Tryz.prog 34 #[.agg #[.int .i64 R, .int .i64 H, .slice pa ps.length pc], .slice sa st.length sc] W fun e w' => ∃ v, e = .returned v ∧ Fresh W w' ∧ NdOwn w' W.heap.size v (nodesF (prsOf ps) st)) := fun W hW =>
        writeDown_any W R H (.slice pa ps.length pc) (.slice sa st.length sc) ps st ((HPR.out.kept hwB hW (fun _ _ x => x)).up (by have := hW.size; omega)) ⟨ownsRow_base ((HGA.out.fresh hW).ss) (Nat.zero_le _), fun _ _ => rfl⟩ HNM.out hst12 (by omega) (fun p hp => by have := (HT.out.syms p.pr (List.mem_map.2 ⟨p, hp, rfl⟩)).1; omega)
      clear hGe HGS hkl1 hsl1 hst12 k4
      go_upto_region 14 with fail
      go_cut [12] (fun s12 wx => Fresh wr wx ∧ NdOwn wx wr.heap.size s12 (nodesF (prsOf ps) st))
      case first =>
        go_region_with (first
          | (go_at_call 34; refine (WD.out _ (by first | exact (Mod.refl _ wr).drew | exact Mod.refl _ wr)).mono ?_; rintro e w3 ⟨v, rfl, hf3, ho3⟩))
        all_goals
          go_wp2_with fail
          go_meet
          exact ⟨Mod.trans ((Mod.refl _ wr).drew) hf3, ho3⟩
      case rest =>
        obtain ⟨hfx, hox⟩ := hcut
        obtain ⟨na, nc, hvn⟩ := own_form hox
        subst hvn
        have HOX := hid hox
        have HFX := hid hfx
        have hPx := hid (hfx.at HPr.out (fun x => x))
        generalize hNF : nodesF (prsOf ps) st = NF at HOX
        have HNF := hid hNF
        clear hfx hox hNF
        go_wp2_with (first
          | (refine wpList_store_row rfl 50 _ _ rfl (w.heap.size + 1) (parA (.slice na NF.length nc) (.slice none 0 0) 0) rfl rfl _ _ hPx.out szPar rfl (par_one _ _ _ rfl rfl) ?_))
        refine bodyPost_ret (results_row1 rfl _ _ (w.heap.size + 1) 50 (parA (.slice na NF.length nc) (.slice none 0 0) 0) (0, 0) _ rfl (setRow_heap _ _ _ _ _ _ hPx.out) Tryz.underlying50 rfl szPar) rfl ?_
        refine ⟨.slice na NF.length nc, .slice none 0 0, by rw [HGE.out]; rfl, (HFW.out.trans HFX.out).setRow (fun h => by omega) _, ?_, ?_⟩
        · rw [HGE.out]
          show NdOwn _ _ _ (nodesF (prsOf ps) st)
          rw [HNF.out]
          refine ownsRow_base (ownsRow_other HOX.out (fun g hg => ?_)) HFW.out.size
          have := (HOX.out.lt g hg).1
          have h2 := HFW.out.size
          exact setRow_other _ _ _ _ (by omega)
        · rw [HGE.out]; exact World.ownsRow_nil _ _ _ _
end Go.Proofs.YteneagnhihcljaaGreatDoor
namespace Go.Proofs.YteneagnhihcljaaGreatDoor
open Go.RowKit
set_option linter.unusedVariables false
set_option linter.unusedSimpArgs false

/-- what a right specification without clashes gives -/
theorem tab_of {s : ByteArray} (hc : (checkF s).1 = 0) (hcl : clashF s = []) : Tab (tableOf (rLines s).1) (frontsOf (rLines s).1).length (headsOf (rLines s).1).length (setsF s) := by
  have hc2 := check_zero hc
  obtain ⟨h1, h2, h3, h4, h5⟩ := check_parts hc2
  have hI := linesInv hc2
  have hI2 := linesInv2 hc2
  have hT := tabOk h3 hI.places hI2.mem
  have hR := rules_le (fun y hy => (hI.places y hy).1) h5
  obtain ⟨c1, c2, c3⟩ := counts_le (fun y hy => (hI.places y hy).1) h5
  have hS := allF_ok hT hR
  have hH0 : 0 < (headsOf (rLines s).1).length := by
    unfold hasProd at h4
    rw [List.any_eq_true] at h4
    obtain ⟨y, hy, hq⟩ := h4
    have := hI2.mem y (List.mem_filter.2 ⟨hy, hq⟩)
    omega
  exact ⟨llg hT hR hH0 c3 hcl, hS.ok, hR, c1, hH0, c2⟩
theorem sets_ok {s : ByteArray} (hc : (checkF s).1 = 0) : ∀ x ∈ setsF s, x.ok := by
  have hc2 := check_zero hc
  obtain ⟨h1, h2, h3, h4, h5⟩ := check_parts hc2
  have hI := linesInv hc2
  have hI2 := linesInv2 hc2
  exact (allF_ok (tabOk h3 hI.places hI2.mem) (rules_le (fun y hy => (hI.places y hy).1) h5)).ok

set_option maxRecDepth 20000 in
set_option maxHeartbeats 4000000 in
theorem isClashing_any (w : World) (R H : Nat) (vp : Value) (ps : List PV) (hp : PrsAt w w.heap.size vp ps) (hps : ps.length ≤ 1000) (hH : H ≤ 1000) (hR : R ≤ 1000) (hok : ∀ x ∈ allF (prsOf ps) (initH R H), x.ok) :
    Calls Tryz.prog 10 #[.agg #[.int .i64 R, .int .i64 H, vp]] w fun e w' => e = .returned (.bool (decide (0 < (clashL ((prsOf ps).zip (aheadsF (allF (prsOf ps) (initH R H)) (prsOf ps))) R H).length))) ∧ Fresh w w' := by
  obtain ⟨pa, pc, hvp⟩ := own_form hp.row.own
  subst hvp
  have CA := hid (Clashes_any (w.alloc (.cells #[.int .i64 R, .int .i64 H, .slice pa ps.length pc] 42 (0, 0))) R H (.slice pa ps.length pc) ps ((hp.kept (Nat.le_refl _) ((Mod.refl (fun _ => False) w).alloc _) (fun _ _ x => x)).up (by simp)) hps hH hR hok)
  generalize clashL ((prsOf ps).zip (aheadsF (allF (prsOf ps) (initH R H)) (prsOf ps))) R H = CL at CA
  clear hp hok
  go_enter Tryz.func10, Tryz.ntmps10
  go_wp2_with (first
    | (go_at_call 27; refine CA.out.mono ?_; rintro e w1 ⟨v, rfl, hf1, ho⟩; obtain ⟨ca, cc, hv⟩ := own_form ho; subst hv; clear ho))
  go_ret
  refine ⟨?_, Mod.trans ((Mod.refl _ w).alloc _) hf1⟩
  show Ending.returned (Value.bool _) = _
  congr 2

def nR (s : ByteArray) : Nat := (frontsOf (rLines s).1).length
def nH (s : ByteArray) : Nat := (headsOf (rLines s).1).length
def tabF (s : ByteArray) : List Pr := tableOf (rLines s).1
def growS (s : ByteArray) (kinds : List Int) : GOut := grwF (tabF s) (setsF s) (nR s) (nH s) kinds 0 [⟨true, 0⟩] []
/-- the table, and what the calls on it answer -/
theorem table_calls (s : ByteArray) (hc : (checkF s).1 = 0) {pvs : List PV} (hm : pvs.map PV.pr = tableOf (rLines s).1) : prsOf pvs = tabF s ∧ pvs.length ≤ 1000 ∧ nH s ≤ 1000 ∧ nR s ≤ 1000 ∧ setsF s = allF (prsOf pvs) (initH (nR s) (nH s)) := by
  obtain ⟨z1, z2, z3⟩ := tab_sizes hc
  have h1 : pvs.length = (tableOf (rLines s).1).length := by rw [← hm]; simp
  refine ⟨hm, by omega, by unfold nH; omega, by unfold nR; omega, ?_⟩
  unfold setsF prsOf nR nH
  rw [hm]
theorem clash_len (s : ByteArray) (hc : (checkF s).1 = 0) {pvs : List PV} (hm : pvs.map PV.pr = tableOf (rLines s).1) : clashL ((prsOf pvs).zip (aheadsF (allF (prsOf pvs) (initH (nR s) (nH s))) (prsOf pvs))) (nR s) (nH s) = clashF s := by
  obtain ⟨h1, _, _, _, h5⟩ := table_calls s hc hm
  rw [← h5, h1]; rfl

end Go.Proofs.YteneagnhihcljaaGreatDoor
