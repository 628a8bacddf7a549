import Derived.Test.YteneagnhihcljaaGreatDoorTw4
import Derived.Test.YteneagnhihcljaaGreatDoorSg2
namespace Go.Proofs.YteneagnhihcljaaGreatDoor
open Go.RowKit
set_option linter.unusedVariables false
set_option linter.unusedSimpArgs false

def hdOr (l : List Int) : Int := match l with
  | [] => -1
  | a :: _ => a
def chT (z : List (Pr × List Bool)) (j : Nat) : Int := hdOr (ovL ((j / 9 : Nat) : Int) ((j % 9 : Nat) : Int) z 0)
def tabL (z : List (Pr × List Bool)) (j : Nat) : List Int := (List.range j).map (chT z) ++ List.replicate (72 - j) 0
theorem tabL_len (z : List (Pr × List Bool)) {j : Nat} (h : j ≤ 72) : (tabL z j).length = 72 := by simp [tabL]; omega
theorem tabL_set (z : List (Pr × List Bool)) {j : Nat} (h : j < 72) : (tabL z j).set j (chT z j) = tabL z (j + 1) := by
  unfold tabL
  rw [List.set_append_right _ _ (by simp)]
  simp only [List.length_map, List.length_range, Nat.sub_self]
  rw [show 72 - j = (72 - (j + 1)) + 1 by omega, List.replicate_succ, List.set_cons_zero, List.range_succ, List.map_append, List.append_assoc]
  rfl
theorem tabL_at (z : List (Pr × List Bool)) {n t : Nat} (hn : n < 8) (ht : t < 9) : (tabL z 72).getD (n * 9 + t) 0 = hdOr (ovL (n : Int) (t : Int) z 0) := by
  have h1 : n * 9 + t < 72 := by omega
  unfold tabL
  simp only [Nat.sub_self, List.replicate_zero, List.append_nil]
  rw [List.getD_eq_getElem?_getD, List.getElem?_map, List.getElem?_range h1]
  simp only [Option.map_some, Option.getD_some, chT]
  rw [show (n * 9 + t) / 9 = n by omega, show (n * 9 + t) % 9 = t by omega]
theorem gd_set (fp : Value) (L : List Int) (j : Nat) (v : Int) : (gdA fp L).setIfInBounds (1 + j) (.int .i64 v) = gdA fp (L.set j v) := by
  unfold gdA
  rw [Nat.add_comm]
  simp [List.map_set]

theorem gd_zero0 : Tryz.zeroCells108.toList.drop 1 = nums (List.replicate 72 0) := by kernel_rfl
theorem gd_zero (b : Nat) : Tryz.zeroCells108.setIfInBounds 0 (bptr b) = gdA (bptr b) (List.replicate 72 0) := by
  apply Array.ext'
  unfold gdA
  rw [Array.toList_setIfInBounds]
  have h := gd_zero0
  cases hq : Tryz.zeroCells108.toList with
  | nil => rw [hq] at h; simp at h
  | cons x l => rw [hq] at h; simp only [List.drop_succ_cons, List.drop_zero] at h; rw [h]; rfl

set_option maxRecDepth 40000 in
set_option maxHeartbeats 8000000 in
theorem newGuide_any (w : World) (R H : Nat) (vp : Value) (ps : List PV) (hp : PrsAt w w.heap.size vp ps) (hps : ps.length ≤ 1000) (hH : H ≤ 1000) (hR : R ≤ 1000) (hok : ∀ x ∈ allF (prsOf ps) (initH R H), x.ok) :
    Calls Tryz.prog 30 #[.agg #[.int .i64 R, .int .i64 H, vp]] w fun e w' => ∃ gb fb vh, e = .returned (bptr gb) ∧ Fresh w w' ∧
      w'.heap[gb]? = some (.cells (gdA (bptr fb) (tabL ((prsOf ps).zip (aheadsF (allF (prsOf ps) (initH R H)) (prsOf ps))) 72)) 108 (0, 0)) ∧ FA w' fb R H vp vh ps (allF (prsOf ps) (initH R H)) := by
  obtain ⟨pa, pc, hvp⟩ := own_form hp.row.own
  subst hvp
  have HP := hid hp
  have FI := hid (find_any' (w.alloc (.cells #[.int .i64 R, .int .i64 H, .slice pa ps.length pc] 42 (0, 0))) R H (.slice pa ps.length pc) ps ((hp.kept (Nat.le_refl _) ((Mod.refl (fun _ => False) w).alloc _) (fun _ _ x => x)).up (by simp)) hps hH hR)
  generalize allF (prsOf ps) (initH R H) = AL at FI hok
  have hzl : ((prsOf ps).zip (aheadsF AL (prsOf ps))).length ≤ 1000 := by simp [aheadsF, prsOf]; omega
  have hal : (aheadsF AL (prsOf ps)).length = ps.length := by simp [aheadsF, prsOf]
  have ha9 : ∀ a ∈ aheadsF AL (prsOf ps), a.length = 9 := fun a ha => by
    obtain ⟨p, _, rfl⟩ := List.mem_map.1 ha
    exact folB_len hok _ _
  generalize hz : (prsOf ps).zip (aheadsF AL (prsOf ps)) = z at hzl ⊢
  have HZ := hid hz
  clear hp hok hz
  go_enter Tryz.func30, Tryz.ntmps30
  go_wp2_with (first
    | (go_at_call 43; refine (findAhead_any w1 b R H (.slice pa ps.length pc) vh ps AL hF1 hps).mono ?_; rintro e w2 ⟨va, rfl, hf2, hoa⟩)
    | (go_at_call 42; refine FI.out.mono ?_; rintro e w1 ⟨b, vh, rfl, hf1, hF1⟩))
  have HBT := hid (hf2.at (hf1.at (heap_alloc_at _ _) (fun x => x)) (fun x => x))
  have HF2 : Hid (Fresh w w2) := Mod.trans ((Mod.refl _ w).alloc _) (hf1.trans hf2)
  have HFA := hid (hF1.fresh hf2)
  have PO := hid (fun (W : World) (hW : Fresh w2 W) (n t : Nat) => prodsOver_any W R H (.slice pa ps.length pc) ps ((HP.out.kept (Nat.le_refl _) (HF2.out.trans hW) (fun _ _ x => x)).up ((HF2.out.trans hW).size)) hps _ (aheadsF AL (prsOf ps)) _ (ownsRow_other hoa (fun g hg => hW.block g (hoa.lt g hg).2 (fun x => x))) hal ha9 (n : Int) (t : Int))
  have hzo := hf2.size
  have hzw := HF2.out.size
  have hwl : w.heap.size < w2.heap.size := heap_lt HBT.out
  rw [HZ.out] at PO
  clear hoa hF1 hf1 hf2 FI hal ha9
  have HGZ := hid (gd_zero b)
  generalize Tryz.zeroCells108.setIfInBounds 0 (bptr b) = GZ at HGZ ⊢
  go_loopw [16] (fun x16 wr => ∃ (n : Nat), x16 = .int .i64 n ∧ n ≤ 8 ∧ Fresh w2 wr ∧ wr.heap[w2.heap.size]? = some (.cells (gdA (bptr b) (tabL z (n * 9))) 108 (0, 0)))
      (fun x _ => 9 - (intOf x).toNat)
  case atStart => exact ⟨0, rfl, by omega, (Mod.refl _ w2).alloc _, by rw [heap_alloc_at, HGZ.out]; rfl⟩
  case round =>
    obtain ⟨n, rfl, hn, hfr, hgb⟩ := hrel
    have HMN := hid (meas (B := 9) n (by omega))
    have HFR := hid hfr
    have HGB := hid hgb
    clear hfr hgb
    by_cases hlt : n < 8
    · have hn1 : (n : Int) < 8 := by omega
      go_wp2
      obtain ⟨wn, hwn⟩ : ∃ wn, wn = wr := ⟨_, rfl⟩
      subst hwn
      go_loopw [19] (fun x19 wr => ∃ (t : Nat), x19 = .int .i64 t ∧ t ≤ 9 ∧ Fresh w2 wr ∧ wr.heap[w2.heap.size]? = some (.cells (gdA (bptr b) (tabL z (n * 9 + t))) 108 (0, 0)))
          (fun x _ => 10 - (intOf x).toNat)
      case atStart => exact ⟨0, rfl, by omega, HFR.out, HGB.out⟩
      case round =>
        obtain ⟨t, rfl, ht, hfr, hgb⟩ := hrel
        have HMT := hid (meas (B := 10) t (by omega))
        have HFT := hid hfr
        have HGT := hid hgb
        by_cases hlt2 : t < 9
        · have ht1 : (t : Int) < 9 := by omega
          have hj : n * 9 + t < 72 := by omega
          have c1 : wr.cell? ⟨w2.heap.size, 1 + n * 9 + t, none⟩ = some (.int .i64 ((tabL z (n * 9 + t)).getD (n * 9 + t) 0)) := by
            rw [cellOf hgb, Nat.add_assoc, gd_at (by rw [tabL_len _ (by omega)]; omega)]
          have z1 := frozenOf hgb (1 + n * 9 + t)
          generalize (tabL z (n * 9 + t)).getD (n * 9 + t) 0 = V0 at c1
          have hb1 : (wr.setCell ⟨w2.heap.size, 1 + n * 9 + t, none⟩ (.int .i64 (-1))).heap[w2.heap.size]? = some (.cells (gdA (bptr b) ((tabL z (n * 9 + t)).set (n * 9 + t) (-1))) 108 (0, 0)) := by
            rw [Proofs.YteneagnhihcljaaGreatDoor.heap_setCell_same hgb, Nat.add_assoc, gd_set]
          have hf1 : Fresh w2 (wr.setCell ⟨w2.heap.size, 1 + n * 9 + t, none⟩ (.int .i64 (-1))) := hfr.setCell (fun h => absurd h (Nat.lt_irrefl _)) _
          have hsetE : ∀ v, ((tabL z (n * 9 + t)).set (n * 9 + t) (-1)).set (n * 9 + t) v = (tabL z (n * 9 + t)).set (n * 9 + t) v := fun v => List.set_set _
          have HSE := hid hsetE
          have HTS : Hid ((tabL z (n * 9 + t)).set (n * 9 + t) (hdOr (ovL (n : Int) (t : Int) z 0)) = tabL z (n * 9 + t + 1)) := by
            have := tabL_set z hj
            unfold chT at this
            rw [show (n * 9 + t) / 9 = n by omega, show (n * 9 + t) % 9 = t by omega] at this
            exact this
          have hls : ((tabL z (n * 9 + t)).set (n * 9 + t) (-1)).length = 72 := by rw [List.length_set, tabL_len _ (by omega)]
          clear hsetE
          generalize hWW : wr.setCell ⟨w2.heap.size, 1 + n * 9 + t, none⟩ (.int .i64 (-1)) = W1 at hb1 hf1
          have HB1 := hid hb1
          have HF1 := hid hf1
          have POT := hid (PO.out W1 hf1 n t)
          have hbt := hid (hf1.at HBT.out (fun x => x))
          generalize ovL (n : Int) (t : Int) z 0 = able at POT HTS
          clear hfr hgb hf1 hb1
          have t0 := cellOf hbt.out 0
          have t1 := cellOf hbt.out 1
          have t2 := cellOf hbt.out 2
          simp at t0 t1 t2
          cases able with
          | nil =>
            go_wp2_with (first
              | (go_at_call 44; refine POT.out.mono ?_; rintro e w3 ⟨v8, rfl, hf3, ho8⟩; obtain ⟨a8, c8, e8⟩ := own_form ho8; simp only [List.length_nil] at e8; subst e8; have HF3 := hid hf3; clear ho8 hf3 hWW))
            go_roundw
            case rel =>
              refine ⟨t + 1, by go_num, by omega, HF1.out.trans HF3.out, ?_⟩
              rw [← Nat.add_assoc, ← HTS.out]
              exact HF3.out.at HB1.out (fun x => x)
            case measure => exact HMT.out
          | cons a r =>
            have hrl : (0 : Int) < (r.length : Int) + 1 := by omega
            go_wp2_with (first
              | (go_at_call 44; refine POT.out.mono ?_; rintro e w3 ⟨v8, rfl, hf3, ho8⟩; obtain ⟨a8, c8, e8⟩ := own_form ho8; simp only [List.length_cons] at e8; subst e8; have HO8 := hid ho8; have HF3 := hid hf3; clear ho8 hf3 hWW))
            obtain ⟨g8, c8', hv8⟩ := Joins.ownsRow_form HO8.out (by simp)
            rw [Value.slice.injEq] at hv8
            obtain ⟨rfl, hx8, rfl⟩ := hv8
            clear hx8
            have d0 : w3.cell? ⟨g8, 0, none⟩ = some (.int .i64 a) := intOwn_cell HO8.out 0 (by simp)
            have hb3 := HF3.out.at HB1.out (fun x => x)
            have d1 : w3.cell? ⟨w2.heap.size, 1 + n * 9 + t, none⟩ = some (.int .i64 (((tabL z (n * 9 + t)).set (n * 9 + t) (-1)).getD (n * 9 + t) 0)) := by
              rw [cellOf hb3, Nat.add_assoc, gd_at (by omega)]
            have y1 := frozenOf hb3 (1 + n * 9 + t)
            have HB3 := hid hb3
            generalize ((tabL z (n * 9 + t)).set (n * 9 + t) (-1)).getD (n * 9 + t) 0 = V1 at d1
            clear hb3
            go_region
            all_goals
              go_wp2
              go_roundw
              case rel =>
                refine ⟨t + 1, by go_num, by omega, ?_, ?_⟩
                · exact ((HF1.out.trans HF3.out).setCell (fun h => absurd h (Nat.lt_irrefl _)) _).drew
                · rw [← Nat.add_assoc, ← HTS.out]
                  show (w3.setCell _ _).heap[w2.heap.size]? = _
                  rw [Proofs.YteneagnhihcljaaGreatDoor.heap_setCell_same HB3.out, Nat.add_assoc, gd_set, HSE.out]
                  rfl
              case measure => exact HMT.out
        · have ht9 : t = 9 := by omega
          have ht2 : ¬ ((t : Int) < 9) := by omega
          clear hfr hgb
          go_wp2
          go_roundw
          case rel => exact ⟨n + 1, by go_num, by omega, HFT.out, by rw [show (n + 1) * 9 = n * 9 + t by omega]; exact HGT.out⟩
          case measure => exact HMN.out
    · have hn8 : n = 8 := by omega
      subst hn8
      go_wp2
      go_ret
      exact ⟨_, b, vh, rfl, HF2.out.trans HFR.out, HGB.out, HFA.out.fresh HFR.out⟩
end Go.Proofs.YteneagnhihcljaaGreatDoor
