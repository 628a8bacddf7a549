import Derived.Test.YtakkooidejdfkaaGreatSec
import Derived.Test.YtakkooidejdfkaaGreatPd5
namespace Go.Proofs.YtakkooidejdfkaaGreat
open Go.RowKit
set_option linter.unusedVariables false
set_option linter.unusedSimpArgs false

def headI (R : Int) (i : Nat) : Hd := if i = 0 then { zeroHd with rch := true, fo := withT zero9 R } else zeroHd
def initH (R : Int) : Nat → List Hd
  | 0 => []
  | n + 1 => initH R n ++ [headI R n]
theorem headI_ok (R : Int) (i : Nat) : (headI R i).ok := by
  unfold headI; split
  · exact ⟨rfl, withT_len rfl⟩
  · exact zeroHd_ok
theorem initH_len (R : Int) : ∀ n, (initH R n).length = n
  | 0 => rfl
  | n + 1 => by simp [initH, initH_len R n]

theorem PrsAt.up {w : World} {B B' : Nat} {v : Value} {ps : List PV} (h : PrsAt w B v ps) (hB : B ≤ B') : PrsAt w B' v ps := by
  refine ⟨h.row, fun g hg => Nat.lt_of_lt_of_le (h.lt g hg) hB, fun p hp => ?_⟩
  obtain ⟨ao, cap, h1, h2, h3, h4⟩ := h.syms p hp
  refine ⟨ao, cap, h1, h2, h3, fun i hi => ?_⟩
  obtain ⟨g, o, h5, h6, h7⟩ := h4 i hi
  exact ⟨g, o, h5, Nat.lt_of_lt_of_le h6 hB, h7⟩
theorem FA.add {w W w3 : World} {b : Nat} {R H : Int} {vp vh v' : Value} {ps : List PV} {hs : List Hd} {x : Hd} (h : FA w b R H vp vh ps hs) (hx : x.ok) (hf : Fresh w W)
    (hown : w3.ownsRow (b + 1) 130 21 v' (hs.length + 1) (flatC Hd.cells hs ++ x.cells)) (hg : W.grownBy w3 vh.ownBlock) :
    FA (w3.setCell ⟨b, 3, none⟩ v') b R H vp v' ps (hs ++ [x]) ∧ Mod (fun k => b ≤ k) w (w3.setCell ⟨b, 3, none⟩ v') := by
  have hW := h.fresh hf
  have hge : ∀ k, vh.ownBlock = some k → b + 1 ≤ k := fun k hk => (h.own.lt k hk).1
  have hm3 : Mod (fun k => b ≤ k) W w3 := Mod.grown (Mod.refl _ W) hg (fun k hk _ => by have := hge k hk; omega)
  have hm : Mod (fun k => b ≤ k) W (w3.setCell ⟨b, 3, none⟩ v') := hm3.setCell (fun _ => Nat.le_refl _) _
  refine ⟨⟨?_, ?_, ?_, ?_⟩, Mod.trans (Mod.mono hf (fun _ _ x => x.elim)) hm⟩
  · have hb3 : w3.heap[b]? = some (.cells #[.int .i64 R, .int .i64 H, vp, vh] 123 (0, 0)) := by
      rw [hg.block b (heap_lt hW.blk) (fun e => by have := hge _ e.symm; omega)]; exact hW.blk
    rw [heap_setCell_same hb3]; rfl
  · exact hW.prs.kept (Nat.le_of_lt (heap_lt hW.blk)) hm (fun k hk hs => by omega)
  · rw [flat_snoc, List.length_append, List.length_singleton]
    exact ownsRow_other hown (fun g hg => heap_setCell_other _ (by have := (hown.lt g hg).1; dsimp only; omega))
  · intro y hy
    simp only [List.mem_append, List.mem_singleton] at hy
    rcases hy with hy | rfl
    · exact h.ok y hy
    · exact hx

theorem infoHd : (Tryz.prog.info? 130).map (fun i => (i.zero, i.size, i.bytes)) = some (some (.agg (hdA zeroHd)), 21, 21) := by kernel_rfl
theorem infoHd' : ∃ i, Tryz.prog.info? 130 = some i ∧ i.zero = some (.agg (hdA zeroHd)) ∧ i.size = 21 ∧ i.bytes = 21 := by
  have h := infoHd
  cases hq : Tryz.prog.info? 130 with
  | none => simp [hq] at h
  | some i => simp [hq] at h; exact ⟨i, rfl, h.1, h.2.1, h.2.2⟩
abbrev hdLit (a b c f0 f1 f2 f3 f4 f5 f6 f7 f8 g0 g1 g2 g3 g4 g5 g6 g7 g8 : Bool) : Array Value := #[.bool a, .bool b, .bool c, .bool f0, .bool f1, .bool f2, .bool f3, .bool f4, .bool f5, .bool f6, .bool f7, .bool f8, .bool g0, .bool g1, .bool g2, .bool g3, .bool g4, .bool g5, .bool g6, .bool g7, .bool g8]

attribute [local go_sem ↓] apS_rule ldH_rule
set_option maxRecDepth 20000 in
set_option maxHeartbeats 8000000 in
theorem find_any' (w : World) (R H : Nat) (vp : Value) (ps : List PV) (hp : PrsAt w w.heap.size vp ps) (hps : ps.length ≤ 1000) (hH : H ≤ 1000) (hR : R ≤ 1000) :
    Calls Tryz.prog 36 #[.agg #[.int .i64 R, .int .i64 H, vp]] w fun e w' => ∃ b vh, e = .returned (bptr b) ∧ Fresh w w' ∧ FA w' b R H vp vh ps (allF (prsOf ps) (initH R H)) := by
  obtain ⟨i0, hi0, iz0, iz1, iz2⟩ := infoHd'
  have HP := hid hp
  obtain ⟨pa, pc, hvp⟩ := own_form hp.row.own
  subst hvp
  clear hp
  have HF0 : Hid (FA ((w.alloc (.cells #[.int .i64 R, .int .i64 H, .slice pa ps.length pc] 51 (0, 0))).alloc (.cells #[.int .i64 R, .int .i64 H, .slice pa ps.length pc, .slice none 0 0] 123 (0, 0))) (w.heap.size + 1) R H (.slice pa ps.length pc) (.slice none 0 0) ps []) :=
    ⟨heap_alloc2_new _ _ _, (HP.out.kept (Nat.le_refl _) (((Mod.refl (fun _ => False) w).alloc _).alloc _) (fun _ _ x => x)).up (by omega), World.ownsRow_nil _ _ _ _, by simp⟩
  go_enter Tryz.func36, Tryz.ntmps36
  go_wp2
  go_loopw [4, 5] (fun x4 _ wr => ∃ (i : Nat) (vh : Value), x4 = .int .i64 i ∧ i ≤ H ∧ FA wr (w.heap.size + 1) R H (.slice pa ps.length pc) vh ps (initH R i) ∧ Fresh w wr ∧ wr.heap[w.heap.size]? = some (.cells #[.int .i64 R, .int .i64 H, .slice pa ps.length pc] 51 (0, 0)))
      (fun x _ _ => H + 1 - (intOf x).toNat)
  case atStart => exact ⟨0, .slice none 0 0, rfl, by omega, HF0.out, ((Mod.refl _ w).alloc _).alloc _, heap_alloc2_old _ _ _⟩
  case round =>
    obtain ⟨i, vh, rfl, hi, hF, hfr, hbt⟩ := hrel
    have HME := hid (meas (B := H + 1) i (by omega))
    have HF := hid hF
    have HFR := hid hfr
    have HBT := hid hbt
    have c1 := cellOf hbt 1
    have c0 := cellOf hbt 0
    simp at c1 c0
    obtain ⟨ha, hc, hvh⟩ := own_form hF.own
    rw [initH_len] at hvh
    subst hvh
    have hblt := hF.size
    by_cases hlt : i < H
    · have hi1 : (i : Int) < (H : Int) := by omega
      have HI : Hid (initH R (i + 1) = initH R i ++ [headI R i]) := rfl
      clear hF hfr hbt
      by_cases hz : i = 0
      · subst hz
        have hWL := withT_len (a := zero9) (n := (R : Int)) rfl
        have HWL := hid hWL
        obtain ⟨g0, g1, g2, g3, g4, g5, g6, g7, g8, hg⟩ := nine hWL
        have HGG := hid hg
        have h1 : Fresh wr (wr.alloc (.cells #[.bool false, .bool true, .bool false, .bool false, .bool false, .bool false, .bool false, .bool false, .bool false, .bool false, .bool false, .bool false, .bool false, .bool false, .bool false, .bool false, .bool false, .bool false, .bool false, .bool false, .bool false] 130 (0, 0))) := (Mod.refl _ wr).alloc _
        have hlt0 := heap_lt HBT.out
        have c0W : (wr.alloc (.cells #[.bool false, .bool true, .bool false, .bool false, .bool false, .bool false, .bool false, .bool false, .bool false, .bool false, .bool false, .bool false, .bool false, .bool false, .bool false, .bool false, .bool false, .bool false, .bool false, .bool false, .bool false] 130 (0, 0))).cell? ⟨w.heap.size, 0, none⟩ = some (.int .i64 R) := by rw [cellOf (heap_alloc_prev HBT.out) 0]; rfl
        have HO1 : Hid (Hd.ok { zeroHd with rch := true }) := ⟨rfl, rfl⟩
        clear hWL hg
        go_wp2_with (first
          | (refine wpList_store_mid rfl 115 _ _ rfl wr.heap.size 12 (tkA (withT zero9 R)) rfl rfl (by rw [tk_size HWL.out]; exact hd_there HO1.out hb2.out (by omega)) (szTokOf HWL.out) (tk_one _) ?_)
          | (go_at_call 51; refine (twith_any _ zero9 (R : Int) rfl).mono ?_; rintro e w2 ⟨rfl, hf2⟩; have hb2 : Hid (w2.heap[wr.heap.size]? = some (.cells (hdA { zeroHd with rch := true }) 130 (0, 0))) := hf2.at (heap_alloc_at wr (.cells #[.bool false, .bool true, .bool false, .bool false, .bool false, .bool false, .bool false, .bool false, .bool false, .bool false, .bool false, .bool false, .bool false, .bool false, .bool false, .bool false, .bool false, .bool false, .bool false, .bool false, .bool false] 130 (0, 0))) (fun x => x)))
        have hW : Fresh wr (w2.setCells wr.heap.size 12 (tkA (withT zero9 R)).toList) := Mod.setCells (fun h => absurd h (Nat.lt_irrefl _)) _ _ _ (Mod.trans h1 hf2)
        have hFW := HF.out.fresh hW
        have k3 := hFW.cell 3
        simp at k3
        have HBX : Hid ((w2.setCells wr.heap.size 12 (tkA (withT zero9 R)).toList).heap[wr.heap.size]? = some (.cells (hdA (headI R 0)) 130 (0, 0))) := by
          unfold Hid
          rw [heap_setCells_same _ _ _ _ _ _ _ hb2.out]
          rw [show headI R 0 = { ({ zeroHd with rch := true } : Hd) with fo := withT zero9 R } from rfl, ← hd_setfo HO1.out HWL.out]; rfl
        have HBW0 := hid (hW.at HBT.out (fun x => x))
        have HFRW0 := hid (HFR.out.trans hW)
        generalize w2.setCells wr.heap.size 12 (tkA (withT zero9 R)).toList = W at hFW k3 HBX HBW0 HFRW0 hW ⊢
        have hzl : wr.heap.size < W.heap.size := heap_lt HBX.out
        have hlit : hdA (headI R 0) = #[.bool false, .bool true, .bool false, .bool false, .bool false, .bool false, .bool false, .bool false, .bool false, .bool false, .bool false, .bool false, .bool g0, .bool g1, .bool g2, .bool g3, .bool g4, .bool g5, .bool g6, .bool g7, .bool g8] := by
          rw [show headI R 0 = { ({ zeroHd with rch := true } : Hd) with fo := withT zero9 R } from rfl, HGG.out]; rfl
        have hlitc : (headI R 0).cells = [.bool false, .bool true, .bool false, .bool false, .bool false, .bool false, .bool false, .bool false, .bool false, .bool false, .bool false, .bool false, .bool g0, .bool g1, .bool g2, .bool g3, .bool g4, .bool g5, .bool g6, .bool g7, .bool g8] := by
          rw [show headI R 0 = { ({ zeroHd with rch := true } : Hd) with fo := withT zero9 R } from rfl, HGG.out]; rfl
        have l1 : (ldH (.pointer (some ⟨wr.heap.size, 0, none⟩))).run Tryz.prog W.drew = .ok (.agg #[.bool false, .bool true, .bool false, .bool false, .bool false, .bool false, .bool false, .bool false, .bool false, .bool false, .bool false, .bool false, .bool g0, .bool g1, .bool g2, .bool g3, .bool g4, .bool g5, .bool g6, .bool g7, .bool g8]) W.drew := by
          rw [← hlit]
          refine ldH_mid (headI_ok R 0) ?_
          intro j v hj
          have : W.drew.heap[wr.heap.size]? = some (.cells (hdA (headI R 0)) 130 (0, 0)) := HBX.out
          rw [cellOf this, Nat.zero_add]; simpa [hdA] using hj
        have HBW := HBW0
        have HFRW := HFRW0
        have HFW := hid hFW
        have hwb := hFW.size
        have HLC := hid hlitc
        clear hFW HBW0 HFRW0 hW hlit hlitc HBX h1 hf2 c0W
        obtain ⟨v', w3, hrun, hown, hgrow, hblk⟩ := apS_mine (P := Tryz.prog) (W.alloc (.cells #[.bool false, .bool true, .bool false, .bool false, .bool false, .bool false, .bool false, .bool false, .bool false, .bool false, .bool false, .bool false, .bool g0, .bool g1, .bool g2, .bool g3, .bool g4, .bool g5, .bool g6, .bool g7, .bool g8] 130)).drew (w.heap.size + 2) 121 121 130 i0 _ 21 21 Tryz.underlying121 hi0 iz0 iz1 iz2 rfl (by decide) (.slice ha 0 hc) 0 (flatC Hd.cells (initH R 0)) (by have := HFW.out.own.alloc (.cells #[.bool false, .bool true, .bool false, .bool false, .bool false, .bool false, .bool false, .bool false, .bool false, .bool false, .bool false, .bool false, .bool g0, .bool g1, .bool g2, .bool g3, .bool g4, .bool g5, .bool g6, .bool g7, .bool g8] 130); rw [initH_len] at this; exact this) ⟨W.heap.size, 0, none⟩ 1 1 (headI R 0).cells (by rw [HLC.out]; rfl) (new_cells (by rw [HLC.out])) (by intro u hu; exact (Array.all_eq_true_iff_forall_mem.1 (hd_one (headI R 0))) u (by simpa [hdA] using hu)) (by unfold maxLen; omega) (by omega) (by simp [World.drew]; omega)
        obtain ⟨ao3, cap3, hv3⟩ := own_form hown
        have hb3 : w3.heap[w.heap.size + 1]? = some (.cells #[.int .i64 R, .int .i64 H, .slice pa ps.length pc, .slice ha 0 hc] 123 (0, 0)) := by
          rw [hgrow.block _ (by show _ < (W.alloc _).heap.size; simp; have := HFW.out.size; omega) (fun e => by have := (HFW.out.own.lt _ e.symm).1; omega)]
          exact heap_alloc_prev HFW.out.blk
        have c3 : w3.cell? ⟨w.heap.size + 1, 3, none⟩ = some (.slice ha 0 hc) := (cellOf hb3 3)
        have f3 := frozenOf hb3 3
        have HFA := hid (HFW.out.add (headI_ok R 0) (((Mod.refl _ W).alloc _).drew) (by rw [initH_len]; exact hown) hgrow)
        have hbt3 : Hid ((w3.setCell ⟨w.heap.size + 1, 3, none⟩ v').heap[w.heap.size]? = some (.cells #[.int .i64 R, .int .i64 H, .slice pa ps.length pc] 51 (0, 0))) := (Mod.mono HFA.out.2 (T := fun k => w.heap.size + 1 ≤ k) (fun _ _ h => h)).at HBW.out (by omega)
        have hfr3 : Hid (Fresh w (w3.setCell ⟨w.heap.size + 1, 3, none⟩ v')) := Mod.trans' HFRW.out HFA.out.2 (fun k hk h => by omega)
        clear hown hgrow hblk hb3
        subst hv3
        go_region
        all_goals
          go_wp2
          go_roundw
          case rel =>
            refine ⟨0 + 1, .slice ao3 (0 + 1) cap3, by go_num, by omega, ?_, hfr3.out, hbt3.out⟩
            rw [HI.out]; exact HFA.out.1
          case measure => exact HME.out
      · have b1 : ((i : Int) == 0) = false := by simp; omega
        have hW : Fresh wr (wr.alloc (.cells #[.bool false, .bool false, .bool false, .bool false, .bool false, .bool false, .bool false, .bool false, .bool false, .bool false, .bool false, .bool false, .bool false, .bool false, .bool false, .bool false, .bool false, .bool false, .bool false, .bool false, .bool false] 130 (0, 0))) := (Mod.refl _ wr).alloc _
        have hFW := HF.out.fresh hW
        have k3 := hFW.cell 3
        simp at k3
        have l1 : (ldH (.pointer (some ⟨wr.heap.size, 0, none⟩))).run Tryz.prog (wr.alloc (.cells #[.bool false, .bool false, .bool false, .bool false, .bool false, .bool false, .bool false, .bool false, .bool false, .bool false, .bool false, .bool false, .bool false, .bool false, .bool false, .bool false, .bool false, .bool false, .bool false, .bool false, .bool false] 130 (0, 0))).drew = .ok (.agg #[.bool false, .bool false, .bool false, .bool false, .bool false, .bool false, .bool false, .bool false, .bool false, .bool false, .bool false, .bool false, .bool false, .bool false, .bool false, .bool false, .bool false, .bool false, .bool false, .bool false, .bool false]) (wr.alloc (.cells #[.bool false, .bool false, .bool false, .bool false, .bool false, .bool false, .bool false, .bool false, .bool false, .bool false, .bool false, .bool false, .bool false, .bool false, .bool false, .bool false, .bool false, .bool false, .bool false, .bool false, .bool false] 130 (0, 0))).drew :=
          ldH_mid (h := zeroHd) zeroHd_ok (rangeAt_block (rangeAt_new wr zeroHd _) rfl)
        have HH0 : Hid (headI R i = zeroHd) := by unfold Hid headI; rw [if_neg hz]
        go_wp2
        have HBW0 := hid (heap_alloc_prev (o := .cells #[.bool false, .bool false, .bool false, .bool false, .bool false, .bool false, .bool false, .bool false, .bool false, .bool false, .bool false, .bool false, .bool false, .bool false, .bool false, .bool false, .bool false, .bool false, .bool false, .bool false, .bool false] 130 (0, 0)) HBT.out)
        have HFRW0 := hid (HFR.out.trans hW)
        have hzl : wr.heap.size < (wr.alloc (.cells #[.bool false, .bool false, .bool false, .bool false, .bool false, .bool false, .bool false, .bool false, .bool false, .bool false, .bool false, .bool false, .bool false, .bool false, .bool false, .bool false, .bool false, .bool false, .bool false, .bool false, .bool false] 130 (0, 0))).heap.size := by simp
        generalize wr.alloc (.cells #[.bool false, .bool false, .bool false, .bool false, .bool false, .bool false, .bool false, .bool false, .bool false, .bool false, .bool false, .bool false, .bool false, .bool false, .bool false, .bool false, .bool false, .bool false, .bool false, .bool false, .bool false] 130 (0, 0)) = W at hFW k3 l1 HBW0 HFRW0 hzl ⊢
        have HBW := HBW0
        have HFRW := HFRW0
        have HFW := hid hFW
        have hwb := hFW.size
        clear hFW HBW0 HFRW0 hW
        obtain ⟨v', w3, hrun, hown, hgrow, hblk⟩ := apS_mine (P := Tryz.prog) (W.alloc (.cells #[.bool false, .bool false, .bool false, .bool false, .bool false, .bool false, .bool false, .bool false, .bool false, .bool false, .bool false, .bool false, .bool false, .bool false, .bool false, .bool false, .bool false, .bool false, .bool false, .bool false, .bool false] 130)).drew (w.heap.size + 2) 121 121 130 i0 _ 21 21 Tryz.underlying121 hi0 iz0 iz1 iz2 rfl (by decide) (.slice ha i hc) i (flatC Hd.cells (initH R i)) (by have := HFW.out.own.alloc (.cells #[.bool false, .bool false, .bool false, .bool false, .bool false, .bool false, .bool false, .bool false, .bool false, .bool false, .bool false, .bool false, .bool false, .bool false, .bool false, .bool false, .bool false, .bool false, .bool false, .bool false, .bool false] 130); rw [initH_len] at this; exact this) ⟨W.heap.size, 0, none⟩ 1 1 zeroHd.cells rfl (new_cells rfl) (by intro u hu; simp [zeroHd, Hd.cells, bls, zero9] at hu; subst hu; rfl) (by unfold maxLen; omega) (by omega) (by simp [World.drew]; omega)
        obtain ⟨ao3, cap3, hv3⟩ := own_form hown
        have hb3 : w3.heap[w.heap.size + 1]? = some (.cells #[.int .i64 R, .int .i64 H, .slice pa ps.length pc, .slice ha i hc] 123 (0, 0)) := by
          rw [hgrow.block _ (by show _ < (W.alloc _).heap.size; simp; have := HFW.out.size; omega) (fun e => by have := (HFW.out.own.lt _ e.symm).1; omega)]
          exact heap_alloc_prev HFW.out.blk
        have c3 : w3.cell? ⟨w.heap.size + 1, 3, none⟩ = some (.slice ha i hc) := (cellOf hb3 3)
        have f3 := frozenOf hb3 3
        have HFA := hid (HFW.out.add zeroHd_ok (((Mod.refl _ W).alloc _).drew) (by rw [initH_len]; exact hown) hgrow)
        have hbt3 : Hid ((w3.setCell ⟨w.heap.size + 1, 3, none⟩ v').heap[w.heap.size]? = some (.cells #[.int .i64 R, .int .i64 H, .slice pa ps.length pc] 51 (0, 0))) := (Mod.mono HFA.out.2 (T := fun k => w.heap.size + 1 ≤ k) (fun _ _ h => h)).at HBW.out (by omega)
        have hfr3 : Hid (Fresh w (w3.setCell ⟨w.heap.size + 1, 3, none⟩ v')) := Mod.trans' HFRW.out HFA.out.2 (fun k hk h => by omega)
        clear hown hgrow hblk hb3
        subst hv3
        go_region
        all_goals
          go_wp2
          go_roundw
          case rel =>
            refine ⟨i + 1, .slice ao3 (i + 1) cap3, by go_num, by omega, ?_, hfr3.out, hbt3.out⟩
            rw [HI.out, HH0.out]; exact HFA.out.1
          case measure => exact HME.out
    · have hie : i = H := by omega
      have hi2 : ¬ (i : Int) < (H : Int) := by omega
      subst hie
      have FAll := hid (findAll_any wr (w.heap.size + 1) R i _ _ ps _ hF hps)
      clear hF hfr hbt
      go_wp2_with (first
        | (go_at_call 56; refine FAll.out.mono ?_; rintro e w1 ⟨rfl, hF1, hm1⟩))
      go_ret
      have hff : Fresh w w1 := Mod.trans' HFR.out hm1 (fun k hk h => by have := (HF.out.own.lt k h).1; omega)
      first
        | exact ⟨_, _, rfl, hff, hF1⟩
        | exact ⟨_, rfl, hff, _, hF1⟩
end Go.Proofs.YtakkooidejdfkaaGreat
