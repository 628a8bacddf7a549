import Derived.Test.YteneagnhihcljaaGreatDoorSec
import Derived.Test.YteneagnhihcljaaGreatDoorPd5
namespace Go.Proofs.YteneagnhihcljaaGreatDoor
open Go.RowKit
set_option linter.unusedVariables false
set_option linter.unusedSimpArgs false

def headI (R : Int) (i : Nat) : Hd := if i = 0 then { zeroHd with rch := true, fo := withT zero9 R } else zeroHd
def initH (R : Int) : Nat → List Hd
  | 0 => []
  | n + 1 => initH R n ++ [headI R n]
theorem headI_ok (R : Int) (i : Nat) : (headI R i).ok := by
  unfold headI; split
  · exact ⟨rfl, withT_len rfl⟩
  · exact zeroHd_ok
theorem initH_len (R : Int) : ∀ n, (initH R n).length = n
  | 0 => rfl
  | n + 1 => by simp [initH, initH_len R n]

theorem PrsAt.up {w : World} {B B' : Nat} {v : Value} {ps : List PV} (h : PrsAt w B v ps) (hB : B ≤ B') : PrsAt w B' v ps := by
  refine ⟨h.row, fun g hg => Nat.lt_of_lt_of_le (h.lt g hg) hB, fun p hp => ?_⟩
  obtain ⟨ao, cap, h1, h2, h3, h4⟩ := h.syms p hp
  refine ⟨ao, cap, h1, h2, h3, fun i hi => ?_⟩
  obtain ⟨g, o, h5, h6, h7⟩ := h4 i hi
  exact ⟨g, o, h5, Nat.lt_of_lt_of_le h6 hB, h7⟩
theorem FA.add {w W w3 : World} {b : Nat} {R H : Int} {vp vh v' : Value} {ps : List PV} {hs : List Hd} {x : Hd} (h : FA w b R H vp vh ps hs) (hx : x.ok) (hf : Fresh w W)
    (hown : w3.ownsRow (b + 1) 139 21 v' (hs.length + 1) (flatC Hd.cells hs ++ x.cells)) (hg : W.grownBy w3 vh.ownBlock) :
    FA (w3.setCell ⟨b, 3, none⟩ v') b R H vp v' ps (hs ++ [x]) ∧ Mod (fun k => b ≤ k) w (w3.setCell ⟨b, 3, none⟩ v') := by
  have hW := h.fresh hf
  have hge : ∀ k, vh.ownBlock = some k → b + 1 ≤ k := fun k hk => (h.own.lt k hk).1
  have hm3 : Mod (fun k => b ≤ k) W w3 := Mod.grown (Mod.refl _ W) hg (fun k hk _ => by have := hge k hk; omega)
  have hm : Mod (fun k => b ≤ k) W (w3.setCell ⟨b, 3, none⟩ v') := hm3.setCell (fun _ => Nat.le_refl _) _
  refine ⟨⟨?_, ?_, ?_, ?_⟩, Mod.trans (Mod.mono hf (fun _ _ x => x.elim)) hm⟩
  · have hb3 : w3.heap[b]? = some (.cells #[.int .i64 R, .int .i64 H, vp, vh] 118 (0, 0)) := by
      rw [hg.block b (heap_lt hW.blk) (fun e => by have := hge _ e.symm; omega)]; exact hW.blk
    rw [heap_setCell_same hb3]; rfl
  · exact hW.prs.kept (Nat.le_of_lt (heap_lt hW.blk)) hm (fun k hk hs => by omega)
  · rw [flat_snoc, List.length_append, List.length_singleton]
    exact ownsRow_other hown (fun g hg => heap_setCell_other _ (by have := (hown.lt g hg).1; dsimp only; omega))
  · intro y hy
    simp only [List.mem_append, List.mem_singleton] at hy
    rcases hy with hy | rfl
    · exact h.ok y hy
    · exact hx

theorem infoHd : (Tryz.prog.info? 139).map (fun i => (i.zero, i.size, i.bytes)) = some (some (.agg (hdA zeroHd)), 21, 21) := by kernel_rfl
theorem infoHd' : ∃ i, Tryz.prog.info? 139 = some i ∧ i.zero = some (.agg (hdA zeroHd)) ∧ i.size = 21 ∧ i.bytes = 21 := by
  have h := infoHd
  cases hq : Tryz.prog.info? 139 with
  | none => simp [hq] at h
  | some i => simp [hq] at h; exact ⟨i, rfl, h.1, h.2.1, h.2.2⟩
attribute [local go_sem ↓] apS_rule ldH_rule
set_option maxRecDepth 20000 in
set_option maxHeartbeats 8000000 in
theorem find_any' (w : World) (R H : Nat) (vp : Value) (ps : List PV) (hp : PrsAt w w.heap.size vp ps) (hps : ps.length ≤ 1000) (hH : H ≤ 1000) (hR : R ≤ 1000) :
    Calls Tryz.prog 42 #[.agg #[.int .i64 R, .int .i64 H, vp]] w fun e w' => ∃ b vh, e = .returned (bptr b) ∧ Fresh w w' ∧ FA w' b R H vp vh ps (allF (prsOf ps) (initH R H)) := by
  obtain ⟨i0, hi0, iz0, iz1, iz2⟩ := infoHd'
  have HP := hid hp
  obtain ⟨pa, pc, hvp⟩ := own_form hp.row.own
  subst hvp
  clear hp
  have HF0 : Hid (FA ((w.alloc (.cells #[.int .i64 R, .int .i64 H, .slice pa ps.length pc] 42 (0, 0))).alloc (.cells #[.int .i64 R, .int .i64 H, .slice pa ps.length pc, .slice none 0 0] 118 (0, 0))) (w.heap.size + 1) R H (.slice pa ps.length pc) (.slice none 0 0) ps []) :=
    ⟨heap_alloc2_new _ _ _, (HP.out.kept (Nat.le_refl _) (((Mod.refl (fun _ => False) w).alloc _).alloc _) (fun _ _ x => x)).up (by omega), World.ownsRow_nil _ _ _ _, by simp⟩
  go_enter Tryz.func42, Tryz.ntmps42
  go_wp2
  go_loopw [4, 5] (fun x4 _ wr => ∃ (i : Nat) (vh : Value), x4 = .int .i64 i ∧ i ≤ H ∧ FA wr (w.heap.size + 1) R H (.slice pa ps.length pc) vh ps (initH R i) ∧ Fresh w wr ∧ wr.heap[w.heap.size]? = some (.cells #[.int .i64 R, .int .i64 H, .slice pa ps.length pc] 42 (0, 0)))
      (fun x _ _ => H + 1 - (intOf x).toNat)
  case atStart => exact ⟨0, .slice none 0 0, rfl, by omega, HF0.out, ((Mod.refl _ w).alloc _).alloc _, heap_alloc2_old _ _ _⟩
  case round =>
    obtain ⟨i, vh, rfl, hi, hF, hfr, hbt⟩ := hrel
    have HME := hid (meas (B := H + 1) i (by omega))
    have HF := hid hF
    have HFR := hid hfr
    have HBT := hid hbt
    have c1 := cellOf hbt 1
    have c0 := cellOf hbt 0
    simp at c1 c0
    obtain ⟨ha, hc, hvh⟩ := own_form hF.own
    rw [initH_len] at hvh
    subst hvh
    have hblt := hF.size
    by_cases hlt : i < H
    · have hi1 : (i : Int) < (H : Int) := by omega
      have HI : Hid (initH R (i + 1) = initH R i ++ [headI R i]) := rfl
      clear hF hfr hbt
      by_cases hz : i = 0
      · subst hz
        have hWL := withT_len (a := zero9) (n := (R : Int)) rfl
        have HWL := hid hWL
        obtain ⟨g0, g1, g2, g3, g4, g5, g6, g7, g8, hg⟩ := nine hWL
        have HGG := hid hg
        have h1 : Fresh wr (wr.alloc (.cells #[.bool false, .bool true, .bool false, .bool false, .bool false, .bool false, .bool false, .bool false, .bool false, .bool false, .bool false, .bool false, .bool false, .bool false, .bool false, .bool false, .bool false, .bool false, .bool false, .bool false, .bool false] 139 (0, 0))) := (Mod.refl _ wr).alloc _
        have hlt0 := heap_lt HBT.out
        have c0W : (wr.alloc (.cells #[.bool false, .bool true, .bool false, .bool false, .bool false, .bool false, .bool false, .bool false, .bool false, .bool false, .bool false, .bool false, .bool false, .bool false, .bool false, .bool false, .bool false, .bool false, .bool false, .bool false, .bool false] 139 (0, 0))).cell? ⟨w.heap.size, 0, none⟩ = some (.int .i64 R) := by rw [cellOf (heap_alloc_prev HBT.out) 0]; rfl
        have HO1 : Hid (Hd.ok { zeroHd with rch := true }) := ⟨rfl, rfl⟩
        clear hWL hg
        go_wp2_with (first
          | (refine wpList_store_mid rfl 110 _ _ rfl wr.heap.size 12 (tkA (withT zero9 R)) rfl rfl (by rw [tk_size HWL.out]; exact hd_there HO1.out hb2.out (by omega)) (szTokOf HWL.out) (tk_one _) ?_)
          | (go_at_call 48; refine (twith_any _ zero9 (R : Int) rfl).mono ?_; rintro e w2 ⟨rfl, hf2⟩; have hb2 : Hid (w2.heap[wr.heap.size]? = some (.cells (hdA { zeroHd with rch := true }) 139 (0, 0))) := hf2.at (heap_alloc_at wr (.cells #[.bool false, .bool true, .bool false, .bool false, .bool false, .bool false, .bool false, .bool false, .bool false, .bool false, .bool false, .bool false, .bool false, .bool false, .bool false, .bool false, .bool false, .bool false, .bool false, .bool false, .bool false] 139 (0, 0))) (fun x => x)))
        have hW : Fresh wr (w2.setCells wr.heap.size 12 (tkA (withT zero9 R)).toList) := Mod.setCells (fun h => absurd h (Nat.lt_irrefl _)) _ _ _ (Mod.trans h1 hf2)
        have hFW := HF.out.fresh hW
        have k3 := hFW.cell 3
        simp at k3
        have HBX : Hid ((w2.setCells wr.heap.size 12 (tkA (withT zero9 R)).toList).heap[wr.heap.size]? = some (.cells (hdA (headI R 0)) 139 (0, 0))) := by
          unfold Hid
          rw [heap_setCells_same _ _ _ _ _ _ _ hb2.out]
          rw [show headI R 0 = { ({ zeroHd with rch := true } : Hd) with fo := withT zero9 R } from rfl, ← hd_setfo HO1.out HWL.out]; rfl
        have HBW0 := hid (hW.at HBT.out (fun x => x))
        have HFRW0 := hid (HFR.out.trans hW)
        generalize w2.setCells wr.heap.size 12 (tkA (withT zero9 R)).toList = W at hFW k3 HBX HBW0 HFRW0 hW ⊢
        have hzl : wr.heap.size < W.heap.size := heap_lt HBX.out
        have hlit : hdA (headI R 0) = #[.bool false, .bool true, .bool false, .bool false, .bool false, .bool false, .bool false, .bool false, .bool false, .bool false, .bool false, .bool false, .bool g0, .bool g1, .bool g2, .bool g3, .bool g4, .bool g5, .bool g6, .bool g7, .bool g8] := by
          rw [show headI R 0 = { ({ zeroHd with rch := true } : Hd) with fo := withT zero9 R } from rfl, HGG.out]; rfl
        have hlitc : (headI R 0).cells = [.bool false, .bool true, .bool false, .bool false, .bool false, .bool false, .bool false, .bool false, .bool false, .bool false, .bool false, .bool false, .bool g0, .bool g1, .bool g2, .bool g3, .bool g4, .bool g5, .bool g6, .bool g7, .bool g8] := by
          rw [show headI R 0 = { ({ zeroHd with rch := true } : Hd) with fo := withT zero9 R } from rfl, HGG.out]; rfl
        have l1 : (ldH (.pointer (some ⟨wr.heap.size, 0, none⟩))).run Tryz.prog W.drew = .ok (.agg #[.bool false, .bool true, .bool false, .bool false, .bool false, .bool false, .bool false, .bool false, .bool false, .bool false, .bool false, .bool false, .bool g0, .bool g1, .bool g2, .bool g3, .bool g4, .bool g5, .bool g6, .bool g7, .bool g8]) W.drew := by
          rw [← hlit]
          refine ldH_mid (headI_ok R 0) ?_
          intro j v hj
          have : W.drew.heap[wr.heap.size]? = some (.cells (hdA (headI R 0)) 139 (0, 0)) := HBX.out
          rw [cellOf this, Nat.zero_add]; simpa [hdA] using hj
        have HBW := HBW0
        have HFRW := HFRW0
        have HFW := hid hFW
        have hwb := hFW.size
        have HLC := hid hlitc
        clear hFW HBW0 HFRW0 hW hlit hlitc HBX h1 hf2 c0W
        obtain ⟨v', w3, hrun, hown, hgrow, hblk⟩ := apS_mine (P := Tryz.prog) (W.alloc (.cells #[.bool false, .bool true, .bool false, .bool false, .bool false, .bool false, .bool false, .bool false, .bool false, .bool false, .bool false, .bool false, .bool g0, .bool g1, .bool g2, .bool g3, .bool g4, .bool g5, .bool g6, .bool g7, .bool g8] 139)).drew (w.heap.size + 2) 116 116 139 i0 _ 21 21 Tryz.underlying116 hi0 iz0 iz1 iz2 rfl (by decide) (.slice ha 0 hc) 0 (flatC Hd.cells (initH R 0)) (by have := HFW.out.own.alloc (.cells #[.bool false, .bool true, .bool false, .bool false, .bool false, .bool false, .bool false, .bool false, .bool false, .bool false, .bool false, .bool false, .bool g0, .bool g1, .bool g2, .bool g3, .bool g4, .bool g5, .bool g6, .bool g7, .bool g8] 139); rw [initH_len] at this; exact this) ⟨W.heap.size, 0, none⟩ 1 1 (headI R 0).cells (by rw [HLC.out]; rfl) (new_cells (by rw [HLC.out])) (by intro u hu; exact (Array.all_eq_true_iff_forall_mem.1 (hd_one (headI R 0))) u (by simpa [hdA] using hu)) (by unfold maxLen; omega) (by omega) (by simp [World.drew]; omega)
        obtain ⟨ao3, cap3, hv3⟩ := own_form hown
        have hb3 : w3.heap[w.heap.size + 1]? = some (.cells #[.int .i64 R, .int .i64 H, .slice pa ps.length pc, .slice ha 0 hc] 118 (0, 0)) := by
          rw [hgrow.block _ (by show _ < (W.alloc _).heap.size; simp; have := HFW.out.size; omega) (fun e => by have := (HFW.out.own.lt _ e.symm).1; omega)]
          exact heap_alloc_prev HFW.out.blk
        have c3 : w3.cell? ⟨w.heap.size + 1, 3, none⟩ = some (.slice ha 0 hc) := (cellOf hb3 3)
        have f3 := frozenOf hb3 3
        have HFA := hid (HFW.out.add (headI_ok R 0) (((Mod.refl _ W).alloc _).drew) (by rw [initH_len]; exact hown) hgrow)
        have hbt3 : Hid ((w3.setCell ⟨w.heap.size + 1, 3, none⟩ v').heap[w.heap.size]? = some (.cells #[.int .i64 R, .int .i64 H, .slice pa ps.length pc] 42 (0, 0))) := (Mod.mono HFA.out.2 (T := fun k => w.heap.size + 1 ≤ k) (fun _ _ h => h)).at HBW.out (by omega)
        have hfr3 : Hid (Fresh w (w3.setCell ⟨w.heap.size + 1, 3, none⟩ v')) := Mod.trans' HFRW.out HFA.out.2 (fun k hk h => by omega)
        clear hown hgrow hblk hb3
        subst hv3
        go_region
        all_goals
          go_wp2
          go_roundw
          case rel =>
            refine ⟨0 + 1, .slice ao3 (0 + 1) cap3, by go_num, by omega, ?_, hfr3.out, hbt3.out⟩
            rw [HI.out]; exact HFA.out.1
          case measure => exact HME.out
      · have b1 : ((i : Int) == 0) = false := by simp; omega
        have hW : Fresh wr (wr.alloc (.cells #[.bool false, .bool false, .bool false, .bool false, .bool false, .bool false, .bool false, .bool false, .bool false, .bool false, .bool false, .bool false, .bool false, .bool false, .bool false, .bool false, .bool false, .bool false, .bool false, .bool false, .bool false] 139 (0, 0))) := (Mod.refl _ wr).alloc _
        have hFW := HF.out.fresh hW
        have k3 := hFW.cell 3
        simp at k3
        have l1 : (ldH (.pointer (some ⟨wr.heap.size, 0, none⟩))).run Tryz.prog (wr.alloc (.cells #[.bool false, .bool false, .bool false, .bool false, .bool false, .bool false, .bool false, .bool false, .bool false, .bool false, .bool false, .bool false, .bool false, .bool false, .bool false, .bool false, .bool false, .bool false, .bool false, .bool false, .bool false] 139 (0, 0))).drew = .ok (.agg #[.bool false, .bool false, .bool false, .bool false, .bool false, .bool false, .bool false, .bool false, .bool false, .bool false, .bool false, .bool false, .bool false, .bool false, .bool false, .bool false, .bool false, .bool false, .bool false, .bool false, .bool false]) (wr.alloc (.cells #[.bool false, .bool false, .bool false, .bool false, .bool false, .bool false, .bool false, .bool false, .bool false, .bool false, .bool false, .bool false, .bool false, .bool false, .bool false, .bool false, .bool false, .bool false, .bool false, .bool false, .bool false] 139 (0, 0))).drew :=
          ldH_mid (h := zeroHd) zeroHd_ok (rangeAt_block (rangeAt_new wr zeroHd _) rfl)
        have HH0 : Hid (headI R i = zeroHd) := by unfold Hid headI; rw [if_neg hz]
        go_wp2
        have HBW0 := hid (heap_alloc_prev (o := .cells #[.bool false, .bool false, .bool false, .bool false, .bool false, .bool false, .bool false, .bool false, .bool false, .bool false, .bool false, .bool false, .bool false, .bool false, .bool false, .bool false, .bool false, .bool false, .bool false, .bool false, .bool false] 139 (0, 0)) HBT.out)
        have HFRW0 := hid (HFR.out.trans hW)
        have hzl : wr.heap.size < (wr.alloc (.cells #[.bool false, .bool false, .bool false, .bool false, .bool false, .bool false, .bool false, .bool false, .bool false, .bool false, .bool false, .bool false, .bool false, .bool false, .bool false, .bool false, .bool false, .bool false, .bool false, .bool false, .bool false] 139 (0, 0))).heap.size := by simp
        generalize wr.alloc (.cells #[.bool false, .bool false, .bool false, .bool false, .bool false, .bool false, .bool false, .bool false, .bool false, .bool false, .bool false, .bool false, .bool false, .bool false, .bool false, .bool false, .bool false, .bool false, .bool false, .bool false, .bool false] 139 (0, 0)) = W at hFW k3 l1 HBW0 HFRW0 hzl ⊢
        have HBW := HBW0
        have HFRW := HFRW0
        have HFW := hid hFW
        have hwb := hFW.size
        clear hFW HBW0 HFRW0 hW
        obtain ⟨v', w3, hrun, hown, hgrow, hblk⟩ := apS_mine (P := Tryz.prog) (W.alloc (.cells #[.bool false, .bool false, .bool false, .bool false, .bool false, .bool false, .bool false, .bool false, .bool false, .bool false, .bool false, .bool false, .bool false, .bool false, .bool false, .bool false, .bool false, .bool false, .bool false, .bool false, .bool false] 139)).drew (w.heap.size + 2) 116 116 139 i0 _ 21 21 Tryz.underlying116 hi0 iz0 iz1 iz2 rfl (by decide) (.slice ha i hc) i (flatC Hd.cells (initH R i)) (by have := HFW.out.own.alloc (.cells #[.bool false, .bool false, .bool false, .bool false, .bool false, .bool false, .bool false, .bool false, .bool false, .bool false, .bool false, .bool false, .bool false, .bool false, .bool false, .bool false, .bool false, .bool false, .bool false, .bool false, .bool false] 139); rw [initH_len] at this; exact this) ⟨W.heap.size, 0, none⟩ 1 1 zeroHd.cells rfl (new_cells rfl) (by intro u hu; simp [zeroHd, Hd.cells, bls, zero9] at hu; subst hu; rfl) (by unfold maxLen; omega) (by omega) (by simp [World.drew]; omega)
        obtain ⟨ao3, cap3, hv3⟩ := own_form hown
        have hb3 : w3.heap[w.heap.size + 1]? = some (.cells #[.int .i64 R, .int .i64 H, .slice pa ps.length pc, .slice ha i hc] 118 (0, 0)) := by
          rw [hgrow.block _ (by show _ < (W.alloc _).heap.size; simp; have := HFW.out.size; omega) (fun e => by have := (HFW.out.own.lt _ e.symm).1; omega)]
          exact heap_alloc_prev HFW.out.blk
        have c3 : w3.cell? ⟨w.heap.size + 1, 3, none⟩ = some (.slice ha i hc) := (cellOf hb3 3)
        have f3 := frozenOf hb3 3
        have HFA := hid (HFW.out.add zeroHd_ok (((Mod.refl _ W).alloc _).drew) (by rw [initH_len]; exact hown) hgrow)
        have hbt3 : Hid ((w3.setCell ⟨w.heap.size + 1, 3, none⟩ v').heap[w.heap.size]? = some (.cells #[.int .i64 R, .int .i64 H, .slice pa ps.length pc] 42 (0, 0))) := (Mod.mono HFA.out.2 (T := fun k => w.heap.size + 1 ≤ k) (fun _ _ h => h)).at HBW.out (by omega)
        have hfr3 : Hid (Fresh w (w3.setCell ⟨w.heap.size + 1, 3, none⟩ v')) := Mod.trans' HFRW.out HFA.out.2 (fun k hk h => by omega)
        clear hown hgrow hblk hb3
        subst hv3
        go_region
        all_goals
          go_wp2
          go_roundw
          case rel =>
            refine ⟨i + 1, .slice ao3 (i + 1) cap3, by go_num, by omega, ?_, hfr3.out, hbt3.out⟩
            rw [HI.out, HH0.out]; exact HFA.out.1
          case measure => exact HME.out
    · have hie : i = H := by omega
      have hi2 : ¬ (i : Int) < (H : Int) := by omega
      subst hie
      have FAll := hid (findAll_any wr (w.heap.size + 1) R i _ _ ps _ hF hps)
      clear hF hfr hbt
      go_wp2_with (first
        | (go_at_call 65; refine FAll.out.mono ?_; rintro e w1 ⟨rfl, hF1, hm1⟩))
      go_ret
      have hff : Fresh w w1 := Mod.trans' HFR.out hm1 (fun k hk h => by have := (HF.out.own.lt k h).1; omega)
      first
        | exact ⟨_, _, rfl, hff, hF1⟩
        | exact ⟨_, rfl, hff, _, hF1⟩
end Go.Proofs.YteneagnhihcljaaGreatDoor
namespace Go.Proofs.YteneagnhihcljaaGreatDoor
open Go.RowKit
set_option linter.unusedVariables false
set_option linter.unusedSimpArgs false

abbrev IntOwn (w : World) (base : Nat) (v : Value) (l : List Int) : Prop := w.ownsRow base 3 1 v l.length (nums l)
end Go.Proofs.YteneagnhihcljaaGreatDoor
namespace Go.Proofs.YteneagnhihcljaaGreatDoor
open Go.RowKit
set_option linter.unusedVariables false
set_option linter.unusedSimpArgs false

def setsF (s : ByteArray) : List Hd := allF (tableOf (rLines s).1) (initH ((frontsOf (rLines s).1).length : Nat) (headsOf (rLines s).1).length)
theorem headsL_le : ∀ (l : List Ln) (acc : List Wd), (headsL l acc).length ≤ acc.length + l.length
  | [], acc => by simp [headsL]
  | x :: l, acc => by
    unfold headsL
    have h1 := headsL_le l acc
    have h2 := headsL_le l (acc ++ [x.front])
    simp only [List.length_append, List.length_cons, List.length_nil] at h1 h2 ⊢
    split
    · omega
    · split <;> omega
theorem tab_sizes {s : ByteArray} (h : (checkF s).1 = 0) : (frontsOf (rLines s).1).length ≤ 800 ∧ (headsOf (rLines s).1).length ≤ 800 ∧ (tableOf (rLines s).1).length ≤ 800 := by
  have hsz := check_sz h
  have hle := (rLines_ok s).1
  have h1 := headsL_le (rLines s).1 []
  have h2 := List.length_filter_le ruleB (rLines s).1
  have h3 := List.length_filter_le (fun x => !ruleB x) (rLines s).1
  unfold frontsOf headsOf tableOf prodsOf
  simp only [List.length_map, List.length_nil] at *
  omega

end Go.Proofs.YteneagnhihcljaaGreatDoor
namespace Go.Proofs.YteneagnhihcljaaGreatDoor
open Go.RowKit
set_option linter.unusedVariables false
set_option linter.unusedSimpArgs false

/-- what stands ahead of each production -/
def aheadsF (hs : List Hd) (ps : List Pr) : List (List Bool) := ps.map fun p => folB hs p.head p.syms
abbrev TksOwn (w : World) (base : Nat) (v : Value) (al : List (List Bool)) : Prop := w.ownsRow base 110 9 v al.length (flatC bls al)
theorem infoTk : (Tryz.prog.info? 110).map (fun i => (i.zero, i.size, i.bytes)) = some (some (.agg (tkA zero9)), 9, 9) := by kernel_rfl
theorem infoTk' : ∃ i, Tryz.prog.info? 110 = some i ∧ i.zero = some (.agg (tkA zero9)) ∧ i.size = 9 ∧ i.bytes = 9 := by
  have h := infoTk
  cases hq : Tryz.prog.info? 110 with
  | none => simp [hq] at h
  | some i => simp [hq] at h; exact ⟨i, rfl, h.1, h.2.1, h.2.2⟩
abbrev nineA (a0 a1 a2 a3 a4 a5 a6 a7 a8 : Bool) : Array Value := #[.bool a0, .bool a1, .bool a2, .bool a3, .bool a4, .bool a5, .bool a6, .bool a7, .bool a8]
theorem bls_one (l : List Bool) : ∀ u ∈ bls l, u.oneCell' = true := by
  intro u hu; simp [bls] at hu
  rcases hu with ⟨_, rfl⟩ | ⟨_, rfl⟩ <;> rfl

set_option maxRecDepth 20000 in
set_option maxHeartbeats 8000000 in
theorem findAhead_any (w : World) (b : Nat) (R H : Int) (vp vh : Value) (ps : List PV) (hs : List Hd) (h : FA w b R H vp vh ps hs) (hps : ps.length ≤ 1000) :
    Calls Tryz.prog 43 #[bptr b] w fun e w' => ∃ v, e = .returned v ∧ Fresh w w' ∧ TksOwn w' w.heap.size v (aheadsF hs (prsOf ps)) := by
  have HF0 := hid h
  obtain ⟨i0, hi0, iz0, iz1, iz2⟩ := infoTk'
  obtain ⟨ao, cap, hv⟩ := own_form h.prs.row.own
  subst hv
  have k2 := h.cell 2
  simp at k2
  clear h
  go_enter Tryz.func43, Tryz.ntmps43
  go_wp2
  go_loopw [3, 5, 6, 7, 8, 15] (fun x3 _ _ _ _ x15 wr => ∃ (i : Nat), x15 = .int .i64 i ∧ i ≤ ps.length ∧ TksOwn wr w.heap.size x3 (aheadsF hs (prsOf (ps.take i))) ∧ Fresh w wr)
      (fun _ _ _ _ _ x _ => ps.length + 1 - (intOf x).toNat)
  case atStart => exact ⟨0, rfl, by omega, World.ownsRow_nil _ _ _ _, Mod.refl _ w⟩
  case round =>
    obtain ⟨i, rfl, hi, hown, hfr⟩ := hrel
    have HME := hid (meas (B := ps.length + 1) i (by omega))
    have HFR := hid hfr
    have hF := HF0.out.fresh hfr
    have HF := hid hF
    have hlen : (aheadsF hs (prsOf (ps.take i))).length ≤ 1000 := by simp [aheadsF, prsOf]; omega
    have HTE : Hid (i = ps.length → ps.take i = ps) := fun e => by rw [e, List.take_length]
    have HTS : Hid (∀ hlt : i < ps.length, aheadsF hs (prsOf (ps.take (i + 1))) = aheadsF hs (prsOf (ps.take i)) ++ [folB hs ps[i].pr.head ps[i].pr.syms]) := fun hlt => by
      rw [takeS hlt]; unfold aheadsF prsOf; rw [List.map_append, List.map_append]; rfl
    generalize hy : aheadsF hs (prsOf (ps.take i)) = ys at *
    have HY := hid hy
    have HO := hid hown
    have HOB := hid hown.lt
    obtain ⟨ro, rc, hro⟩ := own_form hown
    subst hro
    clear hown hy
    by_cases hlt : i < ps.length
    · have hi1 : (i : Int) < (ps.length : Int) := by omega
      obtain ⟨gp, cap', hv'⟩ := Joins.ownsRow_form hF.prs.row.own (by omega)
      rw [Value.slice.injEq] at hv'
      obtain ⟨rfl, _, rfl⟩ := hv'
      have RG : Hid (wr.rangeAt gp (i * 2) [.int .i64 ps[i].pr.head, ps[i].vs]) := hF.prs.row.range i hlt
      have hbl := hF.size
      have HFb := hid (hF.fresh ((Mod.refl _ wr).alloc (.cells #[.int .i64 ps[i].pr.head, ps[i].vs] 73 (0, 0))))
      have HSY := hid (HFb.out.prs.syms ps[i] (by simp))
      have hTS := HTS.out hlt
      generalize ps[i].pr = pr at hTS RG HSY HFb
      generalize ps[i].vs = pvs at RG HSY HFb
      obtain ⟨ph, psy⟩ := pr
      dsimp only at hTS RG HSY HFb
      obtain ⟨sao, scap, hsv, _⟩ := HSY.out
      subst hsv
      have HBL := hid (begF_len hF.ok psy zero9 rfl)
      have HOH := hid (getH_ok hF.ok ph)
      have BA := hid (begin_any _ b R H _ vh ps hs b _ psy HFb.out (by simp; omega) HSY.out)
      have GA := hid (fun w (h : FA w b R H (.slice (some ⟨gp, 0, none⟩) ps.length cap) vh ps hs) => get_any w b R H _ vh ps hs ph h)
      unfold folB at hTS
      generalize begF hs psy zero9 = bg at hTS HBL BA
      generalize getH hs ph = hd at hTS HOH GA
      obtain ⟨bg1, bg2⟩ := bg
      dsimp only at hTS HBL BA
      clear hF hfr
      cases bg2
      · simp only [Bool.false_eq_true, if_false] at hTS
        have HTSS := hid hTS
        obtain ⟨a0, a1, a2, a3, a4, a5, a6, a7, a8, e9⟩ := nine HBL.out
        subst e9
        clear hTS
        go_wp2_with (first
          | (at_builtin; refine wpList_append_mine _ rfl _ _ 100 rfl w.heap.size 110 i0 _ 9 9 Tryz.underlying100 hi0 iz0 iz1 iz2 rfl (by decide) _ _ _ rfl (HO1.out.alloc _) ⟨w1.heap.size + 1, 0, none⟩ 1 1 (bls [a0, a1, a2, a3, a4, a5, a6, a7, a8]) rfl rfl (new_cells2 rfl) (bls_one _) (by unfold maxLen; omega) (by omega) (by have h3 := HFR.out.size; have h4 := hf1.size; simp at h4; simp; omega) ?_)
          | (refine wpList_load_row rfl 110 _ rfl w1.heap.size rfl _ (nineA a0 a1 a2 a3 a4 a5 a6 a7 a8) _ _ (heap_alloc_at _ _) Tryz.underlying110 rfl szTks ?_)
          | (refine wpList_store_new rfl 110 _ _ rfl w1 _ (nineA a0 a1 a2 a3 a4 a5 a6 a7 a8) _ rfl rfl rfl szTks rfl (tk_one [a0, a1, a2, a3, a4, a5, a6, a7, a8]) ?_)
          | (go_at_call 45; refine BA.out.mono ?_; rintro e w1 ⟨rfl, hf1⟩; have HO1 := hid ((ownsRow_other HO.out (fun g hg => (Mod.trans ((Mod.refl (fun _ => False) wr).alloc _) hf1).block g (HOB.out g hg).2 (fun x => x))).alloc (.cells (nineA a0 a1 a2 a3 a4 a5 a6 a7 a8) 110 (0, 0))))
          | (refine wpList_load_mid rfl 73 _ rfl gp (i * 2) rfl [.int .i64 ph, .slice sao psy.length scap] _ RG.out Tryz.underlying73 rfl szPV ?_))
        intro v' w5 hown2 hgrow hblk
        have fr2 : Fresh w w5 := Mod.grown (S := fun _ => False) (((HFR.out.alloc _).trans hf1).alloc _ |>.alloc _) hgrow (fun k hk hlt => by have := (HOB.out k hk).1; omega)
        have HO2 := hid hown2
        clear hown2 hgrow hblk
        go_wp2
        go_roundw
        case rel =>
          refine ⟨i + 1, by go_num, by omega, ?_, fr2⟩
          unfold TksOwn
          rw [HTSS.out, flat_snoc, List.length_append, List.length_singleton]
          exact HO2.out
        case measure => exact HME.out
      · simp only [if_true] at hTS
        have HOL := hid (orL_len HBL.out HOH.out.fo)
        have TU := hid (fun w => tunion_any w bg1 hd.fo HBL.out HOH.out.fo)
        generalize orL bg1 hd.fo = OO at hTS HOL TU
        have HTSS := hid hTS
        obtain ⟨a0, a1, a2, a3, a4, a5, a6, a7, a8, e9⟩ := nine HOL.out
        subst e9
        clear hTS
        go_wp2_with (first
          | (at_builtin; refine wpList_append_mine _ rfl _ _ 100 rfl w.heap.size 110 i0 _ 9 9 Tryz.underlying100 hi0 iz0 iz1 iz2 rfl (by decide) _ _ _ rfl (HO1.out.alloc _) ⟨w3.heap.size, 0, none⟩ 1 1 (bls [a0, a1, a2, a3, a4, a5, a6, a7, a8]) rfl rfl (by have q := @new_cells (w3.setRow w1.heap.size (nineA a0 a1 a2 a3 a4 a5 a6 a7 a8)) (nineA a0 a1 a2 a3 a4 a5 a6 a7 a8) (bls [a0, a1, a2, a3, a4, a5, a6, a7, a8]) 110 rfl; rw [hrs] at q; exact q) (bls_one _) (by unfold maxLen; omega) (by omega) (by have h3 := HFR.out.size; have h4 := f3.out.size; simp at h4; simp; omega) ?_)
          | (refine wpList_load_row rfl 110 _ rfl w1.heap.size rfl _ (nineA a0 a1 a2 a3 a4 a5 a6 a7 a8) _ _ t3'.out Tryz.underlying110 rfl szTks ?_)
          | (refine wpList_store_row rfl 110 _ _ rfl w1.heap.size (nineA a0 a1 a2 a3 a4 a5 a6 a7 a8) rfl rfl _ _ t3.out szTks (sameSize (tk_size HBL.out) rfl) (tk_one [a0, a1, a2, a3, a4, a5, a6, a7, a8]) ?_)
          | (go_at_call 46; refine (TU.out _).mono ?_; rintro e w3 ⟨rfl, hf3⟩; have t3 := hid (hf3.at (heap_alloc_prev t2.out) (fun x => x)); have f3 : Hid (Fresh wr (w3.setRow w1.heap.size (nineA a0 a1 a2 a3 a4 a5 a6 a7 a8))) := (Mod.trans (f2.out.alloc _) hf3).setRow (by intro q; omega) _; have t3' := hid (setRow_heap _ _ _ (nineA a0 a1 a2 a3 a4 a5 a6 a7 a8) _ _ t3.out); have hrs : (w3.setRow w1.heap.size (nineA a0 a1 a2 a3 a4 a5 a6 a7 a8)).heap.size = w3.heap.size := (by simp); have HO1 := hid (ownsRow_other HO.out (fun g hg => f3.out.block g (HOB.out g hg).2 (fun x => x))))
          | (refine wpList_load_mid rfl 110 _ rfl w2.heap.size 12 rfl (bls hd.fo) _ (hdRangeFo HOH.out (heap_alloc_at _ _)) Tryz.underlying110 rfl (szTokL HOH.out.fo) ?_)
          | (refine wpList_load_row rfl 110 _ rfl w1.heap.size rfl _ _ _ _ (heap_alloc_prev t2.out) Tryz.underlying110 rfl (szTokOf HBL.out) ?_)
          | (refine wpList_store_new rfl 139 _ _ rfl w2 _ (hdA hd) _ rfl rfl rfl (szHdOf HOH.out) (sameSize rfl (hd_size HOH.out)) (hd_one _) ?_)
          | (go_at_call 66; refine (GA.out _ (HF.out.fresh (f1.out.alloc _))).mono ?_; rintro e w2 ⟨rfl, hf2⟩; have hz2 : w1.heap.size < w2.heap.size := (by have := hf2.size; simp at this; omega); have f2 : Hid (Fresh wr w2) := Mod.trans (f1.out.alloc _) hf2; have t2 := hid (hf2.at (heap_alloc_at w1 _) (fun x => x)))
          | (refine wpList_store_new rfl 110 _ _ rfl w1 _ (tkA bg1) _ rfl rfl rfl (szTokOf HBL.out) (sameSize rfl (tk_size HBL.out)) (tk_one _) ?_)
          | (go_at_call 45; refine BA.out.mono ?_; rintro e w1 ⟨rfl, hf1⟩; have hz1 : wr.heap.size < w1.heap.size := (by have := hf1.size; simp at this; omega); have f1 : Hid (Fresh wr w1) := Mod.trans ((Mod.refl _ wr).alloc _) hf1; have k1 : (w1.alloc (.cells (tkA bg1) 110 (0, 0))).cell? ⟨wr.heap.size, 0, none⟩ = some (.int .i64 ph) := (by rw [cellOf (heap_alloc_prev (hf1.at (heap_alloc_at _ _) (fun x => x))) 0]; rfl))
          | (refine wpList_load_mid rfl 73 _ rfl gp (i * 2) rfl [.int .i64 ph, .slice sao psy.length scap] _ RG.out Tryz.underlying73 rfl szPV ?_))
        intro v' w5 hown2 hgrow hblk
        have fr2 : Fresh w w5 := Mod.grown (S := fun _ => False) ((HFR.out.trans f3.out).alloc _) hgrow (fun k hk hlt => by have := (HOB.out k hk).1; omega)
        have HO2 := hid hown2
        clear hown2 hgrow hblk
        go_wp2
        go_roundw
        case rel =>
          refine ⟨i + 1, by go_num, by omega, ?_, fr2⟩
          unfold TksOwn
          rw [HTSS.out, flat_snoc, List.length_append, List.length_singleton]
          exact HO2.out
        case measure => exact HME.out
    · have hie : i = ps.length := by omega
      have hi2 : ¬ (i : Int) < (ps.length : Int) := by omega
      have hye := HTE.out hie
      clear hF hfr
      go_wp2
      go_ret
      refine ⟨_, rfl, HFR.out, ?_⟩
      rw [← hye, HY.out]; exact HO.out
end Go.Proofs.YteneagnhihcljaaGreatDoor
