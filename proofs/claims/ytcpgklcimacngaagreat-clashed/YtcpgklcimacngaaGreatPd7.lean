import Derived.Test.YtcpgklcimacngaaGreatPd4
import Derived.Test.YtcpgklcimacngaaGreatSe5
import Derived.Test.YtcpgklcimacngaaGreatSec
namespace Go.Proofs.YtcpgklcimacngaaGreat
open Go.RowKit
set_option linter.unusedVariables false
set_option linter.unusedSimpArgs false

def SyB (x : Ln) : Prop := ∀ d ∈ x.syms, 0 ≤ d.ls.getD 0 0 ∧ d.ls.getD 0 0 ≤ 255
theorem zeroLn_sb : SyB zeroLn := fun d hd => by simp [zeroLn] at hd
theorem rProdL_sb (s : ByteArray) (d : Wd) : ∀ (f : Nat) (next : Int) (syms : List Wd), (∀ d ∈ syms, 0 ≤ d.ls.getD 0 0 ∧ d.ls.getD 0 0 ≤ 255) → SyB (rProdL s d f next syms).1
  | 0, _, _, _ => zeroLn_sb
  | f + 1, next, syms, h => by
    unfold rProdL
    split
    · split
      · exact zeroLn_sb
      · refine rProdL_sb s d f _ _ ?_
        intro e he
        simp only [List.mem_append, List.mem_singleton] at he
        rcases he with he | rfl
        · exact h e he
        · exact rWord_zero s (next + 1)
    · split
      · exact zeroLn_sb
      · exact h
theorem rLine_sb (s : ByteArray) (i : Int) : SyB (rLine s i).1 := by
  unfold rLine
  split
  · exact zeroLn_sb
  · split
    · unfold rProd
      split
      · exact zeroLn_sb
      · exact rProdL_sb s _ _ _ _ (by simp)
    · unfold rRule
      repeat' split
      all_goals first | exact zeroLn_sb | (intro d hd; simp at hd)
theorem rLinesL_sb (s : ByteArray) : ∀ (f : Nat) (i : Int) (acc : List Ln), (∀ x ∈ acc, SyB x) → ∀ x ∈ (rLinesL s f i acc).1, SyB x
  | 0, _, _, _, x, hx => by simp [rLinesL] at hx
  | f + 1, i, acc, h, x, hx => by
    unfold rLinesL at hx
    split at hx
    · split at hx
      · simp at hx
      · refine rLinesL_sb s f _ _ ?_ x hx
        intro y hy
        simp only [List.mem_append, List.mem_singleton] at hy
        rcases hy with hy | rfl
        · exact h y hy
        · exact rLine_sb s i
    · exact h x hx
theorem rLines_sb (s : ByteArray) : ∀ x ∈ (rLines s).1, SyB x := rLinesL_sb s _ 0 [] (by simp)

theorem check_sz {s : ByteArray} (h : (checkF s).1 = 0) : s.size ≤ 800 := by
  by_cases h8 : 800 < s.size
  · have := checkF_eq s; rw [if_pos h8] at this; rw [this] at h; cases h
  · omega

theorem PrsAt.setRow {w2 : World} {B g : Nat} {v : Value} {pvs : List PV} (h : PrsAt w2 B v pvs) (hb : w2.heap[g]? = some (.cells #[.int .i64 0, .int .i64 0, .slice none 0 0] 34 (0, 0))) (cs : Array Value) : PrsAt (w2.setRow g cs) B v pvs := by
  refine ⟨⟨ownsRow_other h.row.own (fun k hk => setRow_other _ _ _ _ ?_), h.row.wf⟩, h.lt, fun p hp => ?_⟩
  · intro e
    rcases h.row.own.2 with ⟨h1, _⟩ | ⟨g', cap, cur, h1, _, h3, _⟩
    · rw [h1] at hk; cases hk
    · rw [h1] at hk
      simp [Value.ownBlock] at hk
      subst hk; subst e
      rw [hb] at h3
      simp at h3
  · obtain ⟨ao, cap, h1, h2, h3, h4⟩ := h.syms p hp
    refine ⟨ao, cap, h1, h2, h3, fun i hi => ?_⟩
    obtain ⟨g', o, h5, h6, h7⟩ := h4 i hi
    refine ⟨g', o, h5, h6, rangeAt_block h7 (setRow_other _ _ _ _ ?_)⟩
    intro e
    subst e
    have h8 := h7 0 (.bool (p.pr.syms[i]).isH) rfl
    rw [cellOf hb] at h8
    rcases hq : o + i * 2 + 0 with _ | _ | _ | k
    all_goals (rw [hq] at h8; simp at h8)

def TableRet (s : ByteArray) (w : World) (e : Ending) (w' : World) : Prop :=
  ∃ vp pvs, e = .returned (.tuple #[.agg #[.int .i64 (frontsOf (rLines s).1).length, .int .i64 (headsOf (rLines s).1).length, vp], .int .i64 0]) ∧ Fresh w w' ∧ pvs.map PV.pr = tableOf (rLines s).1 ∧ PrsAt w' w'.heap.size vp pvs

set_option maxRecDepth 20000 in
set_option maxHeartbeats 4000000 in
theorem table_good (s : ByteArray) (w : World) (hs : s.size ≤ maxLen) (hc : (checkF s).1 = 0) :
    Calls Tryz.prog 7 #[.string s] w fun e w' => TableRet s w e w' := by
  have SC := hid (fun w => sheetCheck_any s w hs)
  have H0 := hid hc
  have hle := (rLines_ok s).1
  have hok := (rLines_ok s).2
  have hsb := rLines_sb s
  have hsz := check_sz hc
  have KEY : Hid (∀ xs : List LV, xs.map LV.ln = (rLines s).1 → xs.length ≤ 1000 ∧ (∀ x ∈ xs, SBx x)) := by
    intro xs hx
    have h1 : xs.length = (rLines s).1.length := by rw [← hx]; simp
    refine ⟨by omega, fun x hxx => ?_⟩
    have hm : x.ln ∈ (rLines s).1 := by rw [← hx]; exact List.mem_map.2 ⟨x, hxx, rfl⟩
    exact ⟨(hok x.ln hm).fb, hsb x.ln hm, by have := (hok x.ln hm).sb; omega⟩
  clear hle hok hsb hc
  go_enter Tryz.func7, Tryz.ntmps7
  go_wp2_with (first
    | (go_at_call 12; refine (pread_any _ v xs HL.out (KEY.out xs HX.out).1 (KEY.out xs HX.out).2).mono ?_; rintro e w2 ⟨vp, pvs, rfl, hf2, hmap, hprs⟩; obtain ⟨ra, rc, hvp⟩ := own_form hprs.row.own; subst hvp; have HPRS := hid hprs; have HMAP := hid hmap; have hb2 := hid (hf2.at (hf1.at (heap_alloc_at _ _) (fun x => x)) (fun x => x)))
    | (refine wpList_store_row rfl 34 _ _ rfl w.heap.size #[.int .i64 (frontsOf (xs.map LV.ln)).length, .int .i64 (headsOf (xs.map LV.ln)).length, .slice ra pvs.length rc] rfl rfl _ _ hb2.out szTab rfl (all_oneCell_toArray (cs := [.int .i64 (frontsOf (xs.map LV.ln)).length, .int .i64 (headsOf (xs.map LV.ln)).length, .slice ra pvs.length rc]) (by intro v hv; simp only [List.mem_cons, List.not_mem_nil, or_false] at hv; rcases hv with rfl | rfl | rfl <;> rfl)) ?_)
    | (go_at_call 11; refine (SC.out _).mono ?_; rintro e w1 ⟨v, rfl, hf1, xs, hL, hxs⟩; rw [H0.out]; have HX := hid (hxs.elim (fun h => absurd H0.out h.1) (fun h => h.2)); clear hxs; have HL := hid hL; clear hL))
  refine bodyPost_ret (results_row1 rfl _ _ w.heap.size 34 #[.int .i64 (frontsOf (xs.map LV.ln)).length, .int .i64 (headsOf (xs.map LV.ln)).length, .slice ra pvs.length rc] (0, 0) _ rfl (setRow_heap _ _ _ _ _ _ hb2.out) Tryz.underlying34 rfl szTab) rfl ?_
  have hF : Fresh w w2 := Mod.trans ((Mod.refl _ w).alloc _) (Mod.trans hf1 hf2)
  refine ⟨_, pvs, by rw [← HX.out]; rfl, hF.setRow (fun h => absurd h (Nat.lt_irrefl _)) _, by rw [← HX.out]; exact HMAP.out, ?_⟩
  have := HPRS.out.setRow hb2.out #[.int .i64 (frontsOf (xs.map LV.ln)).length, .int .i64 (headsOf (xs.map LV.ln)).length, .slice ra pvs.length rc]
  simpa using this

set_option maxRecDepth 20000 in
set_option maxHeartbeats 4000000 in
theorem table_bad (s : ByteArray) (w : World) (hs : s.size ≤ maxLen) (hc : (checkF s).1 ≠ 0) :
    Calls Tryz.prog 7 #[.string s] w fun e w' => e = .returned (.tuple #[.agg #[.int .i64 0, .int .i64 0, .slice none 0 0], .int .i64 (checkF s).1]) ∧ Fresh w w' := by
  have SC := hid (fun w => sheetCheck_any s w hs)
  have c0 : ((checkF s).1 != 0) = true := by simpa using hc
  clear hc
  go_enter Tryz.func7, Tryz.ntmps7
  go_wp2_with (first
    | (refine wpList_store_row rfl 34 _ _ rfl w.heap.size #[.int .i64 0, .int .i64 0, .slice none 0 0] rfl rfl _ _ hb1.out szTab rfl (all_oneCell_toArray (cs := [.int .i64 0, .int .i64 0, .slice none 0 0]) (by intro v hv; simp only [List.mem_cons, List.not_mem_nil, or_false] at hv; rcases hv with rfl | rfl | rfl <;> rfl)) ?_)
    | (go_at_call 11; refine (SC.out _).mono ?_; rintro e w1 ⟨v, rfl, hf1, _⟩; have hb1 := hid (hf1.at (heap_alloc_at _ _) (fun x => x))))
  refine bodyPost_ret (results_row1 rfl _ _ w.heap.size 34 #[.int .i64 0, .int .i64 0, .slice none 0 0] (0, 0) _ rfl (setRow_heap _ _ _ _ _ _ hb1.out) Tryz.underlying34 rfl szTab) rfl ⟨rfl, ?_⟩
  exact (Mod.trans ((Mod.refl _ w).alloc _) hf1).setRow (fun h => absurd h (Nat.lt_irrefl _)) _
end Go.Proofs.YtcpgklcimacngaaGreat
namespace Go.Proofs.YtcpgklcimacngaaGreat
open Go.RowKit
set_option linter.unusedVariables false
set_option linter.unusedSimpArgs false

def headI (R : Int) (i : Nat) : Hd := if i = 0 then { zeroHd with rch := true, fo := withT zero9 R } else zeroHd
def initH (R : Int) : Nat → List Hd
  | 0 => []
  | n + 1 => initH R n ++ [headI R n]
theorem headI_ok (R : Int) (i : Nat) : (headI R i).ok := by
  unfold headI; split
  · exact ⟨rfl, withT_len rfl⟩
  · exact zeroHd_ok
theorem initH_len (R : Int) : ∀ n, (initH R n).length = n
  | 0 => rfl
  | n + 1 => by simp [initH, initH_len R n]

theorem PrsAt.up {w : World} {B B' : Nat} {v : Value} {ps : List PV} (h : PrsAt w B v ps) (hB : B ≤ B') : PrsAt w B' v ps := by
  refine ⟨h.row, fun g hg => Nat.lt_of_lt_of_le (h.lt g hg) hB, fun p hp => ?_⟩
  obtain ⟨ao, cap, h1, h2, h3, h4⟩ := h.syms p hp
  refine ⟨ao, cap, h1, h2, h3, fun i hi => ?_⟩
  obtain ⟨g, o, h5, h6, h7⟩ := h4 i hi
  exact ⟨g, o, h5, Nat.lt_of_lt_of_le h6 hB, h7⟩
theorem FA.add {w W w3 : World} {b : Nat} {R H : Int} {vp vh v' : Value} {ps : List PV} {hs : List Hd} {x : Hd} (h : FA w b R H vp vh ps hs) (hx : x.ok) (hf : Fresh w W)
    (hown : w3.ownsRow (b + 1) 97 21 v' (hs.length + 1) (flatC Hd.cells hs ++ x.cells)) (hg : W.grownBy w3 vh.ownBlock) :
    FA (w3.setCell ⟨b, 3, none⟩ v') b R H vp v' ps (hs ++ [x]) ∧ Mod (fun k => b ≤ k) w (w3.setCell ⟨b, 3, none⟩ v') := by
  have hW := h.fresh hf
  have hge : ∀ k, vh.ownBlock = some k → b + 1 ≤ k := fun k hk => (h.own.lt k hk).1
  have hm3 : Mod (fun k => b ≤ k) W w3 := Mod.grown (Mod.refl _ W) hg (fun k hk _ => by have := hge k hk; omega)
  have hm : Mod (fun k => b ≤ k) W (w3.setCell ⟨b, 3, none⟩ v') := hm3.setCell (fun _ => Nat.le_refl _) _
  refine ⟨⟨?_, ?_, ?_, ?_⟩, Mod.trans (Mod.mono hf (fun _ _ x => x.elim)) hm⟩
  · have hb3 : w3.heap[b]? = some (.cells #[.int .i64 R, .int .i64 H, vp, vh] 93 (0, 0)) := by
      rw [hg.block b (heap_lt hW.blk) (fun e => by have := hge _ e.symm; omega)]; exact hW.blk
    rw [heap_setCell_same hb3]; rfl
  · exact hW.prs.kept (Nat.le_of_lt (heap_lt hW.blk)) hm (fun k hk hs => by omega)
  · rw [flat_snoc, List.length_append, List.length_singleton]
    exact ownsRow_other hown (fun g hg => heap_setCell_other _ (by have := (hown.lt g hg).1; dsimp only; omega))
  · intro y hy
    simp only [List.mem_append, List.mem_singleton] at hy
    rcases hy with hy | rfl
    · exact h.ok y hy
    · exact hx

theorem infoHd : (Tryz.prog.info? 97).map (fun i => (i.zero, i.size, i.bytes)) = some (some (.agg (hdA zeroHd)), 21, 21) := by kernel_rfl
theorem infoHd' : ∃ i, Tryz.prog.info? 97 = some i ∧ i.zero = some (.agg (hdA zeroHd)) ∧ i.size = 21 ∧ i.bytes = 21 := by
  have h := infoHd
  cases hq : Tryz.prog.info? 97 with
  | none => simp [hq] at h
  | some i => simp [hq] at h; exact ⟨i, rfl, h.1, h.2.1, h.2.2⟩
attribute [local go_sem ↓] apS_rule ldH_rule
set_option maxRecDepth 20000 in
set_option maxHeartbeats 8000000 in
theorem find_any' (w : World) (R H : Nat) (vp : Value) (ps : List PV) (hp : PrsAt w w.heap.size vp ps) (hps : ps.length ≤ 1000) (hH : H ≤ 1000) (hR : R ≤ 1000) :
    Calls Tryz.prog 13 #[.agg #[.int .i64 R, .int .i64 H, vp]] w fun e w' => ∃ b vh, e = .returned (bptr b) ∧ Fresh w w' ∧ FA w' b R H vp vh ps (allF (prsOf ps) (initH R H)) := by
  obtain ⟨i0, hi0, iz0, iz1, iz2⟩ := infoHd'
  have HP := hid hp
  obtain ⟨pa, pc, hvp⟩ := own_form hp.row.own
  subst hvp
  clear hp
  have HF0 : Hid (FA ((w.alloc (.cells #[.int .i64 R, .int .i64 H, .slice pa ps.length pc] 34 (0, 0))).alloc (.cells #[.int .i64 R, .int .i64 H, .slice pa ps.length pc, .slice none 0 0] 93 (0, 0))) (w.heap.size + 1) R H (.slice pa ps.length pc) (.slice none 0 0) ps []) :=
    ⟨heap_alloc2_new _ _ _, (HP.out.kept (Nat.le_refl _) (((Mod.refl (fun _ => False) w).alloc _).alloc _) (fun _ _ x => x)).up (by omega), World.ownsRow_nil _ _ _ _, by simp⟩
  go_enter Tryz.func13, Tryz.ntmps13
  go_wp2
  go_loopw [4, 5] (fun x4 _ wr => ∃ (i : Nat) (vh : Value), x4 = .int .i64 i ∧ i ≤ H ∧ FA wr (w.heap.size + 1) R H (.slice pa ps.length pc) vh ps (initH R i) ∧ Fresh w wr ∧ wr.heap[w.heap.size]? = some (.cells #[.int .i64 R, .int .i64 H, .slice pa ps.length pc] 34 (0, 0)))
      (fun x _ _ => H + 1 - (intOf x).toNat)
  case atStart => exact ⟨0, .slice none 0 0, rfl, by omega, HF0.out, ((Mod.refl _ w).alloc _).alloc _, heap_alloc2_old _ _ _⟩
  case round =>
    obtain ⟨i, vh, rfl, hi, hF, hfr, hbt⟩ := hrel
    have HME := hid (meas (B := H + 1) i (by omega))
    have HF := hid hF
    have HFR := hid hfr
    have HBT := hid hbt
    have c1 := cellOf hbt 1
    have c0 := cellOf hbt 0
    simp at c1 c0
    obtain ⟨ha, hc, hvh⟩ := own_form hF.own
    rw [initH_len] at hvh
    subst hvh
    have hblt := hF.size
    by_cases hlt : i < H
    · have hi1 : (i : Int) < (H : Int) := by omega
      have HI : Hid (initH R (i + 1) = initH R i ++ [headI R i]) := rfl
      clear hF hfr hbt
      by_cases hz : i = 0
      · subst hz
        have hWL := withT_len (a := zero9) (n := (R : Int)) rfl
        have HWL := hid hWL
        obtain ⟨g0, g1, g2, g3, g4, g5, g6, g7, g8, hg⟩ := nine hWL
        have HGG := hid hg
        have h1 : Fresh wr (wr.alloc (.cells #[.bool false, .bool true, .bool false, .bool false, .bool false, .bool false, .bool false, .bool false, .bool false, .bool false, .bool false, .bool false, .bool false, .bool false, .bool false, .bool false, .bool false, .bool false, .bool false, .bool false, .bool false] 97 (0, 0))) := (Mod.refl _ wr).alloc _
        have hlt0 := heap_lt HBT.out
        have c0W : (wr.alloc (.cells #[.bool false, .bool true, .bool false, .bool false, .bool false, .bool false, .bool false, .bool false, .bool false, .bool false, .bool false, .bool false, .bool false, .bool false, .bool false, .bool false, .bool false, .bool false, .bool false, .bool false, .bool false] 97 (0, 0))).cell? ⟨w.heap.size, 0, none⟩ = some (.int .i64 R) := by rw [cellOf (heap_alloc_prev HBT.out) 0]; rfl
        have HO1 : Hid (Hd.ok { zeroHd with rch := true }) := ⟨rfl, rfl⟩
        clear hWL hg
        go_wp2_with (first
          | (refine wpList_store_mid rfl 95 _ _ rfl wr.heap.size 12 (tkA (withT zero9 R)) rfl rfl (by rw [tk_size HWL.out]; exact hd_there HO1.out hb2.out (by omega)) (szTokOf HWL.out) (tk_one _) ?_)
          | (go_at_call 33; refine (twith_any _ zero9 (R : Int) rfl).mono ?_; rintro e w2 ⟨rfl, hf2⟩; have hb2 : Hid (w2.heap[wr.heap.size]? = some (.cells (hdA { zeroHd with rch := true }) 97 (0, 0))) := hf2.at (heap_alloc_at wr (.cells #[.bool false, .bool true, .bool false, .bool false, .bool false, .bool false, .bool false, .bool false, .bool false, .bool false, .bool false, .bool false, .bool false, .bool false, .bool false, .bool false, .bool false, .bool false, .bool false, .bool false, .bool false] 97 (0, 0))) (fun x => x)))
        have hW : Fresh wr (w2.setCells wr.heap.size 12 (tkA (withT zero9 R)).toList) := Mod.setCells (fun h => absurd h (Nat.lt_irrefl _)) _ _ _ (Mod.trans h1 hf2)
        have hFW := HF.out.fresh hW
        have k3 := hFW.cell 3
        simp at k3
        have HBX : Hid ((w2.setCells wr.heap.size 12 (tkA (withT zero9 R)).toList).heap[wr.heap.size]? = some (.cells (hdA (headI R 0)) 97 (0, 0))) := by
          unfold Hid
          rw [heap_setCells_same _ _ _ _ _ _ _ hb2.out]
          rw [show headI R 0 = { ({ zeroHd with rch := true } : Hd) with fo := withT zero9 R } from rfl, ← hd_setfo HO1.out HWL.out]; rfl
        have HBW0 := hid (hW.at HBT.out (fun x => x))
        have HFRW0 := hid (HFR.out.trans hW)
        generalize w2.setCells wr.heap.size 12 (tkA (withT zero9 R)).toList = W at hFW k3 HBX HBW0 HFRW0 hW ⊢
        have hzl : wr.heap.size < W.heap.size := heap_lt HBX.out
        have hlit : hdA (headI R 0) = #[.bool false, .bool true, .bool false, .bool false, .bool false, .bool false, .bool false, .bool false, .bool false, .bool false, .bool false, .bool false, .bool g0, .bool g1, .bool g2, .bool g3, .bool g4, .bool g5, .bool g6, .bool g7, .bool g8] := by
          rw [show headI R 0 = { ({ zeroHd with rch := true } : Hd) with fo := withT zero9 R } from rfl, HGG.out]; rfl
        have hlitc : (headI R 0).cells = [.bool false, .bool true, .bool false, .bool false, .bool false, .bool false, .bool false, .bool false, .bool false, .bool false, .bool false, .bool false, .bool g0, .bool g1, .bool g2, .bool g3, .bool g4, .bool g5, .bool g6, .bool g7, .bool g8] := by
          rw [show headI R 0 = { ({ zeroHd with rch := true } : Hd) with fo := withT zero9 R } from rfl, HGG.out]; rfl
        have l1 : (ldH (.pointer (some ⟨wr.heap.size, 0, none⟩))).run Tryz.prog W.drew = .ok (.agg #[.bool false, .bool true, .bool false, .bool false, .bool false, .bool false, .bool false, .bool false, .bool false, .bool false, .bool false, .bool false, .bool g0, .bool g1, .bool g2, .bool g3, .bool g4, .bool g5, .bool g6, .bool g7, .bool g8]) W.drew := by
          rw [← hlit]
          refine ldH_mid (headI_ok R 0) ?_
          intro j v hj
          have : W.drew.heap[wr.heap.size]? = some (.cells (hdA (headI R 0)) 97 (0, 0)) := HBX.out
          rw [cellOf this, Nat.zero_add]; simpa [hdA] using hj
        have HBW := HBW0
        have HFRW := HFRW0
        have HFW := hid hFW
        have hwb := hFW.size
        have HLC := hid hlitc
        clear hFW HBW0 HFRW0 hW hlit hlitc HBX h1 hf2 c0W
        obtain ⟨v', w3, hrun, hown, hgrow, hblk⟩ := apS_mine (P := Tryz.prog) (W.alloc (.cells #[.bool false, .bool true, .bool false, .bool false, .bool false, .bool false, .bool false, .bool false, .bool false, .bool false, .bool false, .bool false, .bool g0, .bool g1, .bool g2, .bool g3, .bool g4, .bool g5, .bool g6, .bool g7, .bool g8] 97)).drew (w.heap.size + 2) 91 91 97 i0 _ 21 21 Tryz.underlying91 hi0 iz0 iz1 iz2 rfl (by decide) (.slice ha 0 hc) 0 (flatC Hd.cells (initH R 0)) (by have := HFW.out.own.alloc (.cells #[.bool false, .bool true, .bool false, .bool false, .bool false, .bool false, .bool false, .bool false, .bool false, .bool false, .bool false, .bool false, .bool g0, .bool g1, .bool g2, .bool g3, .bool g4, .bool g5, .bool g6, .bool g7, .bool g8] 97); rw [initH_len] at this; exact this) ⟨W.heap.size, 0, none⟩ 1 1 (headI R 0).cells (by rw [HLC.out]; rfl) (new_cells (by rw [HLC.out])) (by intro u hu; exact (Array.all_eq_true_iff_forall_mem.1 (hd_one (headI R 0))) u (by simpa [hdA] using hu)) (by unfold maxLen; omega) (by omega) (by simp [World.drew]; omega)
        obtain ⟨ao3, cap3, hv3⟩ := own_form hown
        have hb3 : w3.heap[w.heap.size + 1]? = some (.cells #[.int .i64 R, .int .i64 H, .slice pa ps.length pc, .slice ha 0 hc] 93 (0, 0)) := by
          rw [hgrow.block _ (by show _ < (W.alloc _).heap.size; simp; have := HFW.out.size; omega) (fun e => by have := (HFW.out.own.lt _ e.symm).1; omega)]
          exact heap_alloc_prev HFW.out.blk
        have c3 : w3.cell? ⟨w.heap.size + 1, 3, none⟩ = some (.slice ha 0 hc) := (cellOf hb3 3)
        have f3 := frozenOf hb3 3
        have HFA := hid (HFW.out.add (headI_ok R 0) (((Mod.refl _ W).alloc _).drew) (by rw [initH_len]; exact hown) hgrow)
        have hbt3 : Hid ((w3.setCell ⟨w.heap.size + 1, 3, none⟩ v').heap[w.heap.size]? = some (.cells #[.int .i64 R, .int .i64 H, .slice pa ps.length pc] 34 (0, 0))) := (Mod.mono HFA.out.2 (T := fun k => w.heap.size + 1 ≤ k) (fun _ _ h => h)).at HBW.out (by omega)
        have hfr3 : Hid (Fresh w (w3.setCell ⟨w.heap.size + 1, 3, none⟩ v')) := Mod.trans' HFRW.out HFA.out.2 (fun k hk h => by omega)
        clear hown hgrow hblk hb3
        subst hv3
        go_region
        all_goals
          go_wp2
          go_roundw
          case rel =>
            refine ⟨0 + 1, .slice ao3 (0 + 1) cap3, by go_num, by omega, ?_, hfr3.out, hbt3.out⟩
            rw [HI.out]; exact HFA.out.1
          case measure => exact HME.out
      · have b1 : ((i : Int) == 0) = false := by simp; omega
        have hW : Fresh wr (wr.alloc (.cells #[.bool false, .bool false, .bool false, .bool false, .bool false, .bool false, .bool false, .bool false, .bool false, .bool false, .bool false, .bool false, .bool false, .bool false, .bool false, .bool false, .bool false, .bool false, .bool false, .bool false, .bool false] 97 (0, 0))) := (Mod.refl _ wr).alloc _
        have hFW := HF.out.fresh hW
        have k3 := hFW.cell 3
        simp at k3
        have l1 : (ldH (.pointer (some ⟨wr.heap.size, 0, none⟩))).run Tryz.prog (wr.alloc (.cells #[.bool false, .bool false, .bool false, .bool false, .bool false, .bool false, .bool false, .bool false, .bool false, .bool false, .bool false, .bool false, .bool false, .bool false, .bool false, .bool false, .bool false, .bool false, .bool false, .bool false, .bool false] 97 (0, 0))).drew = .ok (.agg #[.bool false, .bool false, .bool false, .bool false, .bool false, .bool false, .bool false, .bool false, .bool false, .bool false, .bool false, .bool false, .bool false, .bool false, .bool false, .bool false, .bool false, .bool false, .bool false, .bool false, .bool false]) (wr.alloc (.cells #[.bool false, .bool false, .bool false, .bool false, .bool false, .bool false, .bool false, .bool false, .bool false, .bool false, .bool false, .bool false, .bool false, .bool false, .bool false, .bool false, .bool false, .bool false, .bool false, .bool false, .bool false] 97 (0, 0))).drew :=
          ldH_mid (h := zeroHd) zeroHd_ok (rangeAt_block (rangeAt_new wr zeroHd _) rfl)
        have HH0 : Hid (headI R i = zeroHd) := by unfold Hid headI; rw [if_neg hz]
        go_wp2
        have HBW0 := hid (heap_alloc_prev (o := .cells #[.bool false, .bool false, .bool false, .bool false, .bool false, .bool false, .bool false, .bool false, .bool false, .bool false, .bool false, .bool false, .bool false, .bool false, .bool false, .bool false, .bool false, .bool false, .bool false, .bool false, .bool false] 97 (0, 0)) HBT.out)
        have HFRW0 := hid (HFR.out.trans hW)
        have hzl : wr.heap.size < (wr.alloc (.cells #[.bool false, .bool false, .bool false, .bool false, .bool false, .bool false, .bool false, .bool false, .bool false, .bool false, .bool false, .bool false, .bool false, .bool false, .bool false, .bool false, .bool false, .bool false, .bool false, .bool false, .bool false] 97 (0, 0))).heap.size := by simp
        generalize wr.alloc (.cells #[.bool false, .bool false, .bool false, .bool false, .bool false, .bool false, .bool false, .bool false, .bool false, .bool false, .bool false, .bool false, .bool false, .bool false, .bool false, .bool false, .bool false, .bool false, .bool false, .bool false, .bool false] 97 (0, 0)) = W at hFW k3 l1 HBW0 HFRW0 hzl ⊢
        have HBW := HBW0
        have HFRW := HFRW0
        have HFW := hid hFW
        have hwb := hFW.size
        clear hFW HBW0 HFRW0 hW
        obtain ⟨v', w3, hrun, hown, hgrow, hblk⟩ := apS_mine (P := Tryz.prog) (W.alloc (.cells #[.bool false, .bool false, .bool false, .bool false, .bool false, .bool false, .bool false, .bool false, .bool false, .bool false, .bool false, .bool false, .bool false, .bool false, .bool false, .bool false, .bool false, .bool false, .bool false, .bool false, .bool false] 97)).drew (w.heap.size + 2) 91 91 97 i0 _ 21 21 Tryz.underlying91 hi0 iz0 iz1 iz2 rfl (by decide) (.slice ha i hc) i (flatC Hd.cells (initH R i)) (by have := HFW.out.own.alloc (.cells #[.bool false, .bool false, .bool false, .bool false, .bool false, .bool false, .bool false, .bool false, .bool false, .bool false, .bool false, .bool false, .bool false, .bool false, .bool false, .bool false, .bool false, .bool false, .bool false, .bool false, .bool false] 97); rw [initH_len] at this; exact this) ⟨W.heap.size, 0, none⟩ 1 1 zeroHd.cells rfl (new_cells rfl) (by intro u hu; simp [zeroHd, Hd.cells, bls, zero9] at hu; subst hu; rfl) (by unfold maxLen; omega) (by omega) (by simp [World.drew]; omega)
        obtain ⟨ao3, cap3, hv3⟩ := own_form hown
        have hb3 : w3.heap[w.heap.size + 1]? = some (.cells #[.int .i64 R, .int .i64 H, .slice pa ps.length pc, .slice ha i hc] 93 (0, 0)) := by
          rw [hgrow.block _ (by show _ < (W.alloc _).heap.size; simp; have := HFW.out.size; omega) (fun e => by have := (HFW.out.own.lt _ e.symm).1; omega)]
          exact heap_alloc_prev HFW.out.blk
        have c3 : w3.cell? ⟨w.heap.size + 1, 3, none⟩ = some (.slice ha i hc) := (cellOf hb3 3)
        have f3 := frozenOf hb3 3
        have HFA := hid (HFW.out.add zeroHd_ok (((Mod.refl _ W).alloc _).drew) (by rw [initH_len]; exact hown) hgrow)
        have hbt3 : Hid ((w3.setCell ⟨w.heap.size + 1, 3, none⟩ v').heap[w.heap.size]? = some (.cells #[.int .i64 R, .int .i64 H, .slice pa ps.length pc] 34 (0, 0))) := (Mod.mono HFA.out.2 (T := fun k => w.heap.size + 1 ≤ k) (fun _ _ h => h)).at HBW.out (by omega)
        have hfr3 : Hid (Fresh w (w3.setCell ⟨w.heap.size + 1, 3, none⟩ v')) := Mod.trans' HFRW.out HFA.out.2 (fun k hk h => by omega)
        clear hown hgrow hblk hb3
        subst hv3
        go_region
        all_goals
          go_wp2
          go_roundw
          case rel =>
            refine ⟨i + 1, .slice ao3 (i + 1) cap3, by go_num, by omega, ?_, hfr3.out, hbt3.out⟩
            rw [HI.out, HH0.out]; exact HFA.out.1
          case measure => exact HME.out
    · have hie : i = H := by omega
      have hi2 : ¬ (i : Int) < (H : Int) := by omega
      subst hie
      have FAll := hid (findAll_any wr (w.heap.size + 1) R i _ _ ps _ hF hps)
      clear hF hfr hbt
      go_wp2_with (first
        | (go_at_call 34; refine FAll.out.mono ?_; rintro e w1 ⟨rfl, hF1, hm1⟩))
      go_ret
      have hff : Fresh w w1 := Mod.trans' HFR.out hm1 (fun k hk h => by have := (HF.out.own.lt k h).1; omega)
      first
        | exact ⟨_, _, rfl, hff, hF1⟩
        | exact ⟨_, rfl, hff, _, hF1⟩
end Go.Proofs.YtcpgklcimacngaaGreat
namespace Go.Proofs.YtcpgklcimacngaaGreat
open Go.RowKit
set_option linter.unusedVariables false
set_option linter.unusedSimpArgs false

abbrev IntOwn (w : World) (base : Nat) (v : Value) (l : List Int) : Prop := w.ownsRow base 3 1 v l.length (nums l)
end Go.Proofs.YtcpgklcimacngaaGreat
namespace Go.Proofs.YtcpgklcimacngaaGreat
open Go.RowKit
set_option linter.unusedVariables false
set_option linter.unusedSimpArgs false

def setsF (s : ByteArray) : List Hd := allF (tableOf (rLines s).1) (initH ((frontsOf (rLines s).1).length : Nat) (headsOf (rLines s).1).length)
theorem headsL_le : ∀ (l : List Ln) (acc : List Wd), (headsL l acc).length ≤ acc.length + l.length
  | [], acc => by simp [headsL]
  | x :: l, acc => by
    unfold headsL
    have h1 := headsL_le l acc
    have h2 := headsL_le l (acc ++ [x.front])
    simp only [List.length_append, List.length_cons, List.length_nil] at h1 h2 ⊢
    split
    · omega
    · split <;> omega
theorem tab_sizes {s : ByteArray} (h : (checkF s).1 = 0) : (frontsOf (rLines s).1).length ≤ 800 ∧ (headsOf (rLines s).1).length ≤ 800 ∧ (tableOf (rLines s).1).length ≤ 800 := by
  have hsz := check_sz h
  have hle := (rLines_ok s).1
  have h1 := headsL_le (rLines s).1 []
  have h2 := List.length_filter_le ruleB (rLines s).1
  have h3 := List.length_filter_le (fun x => !ruleB x) (rLines s).1
  unfold frontsOf headsOf tableOf prodsOf
  simp only [List.length_map, List.length_nil] at *
  omega

end Go.Proofs.YtcpgklcimacngaaGreat
