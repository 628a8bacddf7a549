import Derived.Test.YteneagnhihcljaaGreatDoorCk7
import Derived.Test.YteneagnhihcljaaGreatDoorSe3
namespace Go.Proofs.YteneagnhihcljaaGreatDoor
open Go.RowKit
set_option linter.unusedVariables false
set_option linter.unusedSimpArgs false

def headsL : List Ln → List Wd → List Wd
  | [], hs => hs
  | x :: l, hs => if ruleB x then headsL l hs else if wordF hs x.front.ls < hs.length then headsL l hs else headsL l (hs ++ [x.front])
def headsOf (lns : List Ln) : List Wd := headsL lns []
theorem wordF_le (ds : List Wd) (ls : List Int) : wordF ds ls ≤ ds.length := by unfold wordF; exact List.findIdx_le_length

set_option maxRecDepth 20000 in
set_option maxHeartbeats 8000000 in
theorem heads_any (w : World) (v : Value) (xs : List LV) (hL : LinesAt w v xs) (hn : xs.length ≤ 1000) (hfb : ∀ x ∈ xs, FB x) :
    Calls Tryz.prog 24 #[v] w fun e w' => ∃ v', e = .returned v' ∧ w'.ownsRow w.heap.size 64 9 v' (headsOf (xs.map LV.ln)).length (flatC Wd.cells (headsOf (xs.map LV.ln))) ∧ Fresh w w' ∧ (∀ d ∈ headsOf (xs.map LV.ln), d.ls.length = 8) ∧ (headsOf (xs.map LV.ln)).length ≤ xs.length := by
  obtain ⟨ao, cap, hv⟩ := own_form hL.own
  subst hv
  have HL := hid hL
  have HFB := hid hfb
  obtain ⟨i0, hi0, hz0, hz1, hz2⟩ := infoWd'
  generalize hRES : headsOf (xs.map LV.ln) = RES
  have HR := hid hRES
  clear hL hfb hRES
  go_enter Tryz.func24, Tryz.ntmps24
  go_wp2
  go_loopw [3, 4, 5, 8] (fun x3 _ _ x8 wr => ∃ (i : Nat) (acc : List Wd), x8 = .int .i64 i ∧ i ≤ xs.length ∧ acc.length ≤ i ∧ (∀ d ∈ acc, d.ls.length = 8) ∧ headsL ((xs.drop i).map LV.ln) acc = RES ∧ wr.ownsRow w.heap.size 64 9 x3 acc.length (flatC Wd.cells acc) ∧ Fresh w wr)
      (fun _ _ _ x _ => 1001 - (intOf x).toNat)
  case atStart => exact ⟨0, [], rfl, by omega, by simp, by simp, HR.out, World.ownsRow_nil _ _ _ _, Mod.refl _ _⟩
  case round =>
    obtain ⟨i, ys, rfl, hi, hlen, h8, hres, hown, hfr⟩ := hrel
    have HME := hid (meas (B := 1001) i (by omega))
    have HO := hid hown
    have HOB := hid hown.lt
    have H8 := hid h8
    obtain ⟨ro, rc, hro⟩ := own_form hown
    clear hown h8
    subst hro
    by_cases hlt : i < xs.length
    · rw [List.drop_eq_getElem_cons hlt, List.map_cons] at hres
      unfold headsL at hres
      obtain ⟨g, cap', hv'⟩ := Joins.ownsRow_form HL.out.own (by omega)
      rw [Value.slice.injEq] at hv'
      obtain ⟨rfl, _, rfl⟩ := hv'
      have HL1 := hid (HL.out.fresh hfr)
      have hrg := HL1.out.row.range i hlt
      have hA := HL1.out.each xs[i] (by simp)
      have hFB := HFB.out xs[i] (by simp)
      have hrgf := fun w1 (hf : Fresh wr w1) => (HL1.out.fresh hf).frontRange i hlt
      generalize hX : xs[i] = x at hres hrg hA hFB hrgf
      clear hX
      have RU0 := fun w => isRule_any x w hA.front hFB
      have hrb : Hid (ruleB x.ln = !headB x.ln.front) := rfl
      rw [← hrb.out] at RU0
      have FW0 := fun (w : World) (v : Value) (h : SymsAt w v ys) => findWord_any w v ys x.ln.front h H8.out (by omega) hA.front
      have HAo := hid hA.one
      obtain ⟨⟨⟨pp, ls⟩, sk, nsx, stx, enx, sy⟩, vn, vs⟩ := x
      obtain ⟨a1, a2, a3, a4, a5, a6, a7, a8, e8⟩ := eight hA.front
      dsimp only at e8
      subst e8
      obtain ⟨no, nc, hvn⟩ := own_form hA.nodes.own
      obtain ⟨so, sc, hvs⟩ := own_form hA.syms.own
      dsimp only at hvn hvs
      subst hvn
      subst hvs
      have RU := hid RU0
      have RG : Hid (wr.rangeAt g (i * 14) (lnList pp a1 a2 a3 a4 a5 a6 a7 a8 sk (.slice no nsx.length nc) stx enx (.slice so sy.length sc))) := hrg
      have RGF : Hid (∀ w1, Fresh wr w1 → w1.rangeAt g (i * 14) (wdList pp a1 a2 a3 a4 a5 a6 a7 a8)) := hrgf
      have RU' : Hid (∀ w, Calls Tryz.prog 25 #[.agg (lnArr pp a1 a2 a3 a4 a5 a6 a7 a8 sk (.slice no nsx.length nc) stx enx (.slice so sy.length sc))] w fun e w' => e = .returned (.bool (ruleB ⟨⟨pp, [a1, a2, a3, a4, a5, a6, a7, a8]⟩, sk, nsx, stx, enx, sy⟩)) ∧ Fresh w w') := RU.out
      have FW : Hid (∀ (w : World) (v : Value), SymsAt w v ys → Calls Tryz.prog 40 #[v, .agg (wdArr pp a1 a2 a3 a4 a5 a6 a7 a8)] w fun e w' => e = .returned (.int .i64 (wordF ys [a1, a2, a3, a4, a5, a6, a7, a8])) ∧ Fresh w w') := FW0
      clear RU0 RU hrg hrgf hA hFB FW0
      dsimp only at hres
      cases hr : ruleB ⟨⟨pp, [a1, a2, a3, a4, a5, a6, a7, a8]⟩, sk, nsx, stx, enx, sy⟩
      · rw [hr] at RU' hres
        simp only [Bool.false_eq_true, if_false] at hres
        have hwl := wordF_le ys [a1, a2, a3, a4, a5, a6, a7, a8]
        generalize wordF ys [a1, a2, a3, a4, a5, a6, a7, a8] = wf at hres FW hwl
        have HSY : Hid (∀ w1, Fresh wr w1 → SymsAt w1 (.slice ro ys.length rc) ys) := fun w1 hf => ⟨ownsRow_base (ownsRow_other HO.out (fun g hg => hf.block g (HOB.out g hg).2 (fun x => x))) (Nat.zero_le _), fun x hx => Wd.cells_len (H8.out x hx)⟩
        by_cases hwf : wf < ys.length
        · rw [if_pos hwf] at hres
          have HRES := hid hres
          have hw1 : ((wf : Int) == (ys.length : Int)) = false := by simp; omega
          clear hres
          go_wp2_with (first
            | (go_at_call 40; refine (FW.out _ _ (HSY.out _ hf)).mono ?_; rintro e w2 ⟨rfl, hf2⟩)
            | (refine wpList_load_mid rfl 64 _ rfl g (i * 14) rfl (wdList pp a1 a2 a3 a4 a5 a6 a7 a8) _ (RGF.out _ hf) Tryz.underlying64 rfl szWord ?_)
            | (go_at_call 25; refine (RU'.out _).mono ?_; rintro e w1 ⟨rfl, hf⟩)
            | (refine wpList_load_mid rfl 69 _ rfl g (i * 14) rfl (lnList pp a1 a2 a3 a4 a5 a6 a7 a8 sk (.slice no nsx.length nc) stx enx (.slice so sy.length sc)) _ RG.out Tryz.underlying69 rfl szLine ?_))
          go_roundw
          case rel =>
            refine ⟨i + 1, ys, by go_num, by omega, by omega, H8.out, HRES.out, ?_, (hfr.trans hf).trans hf2⟩
            exact ownsRow_other HO.out (fun g hg => (hf.trans hf2).block g (HOB.out g hg).2 (fun x => x))
          case measure => exact HME.out
        · rw [if_neg hwf] at hres
          have HRES := hid hres
          have hwe : wf = ys.length := by omega
          subst hwe
          clear hres
          go_wp2_with (first
            | (at_builtin; refine wpList_append_mine _ rfl _ _ 60 rfl w.heap.size 64 i0 _ 9 16 Tryz.underlying60 hi0 hz0 hz1 hz2 rfl (by decide) _ _ _ rfl (HO1.out.alloc _) ⟨w2.heap.size, 0, none⟩ 1 1 (wdList pp a1 a2 a3 a4 a5 a6 a7 a8) rfl rfl (new_cells rfl) (by intro u hu; simp at hu; rcases hu with rfl | rfl | rfl | rfl | rfl | rfl | rfl | rfl | rfl <;> rfl) (by unfold maxLen; omega) (by omega) (by have := hfr.size; have := hf.size; have := hf2.size; simp; omega) ?_)
            | (refine wpList_load_mid rfl 64 _ rfl g (i * 14) rfl (wdList pp a1 a2 a3 a4 a5 a6 a7 a8) _ (RGF.out _ (hf.trans hf2)) Tryz.underlying64 rfl szWord ?_)
            | (go_at_call 40; refine (FW.out _ _ (HSY.out _ hf)).mono ?_; rintro e w2 ⟨rfl, hf2⟩; have HO1 := hid (ownsRow_other HO.out (fun g hg => (hf.trans hf2).block g (HOB.out g hg).2 (fun x => x))))
            | (refine wpList_load_mid rfl 64 _ rfl g (i * 14) rfl (wdList pp a1 a2 a3 a4 a5 a6 a7 a8) _ (RGF.out _ hf) Tryz.underlying64 rfl szWord ?_)
            | (go_at_call 25; refine (RU'.out _).mono ?_; rintro e w1 ⟨rfl, hf⟩)
            | (refine wpList_load_mid rfl 69 _ rfl g (i * 14) rfl (lnList pp a1 a2 a3 a4 a5 a6 a7 a8 sk (.slice no nsx.length nc) stx enx (.slice so sy.length sc)) _ RG.out Tryz.underlying69 rfl szLine ?_))
          intro v' w3 hown2 hgrow hblk
          have fr2 : Fresh w w3 := Mod.grown (S := fun _ => False) (((hfr.trans hf).trans hf2).alloc _) hgrow (fun k hk hlt => by have := (HOB.out k hk).1; omega)
          have HO2 := hid hown2
          clear hown2 hgrow hblk
          go_wp2
          go_roundw
          case rel =>
            refine ⟨i + 1, ys ++ [⟨pp, [a1, a2, a3, a4, a5, a6, a7, a8]⟩], by go_num, by omega, by simp; omega, ?_, HRES.out, ?_, fr2⟩
            · intro d hd
              simp only [List.mem_append, List.mem_singleton] at hd
              rcases hd with hd | rfl
              · exact H8.out d hd
              · rfl
            · rw [flat_snoc, List.length_append, List.length_singleton]
              exact HO2.out
          case measure => exact HME.out
      · rw [hr] at RU' hres
        simp only [if_true] at hres
        have HRES := hid hres
        clear hres
        go_wp2_with (first
          | (go_at_call 25; refine (RU'.out _).mono ?_; rintro e w1 ⟨rfl, hf⟩)
          | (refine wpList_load_mid rfl 69 _ rfl g (i * 14) rfl (lnList pp a1 a2 a3 a4 a5 a6 a7 a8 sk (.slice no nsx.length nc) stx enx (.slice so sy.length sc)) _ RG.out Tryz.underlying69 rfl szLine ?_))
        go_roundw
        case rel =>
          refine ⟨i + 1, ys, by go_num, by omega, by omega, H8.out, HRES.out, ?_, hfr.trans hf⟩
          exact ownsRow_other HO.out (fun g hg => hf.block g (HOB.out g hg).2 (fun x => x))
        case measure => exact HME.out
    · have hie : i = xs.length := by omega
      rw [hie, List.drop_length] at hres
      have hres2 : ys = RES := hres
      subst hres2
      clear hres
      go_wp2
      go_ret
      exact ⟨_, rfl, HO.out, hfr, H8.out, by omega⟩
end Go.Proofs.YteneagnhihcljaaGreatDoor
namespace Go.Proofs.YteneagnhihcljaaGreatDoor
open Go.RowKit
set_option linter.unusedVariables false
set_option linter.unusedSimpArgs false

def symF (names heads : List Wd) (d : Wd) : Sy := ⟨headB d, if headB d then (wordF heads d.ls : Int) else (wordF names d.ls : Int)⟩
def prOf (names heads : List Wd) (x : Ln) : Pr := ⟨(wordF heads x.front.ls : Int), x.syms.map (symF names heads)⟩

theorem infoSy : (Tryz.prog.info? 84).map (fun i => (i.zero, i.size, i.bytes)) = some (some (.agg #[.bool false, .int .i64 0]), 2, 16) := by kernel_rfl
theorem infoSy' : ∃ i, Tryz.prog.info? 84 = some i ∧ i.zero = some (.agg #[.bool false, .int .i64 0]) ∧ i.size = 2 ∧ i.bytes = 16 := by
  have h := infoSy
  cases hq : Tryz.prog.info? 84 with
  | none => simp [hq] at h
  | some i => simp [hq] at h; exact ⟨i, rfl, h.1, h.2.1, h.2.2⟩
theorem szSy2 : (Tryz.prog.info? 84).map (·.size) = some 2 := by kernel_rfl
theorem szPr2 : (Tryz.prog.info? 73).map (·.size) = some 2 := by kernel_rfl

set_option maxRecDepth 20000 in
set_option maxHeartbeats 8000000 in
theorem prodsRead_any (w : World) (x : LV) (vn vh : Value) (names heads : List Wd) (hA : x.At w) (hfb : ∀ d ∈ x.ln.syms, 0 ≤ d.ls.getD 0 0 ∧ d.ls.getD 0 0 ≤ 255) (hsl : x.ln.syms.length ≤ 1000)
    (hN : SymsAt w vn names) (hN8 : ∀ d ∈ names, d.ls.length = 8) (hNl : names.length ≤ 1000) (hH : SymsAt w vh heads) (hH8 : ∀ d ∈ heads, d.ls.length = 8) (hHl : heads.length ≤ 1000) :
    Calls Tryz.prog 26 #[.agg x.cells.toArray, vn, vh] w fun e w' => ∃ v', e = .returned (.agg #[.int .i64 (prOf names heads x.ln).head, v']) ∧ Fresh w w' ∧ w'.ownsRow w.heap.size 84 2 v' (prOf names heads x.ln).syms.length (flatC Sy.cells (prOf names heads x.ln).syms) := by
  obtain ⟨i0, hi0, iz0, iz1, iz2⟩ := infoSy'
  have FN := hid (fun (w : World) (h : SymsAt w vn names) (d : Wd) (hd : d.ls.length = 8) => findWord_any w vn names d h hN8 (by omega) hd)
  have FH := hid (fun (w : World) (h : SymsAt w vh heads) (d : Wd) (hd : d.ls.length = 8) => findWord_any w vh heads d h hH8 (by omega) hd)
  have HN := hid hN
  have HH := hid hH
  have HFB := hid hfb
  have hS8 : ∀ d ∈ x.ln.syms, d.ls.length = 8 := fun d hd => by
    have := hA.syms.wf d hd
    simpa [Wd.cells] using this
  have HS8 := hid hS8
  have HSA := hid hA.syms
  have HF8 := hid hA.front
  have RG : Hid (∀ o : Obj, ((w.alloc (.cells x.cells.toArray 69 (0, 0))).alloc o).rangeAt w.heap.size 0 x.ln.front.cells) := by
    intro o j v hj
    rw [cellOf (heap_alloc2_old _ _ _)]
    simp only [LV.cells, Nat.zero_add, List.getElem?_toArray]
    rw [List.getElem?_append_left (List.getElem?_eq_some_iff.1 hj).1]; exact hj
  obtain ⟨so, sc, hvs⟩ := own_form hA.syms.own
  have k13 : x.cells.toArray[13]? = some (.slice so x.ln.syms.length sc) := by rw [LV.at13 hA.front, hvs]
  rw [hvs] at HSA
  generalize x.cells.toArray = xa at k13 RG
  have hph : (prOf names heads x.ln).head = (wordF heads x.ln.front.ls : Int) := rfl
  have hps : (prOf names heads x.ln).syms = x.ln.syms.map (symF names heads) := rfl
  rw [hph, hps, List.length_map]
  generalize hfw : wordF heads x.ln.front.ls = hw
  have HFW := hid hfw
  generalize x.ln.front = fr at HF8 RG HFW
  generalize x.ln.syms = sy at HFB HS8 HSA hsl k13
  have HK13 := hid k13
  clear hA hfb hN hN8 hH hH8 hS8 hvs hph hps hfw k13
  go_enter Tryz.func26, Tryz.ntmps26
  go_wp2_with (first
    | (go_at_call 40; refine (FH.out _ (HH.out.fresh (((Mod.refl _ w).alloc _).alloc _)) fr HF8.out).mono ?_; rw [HFW.out]; rintro e w1 ⟨rfl, hf1⟩; have hA0 := hid (hf1.at (heap_alloc2_old _ _ _) (fun x => x)); have hA1 := hid (hf1.at (heap_alloc2_new _ _ _) (fun x => x)); have k13 := cellOf hA0.out 13; rw [HK13.out] at k13; have hz1 := hf1.size)
    | (refine wpList_load_mid rfl 64 _ rfl w.heap.size 0 rfl fr.cells _ (RG.out _) Tryz.underlying64 rfl (by rw [Wd.cells_len HF8.out]; exact szWord) ?_))
  have HF1 : Hid (Fresh w w1) := Mod.trans (((Mod.refl _ w).alloc _).alloc _) hf1
  have hzz : w.heap.size + 2 ≤ w1.heap.size := by simp at hz1; omega
  clear hA0 k13 hz1
  go_loopw [8, 10, 11, 19] (fun x8 _ _ x19 wr => ∃ (i : Nat), x19 = .int .i64 i ∧ i ≤ sy.length ∧ wr.ownsRow (w.heap.size + 2) 84 2 x8 ((sy.take i).map (symF names heads)).length (flatC Sy.cells ((sy.take i).map (symF names heads))) ∧ Fresh w wr ∧ wr.heap[w.heap.size + 1]? = some (.cells #[.int .i64 0, .slice none 0 0] 73 (0, 0)) ∧ w.heap.size + 2 ≤ wr.heap.size)
      (fun _ _ _ x _ => 1001 - (intOf x).toNat)
  case atStart => exact ⟨0, rfl, by omega, World.ownsRow_nil _ _ _ _, HF1.out, hA1.out, hzz⟩
  case round =>
    obtain ⟨i, rfl, hi, hown, hfr, hb1, hzr⟩ := hrel
    have HME := hid (meas (B := 1001) i (by omega))
    have HB1 := hid hb1
    have hlen : ((sy.take i).map (symF names heads)).length ≤ 1000 := by simp; omega
    have HTS : Hid (∀ hlt : i < sy.length, (sy.take (i + 1)).map (symF names heads) = (sy.take i).map (symF names heads) ++ [symF names heads sy[i]]) := by
      intro hlt
      rw [takeS hlt, List.map_append, List.map_singleton]
    have HTE : Hid (i = sy.length → (sy.take i) = sy) := fun h => by rw [h, List.take_length]
    generalize hy : (sy.take i).map (symF names heads) = ys at *
    have HY := hid hy
    have HO := hid hown
    have HOB := hid hown.lt
    obtain ⟨ro, rc, hro⟩ := own_form hown
    clear hown hy hb1
    subst hro
    by_cases hlt : i < sy.length
    · have hi1 : (i : Int) < (sy.length : Int) := by omega
      obtain ⟨gs, sc', hv'⟩ := Joins.ownsRow_form HSA.out.own (by omega)
      rw [Value.slice.injEq] at hv'
      obtain ⟨rfl, _, rfl⟩ := hv'
      have hrg := (HSA.out.fresh hfr).range i hlt
      have hTS := HTS.out hlt
      have hd8 := HS8.out sy[i] (by simp)
      have hdb := HFB.out sy[i] (by simp)
      have IH0 := fun w => isHead_any sy[i] w hd8 hdb
      have FN0 := fun w h => FN.out w h sy[i] hd8
      have FH0 := fun w h => FH.out w h sy[i] hd8
      rw [show symF names heads sy[i] = (⟨headB sy[i], if headB sy[i] then (wordF heads sy[i].ls : Int) else (wordF names sy[i].ls : Int)⟩ : Sy) from rfl] at hTS
      generalize hX : sy[i] = d at hrg hTS IH0 FN0 FH0 hd8
      clear hX hdb
      obtain ⟨pp, ls⟩ := d
      obtain ⟨a1, a2, a3, a4, a5, a6, a7, a8, e8⟩ := eight hd8
      dsimp only at e8
      subst e8
      have RS : Hid (wr.rangeAt gs (i * 9) (wdList pp a1 a2 a3 a4 a5 a6 a7 a8)) := hrg
      have IH : Hid (∀ w, Calls Tryz.prog 41 #[.agg (wdArr pp a1 a2 a3 a4 a5 a6 a7 a8)] w fun e w' => e = .returned (.bool (headB ⟨pp, [a1, a2, a3, a4, a5, a6, a7, a8]⟩)) ∧ Fresh w w') := IH0
      have FN1 : Hid (∀ (w : World), SymsAt w vn names → Calls Tryz.prog 40 #[vn, .agg (wdArr pp a1 a2 a3 a4 a5 a6 a7 a8)] w fun e w' => e = .returned (.int .i64 (wordF names [a1, a2, a3, a4, a5, a6, a7, a8])) ∧ Fresh w w') := FN0
      have FH1 : Hid (∀ (w : World), SymsAt w vh heads → Calls Tryz.prog 40 #[vh, .agg (wdArr pp a1 a2 a3 a4 a5 a6 a7 a8)] w fun e w' => e = .returned (.int .i64 (wordF heads [a1, a2, a3, a4, a5, a6, a7, a8])) ∧ Fresh w w') := FH0
      dsimp only at hTS
      generalize headB ⟨pp, [a1, a2, a3, a4, a5, a6, a7, a8]⟩ = hb at hTS IH
      generalize wordF names [a1, a2, a3, a4, a5, a6, a7, a8] = wn at hTS FN1
      generalize wordF heads [a1, a2, a3, a4, a5, a6, a7, a8] = wh at hTS FH1
      have HTSS := hid hTS
      clear hrg hTS IH0 FN0 FH0 hd8
      cases hb
      · simp only [Bool.false_eq_true, if_false] at HTSS
        go_wp2_with (first
          | (at_builtin; refine wpList_append_mine _ rfl _ _ 71 rfl (w.heap.size + 2) 84 i0 _ 2 16 Tryz.underlying71 hi0 iz0 iz1 iz2 rfl (by decide) _ _ _ rfl (HO1.out.alloc _) ⟨w3.heap.size, 0, none⟩ 1 1 [.bool false, .int .i64 wn] rfl rfl (by have q := @new_cells (w3.setCell ⟨w2.heap.size, 1, none⟩ (.int .i64 wn)) #[.bool false, .int .i64 wn] [.bool false, .int .i64 wn] 84 rfl; rw [Proofs.YteneagnhihcljaaGreatDoor.heap_setCell_size] at q; exact q) (by intro u hu; simp at hu; rcases hu with rfl | rfl <;> rfl) (by unfold maxLen; omega) (by omega) (by simp; omega) ?_)
          | (refine wpList_load_row rfl 84 _ rfl w2.heap.size rfl _ _ _ _ hb3.out Tryz.underlying84 rfl szSy2 ?_)
          | (go_at_call 40; refine (FN1.out _ (HN.out.fresh ((hfr.trans (Mod.trans ((Mod.refl _ wr).alloc _) hf2)).alloc _))).mono ?_; rintro e w3 ⟨rfl, hf3⟩; have hz3 : w2.heap.size < w3.heap.size := (by have := hf3.size; simp at this; omega); have hb2 := hid (hf3.at (heap_alloc_at w2 _) (fun x => x)); have c2 := cellOf hb2.out 1; have f2 := frozenOf hb2.out 1; have hb3 : Hid ((w3.setCell ⟨w2.heap.size, 1, none⟩ (.int .i64 wn)).heap[w2.heap.size]? = some (.cells #[.bool false, .int .i64 wn] 84 (0, 0))) := (by unfold Hid; rw [Proofs.YteneagnhihcljaaGreatDoor.heap_setCell_same hb2.out]; rfl); have hfz : Hid (Fresh wr (w3.setCell ⟨w2.heap.size, 1, none⟩ (.int .i64 wn))) := (Mod.trans ((Mod.trans ((Mod.refl _ wr).alloc _) hf2).alloc _) hf3).setCell (by intro q; dsimp only at q; omega) _; have HO1 := hid (ownsRow_other HO.out (fun g hg => hfz.out.block g (HOB.out g hg).2 (fun x => x))))
          | (refine wpList_load_row rfl 64 _ rfl wr.heap.size rfl _ _ _ _ (heap_alloc_prev (hf2.at (heap_alloc_at _ _) (fun x => x))) Tryz.underlying64 rfl szWord ?_)
          | (go_at_call 41; refine (IH.out _).mono ?_; rintro e w2 ⟨rfl, hf2⟩; have hz2 : wr.heap.size < w2.heap.size := (by have := hf2.size; simp at this; omega))
          | (refine wpList_load_row rfl 64 _ rfl wr.heap.size rfl _ _ _ _ (heap_alloc_at _ _) Tryz.underlying64 rfl szWord ?_)
          | (refine wpList_load_mid rfl 64 _ rfl gs (i * 9) rfl (wdList pp a1 a2 a3 a4 a5 a6 a7 a8) _ RS.out Tryz.underlying64 rfl szWord ?_))
        intro v' w4 hown2 hgrow hblk
        have fr2 : Fresh w w4 := Mod.grown (S := fun _ => False) ((hfr.trans hfz.out).alloc _) hgrow (fun k hk hlt => by have := (HOB.out k hk).1; omega)
        have hb4 : Hid (w4.heap[w.heap.size + 1]? = some (.cells #[.int .i64 0, .slice none 0 0] 73 (0, 0))) := by
          unfold Hid
          rw [hgrow.block (w.heap.size + 1) (by have := hfz.out.size; simp; simp at this; omega) (fun e => by have := (HOB.out _ e.symm).1; omega)]
          exact heap_alloc_prev (hfz.out.at HB1.out (fun x => x))
        have hz4 : w.heap.size + 2 ≤ w4.heap.size := by have h1 := hgrow.size; have h2 := hfz.out.size; simp at h1 h2; omega
        have HO2 := hid hown2
        clear hown2 hgrow hblk
        go_wp2
        go_roundw
        case rel =>
          refine ⟨i + 1, by go_num, by omega, ?_, fr2, hb4.out, hz4⟩
          rw [HTSS.out, flat_snoc, List.length_append, List.length_singleton]
          exact HO2.out
        case measure => exact HME.out
      · simp only [if_true] at HTSS
        go_wp2_with (first
          | (at_builtin; refine wpList_append_mine _ rfl _ _ 71 rfl (w.heap.size + 2) 84 i0 _ 2 16 Tryz.underlying71 hi0 iz0 iz1 iz2 rfl (by decide) _ _ _ rfl (HO1.out.alloc _) ⟨w3.heap.size, 0, none⟩ 1 1 [.bool true, .int .i64 wh] rfl rfl (by have q := @new_cells (w3.setCell ⟨w2.heap.size, 1, none⟩ (.int .i64 wh)) #[.bool true, .int .i64 wh] [.bool true, .int .i64 wh] 84 rfl; rw [Proofs.YteneagnhihcljaaGreatDoor.heap_setCell_size] at q; exact q) (by intro u hu; simp at hu; rcases hu with rfl | rfl <;> rfl) (by unfold maxLen; omega) (by omega) (by simp; omega) ?_)
          | (refine wpList_load_row rfl 84 _ rfl w2.heap.size rfl _ _ _ _ hb3.out Tryz.underlying84 rfl szSy2 ?_)
          | (go_at_call 40; refine (FH1.out _ (HH.out.fresh ((hfr.trans (Mod.trans ((Mod.refl _ wr).alloc _) hf2)).alloc _))).mono ?_; rintro e w3 ⟨rfl, hf3⟩; have hz3 : w2.heap.size < w3.heap.size := (by have := hf3.size; simp at this; omega); have hb2 := hid (hf3.at (heap_alloc_at w2 _) (fun x => x)); have c2 := cellOf hb2.out 1; have f2 := frozenOf hb2.out 1; have hb3 : Hid ((w3.setCell ⟨w2.heap.size, 1, none⟩ (.int .i64 wh)).heap[w2.heap.size]? = some (.cells #[.bool true, .int .i64 wh] 84 (0, 0))) := (by unfold Hid; rw [Proofs.YteneagnhihcljaaGreatDoor.heap_setCell_same hb2.out]; rfl); have hfz : Hid (Fresh wr (w3.setCell ⟨w2.heap.size, 1, none⟩ (.int .i64 wh))) := (Mod.trans ((Mod.trans ((Mod.refl _ wr).alloc _) hf2).alloc _) hf3).setCell (by intro q; dsimp only at q; omega) _; have HO1 := hid (ownsRow_other HO.out (fun g hg => hfz.out.block g (HOB.out g hg).2 (fun x => x))))
          | (refine wpList_load_row rfl 64 _ rfl wr.heap.size rfl _ _ _ _ (heap_alloc_prev (hf2.at (heap_alloc_at _ _) (fun x => x))) Tryz.underlying64 rfl szWord ?_)
          | (go_at_call 41; refine (IH.out _).mono ?_; rintro e w2 ⟨rfl, hf2⟩; have hz2 : wr.heap.size < w2.heap.size := (by have := hf2.size; simp at this; omega))
          | (refine wpList_load_row rfl 64 _ rfl wr.heap.size rfl _ _ _ _ (heap_alloc_at _ _) Tryz.underlying64 rfl szWord ?_)
          | (refine wpList_load_mid rfl 64 _ rfl gs (i * 9) rfl (wdList pp a1 a2 a3 a4 a5 a6 a7 a8) _ RS.out Tryz.underlying64 rfl szWord ?_))
        intro v' w4 hown2 hgrow hblk
        have fr2 : Fresh w w4 := Mod.grown (S := fun _ => False) ((hfr.trans hfz.out).alloc _) hgrow (fun k hk hlt => by have := (HOB.out k hk).1; omega)
        have hb4 : Hid (w4.heap[w.heap.size + 1]? = some (.cells #[.int .i64 0, .slice none 0 0] 73 (0, 0))) := by
          unfold Hid
          rw [hgrow.block (w.heap.size + 1) (by have := hfz.out.size; simp; simp at this; omega) (fun e => by have := (HOB.out _ e.symm).1; omega)]
          exact heap_alloc_prev (hfz.out.at HB1.out (fun x => x))
        have hz4 : w.heap.size + 2 ≤ w4.heap.size := by have h1 := hgrow.size; have h2 := hfz.out.size; simp at h1 h2; omega
        have HO2 := hid hown2
        clear hown2 hgrow hblk
        go_wp2
        go_roundw
        case rel =>
          refine ⟨i + 1, by go_num, by omega, ?_, fr2, hb4.out, hz4⟩
          rw [HTSS.out, flat_snoc, List.length_append, List.length_singleton]
          exact HO2.out
        case measure => exact HME.out
    · have hie : i = sy.length := by omega
      have hye := HTE.out hie
      have hi2 : ¬ (i : Int) < (sy.length : Int) := by omega
      go_wp2_with (first
        | (refine wpList_store_row rfl 73 _ _ rfl (w.heap.size + 1) #[.int .i64 hw, .slice ro ys.length rc] rfl rfl _ _ HB1.out szPr2 rfl (all_oneCell_toArray (cs := [.int .i64 hw, .slice ro ys.length rc]) (by intro v hv; simp at hv; rcases hv with rfl | rfl <;> rfl)) ?_))
      refine bodyPost_ret (results_cell_row rfl _ _ (w.heap.size + 1) 73 #[.int .i64 hw, .slice ro ys.length rc] (0, 0) _ rfl (setRow_heap _ _ _ _ _ _ HB1.out) Tryz.underlying73 rfl szPr2) rfl ⟨_, rfl, hfr.setRow (by simp) _, ?_⟩
      rw [hye] at HY
      have e1 : (List.map (symF names heads) sy) = ys := HY.out
      have e2 : sy.length = ys.length := by rw [← e1]; simp
      rw [e1, e2]
      exact ownsRow_base (ownsRow_other HO.out (fun g hg => setRow_other _ _ _ _ (by have := (HOB.out g hg).1; omega))) (by omega)
end Go.Proofs.YteneagnhihcljaaGreatDoor
