import Derived.Test.YtcpgklcimacngaaGreatCk4
namespace Go.Proofs.YtcpgklcimacngaaGreat
open Go.RowKit
set_option linter.unusedVariables false
set_option linter.unusedSimpArgs false

def wordF (ds : List Wd) (ls : List Int) : Nat := ds.findIdx (fun x => x.ls == ls)

set_option maxRecDepth 20000 in
set_option maxHeartbeats 4000000 in
theorem findWord_any (w : World) (v : Value) (xs : List Wd) (dd : Wd) (hL : SymsAt w v xs) (hx8 : ∀ x ∈ xs, x.ls.length = 8) (hn : xs.length ≤ 100000) (hl : dd.ls.length = 8) :
    Calls Tryz.prog 54 #[v, .agg dd.cells.toArray] w fun e w' => e = .returned (.int .i64 (wordF xs dd.ls)) ∧ Fresh w w' := by
  obtain ⟨p, ls⟩ := dd
  obtain ⟨b1, b2, b3, b4, b5, b6, b7, b8, rfl⟩ := eight hl
  have e1 : (Wd.cells ⟨p, [b1, b2, b3, b4, b5, b6, b7, b8]⟩).toArray = wdArr p b1 b2 b3 b4 b5 b6 b7 b8 := rfl
  rw [e1]
  obtain ⟨ao, cap, hv⟩ := own_form hL.own
  subst hv
  have HL := hid hL
  have HX8 := hid hx8
  clear hL e1 hl hx8
  go_enter Tryz.func54, Tryz.ntmps54
  go_wp2
  go_loopw [8] (fun x8 wr => ∃ (k : Nat), x8 = .int .i64 k ∧ k ≤ xs.length ∧ (∀ j (hj : j < k) (hx : j < xs.length), xs[j].ls ≠ [b1, b2, b3, b4, b5, b6, b7, b8]) ∧ Fresh w wr ∧ wr.heap[w.heap.size]? = some (.cells (wdArr p b1 b2 b3 b4 b5 b6 b7 b8) 80 (0, 0)))
      (fun x _ => 100001 - (intOf x).toNat)
  case atStart => exact ⟨0, rfl, by omega, fun j hj => by omega, (Mod.refl _ w).alloc _, heap_alloc_at _ _⟩
  case round =>
    obtain ⟨k, rfl, hk, hall, hfr, hb⟩ := hrel
    have HA := hid hall
    have HME := hid (meas (B := 100001) k (by omega))
    have HB := hid hb
    have c1 := cellOf hb
    clear hall hb
    by_cases hlt : k < xs.length
    · obtain ⟨g, cap', hv'⟩ := Joins.ownsRow_form HL.out.own (by omega)
      rw [Value.slice.injEq] at hv'
      obtain ⟨rfl, _, rfl⟩ := hv'
      have HL2 := hid (HL.out.fresh hfr)
      have hcells := fun j hj => HL2.out.cell k j hlt hj
      have hA := HX8.out xs[k] (by simp)
      obtain ⟨a1, a2, a3, a4, a5, a6, a7, a8, hls⟩ := eight hA
      have HLS := hid hls
      have d1 : wr.cell? ⟨g, k * 9 + 1, none⟩ = some (.int .u8 a1) := by rw [hcells 1 (by omega)]; simp [Wd.cells, hls]
      have d2 : wr.cell? ⟨g, k * 9 + 2, none⟩ = some (.int .u8 a2) := by rw [hcells 2 (by omega)]; simp [Wd.cells, hls]
      have d3 : wr.cell? ⟨g, k * 9 + 3, none⟩ = some (.int .u8 a3) := by rw [hcells 3 (by omega)]; simp [Wd.cells, hls]
      have d4 : wr.cell? ⟨g, k * 9 + 4, none⟩ = some (.int .u8 a4) := by rw [hcells 4 (by omega)]; simp [Wd.cells, hls]
      have d5 : wr.cell? ⟨g, k * 9 + 5, none⟩ = some (.int .u8 a5) := by rw [hcells 5 (by omega)]; simp [Wd.cells, hls]
      have d6 : wr.cell? ⟨g, k * 9 + 6, none⟩ = some (.int .u8 a6) := by rw [hcells 6 (by omega)]; simp [Wd.cells, hls]
      have d7 : wr.cell? ⟨g, k * 9 + 7, none⟩ = some (.int .u8 a7) := by rw [hcells 7 (by omega)]; simp [Wd.cells, hls]
      have d8 : wr.cell? ⟨g, k * 9 + 8, none⟩ = some (.int .u8 a8) := by rw [hcells 8 (by omega)]; simp [Wd.cells, hls]
      obtain ⟨qq, hqq, q8⟩ : ∃ qq, qq = ([a1, a2, a3, a4, a5, a6, a7, a8] == [b1, b2, b3, b4, b5, b6, b7, b8]) ∧ ∀ w, (Op.equalIn 10000 78 (.agg #[.int .u8 a1, .int .u8 a2, .int .u8 a3, .int .u8 a4, .int .u8 a5, .int .u8 a6, .int .u8 a7, .int .u8 a8]) (.agg #[.int .u8 b1, .int .u8 b2, .int .u8 b3, .int .u8 b4, .int .u8 b5, .int .u8 b6, .int .u8 b7, .int .u8 b8])).run Tryz.prog w = .ok qq w := ⟨_, rfl, fun w => arr8 9998 w a1 a2 a3 a4 a5 a6 a7 a8 b1 b2 b3 b4 b5 b6 b7 b8⟩
      have HQ := hid hqq
      clear hqq
      have g8 := guard8
      clear hcells hA hls
      go_wp2
      go_quiet (fail)
      cases qq
      · clear q8 g8
        go_wp2
        go_roundw
        case rel =>
          refine ⟨k + 1, by go_num, by omega, ?_, Mod.of_heap hfr rfl rfl rfl rfl, HB.out⟩
          intro j hj hx
          by_cases e : j = k
          · subst e; rw [HLS.out]; intro e2; have := HQ.out; rw [e2] at this; simp at this
          · exact HA.out j (by omega) hx
        case measure => exact HME.out
      · clear q8 g8
        go_wp2
        go_ret
        refine ⟨ret_int ?_, Mod.of_heap hfr rfl rfl rfl rfl⟩
        have : wordF xs [b1, b2, b3, b4, b5, b6, b7, b8] = k := by
          unfold wordF
          rw [List.findIdx_eq hlt]
          refine ⟨?_, ?_⟩
          · rw [HLS.out]; exact HQ.out.symm
          · intro j hj; simpa using HA.out j hj (by omega)
        rw [this]
    · have hk2 : k = xs.length := by omega
      subst hk2
      go_wp2
      go_ret
      refine ⟨ret_int ?_, hfr⟩
      have : wordF xs [b1, b2, b3, b4, b5, b6, b7, b8] = xs.length := by
        unfold wordF
        apply List.findIdx_eq_length_of_false
        intro x hx
        obtain ⟨j, hj, rfl⟩ := List.getElem_of_mem hx
        simpa using HA.out j hj hj
      rw [this]
end Go.Proofs.YtcpgklcimacngaaGreat
namespace Go.Proofs.YtcpgklcimacngaaGreat
open Go.RowKit
set_option linter.unusedVariables false
set_option linter.unusedSimpArgs false

theorem infoWd : (Tryz.prog.info? 80).map (fun i => (i.zero, i.size, i.bytes)) = some (some (.agg (Wd.cells ⟨0, zero8⟩).toArray), 9, 16) := by kernel_rfl
theorem infoWd' : ∃ i, Tryz.prog.info? 80 = some i ∧ i.zero = some (.agg (Wd.cells ⟨0, zero8⟩).toArray) ∧ i.size = 9 ∧ i.bytes = 16 := by
  have h := infoWd
  cases hq : Tryz.prog.info? 80 with
  | none => simp [hq] at h
  | some i => simp [hq] at h; exact ⟨i, rfl, h.1, h.2.1, h.2.2⟩
abbrev wdList (p a b c d e f g k : Int) : List Value := [.int .i64 p, .int .u8 a, .int .u8 b, .int .u8 c, .int .u8 d, .int .u8 e, .int .u8 f, .int .u8 g, .int .u8 k]
theorem takeS {α : Type} {xs : List α} {i : Nat} (h : i < xs.length) : xs.take (i + 1) = xs.take i ++ [xs[i]] := by rw [List.take_add_one, List.getElem?_eq_getElem h]; rfl
def frontsOf (lns : List Ln) : List Wd := (lns.filter ruleB).map Ln.front

set_option maxRecDepth 20000 in
set_option maxHeartbeats 8000000 in
theorem fronts_any (w : World) (v : Value) (xs : List LV) (hL : LinesAt w v xs) (hn : xs.length ≤ 1000) (hfb : ∀ x ∈ xs, FB x) :
    Calls Tryz.prog 29 #[v] w fun e w' => ∃ v', e = .returned v' ∧ w'.ownsRow w.heap.size 80 9 v' (frontsOf (xs.map LV.ln)).length (flatC Wd.cells (frontsOf (xs.map LV.ln))) ∧ Fresh w w' := by
  obtain ⟨ao, cap, hv⟩ := own_form hL.own
  subst hv
  have HL := hid hL
  have HFB := hid hfb
  obtain ⟨i0, hi0, hz0, hz1, hz2⟩ := infoWd'
  clear hL hfb
  go_enter Tryz.func29, Tryz.ntmps29
  go_wp2
  go_loopw [3, 4, 7] (fun x3 _ x7 wr => ∃ (i : Nat), x7 = .int .i64 i ∧ i ≤ xs.length ∧ wr.ownsRow w.heap.size 80 9 x3 (frontsOf ((xs.take i).map LV.ln)).length (flatC Wd.cells (frontsOf ((xs.take i).map LV.ln))) ∧ Fresh w wr)
      (fun _ _ x _ => 1001 - (intOf x).toNat)
  case atStart => exact ⟨0, rfl, by omega, World.ownsRow_nil _ _ _ _, Mod.refl _ _⟩
  case round =>
    obtain ⟨i, rfl, hi, hown, hfr⟩ := hrel
    have HME := hid (meas (B := 1001) i (by omega))
    have hlen : (frontsOf ((xs.take i).map LV.ln)).length ≤ 1000 := by
      have := List.length_filter_le ruleB ((xs.take i).map LV.ln)
      simp only [frontsOf, List.length_map, List.length_take] at *
      omega
    have HTS : Hid (∀ hlt : i < xs.length, frontsOf ((xs.take (i + 1)).map LV.ln) = frontsOf ((xs.take i).map LV.ln) ++ (if ruleB xs[i].ln then [xs[i].ln.front] else [])) := by
      intro hlt
      rw [takeS hlt, List.map_append, List.map_singleton]
      unfold frontsOf
      rw [List.filter_append, List.map_append]
      cases h : ruleB xs[i].ln <;> simp only [List.filter_cons, h, if_true, if_false, Bool.false_eq_true, List.filter_nil, List.map_nil, List.map_cons, List.append_nil]
    have HTE : Hid (i = xs.length → (xs.take i) = xs) := fun h => by rw [h, List.take_length]
    generalize hy : frontsOf ((xs.take i).map LV.ln) = ys at *
    have HY := hid hy
    have HO := hid hown
    have HOB := hid hown.lt
    obtain ⟨ro, rc, hro⟩ := own_form hown
    clear hown hy
    subst hro
    by_cases hlt : i < xs.length
    · obtain ⟨g, cap', hv'⟩ := Joins.ownsRow_form HL.out.own (by omega)
      rw [Value.slice.injEq] at hv'
      obtain ⟨rfl, _, rfl⟩ := hv'
      have HL1 := hid (HL.out.fresh hfr)
      have hrg := HL1.out.row.range i hlt
      have hA := HL1.out.each xs[i] (by simp)
      have hFB := HFB.out xs[i] (by simp)
      have HTSS := hid (HTS.out hlt)
      have hrgf := fun w1 (hf : Fresh wr w1) => (HL1.out.fresh hf).frontRange i hlt
      generalize hX : xs[i] = x at *
      clear hX
      have RU0 := fun w => isRule_any x w hA.front hFB
      have hrb : Hid (ruleB x.ln = !headB x.ln.front) := rfl
      rw [← hrb.out] at RU0
      have HAo := hid hA.one
      obtain ⟨⟨⟨pp, ls⟩, sk, nsx, stx, enx, sy⟩, vn, vs⟩ := x
      obtain ⟨a1, a2, a3, a4, a5, a6, a7, a8, e8⟩ := eight hA.front
      dsimp only at e8
      subst e8
      obtain ⟨no, nc, hvn⟩ := own_form hA.nodes.own
      obtain ⟨so, sc, hvs⟩ := own_form hA.syms.own
      dsimp only at hvn hvs
      subst hvn
      subst hvs
      have RU := hid RU0
      have RG : Hid (wr.rangeAt g (i * 14) (lnList pp a1 a2 a3 a4 a5 a6 a7 a8 sk (.slice no nsx.length nc) stx enx (.slice so sy.length sc))) := hrg
      have RGF : Hid (∀ w1, Fresh wr w1 → w1.rangeAt g (i * 14) (wdList pp a1 a2 a3 a4 a5 a6 a7 a8)) := hrgf
      have RU' : Hid (∀ w, Calls Tryz.prog 31 #[.agg (lnArr pp a1 a2 a3 a4 a5 a6 a7 a8 sk (.slice no nsx.length nc) stx enx (.slice so sy.length sc))] w fun e w' => e = .returned (.bool (ruleB ⟨⟨pp, [a1, a2, a3, a4, a5, a6, a7, a8]⟩, sk, nsx, stx, enx, sy⟩)) ∧ Fresh w w') := RU.out
      clear RU0 RU hrg hrgf hA hFB
      cases hr : ruleB ⟨⟨pp, [a1, a2, a3, a4, a5, a6, a7, a8]⟩, sk, nsx, stx, enx, sy⟩
      · rw [hr] at RU' HTSS
        simp only [Bool.false_eq_true, if_false, List.append_nil] at HTSS
        go_wp2_with (first
          | (go_at_call 31; refine (RU'.out _).mono ?_; rintro e w1 ⟨rfl, hf⟩)
          | (refine wpList_load_mid rfl 85 _ rfl g (i * 14) rfl (lnList pp a1 a2 a3 a4 a5 a6 a7 a8 sk (.slice no nsx.length nc) stx enx (.slice so sy.length sc)) _ RG.out Tryz.underlying85 rfl szLine ?_))
        go_roundw
        case rel =>
          refine ⟨i + 1, by go_num, by omega, ?_, hfr.trans hf⟩
          rw [HTSS.out]
          exact ownsRow_other HO.out (fun g hg => hf.block g (HOB.out g hg).2 (fun x => x))
        case measure => exact HME.out
      · rw [hr] at RU' HTSS
        simp only [if_true] at HTSS
        go_wp2_with (first
          | (at_builtin; refine wpList_append_mine _ rfl _ _ 76 rfl w.heap.size 80 i0 _ 9 16 Tryz.underlying76 hi0 hz0 hz1 hz2 rfl (by decide) _ _ _ rfl (HO1.out.alloc _) ⟨w1.heap.size, 0, none⟩ 1 1 (wdList pp a1 a2 a3 a4 a5 a6 a7 a8) rfl rfl (new_cells rfl) (by intro u hu; simp at hu; rcases hu with rfl | rfl | rfl | rfl | rfl | rfl | rfl | rfl | rfl <;> rfl) (by unfold maxLen; omega) (by omega) (by have := hfr.size; simp; omega) ?_)
          | (refine wpList_load_mid rfl 80 _ rfl g (i * 14) rfl (wdList pp a1 a2 a3 a4 a5 a6 a7 a8) _ (RGF.out _ hf) Tryz.underlying80 rfl szWord ?_)
          | (go_at_call 31; refine (RU'.out _).mono ?_; rintro e w1 ⟨rfl, hf⟩; have hz : wr.heap.size ≤ w1.heap.size := hf.size; have HO1 := hid (ownsRow_other HO.out (fun g hg => hf.block g (HOB.out g hg).2 (fun x => x))))
          | (refine wpList_load_mid rfl 85 _ rfl g (i * 14) rfl (lnList pp a1 a2 a3 a4 a5 a6 a7 a8 sk (.slice no nsx.length nc) stx enx (.slice so sy.length sc)) _ RG.out Tryz.underlying85 rfl szLine ?_))
        intro v' w2 hown2 hgrow hblk
        have fr2 : Fresh w w2 := Mod.grown (S := fun _ => False) ((hfr.trans hf).alloc _) hgrow (fun k hk hlt => by have := (HOB.out k hk).1; omega)
        have HO2 := hid hown2
        clear hown2 hgrow hblk
        go_wp2
        go_roundw
        case rel =>
          refine ⟨i + 1, by go_num, by omega, ?_, fr2⟩
          rw [HTSS.out, flat_snoc, List.length_append, List.length_singleton]
          exact HO2.out
        case measure => exact HME.out
    · have hie : i = xs.length := by omega
      have hye := HTE.out hie
      go_wp2
      go_ret
      refine ⟨_, rfl, ?_, hfr⟩
      rw [← hye, HY.out]; exact HO.out
end Go.Proofs.YtcpgklcimacngaaGreat
namespace Go.Proofs.YtcpgklcimacngaaGreat
open Go.RowKit
set_option linter.unusedVariables false
set_option linter.unusedSimpArgs false

def headsL : List Ln → List Wd → List Wd
  | [], hs => hs
  | x :: l, hs => if ruleB x then headsL l hs else if wordF hs x.front.ls < hs.length then headsL l hs else headsL l (hs ++ [x.front])
def headsOf (lns : List Ln) : List Wd := headsL lns []
theorem wordF_le (ds : List Wd) (ls : List Int) : wordF ds ls ≤ ds.length := by unfold wordF; exact List.findIdx_le_length

set_option maxRecDepth 20000 in
set_option maxHeartbeats 8000000 in
theorem heads_any (w : World) (v : Value) (xs : List LV) (hL : LinesAt w v xs) (hn : xs.length ≤ 1000) (hfb : ∀ x ∈ xs, FB x) :
    Calls Tryz.prog 30 #[v] w fun e w' => ∃ v', e = .returned v' ∧ w'.ownsRow w.heap.size 80 9 v' (headsOf (xs.map LV.ln)).length (flatC Wd.cells (headsOf (xs.map LV.ln))) ∧ Fresh w w' ∧ (∀ d ∈ headsOf (xs.map LV.ln), d.ls.length = 8) ∧ (headsOf (xs.map LV.ln)).length ≤ xs.length := by
  obtain ⟨ao, cap, hv⟩ := own_form hL.own
  subst hv
  have HL := hid hL
  have HFB := hid hfb
  obtain ⟨i0, hi0, hz0, hz1, hz2⟩ := infoWd'
  generalize hRES : headsOf (xs.map LV.ln) = RES
  have HR := hid hRES
  clear hL hfb hRES
  go_enter Tryz.func30, Tryz.ntmps30
  go_wp2
  go_loopw [3, 4, 5, 8] (fun x3 _ _ x8 wr => ∃ (i : Nat) (acc : List Wd), x8 = .int .i64 i ∧ i ≤ xs.length ∧ acc.length ≤ i ∧ (∀ d ∈ acc, d.ls.length = 8) ∧ headsL ((xs.drop i).map LV.ln) acc = RES ∧ wr.ownsRow w.heap.size 80 9 x3 acc.length (flatC Wd.cells acc) ∧ Fresh w wr)
      (fun _ _ _ x _ => 1001 - (intOf x).toNat)
  case atStart => exact ⟨0, [], rfl, by omega, by simp, by simp, HR.out, World.ownsRow_nil _ _ _ _, Mod.refl _ _⟩
  case round =>
    obtain ⟨i, ys, rfl, hi, hlen, h8, hres, hown, hfr⟩ := hrel
    have HME := hid (meas (B := 1001) i (by omega))
    have HO := hid hown
    have HOB := hid hown.lt
    have H8 := hid h8
    obtain ⟨ro, rc, hro⟩ := own_form hown
    clear hown h8
    subst hro
    by_cases hlt : i < xs.length
    · rw [List.drop_eq_getElem_cons hlt, List.map_cons] at hres
      unfold headsL at hres
      obtain ⟨g, cap', hv'⟩ := Joins.ownsRow_form HL.out.own (by omega)
      rw [Value.slice.injEq] at hv'
      obtain ⟨rfl, _, rfl⟩ := hv'
      have HL1 := hid (HL.out.fresh hfr)
      have hrg := HL1.out.row.range i hlt
      have hA := HL1.out.each xs[i] (by simp)
      have hFB := HFB.out xs[i] (by simp)
      have hrgf := fun w1 (hf : Fresh wr w1) => (HL1.out.fresh hf).frontRange i hlt
      generalize hX : xs[i] = x at hres hrg hA hFB hrgf
      clear hX
      have RU0 := fun w => isRule_any x w hA.front hFB
      have hrb : Hid (ruleB x.ln = !headB x.ln.front) := rfl
      rw [← hrb.out] at RU0
      have FW0 := fun (w : World) (v : Value) (h : SymsAt w v ys) => findWord_any w v ys x.ln.front h H8.out (by omega) hA.front
      have HAo := hid hA.one
      obtain ⟨⟨⟨pp, ls⟩, sk, nsx, stx, enx, sy⟩, vn, vs⟩ := x
      obtain ⟨a1, a2, a3, a4, a5, a6, a7, a8, e8⟩ := eight hA.front
      dsimp only at e8
      subst e8
      obtain ⟨no, nc, hvn⟩ := own_form hA.nodes.own
      obtain ⟨so, sc, hvs⟩ := own_form hA.syms.own
      dsimp only at hvn hvs
      subst hvn
      subst hvs
      have RU := hid RU0
      have RG : Hid (wr.rangeAt g (i * 14) (lnList pp a1 a2 a3 a4 a5 a6 a7 a8 sk (.slice no nsx.length nc) stx enx (.slice so sy.length sc))) := hrg
      have RGF : Hid (∀ w1, Fresh wr w1 → w1.rangeAt g (i * 14) (wdList pp a1 a2 a3 a4 a5 a6 a7 a8)) := hrgf
      have RU' : Hid (∀ w, Calls Tryz.prog 31 #[.agg (lnArr pp a1 a2 a3 a4 a5 a6 a7 a8 sk (.slice no nsx.length nc) stx enx (.slice so sy.length sc))] w fun e w' => e = .returned (.bool (ruleB ⟨⟨pp, [a1, a2, a3, a4, a5, a6, a7, a8]⟩, sk, nsx, stx, enx, sy⟩)) ∧ Fresh w w') := RU.out
      have FW : Hid (∀ (w : World) (v : Value), SymsAt w v ys → Calls Tryz.prog 54 #[v, .agg (wdArr pp a1 a2 a3 a4 a5 a6 a7 a8)] w fun e w' => e = .returned (.int .i64 (wordF ys [a1, a2, a3, a4, a5, a6, a7, a8])) ∧ Fresh w w') := FW0
      clear RU0 RU hrg hrgf hA hFB FW0
      dsimp only at hres
      cases hr : ruleB ⟨⟨pp, [a1, a2, a3, a4, a5, a6, a7, a8]⟩, sk, nsx, stx, enx, sy⟩
      · rw [hr] at RU' hres
        simp only [Bool.false_eq_true, if_false] at hres
        have hwl := wordF_le ys [a1, a2, a3, a4, a5, a6, a7, a8]
        generalize wordF ys [a1, a2, a3, a4, a5, a6, a7, a8] = wf at hres FW hwl
        have HSY : Hid (∀ w1, Fresh wr w1 → SymsAt w1 (.slice ro ys.length rc) ys) := fun w1 hf => ⟨ownsRow_base (ownsRow_other HO.out (fun g hg => hf.block g (HOB.out g hg).2 (fun x => x))) (Nat.zero_le _), fun x hx => Wd.cells_len (H8.out x hx)⟩
        by_cases hwf : wf < ys.length
        · rw [if_pos hwf] at hres
          have HRES := hid hres
          have hw1 : ((wf : Int) == (ys.length : Int)) = false := by simp; omega
          clear hres
          go_wp2_with (first
            | (go_at_call 54; refine (FW.out _ _ (HSY.out _ hf)).mono ?_; rintro e w2 ⟨rfl, hf2⟩)
            | (refine wpList_load_mid rfl 80 _ rfl g (i * 14) rfl (wdList pp a1 a2 a3 a4 a5 a6 a7 a8) _ (RGF.out _ hf) Tryz.underlying80 rfl szWord ?_)
            | (go_at_call 31; refine (RU'.out _).mono ?_; rintro e w1 ⟨rfl, hf⟩)
            | (refine wpList_load_mid rfl 85 _ rfl g (i * 14) rfl (lnList pp a1 a2 a3 a4 a5 a6 a7 a8 sk (.slice no nsx.length nc) stx enx (.slice so sy.length sc)) _ RG.out Tryz.underlying85 rfl szLine ?_))
          go_roundw
          case rel =>
            refine ⟨i + 1, ys, by go_num, by omega, by omega, H8.out, HRES.out, ?_, (hfr.trans hf).trans hf2⟩
            exact ownsRow_other HO.out (fun g hg => (hf.trans hf2).block g (HOB.out g hg).2 (fun x => x))
          case measure => exact HME.out
        · rw [if_neg hwf] at hres
          have HRES := hid hres
          have hwe : wf = ys.length := by omega
          subst hwe
          clear hres
          go_wp2_with (first
            | (at_builtin; refine wpList_append_mine _ rfl _ _ 76 rfl w.heap.size 80 i0 _ 9 16 Tryz.underlying76 hi0 hz0 hz1 hz2 rfl (by decide) _ _ _ rfl (HO1.out.alloc _) ⟨w2.heap.size, 0, none⟩ 1 1 (wdList pp a1 a2 a3 a4 a5 a6 a7 a8) rfl rfl (new_cells rfl) (by intro u hu; simp at hu; rcases hu with rfl | rfl | rfl | rfl | rfl | rfl | rfl | rfl | rfl <;> rfl) (by unfold maxLen; omega) (by omega) (by have := hfr.size; have := hf.size; have := hf2.size; simp; omega) ?_)
            | (refine wpList_load_mid rfl 80 _ rfl g (i * 14) rfl (wdList pp a1 a2 a3 a4 a5 a6 a7 a8) _ (RGF.out _ (hf.trans hf2)) Tryz.underlying80 rfl szWord ?_)
            | (go_at_call 54; refine (FW.out _ _ (HSY.out _ hf)).mono ?_; rintro e w2 ⟨rfl, hf2⟩; have HO1 := hid (ownsRow_other HO.out (fun g hg => (hf.trans hf2).block g (HOB.out g hg).2 (fun x => x))))
            | (refine wpList_load_mid rfl 80 _ rfl g (i * 14) rfl (wdList pp a1 a2 a3 a4 a5 a6 a7 a8) _ (RGF.out _ hf) Tryz.underlying80 rfl szWord ?_)
            | (go_at_call 31; refine (RU'.out _).mono ?_; rintro e w1 ⟨rfl, hf⟩)
            | (refine wpList_load_mid rfl 85 _ rfl g (i * 14) rfl (lnList pp a1 a2 a3 a4 a5 a6 a7 a8 sk (.slice no nsx.length nc) stx enx (.slice so sy.length sc)) _ RG.out Tryz.underlying85 rfl szLine ?_))
          intro v' w3 hown2 hgrow hblk
          have fr2 : Fresh w w3 := Mod.grown (S := fun _ => False) (((hfr.trans hf).trans hf2).alloc _) hgrow (fun k hk hlt => by have := (HOB.out k hk).1; omega)
          have HO2 := hid hown2
          clear hown2 hgrow hblk
          go_wp2
          go_roundw
          case rel =>
            refine ⟨i + 1, ys ++ [⟨pp, [a1, a2, a3, a4, a5, a6, a7, a8]⟩], by go_num, by omega, by simp; omega, ?_, HRES.out, ?_, fr2⟩
            · intro d hd
              simp only [List.mem_append, List.mem_singleton] at hd
              rcases hd with hd | rfl
              · exact H8.out d hd
              · rfl
            · rw [flat_snoc, List.length_append, List.length_singleton]
              exact HO2.out
          case measure => exact HME.out
      · rw [hr] at RU' hres
        simp only [if_true] at hres
        have HRES := hid hres
        clear hres
        go_wp2_with (first
          | (go_at_call 31; refine (RU'.out _).mono ?_; rintro e w1 ⟨rfl, hf⟩)
          | (refine wpList_load_mid rfl 85 _ rfl g (i * 14) rfl (lnList pp a1 a2 a3 a4 a5 a6 a7 a8 sk (.slice no nsx.length nc) stx enx (.slice so sy.length sc)) _ RG.out Tryz.underlying85 rfl szLine ?_))
        go_roundw
        case rel =>
          refine ⟨i + 1, ys, by go_num, by omega, by omega, H8.out, HRES.out, ?_, hfr.trans hf⟩
          exact ownsRow_other HO.out (fun g hg => hf.block g (HOB.out g hg).2 (fun x => x))
        case measure => exact HME.out
    · have hie : i = xs.length := by omega
      rw [hie, List.drop_length] at hres
      have hres2 : ys = RES := hres
      subst hres2
      clear hres
      go_wp2
      go_ret
      exact ⟨_, rfl, HO.out, hfr, H8.out, by omega⟩
end Go.Proofs.YtcpgklcimacngaaGreat
