import Derived.Test.YteneagnhihcljaaGreatDoorTw6
import Derived.Deep.DeepCutAuto
import Derived.Deep.RegionWith
namespace Go.Proofs.YteneagnhihcljaaGreatDoor
open Go.RowKit
set_option linter.unusedVariables false
set_option linter.unusedSimpArgs false

/-- what is wanted, beginning with what is there already -/
def wanL (hs : List Hd) (R : Nat) : List Sy → List Bool → List Bool
  | [], acc => withT acc R
  | s :: l, acc => if (begF hs [s] zero9).2 then wanL hs R l (orL acc (begF hs [s] zero9).1) else orL acc (begF hs [s] zero9).1
theorem orL_zero {a : List Bool} (h : a.length = 9) : orL a zero9 = a := by
  obtain ⟨a0, a1, a2, a3, a4, a5, a6, a7, a8, rfl⟩ := nine h
  simp [orL, zero9]
theorem zero_orL {a : List Bool} (h : a.length = 9) : orL zero9 a = a := by
  obtain ⟨a0, a1, a2, a3, a4, a5, a6, a7, a8, rfl⟩ := nine h
  simp [orL, zero9]
theorem orL_with {a : List Bool} (h : a.length = 9) (n : Int) : orL a (withT zero9 n) = withT a n := by
  unfold withT
  split
  · rename_i hn
    obtain ⟨k, rfl⟩ : ∃ k : Nat, n = k := ⟨n.toNat, by omega⟩
    rw [Int.toNat_natCast]
    have hk : k < 9 := by omega
    obtain ⟨a0, a1, a2, a3, a4, a5, a6, a7, a8, rfl⟩ := nine h
    rcases k with _ | _ | _ | _ | _ | _ | _ | _ | _ | k
    all_goals first | (simp [orL, zero9]; done) | omega
  · exact orL_zero h
theorem wanL_eq {hs : List Hd} (hok : ∀ x ∈ hs, x.ok) (R : Nat) : ∀ (k : List Sy) (acc : List Bool), acc.length = 9 → wanL hs R k acc = if (begF hs k acc).2 then withT (begF hs k acc).1 R else (begF hs k acc).1
  | [], acc, _ => rfl
  | s :: l, acc, ha => by
    unfold wanL
    have hf := (getH_ok hok s.num).fi
    cases h1 : s.isH
    · have e1 : begF hs [s] zero9 = (withT zero9 s.num, false) := by simp [begF, h1]
      have e2 : begF hs (s :: l) acc = (withT acc s.num, false) := by simp [begF, h1]
      rw [e1, e2]
      simp only [Bool.false_eq_true, if_false]
      exact orL_with ha _
    · cases h2 : (getH hs s.num).nul
      · have e1 : begF hs [s] zero9 = (orL zero9 (getH hs s.num).fi, false) := by simp [begF, h1, h2]
        have e2 : begF hs (s :: l) acc = (orL acc (getH hs s.num).fi, false) := by simp [begF, h1, h2]
        rw [e1, e2, zero_orL hf]
        simp
      · have e1 : begF hs [s] zero9 = (orL zero9 (getH hs s.num).fi, true) := by simp [begF, h1, h2]
        have e2 : begF hs (s :: l) acc = begF hs l (orL acc (getH hs s.num).fi) := by simp [begF, h1, h2]
        rw [e1, e2, zero_orL hf]
        simp only [if_true]
        exact wanL_eq hok R l _ (orL_len ha hf)

theorem nine_store {S : Nat → Prop} {wr w1 : World} {p : Nat} (c0 c1 c2 c3 c4 c5 c6 c7 c8 : Bool) (hA : w1.heap[p]? = some (.cells (nineA c0 c1 c2 c3 c4 c5 c6 c7 c8) 110 (0, 0))) (hm : Mod S wr w1) (hp : p < wr.heap.size → S p) (a0 a1 a2 a3 a4 a5 a6 a7 a8 : Bool) :
    Mod S wr (((((((((w1.setCell ⟨p, 0, none⟩ (.bool a0)).setCell ⟨p, 1, none⟩ (.bool a1)).setCell ⟨p, 2, none⟩ (.bool a2)).setCell ⟨p, 3, none⟩ (.bool a3)).setCell ⟨p, 4, none⟩ (.bool a4)).setCell ⟨p, 5, none⟩ (.bool a5)).setCell ⟨p, 6, none⟩ (.bool a6)).setCell ⟨p, 7, none⟩ (.bool a7)).setCell ⟨p, 8, none⟩ (.bool a8)) ∧ (((((((((w1.setCell ⟨p, 0, none⟩ (.bool a0)).setCell ⟨p, 1, none⟩ (.bool a1)).setCell ⟨p, 2, none⟩ (.bool a2)).setCell ⟨p, 3, none⟩ (.bool a3)).setCell ⟨p, 4, none⟩ (.bool a4)).setCell ⟨p, 5, none⟩ (.bool a5)).setCell ⟨p, 6, none⟩ (.bool a6)).setCell ⟨p, 7, none⟩ (.bool a7)).setCell ⟨p, 8, none⟩ (.bool a8)).heap[p]? = some (.cells (nineA a0 a1 a2 a3 a4 a5 a6 a7 a8) 110 (0, 0)) := by
  refine ⟨((((((((hm.setCell hp _).setCell hp _).setCell hp _).setCell hp _).setCell hp _).setCell hp _).setCell hp _).setCell hp _).setCell hp _, ?_⟩
  have h0 : (w1.setCell ⟨p, 0, none⟩ (.bool a0)).heap[p]? = some (.cells (nineA a0 c1 c2 c3 c4 c5 c6 c7 c8) 110 (0, 0)) := Proofs.YteneagnhihcljaaGreatDoor.heap_setCell_same hA 0 (.bool a0)
  have h1 : ((w1.setCell ⟨p, 0, none⟩ (.bool a0)).setCell ⟨p, 1, none⟩ (.bool a1)).heap[p]? = some (.cells (nineA a0 a1 c2 c3 c4 c5 c6 c7 c8) 110 (0, 0)) := Proofs.YteneagnhihcljaaGreatDoor.heap_setCell_same h0 1 (.bool a1)
  have h2 : (((w1.setCell ⟨p, 0, none⟩ (.bool a0)).setCell ⟨p, 1, none⟩ (.bool a1)).setCell ⟨p, 2, none⟩ (.bool a2)).heap[p]? = some (.cells (nineA a0 a1 a2 c3 c4 c5 c6 c7 c8) 110 (0, 0)) := Proofs.YteneagnhihcljaaGreatDoor.heap_setCell_same h1 2 (.bool a2)
  have h3 : ((((w1.setCell ⟨p, 0, none⟩ (.bool a0)).setCell ⟨p, 1, none⟩ (.bool a1)).setCell ⟨p, 2, none⟩ (.bool a2)).setCell ⟨p, 3, none⟩ (.bool a3)).heap[p]? = some (.cells (nineA a0 a1 a2 a3 c4 c5 c6 c7 c8) 110 (0, 0)) := Proofs.YteneagnhihcljaaGreatDoor.heap_setCell_same h2 3 (.bool a3)
  have h4 : (((((w1.setCell ⟨p, 0, none⟩ (.bool a0)).setCell ⟨p, 1, none⟩ (.bool a1)).setCell ⟨p, 2, none⟩ (.bool a2)).setCell ⟨p, 3, none⟩ (.bool a3)).setCell ⟨p, 4, none⟩ (.bool a4)).heap[p]? = some (.cells (nineA a0 a1 a2 a3 a4 c5 c6 c7 c8) 110 (0, 0)) := Proofs.YteneagnhihcljaaGreatDoor.heap_setCell_same h3 4 (.bool a4)
  have h5 : ((((((w1.setCell ⟨p, 0, none⟩ (.bool a0)).setCell ⟨p, 1, none⟩ (.bool a1)).setCell ⟨p, 2, none⟩ (.bool a2)).setCell ⟨p, 3, none⟩ (.bool a3)).setCell ⟨p, 4, none⟩ (.bool a4)).setCell ⟨p, 5, none⟩ (.bool a5)).heap[p]? = some (.cells (nineA a0 a1 a2 a3 a4 a5 c6 c7 c8) 110 (0, 0)) := Proofs.YteneagnhihcljaaGreatDoor.heap_setCell_same h4 5 (.bool a5)
  have h6 : (((((((w1.setCell ⟨p, 0, none⟩ (.bool a0)).setCell ⟨p, 1, none⟩ (.bool a1)).setCell ⟨p, 2, none⟩ (.bool a2)).setCell ⟨p, 3, none⟩ (.bool a3)).setCell ⟨p, 4, none⟩ (.bool a4)).setCell ⟨p, 5, none⟩ (.bool a5)).setCell ⟨p, 6, none⟩ (.bool a6)).heap[p]? = some (.cells (nineA a0 a1 a2 a3 a4 a5 a6 c7 c8) 110 (0, 0)) := Proofs.YteneagnhihcljaaGreatDoor.heap_setCell_same h5 6 (.bool a6)
  have h7 : ((((((((w1.setCell ⟨p, 0, none⟩ (.bool a0)).setCell ⟨p, 1, none⟩ (.bool a1)).setCell ⟨p, 2, none⟩ (.bool a2)).setCell ⟨p, 3, none⟩ (.bool a3)).setCell ⟨p, 4, none⟩ (.bool a4)).setCell ⟨p, 5, none⟩ (.bool a5)).setCell ⟨p, 6, none⟩ (.bool a6)).setCell ⟨p, 7, none⟩ (.bool a7)).heap[p]? = some (.cells (nineA a0 a1 a2 a3 a4 a5 a6 a7 c8) 110 (0, 0)) := Proofs.YteneagnhihcljaaGreatDoor.heap_setCell_same h6 7 (.bool a7)
  have h8 : (((((((((w1.setCell ⟨p, 0, none⟩ (.bool a0)).setCell ⟨p, 1, none⟩ (.bool a1)).setCell ⟨p, 2, none⟩ (.bool a2)).setCell ⟨p, 3, none⟩ (.bool a3)).setCell ⟨p, 4, none⟩ (.bool a4)).setCell ⟨p, 5, none⟩ (.bool a5)).setCell ⟨p, 6, none⟩ (.bool a6)).setCell ⟨p, 7, none⟩ (.bool a7)).setCell ⟨p, 8, none⟩ (.bool a8)).heap[p]? = some (.cells (nineA a0 a1 a2 a3 a4 a5 a6 a7 a8) 110 (0, 0)) := Proofs.YteneagnhihcljaaGreatDoor.heap_setCell_same h7 8 (.bool a8)
  exact h8

set_option maxRecDepth 20000 in
set_option maxHeartbeats 4000000 in
theorem wanted_any (w : World) (gb fb : Nat) (L : List Int) (R H : Nat) (vp vh : Value) (ps : List PV) (hs : List Hd) (k : List Sy) (v : Value) (base : Nat)
    (hb : w.heap[gb]? = some (.cells (gdA (bptr fb) L) 108 (0, 0))) (hF : FA w fb R H vp vh ps hs) (hk : SyOwn w base v k.reverse) (hkl : k.length ≤ 10000000) (hR : R ≤ 8) :
    Calls Tryz.prog 31 #[bptr gb, v] w fun e w' => ∃ v', e = .returned v' ∧ Fresh w w' ∧ IntOwn w' w.heap.size v' (listT (wanB hs R k)) := by
  have HW : Hid (wanL hs R k zero9 = wanB hs R k) := by unfold Hid; rw [wanL_eq hF.ok R k zero9 rfl]; rfl
  rw [← HW.out]
  have hkr : k = k.reverse.reverse := by simp
  have hklr : k.reverse.length ≤ 10000000 := by simpa using hkl
  rw [hkr]
  generalize k.reverse = l at hk hklr
  clear hkr hkl HW
  unfold SyOwn at hk
  obtain ⟨ka, kc, hvk⟩ := own_form hk
  subst hvk
  have HF := hid hF
  have HB := hid hb
  have HK := hid hk
  have HOK := hid hF.ok
  generalize hRES : wanL hs R l.reverse zero9 = RES
  have HRES := hid hRES
  have hgl := heap_lt hb
  have hfl := heap_lt hF.blk
  clear hb hF hk hRES
  go_enter Tryz.func31, Tryz.ntmps31
  go_wp2
  go_loopw [6] (fun x6 wr => ∃ (m : Nat) (q : Int) (acc : List Bool), x6 = .int .i64 q ∧ q = (m : Int) - 1 ∧ m ≤ l.length ∧ wanL hs R (l.take m).reverse acc = RES ∧ acc.length = 9 ∧ Fresh w wr ∧ wr.heap[w.heap.size]? = some (.cells (tkA acc) 110 (0, 0)))
      (fun x _ => (intOf x + 1).toNat)
  case atStart => exact ⟨l.length, _, zero9, rfl, rfl, Nat.le_refl _, by rw [List.take_length]; exact HRES.out, rfl, (Mod.refl _ w).alloc _, by rw [heap_alloc_at]; rfl⟩
  case round =>
    obtain ⟨m, q, acc, rfl, hq, hm, hres, hacc, hfr, hbx⟩ := hrel
    have HFR := hid hfr
    have HBX := hid hbx
    have HAC := hid hacc
    have g0 : wr.cell? ⟨gb, 0, none⟩ = some (bptr fb) := by
      have := cellOf (hfr.at HB.out (fun x => x)) 0
      rw [this]; rfl
    have hwl := heap_lt hbx
    have hgw : gb < wr.heap.size := by have := hfr.size; omega
    have hfw : fb < wr.heap.size := by have := hfr.size; omega
    clear hfr hbx hacc
    by_cases hm0 : m = 0
    · have hq0 : q = -1 := by omega
      subst hq0
      subst hm0
      simp only [List.take_zero, List.reverse_nil, wanL] at hres
      have HRS := hid hres
      have r0 : wr.cell? ⟨fb, 0, none⟩ = some (.int .i64 R) := by
        have := (HF.out.fresh HFR.out).cell 0
        rw [this]; rfl
      clear hres hq
      obtain ⟨c0, c1, c2, c3, c4, c5, c6, c7, c8, e9⟩ := nine HAC.out
      subst e9
      have hWL := withT_len (n := (R : Int)) (show [c0, c1, c2, c3, c4, c5, c6, c7, c8].length = 9 from rfl)
      have TW : Hid (∀ W : World, Calls Tryz.prog 48 #[.agg (nineA c0 c1 c2 c3 c4 c5 c6 c7 c8), .int .i64 R] W fun e w' => e = .returned (.agg (tkA (withT [c0, c1, c2, c3, c4, c5, c6, c7, c8] R))) ∧ Fresh W w') := fun W => twith_any W [c0, c1, c2, c3, c4, c5, c6, c7, c8] R rfl
      generalize withT [c0, c1, c2, c3, c4, c5, c6, c7, c8] (R : Int) = wt at hWL TW HRS
      obtain ⟨d0, d1, d2, d3, d4, d5, d6, d7, d8, e9⟩ := nine hWL
      subst e9
      have TW2 : Hid (∀ W : World, Calls Tryz.prog 48 #[.agg (nineA c0 c1 c2 c3 c4 c5 c6 c7 c8), .int .i64 R] W fun e w' => e = .returned (.agg (nineA d0 d1 d2 d3 d4 d5 d6 d7 d8)) ∧ Fresh W w') := TW.out
      have hB0 : wr.heap[w.heap.size]? = some (.cells (nineA c0 c1 c2 c3 c4 c5 c6 c7 c8) 110 (0, 0)) := HBX.out
      have HB0 := hid hB0
      have x0 := cellOf hB0 0
      have x1 := cellOf hB0 1
      have x2 := cellOf hB0 2
      have x3 := cellOf hB0 3
      have x4 := cellOf hB0 4
      have x5 := cellOf hB0 5
      have x6 := cellOf hB0 6
      have x7 := cellOf hB0 7
      have x8 := cellOf hB0 8
      simp at x0 x1 x2 x3 x4 x5 x6 x7 x8
      clear TW hWL hB0
      go_upto_region 9 with fail
      go_cut [] (fun wx => Fresh w wx ∧ wx.heap[w.heap.size]? = some (.cells (nineA d0 d1 d2 d3 d4 d5 d6 d7 d8) 110 (0, 0)))
      case first =>
        go_region_with (first
          | (go_at_call 48; refine (TW2.out _).mono ?_; rintro e w1 ⟨rfl, hf1⟩; have hA := hf1.at HB0.out (fun x => x); have ca0 : w1.cell? ⟨w.heap.size, 0, none⟩ = some (.bool c0) := cellOf hA 0; have ca1 : w1.cell? ⟨w.heap.size, 1, none⟩ = some (.bool c1) := cellOf hA 1; have ca2 : w1.cell? ⟨w.heap.size, 2, none⟩ = some (.bool c2) := cellOf hA 2; have ca3 : w1.cell? ⟨w.heap.size, 3, none⟩ = some (.bool c3) := cellOf hA 3; have ca4 : w1.cell? ⟨w.heap.size, 4, none⟩ = some (.bool c4) := cellOf hA 4; have ca5 : w1.cell? ⟨w.heap.size, 5, none⟩ = some (.bool c5) := cellOf hA 5; have ca6 : w1.cell? ⟨w.heap.size, 6, none⟩ = some (.bool c6) := cellOf hA 6; have ca7 : w1.cell? ⟨w.heap.size, 7, none⟩ = some (.bool c7) := cellOf hA 7; have ca8 : w1.cell? ⟨w.heap.size, 8, none⟩ = some (.bool c8) := cellOf hA 8; have fa := fun o => frozenOf hA o))
        all_goals
          go_wp2_with fail
          go_meet
          exact nine_store _ _ _ _ _ _ _ _ _ hA (HFR.out.trans (Mod.trans (Mod.drew (Mod.refl _ wr)) hf1)) (fun h => absurd h (Nat.lt_irrefl _)) d0 d1 d2 d3 d4 d5 d6 d7 d8
      case rest =>
        obtain ⟨hfx, hbx⟩ := hcut
        have HFX := hid hfx
        have HB9 := hid hbx
        clear hfx hbx x0 x1 x2 x3 x4 x5 x6 x7 x8 g0 r0
        go_wp2_with (first
          | (go_at_call 47; refine (tlist_any _ [d0, d1, d2, d3, d4, d5, d6, d7, d8] rfl).mono ?_; rintro e w3 ⟨v3, rfl, hf3, ho3⟩)
          | (refine wpList_load_row rfl 110 _ rfl w.heap.size rfl _ (nineA d0 d1 d2 d3 d4 d5 d6 d7 d8) _ _ HB9.out Tryz.underlying110 rfl szTks ?_))
        go_ret
        refine ⟨v3, rfl, HFX.out.trans hf3, ?_⟩
        rw [← HRS.out]
        exact ownsRow_base ho3 HFX.out.size
    · obtain ⟨m', rfl⟩ : ∃ m', m = m' + 1 := ⟨m - 1, by omega⟩
      have hqe : q = (m' : Int) := by omega
      clear hq
      subst hqe
      have hml : m' < l.length := by omega
      have hm1 : (m' : Int) < (l.length : Int) := by omega
      have HME : Hid (((m' : Int) - 1 + 1).toNat < ((m' : Int) + 1).toNat) := by unfold Hid; omega
      rw [takeS hml, List.reverse_append, List.reverse_singleton, List.singleton_append] at hres
      unfold wanL at hres
      obtain ⟨g, cap', hv'⟩ := Joins.ownsRow_form HK.out (by omega)
      rw [Value.slice.injEq] at hv'
      obtain ⟨rfl, _, rfl⟩ := hv'
      have hkc : l.length ≤ kc := by
        rcases HK.out.2 with ⟨h1, _⟩ | ⟨g', c', cur, h1, _, _, h2, _⟩
        · cases h1
        · rw [Value.slice.injEq] at h1
          obtain ⟨_, _, rfl⟩ := h1
          exact h2
      have hcm : kc ≤ maxLen := by
        rcases HK.out.2 with ⟨h1, _⟩ | ⟨g', c', cur, h1, _, _, _, h2, _⟩
        · cases h1
        · rw [Value.slice.injEq] at h1
          obtain ⟨_, _, rfl⟩ := h1
          exact h2
      unfold maxLen at hcm
      have hkc1 : (m' : Int) + 1 ≤ (kc : Int) := by omega
      have hkc2 : ¬ kc = m' := by omega
      have hwr : IntKind.i64.wrap ((m' : Int) + 1) = (m' : Int) + 1 := by rw [IntKind.wrap_i64]; omega
      have hBL := begF_len HOK.out [l[m']] zero9 rfl
      have BA : Hid (∀ W : World, Fresh w W → Calls Tryz.prog 45 #[bptr fb, .slice (some ⟨g, m' * 2, none⟩) 1 (kc - m')] W fun e w' => e = .returned (.tuple #[.agg (tkA (begF hs [l[m']] zero9).1), .bool (begF hs [l[m']] zero9).2]) ∧ Fresh W w') := fun W hW =>
        begin_any W fb R H vp vh ps hs w.heap.size _ [l[m']] (HF.out.fresh hW) hW.size ⟨some ⟨g, m' * 2, none⟩, kc - m', rfl, by simp; omega, by unfold maxLen; omega, fun i hi => by
          have hi0 : i = 0 := by simpa using hi
          subst hi0
          refine ⟨g, m' * 2, rfl, (HK.out.lt g rfl).2, ?_⟩
          have hrow : RowAt Sy.cells 2 84 w (.slice (some ⟨g, 0, none⟩) l.length kc) l := ⟨ownsRow_base HK.out (Nat.zero_le _), fun _ _ => rfl⟩
          have := hrow.range m' hml
          simpa using rangeAt_block this (hW.block g (HK.out.lt g rfl).2 (fun x => x))⟩
      generalize begF hs [l[m']] zero9 = bg at hres hBL BA
      obtain ⟨b1, b2⟩ := bg
      dsimp only at hres hBL BA
      obtain ⟨a0, a1, a2, a3, a4, a5, a6, a7, a8, e9⟩ := nine hBL
      subst e9
      have BA2 : Hid (∀ W : World, Fresh w W → Calls Tryz.prog 45 #[bptr fb, .slice (some ⟨g, m' * 2, none⟩) 1 (kc - m')] W fun e w' => e = .returned (.tuple #[.agg (nineA a0 a1 a2 a3 a4 a5 a6 a7 a8), .bool b2]) ∧ Fresh W w') := BA.out
      have HRS := hid hres
      clear hres BA
      go_upto_region 5 with fail
      go_cut [7, 8] (fun s7 s8 wx => ∃ p, s7 = .pointer (some ⟨p, 0, none⟩) ∧ s8 = .bool b2 ∧ Fresh wr wx ∧ wr.heap.size ≤ p ∧ wx.heap[p]? = some (.cells (nineA a0 a1 a2 a3 a4 a5 a6 a7 a8) 110 (0, 0)))
      case first =>
        go_region_with (first
          | (go_at_call 45; refine (BA2.out _ (by first | exact HFR.out.drew | exact (HFR.out.alloc _).drew | exact (HFR.out.drew).alloc _ | exact HFR.out)).mono ?_; rintro e w1 ⟨rfl, hf1⟩; (try (have hA : w1.heap[wr.heap.size]? = some (.cells #[.bool false, .bool false, .bool false, .bool false, .bool false, .bool false, .bool false, .bool false, .bool false] 110 (0, 0)) := hf1.at (heap_alloc_at wr _) (fun x => x); have ca0 : w1.cell? ⟨wr.heap.size, 0, none⟩ = some (.bool false) := cellOf hA 0; have ca1 : w1.cell? ⟨wr.heap.size, 1, none⟩ = some (.bool false) := cellOf hA 1; have ca2 : w1.cell? ⟨wr.heap.size, 2, none⟩ = some (.bool false) := cellOf hA 2; have ca3 : w1.cell? ⟨wr.heap.size, 3, none⟩ = some (.bool false) := cellOf hA 3; have ca4 : w1.cell? ⟨wr.heap.size, 4, none⟩ = some (.bool false) := cellOf hA 4; have ca5 : w1.cell? ⟨wr.heap.size, 5, none⟩ = some (.bool false) := cellOf hA 5; have ca6 : w1.cell? ⟨wr.heap.size, 6, none⟩ = some (.bool false) := cellOf hA 6; have ca7 : w1.cell? ⟨wr.heap.size, 7, none⟩ = some (.bool false) := cellOf hA 7; have ca8 : w1.cell? ⟨wr.heap.size, 8, none⟩ = some (.bool false) := cellOf hA 8; have fa := fun o => frozenOf hA o))))
        all_goals
          go_wp2_with fail
          go_meet
          first
            | (have stage := hA; exact ⟨wr.heap.size, rfl, rfl, (nine_store _ _ _ _ _ _ _ _ _ hA (((Mod.refl _ wr).alloc _).drew.trans hf1) (fun h => absurd h (Nat.lt_irrefl _)) a0 a1 a2 a3 a4 a5 a6 a7 a8).1, Nat.le_refl _, (nine_store _ _ _ _ _ _ _ _ _ hA (((Mod.refl (fun _ => False) wr).alloc _).drew.trans hf1) (fun h => absurd h (Nat.lt_irrefl _)) a0 a1 a2 a3 a4 a5 a6 a7 a8).2⟩)
            | exact ⟨w1.heap.size, rfl, rfl, ((Mod.drew (Mod.refl _ wr)).trans hf1).alloc _, ((Mod.drew (Mod.refl (fun _ => False) wr)).trans hf1).size, heap_alloc_at _ _⟩
      case rest =>
        obtain ⟨p, rfl, rfl, hfx, hp, hbp⟩ := hcut
        have HB5 := hid (hfx.at HBX.out (fun x => x))
        have HB7 := hid hbp
        have HFX := hid hfx
        have HFW : Hid (Fresh w wc) := HFR.out.trans hfx
        have hwc := heap_lt HB5.out
        have TU := hid (tunion_any wc acc [a0, a1, a2, a3, a4, a5, a6, a7, a8] HAC.out rfl)
        have HOL := hid (orL_len HAC.out (show [a0, a1, a2, a3, a4, a5, a6, a7, a8].length = 9 from rfl))
        generalize orL acc [a0, a1, a2, a3, a4, a5, a6, a7, a8] = acc2 at TU HOL HRS
        clear hfx hbp g0
        cases b2
        · have HRS2 : Hid (acc2 = RES) := by unfold Hid; have := HRS.out; simpa using this
          go_wp2_with (first
            | (go_at_call 47; have stage := hb2.out; refine (tlist_any _ acc2 HOL.out).mono ?_; rintro e w3 ⟨v3, rfl, hf3, ho3⟩)
            | (go_at_call 46; refine TU.out.mono ?_; rintro e w2 ⟨rfl, hf2⟩; have hb2 := hid (hf2.at HB5.out (fun x => x)); have HF2 := hid hf2)
            | (refine wpList_store_row rfl 110 _ _ rfl w.heap.size (tkA acc2) rfl rfl _ _ hb2.out (szTokOf HOL.out) (sameSize (tk_size HAC.out) (tk_size HOL.out)) (tk_one _) ?_; have hb3 := hid (setRow_heap _ _ _ (tkA acc2) _ _ hb2.out))
            | (refine wpList_load_row rfl 110 _ rfl w.heap.size rfl _ (tkA acc2) _ _ hb3.out Tryz.underlying110 rfl (szTokOf HOL.out) ?_)
            | (refine wpList_load_row rfl 110 _ rfl w.heap.size rfl _ (tkA acc) _ _ HB5.out Tryz.underlying110 rfl (szTokOf HAC.out) ?_)
            | (refine wpList_load_row rfl 110 _ rfl p rfl _ (nineA a0 a1 a2 a3 a4 a5 a6 a7 a8) _ _ HB7.out Tryz.underlying110 rfl szTks ?_))
          go_ret
          refine ⟨v3, rfl, ((HFW.out.trans HF2.out).setRow (fun h => absurd h (Nat.lt_irrefl _)) _).trans hf3, ?_⟩
          rw [← HRS2.out]
          exact ownsRow_base ho3 (by have := (HFW.out.trans HF2.out).size; simpa using this)
        · have HRS2 : Hid (wanL hs R (l.take m').reverse acc2 = RES) := by unfold Hid; have := HRS.out; simpa using this
          go_wp2_with (first
            | (go_at_call 46; refine TU.out.mono ?_; rintro e w2 ⟨rfl, hf2⟩; have hb2 := hid (hf2.at HB5.out (fun x => x)); have HF2 := hid hf2)
            | (refine wpList_store_row rfl 110 _ _ rfl w.heap.size (tkA acc2) rfl rfl _ _ hb2.out (szTokOf HOL.out) (sameSize (tk_size HAC.out) (tk_size HOL.out)) (tk_one _) ?_; have hb3 := hid (setRow_heap _ _ _ (tkA acc2) _ _ hb2.out))
            | (refine wpList_load_row rfl 110 _ rfl w.heap.size rfl _ (tkA acc) _ _ HB5.out Tryz.underlying110 rfl (szTokOf HAC.out) ?_)
            | (refine wpList_load_row rfl 110 _ rfl p rfl _ (nineA a0 a1 a2 a3 a4 a5 a6 a7 a8) _ _ HB7.out Tryz.underlying110 rfl szTks ?_))
          go_roundw
          case rel => exact ⟨m', _, acc2, rfl, rfl, by omega, HRS2.out, HOL.out, (HFW.out.trans HF2.out).setRow (fun h => absurd h (Nat.lt_irrefl _)) _, hb3.out⟩
          case measure => exact HME.out
end Go.Proofs.YteneagnhihcljaaGreatDoor
