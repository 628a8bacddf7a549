import Derived.Test.YteneagnhihcljaaGreatDoorSec
namespace Go.Proofs.YteneagnhihcljaaGreatDoor
open Go.RowKit
set_option linter.unusedVariables false
set_option linter.unusedSimpArgs false

def rProdL (s : ByteArray) (d : Wd) : Nat → Int → List Wd → Ln × Int × Bool
  | 0, next, _ => (zeroLn, next, false)
  | f + 1, next, syms =>
    if atB s next = 32 then
      if (rWord s (next + 1)).2.2 = false then (zeroLn, (rWord s (next + 1)).2.1, false)
      else rProdL s d f (rWord s (next + 1)).2.1 (syms ++ [(rWord s (next + 1)).1])
    else if atB s next ≠ 10 then (zeroLn, next, false)
    else (⟨d, false, [], 0, 0, syms⟩, next + 1, true)
def rProd (s : ByteArray) (i : Int) (d : Wd) : Ln × Int × Bool :=
  if atB s i ≠ 58 then (zeroLn, i, false) else rProdL s d (s.size + 5) (i + 1) []

theorem infoWord : (Tryz.prog.info? 64).map (fun i => (i.zero, i.size, i.bytes)) = some (some (.agg #[.int .i64 0, .int .u8 0, .int .u8 0, .int .u8 0, .int .u8 0, .int .u8 0, .int .u8 0, .int .u8 0, .int .u8 0]), 9, 16) := by kernel_rfl
theorem infoWord' : ∃ i, Tryz.prog.info? 64 = some i ∧ i.zero = some (.agg #[.int .i64 0, .int .u8 0, .int .u8 0, .int .u8 0, .int .u8 0, .int .u8 0, .int .u8 0, .int .u8 0, .int .u8 0]) ∧ i.size = 9 ∧ i.bytes = 16 := by
  have h := infoWord
  cases hq : Tryz.prog.info? 64 with
  | none => simp [hq] at h
  | some i => simp [hq] at h; exact ⟨i, rfl, h.1, h.2.1, h.2.2⟩
theorem flat_snoc {α : Type} (cells : α → List Value) (xs : List α) (x : α) : flatC cells (xs ++ [x]) = flatC cells xs ++ cells x := by simp [flatC]

theorem new_cells2 {w : World} {A : Obj} {cs : Array Value} {l : List Value} {e : TypeId} (h : cs.toList = l) : ∀ (j : Nat) (u : Value), l[j]? = some u → ((w.alloc A).alloc (.cells cs e)).cell? ((⟨w.heap.size + 1, 0, none⟩ : Addr).add j) = some u := by
  intro j u hj
  rw [Addr.add_mid, Nat.zero_add, cellOf (heap_alloc2_new _ _ _)]
  subst h; simpa using hj

set_option maxRecDepth 20000 in
set_option maxHeartbeats 4000000 in
theorem readProd_any (s : ByteArray) (i : Int) (dd : Wd) (w : World) (hs : s.size ≤ 1000) (h0 : 0 ≤ i) (h1 : i ≤ 2000) (hl : dd.ls.length = 8) :
    Calls Tryz.prog 54 #[.string s, .int .i64 i, .agg dd.cells.toArray] w fun e w' => LineRet w (rProd s i dd) e w' := by
  obtain ⟨p, ls⟩ := dd
  obtain ⟨a, b, c, d, e, f, g, k, rfl⟩ := eight hl
  have e1 : (Wd.cells ⟨p, [a, b, c, d, e, f, g, k]⟩).toArray = wdArr p a b c d e f g k := rfl
  rw [e1]
  generalize hR : rProd s i ⟨p, [a, b, c, d, e, f, g, k]⟩ = R
  unfold rProd at hR
  clear e1 hl
  by_cases hc : atB s i ≠ 58
  · rw [if_pos hc] at hR
    have c1 : (atB s i != 58) = true := by simpa using hc
    have HR := hid hR
    clear hR hc
    go_enter Tryz.func54, Tryz.ntmps54
    go_wp2_with (first
      | (go_at_call 62; refine (at_any _ _ _ (by unfold maxLen; omega)).mono ?_; rintro e w' ⟨rfl, hw⟩; rw [hw]; clear hw))
    refine bodyPost_ret (results_row2 rfl _ _ (w.heap.size + 1) 69 zeroLV.cells.toArray (0, 0) _ rfl (heap_alloc2_new _ _ _) Tryz.underlying69 rfl szLine) rfl ?_
    rw [← HR.out]
    exact lineRet_zero rfl (((Mod.refl _ w).alloc _).alloc _)
  · rw [if_neg hc] at hR
    have c1 : (atB s i != 58) = false := by simpa using hc
    have hlt := atB_lt (s := s) (i := i) (by omega)
    have HR := hid hR
    obtain ⟨i0, hi, hz0, hz1, hz2⟩ := infoWord'
    clear hR hc
    go_enter Tryz.func54, Tryz.ntmps54
    go_wp2_with (first
      | (go_at_call 62; refine (at_any _ _ _ (by unfold maxLen; omega)).mono ?_; rintro e w' ⟨rfl, hw⟩; rw [hw]; clear hw))
    go_loopw [9, 10] (fun x9 x10 wr => ∃ (ff : Nat) (next : Int) (syms : List Wd), x10 = .int .i64 next ∧ rProdL s ⟨p, [a, b, c, d, e, f, g, k]⟩ ff next syms = R ∧ 0 ≤ next ∧ next ≤ s.size ∧ (s.size : Int) + 5 ≤ ff + next ∧ (syms.length : Int) ≤ next ∧ (∀ x ∈ syms, x.cells.length = 9) ∧
        wr.ownsRow (w.heap.size + 2) 64 9 x9 syms.length (flatC Wd.cells syms) ∧
        wr.heap[w.heap.size]? = some (.cells (wdArr p a b c d e f g k) 64 (0, 0)) ∧ wr.heap[w.heap.size + 1]? = some (.cells zeroLV.cells.toArray 69 (0, 0)) ∧ Fresh w wr)
        (fun _ x _ => 2001 - (intOf x).toNat)
    case atStart =>
      exact ⟨s.size + 5, i + 1, [], rfl, HR.out, by omega, by omega, by omega, by simp; omega, by simp, World.ownsRow_nil _ _ _ _, heap_alloc2_old _ _ _, heap_alloc2_new _ _ _, ((Mod.refl _ w).alloc _).alloc _⟩
    case round =>
      obtain ⟨ff, next, syms, rfl, hR, hn0, hn1, hfu, hcnt, hwf, hown, hb0, hb1, hfr⟩ := hrel
      obtain ⟨ff, rfl⟩ : ∃ g, ff = g + 1 := ⟨ff - 1, by omega⟩
      unfold rProdL at hR
      have HB0 := hid hb0
      have HB1 := hid hb1
      have HO := hid hown
      have HWF := hid hwf
      obtain ⟨ao, cap, hv⟩ := own_form hown
      have hobl := hown.lt
      have HOB := hid hobl
      clear hb0 hb1 hown hwf hobl
      subst hv
      by_cases h32 : atB s next = 32
      · rw [if_pos h32] at hR
        have c2 : (atB s next == 32) = true := by simpa using h32
        have hlt2 := atB_lt (s := s) (i := next) (by omega)
        obtain ⟨b1, b2, b3⟩ := rWord_bd s (next + 1) (by omega)
        have hwl := rWord_len s (next + 1)
        have RW := hid (fun w => readWord_any s (next + 1) w hs (by omega) (by omega))
        generalize rWord s (next + 1) = rr at b1 b2 b3 hwl RW hR
        obtain ⟨⟨pp, ls⟩, nx, okk⟩ := rr
        obtain ⟨a1, a2, a3, a4, a5, a6, a7, a8, rfl⟩ := eight hwl
        simp only [wordRet] at RW
        have e2 : (Wd.cells ⟨pp, [a1, a2, a3, a4, a5, a6, a7, a8]⟩).toArray = wdArr pp a1 a2 a3 a4 a5 a6 a7 a8 := rfl
        rw [e2] at RW
        dsimp only at b1 b2 b3 hR
        clear h32 hwl e2
        cases okk
        · simp only [if_true] at hR
          have HRR := hid hR
          clear hR b3
          go_wp2_with (first
            | (go_at_call 62; refine (at_any _ _ _ (by unfold maxLen; omega)).mono ?_; rintro e w' ⟨rfl, hw⟩; rw [hw]; clear hw)
            | (go_at_call 53; refine (RW.out _).mono ?_; rintro e w1 ⟨rfl, hf1⟩; have hz : w.heap.size + 1 < w1.heap.size := (by have := hf1.size; have := heap_lt HB1.out; omega))
            | (refine wpList_store_new rfl 64 _ _ rfl w1 _ _ _ rfl rfl rfl szWord rfl rfl ?_)
            | (refine wpList_store_row rfl 69 _ _ rfl (w.heap.size + 1) zeroLV.cells.toArray rfl rfl _ _ (heap_alloc_prev (hf1.at HB1.out (fun x => x))) szLine rfl (zeroLV_at w).one ?_))
          refine bodyPost_ret (results_row2 rfl _ _ (w.heap.size + 1) 69 zeroLV.cells.toArray (0, 0) _ rfl (setRow_heap _ _ _ _ _ _ (heap_alloc_prev (hf1.at HB1.out (fun x => x)))) Tryz.underlying69 rfl szLine) rfl ?_
          rw [← HRR.out]
          exact lineRet_zero rfl (((hfr.trans hf1).alloc _).setRow (by simp) _)
        · simp only [Bool.true_eq_false, if_false] at hR
          have HRR := hid hR
          have b4 := b3 rfl
          have HME : Hid (2001 - (intOf (.int .i64 nx)).toNat < 2001 - (intOf (.int .i64 next)).toNat) := by unfold Hid; simp [intOf]; omega
          clear hR b3
          go_wp2_with (first
            | (go_at_call 62; refine (at_any _ _ _ (by unfold maxLen; omega)).mono ?_; rintro e w' ⟨rfl, hw⟩; rw [hw]; clear hw)
            | (go_at_call 53; refine (RW.out _).mono ?_; rintro e w1 ⟨rfl, hf1⟩; have hz : w.heap.size + 1 < w1.heap.size := (by have := hf1.size; have := heap_lt HB1.out; omega); have HO1 := hid (ownsRow_other HO.out (fun g hg => hf1.block g (HOB.out g hg).2 (fun x => x))))
            | (refine wpList_store_new rfl 64 _ _ rfl w1 _ _ _ rfl rfl rfl szWord rfl rfl ?_)
            | (refine wpList_load_row rfl 64 _ rfl w1.heap.size rfl _ _ _ _ (heap_alloc_at _ _) Tryz.underlying64 rfl szWord ?_)
            | (at_builtin; refine wpList_append_mine _ rfl _ _ 60 rfl (w.heap.size + 2) 64 i0 _ 9 16 Tryz.underlying60 hi hz0 hz1 hz2 rfl (by decide) _ _ _ rfl ((HO1.out.alloc _).alloc _) ⟨w1.heap.size + 1, 0, none⟩ 1 1 (Wd.cells ⟨pp, [a1, a2, a3, a4, a5, a6, a7, a8]⟩) rfl rfl ?c1 ?c2 ?c3 ?c4 ?c5 ?_))
          case c1 => exact new_cells2 rfl
          case c2 => intro u hu; exact (Array.all_eq_true_iff_forall_mem.1 (Wd.one ⟨pp, [a1, a2, a3, a4, a5, a6, a7, a8]⟩)) u (by simpa using hu)
          case c3 => unfold maxLen; omega
          case c4 => omega
          case c5 => simp; omega
          intro v' w2 hown2 hgrow hblk
          have HO2 := hid hown2
          have HG2 := hid hgrow
          have q0 : w2.heap[w.heap.size]? = some (.cells (wdArr p a b c d e f g k) 64 (0, 0)) := by
            rw [hgrow.block _ (by simp; omega) (fun e => by have := (HOB.out _ e.symm).1; omega)]
            exact heap_alloc_prev (heap_alloc_prev (hf1.at HB0.out (fun x => x)))
          have q1 : w2.heap[w.heap.size + 1]? = some (.cells zeroLV.cells.toArray 69 (0, 0)) := by
            rw [hgrow.block _ (by simp; omega) (fun e => by have := (HOB.out _ e.symm).1; omega)]
            exact heap_alloc_prev (heap_alloc_prev (hf1.at HB1.out (fun x => x)))
          have q2 : Fresh w w2 := Mod.grown (S := fun _ => False) (((hfr.trans hf1).alloc _).alloc _) hgrow (fun k hk hlt => by have := (HOB.out k hk).1; omega)
          have Q0 := hid q0
          have Q1 := hid q1
          clear hown2 hgrow q0 q1 hblk
          go_wp2
          go_roundw
          case rel =>
            refine ⟨ff, nx, syms ++ [⟨pp, [a1, a2, a3, a4, a5, a6, a7, a8]⟩], rfl, HRR.out, by omega, by omega, by omega, by simp; omega, ?_, ?_, Q0.out, Q1.out, q2⟩
            · intro x hx; rcases List.mem_append.1 hx with h | h
              · exact HWF.out x h
              · simp at h; subst h; rfl
            · rw [flat_snoc, List.length_append, List.length_singleton]; exact HO2.out
          case measure => exact HME.out
      · rw [if_neg h32] at hR
        have c2 : (atB s next == 32) = false := by simpa using h32
        by_cases h10 : atB s next = 10
        · rw [if_neg (by simp [h10])] at hR
          have c3 : (atB s next != 10) = false := by simp [h10]
          have HRR := hid hR
          have r1 : SymsAt wr (.slice ao syms.length cap) syms := ⟨ownsRow_base HO.out (Nat.zero_le _), HWF.out⟩
          have ON := hid (LV.At.one (w := wr) (x := ⟨⟨⟨p, [a, b, c, d, e, f, g, k]⟩, false, [], 0, 0, syms⟩, .slice none 0 0, .slice ao syms.length cap⟩) ⟨⟨World.ownsRow_nil _ _ _ _, fun _ h => by cases h⟩, r1, rfl, by simp⟩)
          clear hR h10 h32
          go_wp2_with (first
            | (go_at_call 62; refine (at_any _ _ _ (by unfold maxLen; omega)).mono ?_; rintro e w' ⟨rfl, hw⟩; rw [hw]; clear hw)
            | (refine wpList_load_row rfl 64 _ rfl w.heap.size rfl _ _ _ _ HB0.out Tryz.underlying64 rfl szWord ?_)
            | (refine wpList_store_row rfl 69 _ _ rfl (w.heap.size + 1) (LV.cells ⟨⟨⟨p, [a, b, c, d, e, f, g, k]⟩, false, [], 0, 0, syms⟩, .slice none 0 0, .slice ao syms.length cap⟩).toArray rfl rfl _ _ HB1.out szLine rfl ON.out ?_))
          refine bodyPost_ret (results_row2 rfl _ _ (w.heap.size + 1) 69 _ (0, 0) _ rfl (setRow_heap _ _ _ _ _ _ HB1.out) Tryz.underlying69 rfl szLine) rfl ?_
          rw [← HRR.out]
          refine ⟨⟨⟨⟨p, [a, b, c, d, e, f, g, k]⟩, false, [], 0, 0, syms⟩, .slice none 0 0, .slice ao syms.length cap⟩, rfl, rfl, hfr.setRow (by simp) _, ⟨⟨World.ownsRow_nil _ _ _ _, fun _ h => by cases h⟩, ?_, rfl, by simp⟩, by simp [Value.ownBlock], fun k hk => by have := (HOB.out k hk).1; omega⟩
          exact r1.kept (S := fun k => k = w.heap.size + 1) (Mod.setRow (S := fun k => k = w.heap.size + 1) (Mod.refl _ _) (fun _ => rfl) _) (fun k hk e => by have := (HOB.out k hk).1; omega)
        · rw [if_pos h10] at hR
          have c3 : (atB s next != 10) = true := by simpa using h10
          have HRR := hid hR
          clear hR h10 h32
          go_wp2_with (first
            | (go_at_call 62; refine (at_any _ _ _ (by unfold maxLen; omega)).mono ?_; rintro e w' ⟨rfl, hw⟩; rw [hw]; clear hw)
            | (refine wpList_store_row rfl 69 _ _ rfl (w.heap.size + 1) zeroLV.cells.toArray rfl rfl _ _ HB1.out szLine rfl (zeroLV_at w).one ?_))
          refine bodyPost_ret (results_row2 rfl _ _ (w.heap.size + 1) 69 zeroLV.cells.toArray (0, 0) _ rfl (setRow_heap _ _ _ _ _ _ HB1.out) Tryz.underlying69 rfl szLine) rfl ?_
          rw [← HRR.out]
          exact lineRet_zero rfl (hfr.setRow (by simp) _)
end Go.Proofs.YteneagnhihcljaaGreatDoor
namespace Go.Proofs.YteneagnhihcljaaGreatDoor
open Go.RowKit
set_option linter.unusedVariables false
set_option linter.unusedSimpArgs false

theorem rWordL_zero (s : ByteArray) (i : Int) : ∀ (f n : Nat) (ls : List Int), 1 ≤ n → (rWordL s i f n ls).1.getD 0 0 = ls.getD 0 0
  | 0, _, _, _ => rfl
  | f + 1, n, ls, h => by
    unfold rWordL; split
    · split
      · rw [rWordL_zero s i f (n + 1) _ (by omega)]
        simp [List.getElem?_set, show ¬ n = 0 by omega]
      · rfl
    · rfl
theorem rWord_zero (s : ByteArray) (i : Int) : 0 ≤ (rWord s i).1.ls.getD 0 0 ∧ (rWord s i).1.ls.getD 0 0 ≤ 255 := by
  unfold rWord; split
  · simp [zero8]
  · rename_i h
    dsimp only
    rw [rWordL_zero _ _ _ _ _ (by omega)]
    have hb := atB_bd s i
    have hn : atB s i ≠ -1 := by intro e; rw [e] at h; simp [isSmallB, isCapB] at h
    simp [zero8]; omega

def rLine (s : ByteArray) (i : Int) : Ln × Int × Bool :=
  if (rWord s i).2.2 = false then (zeroLn, (rWord s i).2.1, false)
  else if headB (rWord s i).1 = true then rProd s (rWord s i).2.1 (rWord s i).1
  else rRule s (rWord s i).2.1 (rWord s i).1

set_option maxRecDepth 20000 in
set_option maxHeartbeats 4000000 in
theorem readLine_any (s : ByteArray) (i : Int) (w : World) (hs : s.size ≤ 1000) (h0 : 0 ≤ i) (h1 : i ≤ 1900) :
    Calls Tryz.prog 36 #[.string s, .int .i64 i] w fun e w' => LineRet w (rLine s i) e w' := by
  generalize hR : rLine s i = R
  unfold rLine at hR
  obtain ⟨b1, b2, b3⟩ := rWord_bd s i h0
  have hwl := rWord_len s i
  have hz := rWord_zero s i
  have RW := hid (fun w => readWord_any s i w hs h0 (by omega))
  have HP := hid (fun w => readProd_any s (rWord s i).2.1 (rWord s i).1 w hs (by omega) (by omega) hwl)
  have HRu := hid (fun w => readRule_any s (rWord s i).2.1 (rWord s i).1 w hs (by omega) (by omega) hwl)
  have HZ := hid hz
  have HWL := hid hwl
  simp only [wordRet] at RW
  clear hwl hz b3
  cases hok : (rWord s i).2.2
  · rw [if_pos hok] at hR
    rw [hok] at RW
    have HR := hid hR
    clear hR
    go_enter Tryz.func36, Tryz.ntmps36
    go_wp2_with (first
      | (go_at_call 53; refine (RW.out _).mono ?_; rintro e w1 ⟨rfl, hf1⟩; have hz : w.heap.size < w1.heap.size := (by have := hf1.size; simp at this; omega))
      | (refine wpList_store_new rfl 64 _ _ rfl w1 _ _ _ rfl rfl rfl (szWordOf HWL.out) (sameSize rfl (Wd.size HWL.out)) (Wd.one _) ?_)
      | (refine wpList_store_row rfl 69 _ _ rfl w.heap.size zeroLV.cells.toArray rfl rfl _ _ (heap_alloc_prev (hf1.at (heap_alloc_at _ _) (fun x => x))) szLine rfl (zeroLV_at w).one ?_))
    refine bodyPost_ret (results_row2 rfl _ _ w.heap.size 69 zeroLV.cells.toArray (0, 0) _ rfl (setRow_heap _ _ _ _ _ _ (heap_alloc_prev (hf1.at (heap_alloc_at _ _) (fun x => x)))) Tryz.underlying69 rfl szLine) rfl ?_
    rw [← HR.out]
    exact lineRet_zero rfl (((((Mod.refl _ w).alloc _).trans hf1).alloc _).setRow (by simp) _)
  · rw [if_neg (by simp [hok])] at hR
    rw [hok] at RW
    have fin : ∀ (w1 w2 w3 : World) (r : Ln × Int × Bool), Hid (r = R → Fresh (w.alloc (.cells zeroLV.cells.toArray 69 (0, 0))) w2 → ∀ x : LV, x.ln = r.1 → Fresh w2 w3 → x.At w3 → (∀ k, x.vn.ownBlock = some k → w2.heap.size ≤ k) → (∀ k, x.vs.ownBlock = some k → w2.heap.size ≤ k) →
        LineRet w R (.returned (.tuple #[.agg x.cells.toArray, .int .i64 r.2.1, .bool r.2.2])) (w3.setRow w.heap.size x.cells.toArray)) := by
      intro w1 w2 w3 r hr hf2 x hx hf3 hA hk1 hk2
      subst hr
      have hz2 : w.heap.size < w2.heap.size := by have := hf2.size; simp at this; omega
      refine ⟨x, hx, rfl, ((((Mod.refl _ w).alloc _).trans hf2).trans hf3).setRow (by simp) _, ⟨?_, ?_, hA.front, hA.small⟩, fun k hk => by have := hk1 k hk; omega, fun k hk => by have := hk2 k hk; omega⟩
      · exact hA.nodes.kept (S := fun k => k = w.heap.size) (Mod.setRow (S := fun k => k = w.heap.size) (Mod.refl _ _) (fun _ => rfl) _) (fun k hk e => by have := hk1 k hk; omega)
      · exact hA.syms.kept (S := fun k => k = w.heap.size) (Mod.setRow (S := fun k => k = w.heap.size) (Mod.refl _ _) (fun _ => rfl) _) (fun k hk e => by have := hk2 k hk; omega)
    cases hh : headB (rWord s i).1
    · rw [if_neg (by simp [hh])] at hR
      have HR := hid hR
      clear hR HP
      go_enter Tryz.func36, Tryz.ntmps36
      go_wp2_with (first
        | (go_at_call 53; refine (RW.out _).mono ?_; rintro e w1 ⟨rfl, hf1⟩; have hz : w.heap.size < w1.heap.size := (by have := hf1.size; simp at this; omega))
        | (go_at_call 41; refine (isHead_any _ _ HWL.out HZ.out).mono ?_; rw [hh]; rintro e w2 ⟨rfl, hf2⟩)
        | (go_at_call 55; refine (HRu.out _).mono ?_; rintro e w3 ⟨x, hx, rfl, hf3, hA, hk1, hk2⟩; have H3 := hid (hf3.at (hf2.at (heap_alloc_prev (hf1.at (heap_alloc_at _ _) (fun x => x))) (fun x => x)) (fun x => x)))
        | (refine wpList_store_new rfl 64 _ _ rfl w1 _ _ _ rfl rfl rfl (szWordOf HWL.out) (sameSize rfl (Wd.size HWL.out)) (Wd.one _) ?_)
        | (refine wpList_load_row rfl 64 _ rfl w1.heap.size rfl _ _ _ _ (heap_alloc_at _ _) Tryz.underlying64 rfl (szWordOf HWL.out) ?_)
        | (refine wpList_load_row rfl 64 _ rfl w1.heap.size rfl _ _ _ _ (hf2.at (heap_alloc_at _ _) (fun x => x)) Tryz.underlying64 rfl (szWordOf HWL.out) ?_)
        | (refine wpList_store_row rfl 69 _ _ rfl w.heap.size x.cells.toArray rfl rfl _ _ H3.out (szLineOf hA.front) (sameSize rfl (LV.size hA.front)) hA.one ?_))
      refine bodyPost_ret (results_row2 rfl _ _ w.heap.size 69 x.cells.toArray (0, 0) _ rfl (setRow_heap _ _ _ _ _ _ H3.out) Tryz.underlying69 rfl (szLineOf hA.front)) rfl ?_
      exact (fin w1 w2 w3 _).out HR.out ((hf1.alloc _).trans hf2) x hx hf3 hA hk1 hk2
    · rw [if_pos hh] at hR
      have HR := hid hR
      clear hR HRu
      go_enter Tryz.func36, Tryz.ntmps36
      go_wp2_with (first
        | (go_at_call 53; refine (RW.out _).mono ?_; rintro e w1 ⟨rfl, hf1⟩; have hz : w.heap.size < w1.heap.size := (by have := hf1.size; simp at this; omega))
        | (go_at_call 41; refine (isHead_any _ _ HWL.out HZ.out).mono ?_; rw [hh]; rintro e w2 ⟨rfl, hf2⟩)
        | (go_at_call 54; refine (HP.out _).mono ?_; rintro e w3 ⟨x, hx, rfl, hf3, hA, hk1, hk2⟩; have H3 := hid (hf3.at (hf2.at (heap_alloc_prev (hf1.at (heap_alloc_at _ _) (fun x => x))) (fun x => x)) (fun x => x)))
        | (refine wpList_store_new rfl 64 _ _ rfl w1 _ _ _ rfl rfl rfl (szWordOf HWL.out) (sameSize rfl (Wd.size HWL.out)) (Wd.one _) ?_)
        | (refine wpList_load_row rfl 64 _ rfl w1.heap.size rfl _ _ _ _ (heap_alloc_at _ _) Tryz.underlying64 rfl (szWordOf HWL.out) ?_)
        | (refine wpList_load_row rfl 64 _ rfl w1.heap.size rfl _ _ _ _ (hf2.at (heap_alloc_at _ _) (fun x => x)) Tryz.underlying64 rfl (szWordOf HWL.out) ?_)
        | (refine wpList_store_row rfl 69 _ _ rfl w.heap.size x.cells.toArray rfl rfl _ _ H3.out (szLineOf hA.front) (sameSize rfl (LV.size hA.front)) hA.one ?_))
      refine bodyPost_ret (results_row2 rfl _ _ w.heap.size 69 x.cells.toArray (0, 0) _ rfl (setRow_heap _ _ _ _ _ _ H3.out) Tryz.underlying69 rfl (szLineOf hA.front)) rfl ?_
      exact (fin w1 w2 w3 _).out HR.out ((hf1.alloc _).trans hf2) x hx hf3 hA hk1 hk2
end Go.Proofs.YteneagnhihcljaaGreatDoor
