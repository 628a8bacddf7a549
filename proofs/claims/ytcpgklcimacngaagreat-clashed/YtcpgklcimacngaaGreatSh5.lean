import Derived.Test.YtcpgklcimacngaaGreatSec
namespace Go.Proofs.YtcpgklcimacngaaGreat
open Go.RowKit
set_option linter.unusedVariables false
set_option linter.unusedSimpArgs false

def rProdL (s : ByteArray) (d : Wd) : Nat → Int → List Wd → Ln × Int × Bool
  | 0, next, _ => (zeroLn, next, false)
  | f + 1, next, syms =>
    if atB s next = 32 then
      if (rWord s (next + 1)).2.2 = false then (zeroLn, (rWord s (next + 1)).2.1, false)
      else rProdL s d f (rWord s (next + 1)).2.1 (syms ++ [(rWord s (next + 1)).1])
    else if atB s next ≠ 10 then (zeroLn, next, false)
    else (⟨d, false, [], 0, 0, syms⟩, next + 1, true)
def rProd (s : ByteArray) (i : Int) (d : Wd) : Ln × Int × Bool :=
  if atB s i ≠ 58 then (zeroLn, i, false) else rProdL s d (s.size + 5) (i + 1) []

theorem infoWord : (Tryz.prog.info? 80).map (fun i => (i.zero, i.size, i.bytes)) = some (some (.agg #[.int .i64 0, .int .u8 0, .int .u8 0, .int .u8 0, .int .u8 0, .int .u8 0, .int .u8 0, .int .u8 0, .int .u8 0]), 9, 16) := by kernel_rfl
theorem infoWord' : ∃ i, Tryz.prog.info? 80 = some i ∧ i.zero = some (.agg #[.int .i64 0, .int .u8 0, .int .u8 0, .int .u8 0, .int .u8 0, .int .u8 0, .int .u8 0, .int .u8 0, .int .u8 0]) ∧ i.size = 9 ∧ i.bytes = 16 := by
  have h := infoWord
  cases hq : Tryz.prog.info? 80 with
  | none => simp [hq] at h
  | some i => simp [hq] at h; exact ⟨i, rfl, h.1, h.2.1, h.2.2⟩
theorem flat_snoc {α : Type} (cells : α → List Value) (xs : List α) (x : α) : flatC cells (xs ++ [x]) = flatC cells xs ++ cells x := by simp [flatC]

theorem new_cells2 {w : World} {A : Obj} {cs : Array Value} {l : List Value} {e : TypeId} (h : cs.toList = l) : ∀ (j : Nat) (u : Value), l[j]? = some u → ((w.alloc A).alloc (.cells cs e)).cell? ((⟨w.heap.size + 1, 0, none⟩ : Addr).add j) = some u := by
  intro j u hj
  rw [Addr.add_mid, Nat.zero_add, cellOf (heap_alloc2_new _ _ _)]
  subst h; simpa using hj

set_option maxRecDepth 20000 in
set_option maxHeartbeats 4000000 in
theorem readProd_any (s : ByteArray) (i : Int) (dd : Wd) (w : World) (hs : s.size ≤ 1000) (h0 : 0 ≤ i) (h1 : i ≤ 2000) (hl : dd.ls.length = 8) :
    Calls Tryz.prog 70 #[.string s, .int .i64 i, .agg dd.cells.toArray] w fun e w' => LineRet w (rProd s i dd) e w' := by
  obtain ⟨p, ls⟩ := dd
  obtain ⟨a, b, c, d, e, f, g, k, rfl⟩ := eight hl
  have e1 : (Wd.cells ⟨p, [a, b, c, d, e, f, g, k]⟩).toArray = wdArr p a b c d e f g k := rfl
  rw [e1]
  generalize hR : rProd s i ⟨p, [a, b, c, d, e, f, g, k]⟩ = R
  unfold rProd at hR
  clear e1 hl
  by_cases hc : atB s i ≠ 58
  · rw [if_pos hc] at hR
    have c1 : (atB s i != 58) = true := by simpa using hc
    have HR := hid hR
    clear hR hc
    go_enter Tryz.func70, Tryz.ntmps70
    go_wp2_with (first
      | (go_at_call 78; refine (at_any _ _ _ (by unfold maxLen; omega)).mono ?_; rintro e w' ⟨rfl, hw⟩; rw [hw]; clear hw))
    refine bodyPost_ret (results_row2 rfl _ _ (w.heap.size + 1) 85 zeroLV.cells.toArray (0, 0) _ rfl (heap_alloc2_new _ _ _) Tryz.underlying85 rfl szLine) rfl ?_
    rw [← HR.out]
    exact lineRet_zero rfl (((Mod.refl _ w).alloc _).alloc _)
  · rw [if_neg hc] at hR
    have c1 : (atB s i != 58) = false := by simpa using hc
    have hlt := atB_lt (s := s) (i := i) (by omega)
    have HR := hid hR
    obtain ⟨i0, hi, hz0, hz1, hz2⟩ := infoWord'
    clear hR hc
    go_enter Tryz.func70, Tryz.ntmps70
    go_wp2_with (first
      | (go_at_call 78; refine (at_any _ _ _ (by unfold maxLen; omega)).mono ?_; rintro e w' ⟨rfl, hw⟩; rw [hw]; clear hw))
    go_loopw [9, 10] (fun x9 x10 wr => ∃ (ff : Nat) (next : Int) (syms : List Wd), x10 = .int .i64 next ∧ rProdL s ⟨p, [a, b, c, d, e, f, g, k]⟩ ff next syms = R ∧ 0 ≤ next ∧ next ≤ s.size ∧ (s.size : Int) + 5 ≤ ff + next ∧ (syms.length : Int) ≤ next ∧ (∀ x ∈ syms, x.cells.length = 9) ∧
        wr.ownsRow (w.heap.size + 2) 80 9 x9 syms.length (flatC Wd.cells syms) ∧
        wr.heap[w.heap.size]? = some (.cells (wdArr p a b c d e f g k) 80 (0, 0)) ∧ wr.heap[w.heap.size + 1]? = some (.cells zeroLV.cells.toArray 85 (0, 0)) ∧ Fresh w wr)
        (fun _ x _ => 2001 - (intOf x).toNat)
    case atStart =>
      exact ⟨s.size + 5, i + 1, [], rfl, HR.out, by omega, by omega, by omega, by simp; omega, by simp, World.ownsRow_nil _ _ _ _, heap_alloc2_old _ _ _, heap_alloc2_new _ _ _, ((Mod.refl _ w).alloc _).alloc _⟩
    case round =>
      obtain ⟨ff, next, syms, rfl, hR, hn0, hn1, hfu, hcnt, hwf, hown, hb0, hb1, hfr⟩ := hrel
      obtain ⟨ff, rfl⟩ : ∃ g, ff = g + 1 := ⟨ff - 1, by omega⟩
      unfold rProdL at hR
      have HB0 := hid hb0
      have HB1 := hid hb1
      have HO := hid hown
      have HWF := hid hwf
      obtain ⟨ao, cap, hv⟩ := own_form hown
      have hobl := hown.lt
      have HOB := hid hobl
      clear hb0 hb1 hown hwf hobl
      subst hv
      by_cases h32 : atB s next = 32
      · rw [if_pos h32] at hR
        have c2 : (atB s next == 32) = true := by simpa using h32
        have hlt2 := atB_lt (s := s) (i := next) (by omega)
        obtain ⟨b1, b2, b3⟩ := rWord_bd s (next + 1) (by omega)
        have hwl := rWord_len s (next + 1)
        have RW := hid (fun w => readWord_any s (next + 1) w hs (by omega) (by omega))
        generalize rWord s (next + 1) = rr at b1 b2 b3 hwl RW hR
        obtain ⟨⟨pp, ls⟩, nx, okk⟩ := rr
        obtain ⟨a1, a2, a3, a4, a5, a6, a7, a8, rfl⟩ := eight hwl
        simp only [wordRet] at RW
        have e2 : (Wd.cells ⟨pp, [a1, a2, a3, a4, a5, a6, a7, a8]⟩).toArray = wdArr pp a1 a2 a3 a4 a5 a6 a7 a8 := rfl
        rw [e2] at RW
        dsimp only at b1 b2 b3 hR
        clear h32 hwl e2
        cases okk
        · simp only [if_true] at hR
          have HRR := hid hR
          clear hR b3
          go_wp2_with (first
            | (go_at_call 78; refine (at_any _ _ _ (by unfold maxLen; omega)).mono ?_; rintro e w' ⟨rfl, hw⟩; rw [hw]; clear hw)
            | (go_at_call 69; refine (RW.out _).mono ?_; rintro e w1 ⟨rfl, hf1⟩; have hz : w.heap.size + 1 < w1.heap.size := (by have := hf1.size; have := heap_lt HB1.out; omega))
            | (refine wpList_store_new rfl 80 _ _ rfl w1 _ _ _ rfl rfl rfl szWord rfl rfl ?_)
            | (refine wpList_store_row rfl 85 _ _ rfl (w.heap.size + 1) zeroLV.cells.toArray rfl rfl _ _ (heap_alloc_prev (hf1.at HB1.out (fun x => x))) szLine rfl (zeroLV_at w).one ?_))
          refine bodyPost_ret (results_row2 rfl _ _ (w.heap.size + 1) 85 zeroLV.cells.toArray (0, 0) _ rfl (setRow_heap _ _ _ _ _ _ (heap_alloc_prev (hf1.at HB1.out (fun x => x)))) Tryz.underlying85 rfl szLine) rfl ?_
          rw [← HRR.out]
          exact lineRet_zero rfl (((hfr.trans hf1).alloc _).setRow (by simp) _)
        · simp only [Bool.true_eq_false, if_false] at hR
          have HRR := hid hR
          have b4 := b3 rfl
          have HME : Hid (2001 - (intOf (.int .i64 nx)).toNat < 2001 - (intOf (.int .i64 next)).toNat) := by unfold Hid; simp [intOf]; omega
          clear hR b3
          go_wp2_with (first
            | (go_at_call 78; refine (at_any _ _ _ (by unfold maxLen; omega)).mono ?_; rintro e w' ⟨rfl, hw⟩; rw [hw]; clear hw)
            | (go_at_call 69; refine (RW.out _).mono ?_; rintro e w1 ⟨rfl, hf1⟩; have hz : w.heap.size + 1 < w1.heap.size := (by have := hf1.size; have := heap_lt HB1.out; omega); have HO1 := hid (ownsRow_other HO.out (fun g hg => hf1.block g (HOB.out g hg).2 (fun x => x))))
            | (refine wpList_store_new rfl 80 _ _ rfl w1 _ _ _ rfl rfl rfl szWord rfl rfl ?_)
            | (refine wpList_load_row rfl 80 _ rfl w1.heap.size rfl _ _ _ _ (heap_alloc_at _ _) Tryz.underlying80 rfl szWord ?_)
            | (at_builtin; refine wpList_append_mine _ rfl _ _ 76 rfl (w.heap.size + 2) 80 i0 _ 9 16 Tryz.underlying76 hi hz0 hz1 hz2 rfl (by decide) _ _ _ rfl ((HO1.out.alloc _).alloc _) ⟨w1.heap.size + 1, 0, none⟩ 1 1 (Wd.cells ⟨pp, [a1, a2, a3, a4, a5, a6, a7, a8]⟩) rfl rfl ?c1 ?c2 ?c3 ?c4 ?c5 ?_))
          case c1 => exact new_cells2 rfl
          case c2 => intro u hu; exact (Array.all_eq_true_iff_forall_mem.1 (Wd.one ⟨pp, [a1, a2, a3, a4, a5, a6, a7, a8]⟩)) u (by simpa using hu)
          case c3 => unfold maxLen; omega
          case c4 => omega
          case c5 => simp; omega
          intro v' w2 hown2 hgrow hblk
          have HO2 := hid hown2
          have HG2 := hid hgrow
          have q0 : w2.heap[w.heap.size]? = some (.cells (wdArr p a b c d e f g k) 80 (0, 0)) := by
            rw [hgrow.block _ (by simp; omega) (fun e => by have := (HOB.out _ e.symm).1; omega)]
            exact heap_alloc_prev (heap_alloc_prev (hf1.at HB0.out (fun x => x)))
          have q1 : w2.heap[w.heap.size + 1]? = some (.cells zeroLV.cells.toArray 85 (0, 0)) := by
            rw [hgrow.block _ (by simp; omega) (fun e => by have := (HOB.out _ e.symm).1; omega)]
            exact heap_alloc_prev (heap_alloc_prev (hf1.at HB1.out (fun x => x)))
          have q2 : Fresh w w2 := Mod.grown (S := fun _ => False) (((hfr.trans hf1).alloc _).alloc _) hgrow (fun k hk hlt => by have := (HOB.out k hk).1; omega)
          have Q0 := hid q0
          have Q1 := hid q1
          clear hown2 hgrow q0 q1 hblk
          go_wp2
          go_roundw
          case rel =>
            refine ⟨ff, nx, syms ++ [⟨pp, [a1, a2, a3, a4, a5, a6, a7, a8]⟩], rfl, HRR.out, by omega, by omega, by omega, by simp; omega, ?_, ?_, Q0.out, Q1.out, q2⟩
            · intro x hx; rcases List.mem_append.1 hx with h | h
              · exact HWF.out x h
              · simp at h; subst h; rfl
            · rw [flat_snoc, List.length_append, List.length_singleton]; exact HO2.out
          case measure => exact HME.out
      · rw [if_neg h32] at hR
        have c2 : (atB s next == 32) = false := by simpa using h32
        by_cases h10 : atB s next = 10
        · rw [if_neg (by simp [h10])] at hR
          have c3 : (atB s next != 10) = false := by simp [h10]
          have HRR := hid hR
          have r1 : SymsAt wr (.slice ao syms.length cap) syms := ⟨ownsRow_base HO.out (Nat.zero_le _), HWF.out⟩
          have ON := hid (LV.At.one (w := wr) (x := ⟨⟨⟨p, [a, b, c, d, e, f, g, k]⟩, false, [], 0, 0, syms⟩, .slice none 0 0, .slice ao syms.length cap⟩) ⟨⟨World.ownsRow_nil _ _ _ _, fun _ h => by cases h⟩, r1, rfl, by simp⟩)
          clear hR h10 h32
          go_wp2_with (first
            | (go_at_call 78; refine (at_any _ _ _ (by unfold maxLen; omega)).mono ?_; rintro e w' ⟨rfl, hw⟩; rw [hw]; clear hw)
            | (refine wpList_load_row rfl 80 _ rfl w.heap.size rfl _ _ _ _ HB0.out Tryz.underlying80 rfl szWord ?_)
            | (refine wpList_store_row rfl 85 _ _ rfl (w.heap.size + 1) (LV.cells ⟨⟨⟨p, [a, b, c, d, e, f, g, k]⟩, false, [], 0, 0, syms⟩, .slice none 0 0, .slice ao syms.length cap⟩).toArray rfl rfl _ _ HB1.out szLine rfl ON.out ?_))
          refine bodyPost_ret (results_row2 rfl _ _ (w.heap.size + 1) 85 _ (0, 0) _ rfl (setRow_heap _ _ _ _ _ _ HB1.out) Tryz.underlying85 rfl szLine) rfl ?_
          rw [← HRR.out]
          refine ⟨⟨⟨⟨p, [a, b, c, d, e, f, g, k]⟩, false, [], 0, 0, syms⟩, .slice none 0 0, .slice ao syms.length cap⟩, rfl, rfl, hfr.setRow (by simp) _, ⟨⟨World.ownsRow_nil _ _ _ _, fun _ h => by cases h⟩, ?_, rfl, by simp⟩, by simp [Value.ownBlock], fun k hk => by have := (HOB.out k hk).1; omega⟩
          exact r1.kept (S := fun k => k = w.heap.size + 1) (Mod.setRow (S := fun k => k = w.heap.size + 1) (Mod.refl _ _) (fun _ => rfl) _) (fun k hk e => by have := (HOB.out k hk).1; omega)
        · rw [if_pos h10] at hR
          have c3 : (atB s next != 10) = true := by simpa using h10
          have HRR := hid hR
          clear hR h10 h32
          go_wp2_with (first
            | (go_at_call 78; refine (at_any _ _ _ (by unfold maxLen; omega)).mono ?_; rintro e w' ⟨rfl, hw⟩; rw [hw]; clear hw)
            | (refine wpList_store_row rfl 85 _ _ rfl (w.heap.size + 1) zeroLV.cells.toArray rfl rfl _ _ HB1.out szLine rfl (zeroLV_at w).one ?_))
          refine bodyPost_ret (results_row2 rfl _ _ (w.heap.size + 1) 85 zeroLV.cells.toArray (0, 0) _ rfl (setRow_heap _ _ _ _ _ _ HB1.out) Tryz.underlying85 rfl szLine) rfl ?_
          rw [← HRR.out]
          exact lineRet_zero rfl (hfr.setRow (by simp) _)
end Go.Proofs.YtcpgklcimacngaaGreat
namespace Go.Proofs.YtcpgklcimacngaaGreat
open Go.RowKit
set_option linter.unusedVariables false
set_option linter.unusedSimpArgs false

theorem rWordL_zero (s : ByteArray) (i : Int) : ∀ (f n : Nat) (ls : List Int), 1 ≤ n → (rWordL s i f n ls).1.getD 0 0 = ls.getD 0 0
  | 0, _, _, _ => rfl
  | f + 1, n, ls, h => by
    unfold rWordL; split
    · split
      · rw [rWordL_zero s i f (n + 1) _ (by omega)]
        simp [List.getElem?_set, show ¬ n = 0 by omega]
      · rfl
    · rfl
theorem rWord_zero (s : ByteArray) (i : Int) : 0 ≤ (rWord s i).1.ls.getD 0 0 ∧ (rWord s i).1.ls.getD 0 0 ≤ 255 := by
  unfold rWord; split
  · simp [zero8]
  · rename_i h
    dsimp only
    rw [rWordL_zero _ _ _ _ _ (by omega)]
    have hb := atB_bd s i
    have hn : atB s i ≠ -1 := by intro e; rw [e] at h; simp [isSmallB, isCapB] at h
    simp [zero8]; omega

def rLine (s : ByteArray) (i : Int) : Ln × Int × Bool :=
  if (rWord s i).2.2 = false then (zeroLn, (rWord s i).2.1, false)
  else if headB (rWord s i).1 = true then rProd s (rWord s i).2.1 (rWord s i).1
  else rRule s (rWord s i).2.1 (rWord s i).1

set_option maxRecDepth 20000 in
set_option maxHeartbeats 4000000 in
theorem readLine_any (s : ByteArray) (i : Int) (w : World) (hs : s.size ≤ 1000) (h0 : 0 ≤ i) (h1 : i ≤ 1900) :
    Calls Tryz.prog 50 #[.string s, .int .i64 i] w fun e w' => LineRet w (rLine s i) e w' := by
  generalize hR : rLine s i = R
  unfold rLine at hR
  obtain ⟨b1, b2, b3⟩ := rWord_bd s i h0
  have hwl := rWord_len s i
  have hz := rWord_zero s i
  have RW := hid (fun w => readWord_any s i w hs h0 (by omega))
  have HP := hid (fun w => readProd_any s (rWord s i).2.1 (rWord s i).1 w hs (by omega) (by omega) hwl)
  have HRu := hid (fun w => readRule_any s (rWord s i).2.1 (rWord s i).1 w hs (by omega) (by omega) hwl)
  have HZ := hid hz
  have HWL := hid hwl
  simp only [wordRet] at RW
  clear hwl hz b3
  cases hok : (rWord s i).2.2
  · rw [if_pos hok] at hR
    rw [hok] at RW
    have HR := hid hR
    clear hR
    go_enter Tryz.func50, Tryz.ntmps50
    go_wp2_with (first
      | (go_at_call 69; refine (RW.out _).mono ?_; rintro e w1 ⟨rfl, hf1⟩; have hz : w.heap.size < w1.heap.size := (by have := hf1.size; simp at this; omega))
      | (refine wpList_store_new rfl 80 _ _ rfl w1 _ _ _ rfl rfl rfl (szWordOf HWL.out) (sameSize rfl (Wd.size HWL.out)) (Wd.one _) ?_)
      | (refine wpList_store_row rfl 85 _ _ rfl w.heap.size zeroLV.cells.toArray rfl rfl _ _ (heap_alloc_prev (hf1.at (heap_alloc_at _ _) (fun x => x))) szLine rfl (zeroLV_at w).one ?_))
    refine bodyPost_ret (results_row2 rfl _ _ w.heap.size 85 zeroLV.cells.toArray (0, 0) _ rfl (setRow_heap _ _ _ _ _ _ (heap_alloc_prev (hf1.at (heap_alloc_at _ _) (fun x => x)))) Tryz.underlying85 rfl szLine) rfl ?_
    rw [← HR.out]
    exact lineRet_zero rfl (((((Mod.refl _ w).alloc _).trans hf1).alloc _).setRow (by simp) _)
  · rw [if_neg (by simp [hok])] at hR
    rw [hok] at RW
    have fin : ∀ (w1 w2 w3 : World) (r : Ln × Int × Bool), Hid (r = R → Fresh (w.alloc (.cells zeroLV.cells.toArray 85 (0, 0))) w2 → ∀ x : LV, x.ln = r.1 → Fresh w2 w3 → x.At w3 → (∀ k, x.vn.ownBlock = some k → w2.heap.size ≤ k) → (∀ k, x.vs.ownBlock = some k → w2.heap.size ≤ k) →
        LineRet w R (.returned (.tuple #[.agg x.cells.toArray, .int .i64 r.2.1, .bool r.2.2])) (w3.setRow w.heap.size x.cells.toArray)) := by
      intro w1 w2 w3 r hr hf2 x hx hf3 hA hk1 hk2
      subst hr
      have hz2 : w.heap.size < w2.heap.size := by have := hf2.size; simp at this; omega
      refine ⟨x, hx, rfl, ((((Mod.refl _ w).alloc _).trans hf2).trans hf3).setRow (by simp) _, ⟨?_, ?_, hA.front, hA.small⟩, fun k hk => by have := hk1 k hk; omega, fun k hk => by have := hk2 k hk; omega⟩
      · exact hA.nodes.kept (S := fun k => k = w.heap.size) (Mod.setRow (S := fun k => k = w.heap.size) (Mod.refl _ _) (fun _ => rfl) _) (fun k hk e => by have := hk1 k hk; omega)
      · exact hA.syms.kept (S := fun k => k = w.heap.size) (Mod.setRow (S := fun k => k = w.heap.size) (Mod.refl _ _) (fun _ => rfl) _) (fun k hk e => by have := hk2 k hk; omega)
    cases hh : headB (rWord s i).1
    · rw [if_neg (by simp [hh])] at hR
      have HR := hid hR
      clear hR HP
      go_enter Tryz.func50, Tryz.ntmps50
      go_wp2_with (first
        | (go_at_call 69; refine (RW.out _).mono ?_; rintro e w1 ⟨rfl, hf1⟩; have hz : w.heap.size < w1.heap.size := (by have := hf1.size; simp at this; omega))
        | (go_at_call 55; refine (isHead_any _ _ HWL.out HZ.out).mono ?_; rw [hh]; rintro e w2 ⟨rfl, hf2⟩)
        | (go_at_call 71; refine (HRu.out _).mono ?_; rintro e w3 ⟨x, hx, rfl, hf3, hA, hk1, hk2⟩; have H3 := hid (hf3.at (hf2.at (heap_alloc_prev (hf1.at (heap_alloc_at _ _) (fun x => x))) (fun x => x)) (fun x => x)))
        | (refine wpList_store_new rfl 80 _ _ rfl w1 _ _ _ rfl rfl rfl (szWordOf HWL.out) (sameSize rfl (Wd.size HWL.out)) (Wd.one _) ?_)
        | (refine wpList_load_row rfl 80 _ rfl w1.heap.size rfl _ _ _ _ (heap_alloc_at _ _) Tryz.underlying80 rfl (szWordOf HWL.out) ?_)
        | (refine wpList_load_row rfl 80 _ rfl w1.heap.size rfl _ _ _ _ (hf2.at (heap_alloc_at _ _) (fun x => x)) Tryz.underlying80 rfl (szWordOf HWL.out) ?_)
        | (refine wpList_store_row rfl 85 _ _ rfl w.heap.size x.cells.toArray rfl rfl _ _ H3.out (szLineOf hA.front) (sameSize rfl (LV.size hA.front)) hA.one ?_))
      refine bodyPost_ret (results_row2 rfl _ _ w.heap.size 85 x.cells.toArray (0, 0) _ rfl (setRow_heap _ _ _ _ _ _ H3.out) Tryz.underlying85 rfl (szLineOf hA.front)) rfl ?_
      exact (fin w1 w2 w3 _).out HR.out ((hf1.alloc _).trans hf2) x hx hf3 hA hk1 hk2
    · rw [if_pos hh] at hR
      have HR := hid hR
      clear hR HRu
      go_enter Tryz.func50, Tryz.ntmps50
      go_wp2_with (first
        | (go_at_call 69; refine (RW.out _).mono ?_; rintro e w1 ⟨rfl, hf1⟩; have hz : w.heap.size < w1.heap.size := (by have := hf1.size; simp at this; omega))
        | (go_at_call 55; refine (isHead_any _ _ HWL.out HZ.out).mono ?_; rw [hh]; rintro e w2 ⟨rfl, hf2⟩)
        | (go_at_call 70; refine (HP.out _).mono ?_; rintro e w3 ⟨x, hx, rfl, hf3, hA, hk1, hk2⟩; have H3 := hid (hf3.at (hf2.at (heap_alloc_prev (hf1.at (heap_alloc_at _ _) (fun x => x))) (fun x => x)) (fun x => x)))
        | (refine wpList_store_new rfl 80 _ _ rfl w1 _ _ _ rfl rfl rfl (szWordOf HWL.out) (sameSize rfl (Wd.size HWL.out)) (Wd.one _) ?_)
        | (refine wpList_load_row rfl 80 _ rfl w1.heap.size rfl _ _ _ _ (heap_alloc_at _ _) Tryz.underlying80 rfl (szWordOf HWL.out) ?_)
        | (refine wpList_load_row rfl 80 _ rfl w1.heap.size rfl _ _ _ _ (hf2.at (heap_alloc_at _ _) (fun x => x)) Tryz.underlying80 rfl (szWordOf HWL.out) ?_)
        | (refine wpList_store_row rfl 85 _ _ rfl w.heap.size x.cells.toArray rfl rfl _ _ H3.out (szLineOf hA.front) (sameSize rfl (LV.size hA.front)) hA.one ?_))
      refine bodyPost_ret (results_row2 rfl _ _ w.heap.size 85 x.cells.toArray (0, 0) _ rfl (setRow_heap _ _ _ _ _ _ H3.out) Tryz.underlying85 rfl (szLineOf hA.front)) rfl ?_
      exact (fin w1 w2 w3 _).out HR.out ((hf1.alloc _).trans hf2) x hx hf3 hA hk1 hk2
end Go.Proofs.YtcpgklcimacngaaGreat
namespace Go.Proofs.YtcpgklcimacngaaGreat
open Go.RowKit
set_option linter.unusedVariables false
set_option linter.unusedSimpArgs false

theorem rProdL_bd (s : ByteArray) (d : Wd) : ∀ (f : Nat) (next : Int) (syms : List Wd), 0 ≤ next → next ≤ s.size →
    next ≤ (rProdL s d f next syms).2.1 ∧ (rProdL s d f next syms).2.1 ≤ s.size + 20 ∧ ((rProdL s d f next syms).2.2 = true → next < (rProdL s d f next syms).2.1 ∧ (rProdL s d f next syms).2.1 ≤ s.size)
  | 0, next, _, h0, h1 => by simp [rProdL]; omega
  | f + 1, next, syms, h0, h1 => by
    obtain ⟨b1, b2, b3⟩ := rWord_bd s (next + 1) (by omega)
    unfold rProdL
    split
    · split
      · simp; omega
      · rename_i h3
        have b4 := b3 (by simpa using h3)
        obtain ⟨c1, c2, c3⟩ := rProdL_bd s d f (rWord s (next + 1)).2.1 (syms ++ [(rWord s (next + 1)).1]) (by omega) (by omega)
        exact ⟨by omega, by omega, fun h => by have := c3 h; omega⟩
    · split
      · simp; omega
      · rename_i h3
        have := atB_lt (s := s) (i := next) (by omega)
        simp; omega
theorem rProd_bd (s : ByteArray) (i : Int) (d : Wd) (h0 : 0 ≤ i) (h1 : i ≤ s.size) :
    i ≤ (rProd s i d).2.1 ∧ (rProd s i d).2.1 ≤ s.size + 20 ∧ ((rProd s i d).2.2 = true → i < (rProd s i d).2.1 ∧ (rProd s i d).2.1 ≤ s.size) := by
  unfold rProd; split
  · simp; omega
  · have := atB_lt (s := s) (i := i) (by omega)
    obtain ⟨c1, c2, c3⟩ := rProdL_bd s d (s.size + 5) (i + 1) [] (by omega) (by omega)
    exact ⟨by omega, by omega, fun h => by have := c3 h; omega⟩
theorem rRule_bd (s : ByteArray) (i : Int) (d : Wd) (h0 : 0 ≤ i) (h1 : i ≤ s.size) :
    i ≤ (rRule s i d).2.1 ∧ (rRule s i d).2.1 ≤ 2 * s.size + 20 ∧ ((rRule s i d).2.2 = true → i < (rRule s i d).2.1 ∧ (rRule s i d).2.1 ≤ s.size) := by
  unfold rRule; split
  · simp; omega
  · have hlt := atB_lt (s := s) (i := i) (by omega)
    obtain ⟨g1, g2, g3, g4⟩ := good_read s (i + 1) (by omega) (by omega)
    split
    · simp; omega
    · split
      · simp; omega
      · have := atB_lt (s := s) (i := (rRead s (i + 1)).next) (by omega)
        simp; omega
theorem rLine_bd (s : ByteArray) (i : Int) (h0 : 0 ≤ i) (h1 : i ≤ s.size) :
    i ≤ (rLine s i).2.1 ∧ (rLine s i).2.1 ≤ 2 * s.size + 20 ∧ ((rLine s i).2.2 = true → i < (rLine s i).2.1 ∧ (rLine s i).2.1 ≤ s.size) := by
  obtain ⟨b1, b2, b3⟩ := rWord_bd s i h0
  unfold rLine; split
  · simp; omega
  · rename_i h3
    have b4 := b3 (by simpa using h3)
    split
    · obtain ⟨c1, c2, c3⟩ := rProd_bd s (rWord s i).2.1 (rWord s i).1 (by omega) (by omega)
      exact ⟨by omega, by omega, fun h => by have := c3 h; omega⟩
    · obtain ⟨c1, c2, c3⟩ := rRule_bd s (rWord s i).2.1 (rWord s i).1 (by omega) (by omega)
      exact ⟨by omega, by omega, fun h => by have := c3 h; omega⟩

def rLinesL (s : ByteArray) : Nat → Int → List Ln → List Ln × Int × Bool
  | 0, i, _ => ([], i, false)
  | f + 1, i, acc =>
    if i < s.size then
      if (rLine s i).2.2 = false then ([], (rLine s i).2.1, false) else rLinesL s f (rLine s i).2.1 (acc ++ [(rLine s i).1])
    else (acc, i, true)
def rLines (s : ByteArray) : List Ln × Int × Bool := rLinesL s (s.size + 5) 0 []

/-- v is a slice of these lines. -/
structure LinesAt (w : World) (v : Value) (xs : List LV) : Prop where
  own : w.ownsRow 0 85 14 v xs.length (flatC LV.cells xs)
  each : ∀ x ∈ xs, x.At w
theorem LinesAt.fresh {w w' : World} {v : Value} {xs : List LV} (h : LinesAt w v xs) (hm : Fresh w w') : LinesAt w' v xs :=
  ⟨ownsRow_other h.own (fun g hg => hm.block g (h.own.lt g hg).2 (fun x => x)), fun x hx => (h.each x hx).fresh hm⟩
theorem LinesAt.row {w : World} {v : Value} {xs : List LV} (h : LinesAt w v xs) : RowAt LV.cells 14 85 w v xs := ⟨h.own, fun x hx => LV.cells_len (h.each x hx).front⟩

theorem infoLine : (Tryz.prog.info? 85).map (fun i => (i.zero, i.size, i.bytes)) = some (some (.agg zeroLV.cells.toArray), 14, 88) := by kernel_rfl
theorem infoLine' : ∃ i, Tryz.prog.info? 85 = some i ∧ i.zero = some (.agg zeroLV.cells.toArray) ∧ i.size = 14 ∧ i.bytes = 88 := by
  have h := infoLine
  cases hq : Tryz.prog.info? 85 with
  | none => simp [hq] at h
  | some i => simp [hq] at h; exact ⟨i, rfl, h.1, h.2.1, h.2.2⟩

theorem LV.At.kept {S : Nat → Prop} {w w' : World} {x : LV} (h : x.At w) (hm : Mod S w w') (h1 : ∀ k, x.vn.ownBlock = some k → ¬ S k) (h2 : ∀ k, x.vs.ownBlock = some k → ¬ S k) : x.At w' :=
  ⟨h.nodes.kept hm h1, h.syms.kept hm h2, h.front, h.small⟩
theorem LV.At.lt {w : World} {x : LV} (h : x.At w) : (∀ k, x.vn.ownBlock = some k → k < w.heap.size) ∧ (∀ k, x.vs.ownBlock = some k → k < w.heap.size) :=
  ⟨fun k hk => (h.nodes.own.lt k hk).2, fun k hk => (h.syms.own.lt k hk).2⟩

/-- While the lines are read. -/
structure LRel (w wr : World) (v : Value) (xs : List LV) : Prop where
  own : wr.ownsRow w.heap.size 85 14 v xs.length (flatC LV.cells xs)
  each : ∀ x ∈ xs, x.At wr
  dis : ∀ x ∈ xs, ∀ k, v.ownBlock = some k → x.vn.ownBlock ≠ some k ∧ x.vs.ownBlock ≠ some k
  fresh : Fresh w wr

theorem LRel.next {w wr w1 w2 : World} {v v' : Value} {xs : List LV} {x : LV} {A B : Obj} (h : LRel w wr v xs) (hf : Fresh wr w1) (hx : x.At w1)
    (hk1 : ∀ k, x.vn.ownBlock = some k → wr.heap.size ≤ k) (hk2 : ∀ k, x.vs.ownBlock = some k → wr.heap.size ≤ k)
    (hown : w2.ownsRow w.heap.size 85 14 v' (xs.length + 1) (flatC LV.cells xs ++ x.cells)) (hg : ((w1.alloc A).alloc B).grownBy w2 v.ownBlock)
    (hb : ∀ k, v'.ownBlock = some k → v.ownBlock = some k ∨ ((w1.alloc A).alloc B).heap.size ≤ k) : LRel w w2 v' (xs ++ [x]) := by
  have m1 : Fresh w1 ((w1.alloc A).alloc B) := ((Mod.refl _ w1).alloc _).alloc _
  have m2 : Mod (fun k => v.ownBlock = some k) ((w1.alloc A).alloc B) w2 := Mod.grown (S := fun k => v.ownBlock = some k) (Mod.refl _ _) hg (fun k hk _ => hk)
  have hvl : ∀ k, v.ownBlock = some k → w.heap.size ≤ k ∧ k < wr.heap.size := h.own.lt
  have hz1 := hf.size
  have hz2 : ((w1.alloc A).alloc B).heap.size = w1.heap.size + 2 := by simp
  refine ⟨?_, ?_, ?_, ?_⟩
  · rw [flat_snoc, List.length_append, List.length_singleton]; exact hown
  · intro y hy
    rcases List.mem_append.1 hy with hy | hy
    · exact (((h.each y hy).fresh hf).fresh m1).kept m2 (fun k hk e => (h.dis y hy k e).1 hk) (fun k hk e => (h.dis y hy k e).2 hk)
    · simp at hy; subst hy
      exact (hx.fresh m1).kept m2 (fun k hk e => by have := hk1 k hk; have := hvl k e; omega) (fun k hk e => by have := hk2 k hk; have := hvl k e; omega)
  · intro y hy k hk
    rcases List.mem_append.1 hy with hy | hy
    · rcases hb k hk with h1 | h1
      · exact h.dis y hy k h1
      · have := ((h.each y hy).fresh hf).lt
        exact ⟨fun e => by have := this.1 k e; omega, fun e => by have := this.2 k e; omega⟩
    · simp at hy; subst hy
      rcases hb k hk with h1 | h1
      · have h3 := hvl k h1
        exact ⟨fun e => by have := hk1 k e; omega, fun e => by have := hk2 k e; omega⟩
      · have := hx.lt
        exact ⟨fun e => by have := this.1 k e; omega, fun e => by have := this.2 k e; omega⟩
  · exact Mod.trans' (S := fun _ => False) ((h.fresh.trans hf).trans m1) m2 (fun i hi e => by have := hvl i e; omega)

abbrev lnArr (p a b c d e f g k : Int) (sk : Bool) (vn : Value) (st en : Int) (vs : Value) : Array Value := #[.int .i64 p, .int .u8 a, .int .u8 b, .int .u8 c, .int .u8 d, .int .u8 e, .int .u8 f, .int .u8 g, .int .u8 k, .bool sk, vn, .int .i64 st, .int .i64 en, vs]
theorem lnArr_eq (p a b c d e f g k : Int) (sk : Bool) (ns : List Node) (st en : Int) (sy : List Wd) (vn vs : Value) : (LV.cells ⟨⟨⟨p, [a, b, c, d, e, f, g, k]⟩, sk, ns, st, en, sy⟩, vn, vs⟩).toArray = lnArr p a b c d e f g k sk vn st en vs := rfl

set_option maxRecDepth 20000 in
set_option maxHeartbeats 4000000 in
theorem readLines_any (s : ByteArray) (w : World) (hs : s.size ≤ 900) :
    Calls Tryz.prog 24 #[.string s] w fun e w' => ∃ (v : Value) (xs : List LV), xs.map LV.ln = (rLines s).1 ∧ e = .returned (.tuple #[v, .int .i64 (rLines s).2.1, .bool (rLines s).2.2]) ∧ Fresh w w' ∧ LinesAt w' v xs := by
  generalize hR : rLines s = R
  have HR : Hid (rLinesL s (s.size + 5) 0 [] = R) := hR
  obtain ⟨i0, hi, hz0, hz1, hz2⟩ := infoLine'
  clear hR
  go_enter Tryz.func24, Tryz.ntmps24
  go_wp2
  go_loopw [5, 6] (fun x5 x6 wr => ∃ (f : Nat) (i : Int) (xs : List LV), x6 = .int .i64 i ∧ rLinesL s f i (xs.map LV.ln) = R ∧ 0 ≤ i ∧ i ≤ s.size ∧ (s.size : Int) + 5 ≤ f + i ∧ (xs.length : Int) ≤ i ∧ LRel w wr x5 xs)
      (fun _ x _ => 2001 - (intOf x).toNat)
  case atStart => exact ⟨s.size + 5, 0, [], rfl, HR.out, by omega, by omega, by omega, by simp, ⟨World.ownsRow_nil _ _ _ _, (fun _ h => by cases h), (fun _ h => by cases h), Mod.refl _ _⟩⟩
  case round =>
    obtain ⟨f, i, xs, rfl, hR, hn0, hn1, hfu, hcnt, hL⟩ := hrel
    obtain ⟨f, rfl⟩ : ∃ g, f = g + 1 := ⟨f - 1, by omega⟩
    unfold rLinesL at hR
    have HL := hid hL
    obtain ⟨ao, cap, hv⟩ := own_form hL.own
    clear hL
    subst hv
    by_cases hlt : i < s.size
    · rw [if_pos hlt] at hR
      obtain ⟨b1, b2, b3⟩ := rLine_bd s i hn0 hn1
      have RL := hid (fun w => readLine_any s i w (by omega) hn0 (by omega))
      generalize rLine s i = rr at b1 b2 b3 RL hR
      obtain ⟨ln, nx, okk⟩ := rr
      dsimp only at b1 b2 b3 hR
      cases okk
      · simp only [if_true] at hR
        have HRR := hid hR
        clear hR b3
        go_wp2_with (first
          | (go_at_call 50; refine (RL.out _).mono ?_; rintro e w1 ⟨x, hx, rfl, hf1, hA, hk1, hk2⟩)
          | (refine wpList_store_new rfl 85 _ _ rfl w1 _ _ _ rfl rfl rfl (szLineOf hA.front) (sameSize rfl (LV.size hA.front)) hA.one ?_))
        refine bodyPost_ret (results_tmp3 rfl _ _ _) rfl ⟨.slice none 0 0, [], by rw [← HRR.out]; rfl, by rw [← HRR.out]; rfl, (HL.out.fresh.trans hf1).alloc _, ⟨World.ownsRow_nil _ _ _ _, fun _ h => by cases h⟩⟩
      · simp only [Bool.true_eq_false, if_false] at hR
        have HRR := hid hR
        have b4 := b3 rfl
        have HME : Hid (2001 - (intOf (.int .i64 nx)).toNat < 2001 - (intOf (.int .i64 i)).toNat) := by unfold Hid; simp [intOf]; omega
        clear hR b3
        go_wp2_with (first
          | (go_at_call 50; refine (RL.out _).mono ?_; rintro e w1 ⟨x, hx, rfl, hf1, hA, hk1, hk2⟩; have hz : wr.heap.size ≤ w1.heap.size := hf1.size; obtain ⟨⟨⟨pp, ls⟩, sk, nsx, stx, enx, sy⟩, vn, vs⟩ := x; have HX := hid hx; clear hx; obtain ⟨a1, a2, a3, a4, a5, a6, a7, a8, e8⟩ := eight hA.front; dsimp only at e8; subst e8; obtain ⟨no, nc, hvn⟩ := own_form hA.nodes.own; obtain ⟨so, sc, hvs⟩ := own_form hA.syms.own; dsimp only at hvn hvs; subst hvn; subst hvs; rw [lnArr_eq])
          | (refine wpList_store_new rfl 85 _ _ rfl w1 _ _ _ rfl rfl rfl szLine rfl hA.one ?_)
          | (refine wpList_load_row rfl 85 _ rfl w1.heap.size rfl _ _ _ _ (heap_alloc_at _ _) Tryz.underlying85 rfl szLine ?_)
          | (at_builtin; refine wpList_append_mine _ rfl _ _ 42 rfl w.heap.size 85 i0 _ 14 88 Tryz.underlying42 hi hz0 hz1 hz2 rfl (by decide) _ _ _ rfl (((ownsRow_other HL.out.own (fun g hg => hf1.block g (HL.out.own.lt g hg).2 (fun x => x))).alloc _).alloc _) ⟨w1.heap.size + 1, 0, none⟩ 1 1 (LV.cells ⟨⟨⟨pp, [a1, a2, a3, a4, a5, a6, a7, a8]⟩, sk, nsx, stx, enx, sy⟩, .slice no nsx.length nc, .slice so sy.length sc⟩) rfl rfl ?c1 ?c2 ?c3 ?c4 ?c5 ?_))
        case c1 => exact new_cells2 rfl
        case c2 => intro u hu; exact (Array.all_eq_true_iff_forall_mem.1 hA.one) u (by simpa using hu)
        case c3 => unfold maxLen; omega
        case c4 => omega
        case c5 => have := HL.out.fresh.size; simp; omega
        intro v' w2 hown2 hgrow hblk
        have hL2 := HL.out.next (A := _) (B := _) hf1 hA hk1 hk2 hown2 hgrow (by simpa using hblk)
        clear hown2 hgrow hblk
        go_wp2
        go_roundw
        case rel =>
          refine ⟨f, nx, _, rfl, ?_, by omega, by omega, by omega, ?_, hL2⟩
          · rw [List.map_append, List.map_singleton, HX.out]; exact HRR.out
          · simp; omega
        case measure => exact HME.out
    · rw [if_neg hlt] at hR
      have HRR := hid hR
      clear hR
      go_wp2
      refine bodyPost_ret (results_tmp3 rfl _ _ _) rfl ⟨.slice ao xs.length cap, xs, by rw [← HRR.out], by rw [← HRR.out]; rfl, HL.out.fresh, ⟨ownsRow_base HL.out.own (Nat.zero_le _), HL.out.each⟩⟩
end Go.Proofs.YtcpgklcimacngaaGreat
