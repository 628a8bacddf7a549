import Derived.Test.YtdbdkdekeicmhaaSh1
namespace Go.Proofs.Ytdbdkdekeicmhaa
open Go.RowKit
set_option linter.unusedVariables false
set_option linter.unusedSimpArgs false

/-- A line, as it is read. -/
structure Ln where
  front : Wd
  skip : Bool
  ns : List Node
  st : Int
  en : Int
  syms : List Wd
/-- .. and where its lists lie. -/
structure LV where
  ln : Ln
  vn : Value
  vs : Value
def LV.cells (x : LV) : List Value := x.ln.front.cells ++ [.bool x.ln.skip, x.vn, .int .i64 x.ln.st, .int .i64 x.ln.en, x.vs]
def zeroLn : Ln := ⟨⟨0, zero8⟩, false, [], 0, 0, []⟩
abbrev SymsAt := RowAt Wd.cells 9 51
structure LV.At (w : World) (x : LV) : Prop where
  nodes : NodesAt w x.vn x.ln.ns
  syms : SymsAt w x.vs x.ln.syms
  front : x.ln.front.ls.length = 8
  small : x.ln.ns.length ≤ 5000
theorem slice_one {w : World} {base size n : Nat} {e : TypeId} {v : Value} {xs : List Value} (h : w.ownsRow base e size v n xs) : v.oneCell' = true := by
  obtain ⟨a, c, rfl⟩ := own_form h; rfl
theorem LV.cells_len {x : LV} (h : x.ln.front.ls.length = 8) : x.cells.length = 14 := by simp [LV.cells, Wd.cells, h]
theorem LV.At.one {w : World} {x : LV} (h : x.At w) : x.cells.toArray.all (·.oneCell') = true := by
  apply all_oneCell_toArray
  have h1 := slice_one h.nodes.own
  have h2 := slice_one h.syms.own
  intro v hv
  simp [LV.cells, Wd.cells] at hv
  rcases hv with rfl | ⟨a, _, rfl⟩ | rfl | rfl | rfl | rfl | rfl
  · rfl
  · rfl
  · rfl
  · exact h1
  · rfl
  · rfl
  · exact h2
theorem LV.At.fresh {w w' : World} {x : LV} (h : x.At w) (hm : Fresh w w') : x.At w' := ⟨h.nodes.fresh hm, h.syms.fresh hm, h.front, h.small⟩
theorem szLine : (Try.prog.info? 57).map (·.size) = some 14 := by kernel_rfl
theorem szLineOf {x : LV} (h : x.ln.front.ls.length = 8) : (Try.prog.info? 57).map (·.size) = some x.cells.toArray.size := by rw [List.size_toArray, LV.cells_len h]; exact szLine
theorem LV.size {x : LV} (h : x.ln.front.ls.length = 8) : x.cells.toArray.size = 14 := by rw [List.size_toArray, LV.cells_len h]
def zeroLV : LV := ⟨zeroLn, .slice none 0 0, .slice none 0 0⟩
theorem zeroLV_at (w : World) : zeroLV.At w := ⟨⟨World.ownsRow_nil _ _ _ _, fun _ h => by cases h⟩, RowAt.nil _ _ _ _, rfl, by simp [zeroLV, zeroLn]⟩

theorem eight {ls : List Int} (h : ls.length = 8) : ∃ a b c d e f g k, ls = [a, b, c, d, e, f, g, k] := by
  match ls, h with
  | [a, b, c, d, e, f, g, k], _ => exact ⟨a, b, c, d, e, f, g, k, rfl⟩
def headB (d : Wd) : Bool := isCapB (d.ls.getD 0 0)
def byteL (ls : List Int) : Prop := ∀ x ∈ ls, 0 ≤ x ∧ x ≤ 255

set_option maxHeartbeats 1000000 in
theorem isHead_any (d : Wd) (w : World) (hl : d.ls.length = 8) (hb : 0 ≤ d.ls.getD 0 0 ∧ d.ls.getD 0 0 ≤ 255) :
    Calls Try.prog 34 #[.agg d.cells.toArray] w fun e w' => e = .returned (.bool (headB d)) ∧ Fresh w w' := by
  obtain ⟨p, ls⟩ := d
  obtain ⟨a, b, c, d, e, f, g, k, rfl⟩ := eight hl
  have e1 : (Wd.cells ⟨p, [a, b, c, d, e, f, g, k]⟩).toArray = #[.int .i64 p, .int .u8 a, .int .u8 b, .int .u8 c, .int .u8 d, .int .u8 e, .int .u8 f, .int .u8 g, .int .u8 k] := rfl
  have e2 : headB ⟨p, [a, b, c, d, e, f, g, k]⟩ = isCapB a := rfl
  rw [e1, e2]
  simp at hb
  obtain ⟨hb0, hb1⟩ := hb
  clear e1 e2 hl
  go_enter Try.func34, Try.ntmps34
  go_wp2_with (go_at_call 41; refine (isCap_any _ _).mono ?_; rintro e w' ⟨rfl, hw⟩; rw [hw]; clear hw)
  go_ret
  exact ⟨rfl, (Mod.refl _ _).alloc _⟩

set_option maxHeartbeats 1000000 in
theorem isRule_any (x : LV) (w : World) (hl : x.ln.front.ls.length = 8) (hb : 0 ≤ x.ln.front.ls.getD 0 0 ∧ x.ln.front.ls.getD 0 0 ≤ 255) :
    Calls Try.prog 22 #[.agg x.cells.toArray] w fun e w' => e = .returned (.bool (!headB x.ln.front)) ∧ Fresh w w' := by
  have RG : Hid ((w.alloc (.cells x.cells.toArray 57)).rangeAt w.heap.size 0 x.ln.front.cells) := by
    intro j v hj
    rw [cellOf (heap_alloc_at _ _)]
    simp only [LV.cells, Nat.zero_add, List.getElem?_toArray]
    rw [List.getElem?_append_left (List.getElem?_eq_some_iff.1 hj).1]; exact hj
  go_enter Try.func22, Try.ntmps22
  go_wp2_with (first
    | (go_at_call 34; refine (isHead_any _ _ hl hb).mono ?_; rintro e w1 ⟨rfl, hf⟩)
    | (refine wpList_load_mid rfl 51 _ rfl w.heap.size 0 rfl x.ln.front.cells _ RG.out Try.underlying51 rfl (by rw [Wd.cells_len hl]; exact szWord) ?_))
  go_ret
  exact ⟨rfl, ((Mod.refl _ w).alloc _).trans hf⟩
end Go.Proofs.Ytdbdkdekeicmhaa
namespace Go.Proofs.Ytdbdkdekeicmhaa
open Go.RowKit
set_option linter.unusedVariables false
set_option linter.unusedSimpArgs false

/-- the line, behind it, whether it is one -/
def rRule (s : ByteArray) (i : Int) (d : Wd) : Ln × Int × Bool :=
  if atB s i ≠ 61 ∧ atB s i ≠ 126 then (zeroLn, i, false)
  else if (rRead s (i + 1)).ok = false then (zeroLn, (rRead s (i + 1)).next, false)
  else if atB s (rRead s (i + 1)).next ≠ 10 then (zeroLn, (rRead s (i + 1)).next, false)
  else (⟨d, atB s i == 126, (rRead s (i + 1)).ns, (rRead s (i + 1)).st, (rRead s (i + 1)).en, []⟩, (rRead s (i + 1)).next + 1, true)

/-- What reading a line leaves. -/
def LineRet (w : World) (r : Ln × Int × Bool) (e : Ending) (w' : World) : Prop :=
  ∃ x : LV, x.ln = r.1 ∧ e = .returned (.tuple #[.agg x.cells.toArray, .int .i64 r.2.1, .bool r.2.2]) ∧ Fresh w w' ∧ x.At w' ∧ (∀ k, x.vn.ownBlock = some k → w.heap.size ≤ k) ∧ (∀ k, x.vs.ownBlock = some k → w.heap.size ≤ k)
theorem lineRet_zero {w w' : World} {i : Int} {e : Ending} (he : e = .returned (.tuple #[.agg zeroLV.cells.toArray, .int .i64 i, .bool false])) (hf : Fresh w w') : LineRet w (zeroLn, i, false) e w' :=
  ⟨zeroLV, rfl, he, hf, zeroLV_at _, by simp [zeroLV, Value.ownBlock], by simp [zeroLV, Value.ownBlock]⟩

theorem good_read (s : ByteArray) (i : Int) (h0 : 0 ≤ i) (h1 : i ≤ s.size) : Good s i 0 (rRead s i) := good_chK s 6 i [] h0 h1

abbrev wdArr (p a b c d e f g k : Int) : Array Value := #[.int .i64 p, .int .u8 a, .int .u8 b, .int .u8 c, .int .u8 d, .int .u8 e, .int .u8 f, .int .u8 g, .int .u8 k]

set_option maxRecDepth 20000 in
set_option maxHeartbeats 2000000 in
theorem readRule_any (s : ByteArray) (i : Int) (dd : Wd) (w : World) (hs : s.size ≤ 1000) (h0 : 0 ≤ i) (h1 : i ≤ 2000) (hl : dd.ls.length = 8) :
    Calls Try.prog 36 #[.string s, .int .i64 i, .agg dd.cells.toArray] w fun e w' => LineRet w (rRule s i dd) e w' := by
  obtain ⟨p, ls⟩ := dd
  obtain ⟨a, b, c, d, e, f, g, k, rfl⟩ := eight hl
  have e1 : (Wd.cells ⟨p, [a, b, c, d, e, f, g, k]⟩).toArray = wdArr p a b c d e f g k := rfl
  rw [e1]
  generalize hR : rRule s i ⟨p, [a, b, c, d, e, f, g, k]⟩ = R
  unfold rRule at hR
  clear e1 hl
  by_cases hc : atB s i ≠ 61 ∧ atB s i ≠ 126
  · rw [if_pos hc] at hR
    have c1 : (atB s i != 61) = true := by simpa using hc.1
    have c2 : (atB s i != 126) = true := by simpa using hc.2
    have HR := hid hR
    clear hR hc
    go_enter Try.func36, Try.ntmps36
    go_wp2_with (first
      | (go_at_call 31; refine (at_any _ _ _ (by unfold maxLen; omega)).mono ?_; rintro e w' ⟨rfl, hw⟩; rw [hw]; clear hw))
    refine bodyPost_ret (results_row2 rfl _ _ (w.heap.size + 1) 57 zeroLV.cells.toArray (0, 0) _ rfl (heap_alloc2_new _ _ _) Try.underlying57 rfl szLine) rfl ?_
    rw [← HR.out]
    exact lineRet_zero rfl (((Mod.refl _ w).alloc _).alloc _)
  · rw [if_neg hc] at hR
    have hc' : (atB s i != 61) = false ∨ ((atB s i != 61) = true ∧ (atB s i != 126) = false) := by
      by_cases h : atB s i = 61
      · left; simpa using h
      · right; exact ⟨by simpa using h, by simp; omega⟩
    have hlt := atB_lt (s := s) (i := i) (by omega)
    have hG := good_read s (i + 1) (by omega) (by omega)
    obtain ⟨g1, g2, g3, g4⟩ := hG
    cases hok : (rRead s (i + 1)).ok
    · rw [if_pos hok] at hR
      have HR := hid hR
      clear hR hc g3
      have RB := hid (fun w => read_bad s (i + 1) w hs (by omega) (by omega) hok)
      generalize rRead s (i + 1) = pp at g1 g2 g4 HR RB
      rcases hc' with c1 | ⟨c1, c2⟩
      all_goals
        go_enter Try.func36, Try.ntmps36
        go_wp2_with (first
          | (go_at_call 31; refine (at_any _ _ _ (by unfold maxLen; omega)).mono ?_; rintro e w' ⟨rfl, hw⟩; rw [hw]; clear hw)
          | (go_at_call 42; refine (RB.out _).mono ?_; rintro e w1 ⟨rfl, hf1⟩; have hz : w.heap.size + 1 < w1.heap.size := (by have := hf1.size; simp at this; omega))
          | (refine wpList_store_row rfl 57 _ _ rfl (w.heap.size + 1) zeroLV.cells.toArray rfl rfl _ _ (heap_alloc_prev (hf1.at (heap_alloc2_new _ _ _) (fun x => x))) szLine rfl (zeroLV_at w).one ?_))
        refine bodyPost_ret (results_row2 rfl _ _ (w.heap.size + 1) 57 zeroLV.cells.toArray (0, 0) _ rfl (setRow_heap _ _ _ _ _ _ (heap_alloc_prev (hf1.at (heap_alloc2_new _ _ _) (fun x => x)))) Try.underlying57 rfl szLine) rfl ?_
        rw [← HR.out]
        exact lineRet_zero rfl (((((((Mod.refl _ w).alloc _).alloc _).trans hf1).alloc _)).setRow (by simp) _)
    · rw [if_neg (by simp [hok])] at hR
      have g5 := g3 hok
      have RG := hid (fun w => read_good s (i + 1) w hs (by omega) (by omega) hok)
      generalize rRead s (i + 1) = pp at g1 g2 g4 g5 hR RG
      by_cases hnl : atB s pp.next = 10
      · rw [if_neg (by simp [hnl])] at hR
        have HR := hid hR
        have c3 : (atB s pp.next != 10) = false := by simp [hnl]
        clear hR hc g3 hok hnl
        rcases hc' with c1 | ⟨c1, c2⟩
        all_goals
          go_enter Try.func36, Try.ntmps36
          go_wp2_with (first
            | (go_at_call 31; refine (at_any _ _ _ (by unfold maxLen; omega)).mono ?_; rintro e w' ⟨rfl, hw⟩; rw [hw]; clear hw)
            | (go_at_call 42; refine (RG.out _).mono ?_; rintro e w1 ⟨v, rfl, hf1, hN1, hk1⟩; obtain ⟨ao, cap, hv⟩ := own_form hN1.own; subst hv; have hz : w.heap.size + 1 < w1.heap.size := (by have := hf1.size; simp at this; omega); have H0 := hid (hf1.at (heap_alloc2_old _ _ _) (fun x => x)))
            | (refine wpList_load_row rfl 51 _ rfl w.heap.size rfl _ _ _ _ (heap_alloc_prev H0.out) Try.underlying51 rfl szWord ?_)
            | (refine wpList_store_row rfl 57 _ _ rfl (w.heap.size + 1) (LV.cells ⟨⟨⟨p, [a, b, c, d, e, f, g, k]⟩, atB s i == 126, pp.ns, pp.st, pp.en, []⟩, .slice ao pp.ns.length cap, .slice none 0 0⟩).toArray rfl rfl _ _ (heap_alloc_prev (hf1.at (heap_alloc2_new _ _ _) (fun x => x))) szLine rfl ?_ ?_))
          case refine_1 => 
            refine LV.At.one (w := w1) ⟨hN1, RowAt.nil _ _ _ _, rfl, ?_⟩
            show pp.ns.length ≤ 5000
            simp at g4; omega
          refine bodyPost_ret (results_row2 rfl _ _ (w.heap.size + 1) 57 _ (0, 0) _ rfl (setRow_heap _ _ _ _ _ _ (heap_alloc_prev (hf1.at (heap_alloc2_new _ _ _) (fun x => x)))) Try.underlying57 rfl szLine) rfl ?_
          rw [← HR.out]
          have m1 : Fresh w1 ((w1.alloc (.cells #[.slice ao pp.ns.length cap, .int .i64 pp.st, .int .i64 pp.en] 54 (0, 0)))) := (Mod.refl _ w1).alloc _
          have hk1' : ∀ k, (Value.slice ao pp.ns.length cap).ownBlock = some k → w.heap.size + 2 ≤ k := fun k hk => by have := hk1 k hk; simpa using this
          refine ⟨⟨⟨⟨p, [a, b, c, d, e, f, g, k]⟩, atB s i == 126, pp.ns, pp.st, pp.en, []⟩, .slice ao pp.ns.length cap, .slice none 0 0⟩, rfl, rfl, (((((((Mod.refl _ w).alloc _).alloc _).trans hf1).alloc _)).setRow (by simp) _), ⟨?_, RowAt.nil _ _ _ _, rfl, by show pp.ns.length ≤ 5000; simp at g4; omega⟩, fun k hk => by have := hk1' k hk; omega, by simp [Value.ownBlock]⟩
          exact (hN1.fresh m1).kept (S := fun k => k = w.heap.size + 1) (Mod.setRow (S := fun k => k = w.heap.size + 1) (Mod.refl _ _) (fun _ => rfl) _) (fun k hk e => by have := hk1' k hk; omega)
      · rw [if_pos hnl] at hR
        have HR := hid hR
        have c3 : (atB s pp.next != 10) = true := by simpa using hnl
        clear hR hc g3 hok hnl
        rcases hc' with c1 | ⟨c1, c2⟩
        all_goals
          go_enter Try.func36, Try.ntmps36
          go_wp2_with (first
            | (go_at_call 31; refine (at_any _ _ _ (by unfold maxLen; omega)).mono ?_; rintro e w' ⟨rfl, hw⟩; rw [hw]; clear hw)
            | (go_at_call 42; refine (RG.out _).mono ?_; rintro e w1 ⟨v, rfl, hf1, hN1, hk1⟩; obtain ⟨ao, cap, hv⟩ := own_form hN1.own; subst hv; have hz : w.heap.size + 1 < w1.heap.size := (by have := hf1.size; simp at this; omega))
            | (refine wpList_store_row rfl 57 _ _ rfl (w.heap.size + 1) zeroLV.cells.toArray rfl rfl _ _ (heap_alloc_prev (hf1.at (heap_alloc2_new _ _ _) (fun x => x))) szLine rfl (zeroLV_at w).one ?_))
          refine bodyPost_ret (results_row2 rfl _ _ (w.heap.size + 1) 57 zeroLV.cells.toArray (0, 0) _ rfl (setRow_heap _ _ _ _ _ _ (heap_alloc_prev (hf1.at (heap_alloc2_new _ _ _) (fun x => x)))) Try.underlying57 rfl szLine) rfl ?_
          rw [← HR.out]
          exact lineRet_zero rfl (((((((Mod.refl _ w).alloc _).alloc _).trans hf1).alloc _)).setRow (by simp) _)
end Go.Proofs.Ytdbdkdekeicmhaa
