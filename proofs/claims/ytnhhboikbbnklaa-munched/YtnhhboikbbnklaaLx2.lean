import Derived.Test.YtnhhboikbbnklaaLx1
namespace Go.Proofs.Ytnhhboikbbnklaa
open Go.RowKit
set_option linter.unusedVariables false
set_option linter.unusedSimpArgs false

def bestL (lns : List Ln) (t : ByteArray) (i : Nat) : Nat → Nat → Int × Int → Int × Int
  | 0, _, b => b
  | f + 1, k, b => match lns[k]? with
    | some x => bestL lns t i f (k + 1) (if b.2 < longF x.ns x.st x.en t i then ((k : Int), longF x.ns x.st x.en t i) else b)
    | none => b
def bestF (lns : List Ln) (t : ByteArray) (i : Nat) : Int × Int := bestL lns t i (lns.length + 1) 0 (0, i)
abbrev tokArr (r a b : Int) : Array Value := #[.int .i64 r, .int .i64 a, .int .i64 b]
theorem szTok : (Try.prog.info? 54).map (·.size) = some 3 := by kernel_rfl

set_option maxRecDepth 20000 in
set_option maxHeartbeats 4000000 in
theorem lexLongest_any (w : World) (v : Value) (xs : List LV) (t : ByteArray) (i : Nat) (hL : LinesAt w v xs) (hn : xs.length ≤ 1000) (ht : t.size ≤ 200) (hi : i ≤ 200) :
    Calls Try.prog 52 #[v, .string t, .int .i64 i] w fun e w' => e = .returned (.agg (tokArr (bestF (xs.map LV.ln) t i).1 i (bestF (xs.map LV.ln) t i).2)) ∧ Fresh w w' := by
  obtain ⟨ao, cap, hv⟩ := own_form hL.own
  subst hv
  have HL := hid hL
  generalize hR : bestF (xs.map LV.ln) t i = R
  have HR : Hid (bestL (xs.map LV.ln) t i ((xs.map LV.ln).length + 1) 0 (0, i) = R) := hR
  clear hL hR
  go_enter Try.func52, Try.ntmps52
  go_wp2
  go_loopw [15] (fun x15 wr => ∃ (f k : Nat) (b : Int × Int), x15 = .int .i64 k ∧ bestL (xs.map LV.ln) t i f k b = R ∧ xs.length + 1 ≤ f + k ∧ k ≤ xs.length ∧ Fresh w wr ∧
      wr.heap[w.heap.size]? = some (.cells (tokArr 0 0 0) 54 (0, 0)) ∧ ∃ fr : Int, wr.heap[w.heap.size + 1]? = some (.cells (tokArr b.1 i b.2) 54 (0, 0)))
      (fun x _ => 1001 - (intOf x).toNat)
  case atStart => exact ⟨_, 0, (0, i), rfl, HR.out, by simp, by omega, ((Mod.refl _ w).alloc _).alloc _, heap_alloc2_old _ _ _, 0, heap_alloc2_new _ _ _⟩
  case round =>
    obtain ⟨f, k, b, rfl, hR, hfu, hk, hfr, hb0, _, hb1⟩ := hrel
    obtain ⟨f, rfl⟩ : ∃ g, f = g + 1 := ⟨f - 1, by omega⟩
    unfold bestL at hR
    have HME := hid (meas (B := 1001) k (by omega))
    have HB0 := hid hb0
    have HB1 := hid hb1
    clear hb0 hb1
    by_cases hlt : k < xs.length
    · have hlt' : k < (xs.map LV.ln).length := by simpa using hlt
      rw [List.getElem?_eq_getElem hlt'] at hR
      simp only [List.getElem_map] at hR
      obtain ⟨g, cap', hv'⟩ := Joins.ownsRow_form HL.out.own (by omega)
      rw [Value.slice.injEq] at hv'
      obtain ⟨rfl, _, rfl⟩ := hv'
      have HL1 := hid (HL.out.fresh hfr)
      have RG := hid (HL1.out.patRange k hlt)
      have hA := HL1.out.each xs[k] (by simp)
      have LG := hid (longest_any wr xs[k].vn xs[k].ln.st xs[k].ln.en xs[k].ln.ns t i hA.nodes (by have := hA.small; omega) (by omega) (by omega))
      have hbd := longF_bd xs[k].ln.ns xs[k].ln.st xs[k].ln.en t i
      generalize longF xs[k].ln.ns xs[k].ln.st xs[k].ln.en t i = lg at hR LG hbd
      obtain ⟨hbd1, hbd2⟩ := hbd
      clear hA
      by_cases hgt : b.2 < lg
      · rw [if_pos hgt] at hR
        have HRR := hid hR
        clear hR
        go_wp2_with (first
          | (refine wpList_load_mid rfl 72 _ rfl g (k * 14 + 10) rfl [xs[k].vn, .int .i64 xs[k].ln.st, .int .i64 xs[k].ln.en] _ RG.out Try.underlying72 rfl szPat ?_)
          | (go_at_call 25; refine LG.out.mono ?_; rintro e w2 ⟨rfl, hf2⟩; have k1 := cellOf (hf2.at HB1.out (fun x => x)); have k2 := frozenOf (hf2.at HB1.out (fun x => x))))
        go_roundw
        case rel =>
          refine ⟨f, k + 1, (k, lg), by go_num, HRR.out, by omega, by omega, (((hfr.trans hf2).setCell (by simp) _).setCell (by simp) _).setCell (by simp) _, ?_, 0, ?_⟩
          · exact heap_setCell_prev (heap_setCell_prev (heap_setCell_prev (hf2.at HB0.out (fun x => x)) (by simp)) (by simp)) (by simp)
          · rw [Proofs.Ytnhhboikbbnklaa.heap_setCell_same (Proofs.Ytnhhboikbbnklaa.heap_setCell_same (Proofs.Ytnhhboikbbnklaa.heap_setCell_same (hf2.at HB1.out (fun x => x)) _ _) _ _) _ _]; rfl
        case measure => exact HME.out
      · rw [if_neg hgt] at hR
        have HRR := hid hR
        clear hR
        go_wp2_with (first
          | (refine wpList_load_mid rfl 72 _ rfl g (k * 14 + 10) rfl [xs[k].vn, .int .i64 xs[k].ln.st, .int .i64 xs[k].ln.en] _ RG.out Try.underlying72 rfl szPat ?_)
          | (go_at_call 25; refine LG.out.mono ?_; rintro e w2 ⟨rfl, hf2⟩; have k1 := cellOf (hf2.at HB1.out (fun x => x))))
        go_roundw
        case rel => exact ⟨f, k + 1, b, by go_num, HRR.out, by omega, by omega, hfr.trans hf2, hf2.at HB0.out (fun x => x), 0, hf2.at HB1.out (fun x => x)⟩
        case measure => exact HME.out
    · rw [List.getElem?_eq_none (by simp; omega)] at hR
      simp only [] at hR
      have HRR := hid hR
      clear hR
      have k1 := cellOf HB1.out
      have k3 := cellOf HB0.out
      have k4 := frozenOf HB0.out
      go_wp2
      refine bodyPost_ret (results_cell_row rfl _ _ w.heap.size 54 (tokArr b.1 i b.2) (0, 0) _ rfl ?_ Try.underlying54 rfl szTok) rfl ⟨by rw [← HRR.out], ((hfr.setCell (by simp) _).setCell (by simp) _).setCell (by simp) _⟩
      rw [Proofs.Ytnhhboikbbnklaa.heap_setCell_same (Proofs.Ytnhhboikbbnklaa.heap_setCell_same (Proofs.Ytnhhboikbbnklaa.heap_setCell_same HB0.out _ _) _ _) _ _]; rfl

def skipB (lns : List Ln) (r : Int) : Bool := if r < 0 then false else match lns[r.toNat]? with | some x => x.skip | none => false
set_option maxRecDepth 20000 in
set_option maxHeartbeats 4000000 in
theorem isSkipped_any (w : World) (v : Value) (xs : List LV) (r : Nat) (hL : LinesAt w v xs) (hn : xs.length ≤ 1000) :
    Calls Try.prog 53 #[v, .int .i64 r] w fun e w' => e = .returned (.bool (skipB (xs.map LV.ln) r)) ∧ w' = w := by
  by_cases hlt : r < xs.length
  · obtain ⟨g, cap, hv⟩ := Joins.ownsRow_form hL.own (by omega)
    subst hv
    have c9 := hL.cell9 r hlt
    have e1 : skipB (xs.map LV.ln) r = xs[r].ln.skip := by unfold skipB; rw [if_neg (by omega)]; simp [hlt]
    rw [e1]
    clear hL e1
    go_enter Try.func53, Try.ntmps53
    go_wp2
    go_ret
    exact ⟨rfl, rfl⟩
  · obtain ⟨ao, cap, hv⟩ := own_form hL.own
    subst hv
    have e1 : skipB (xs.map LV.ln) r = false := by unfold skipB; rw [if_neg (by omega)]; simp [hlt]
    rw [e1]
    clear hL e1
    go_enter Try.func53, Try.ntmps53
    go_wp2
    go_ret
    exact ⟨rfl, rfl⟩
end Go.Proofs.Ytnhhboikbbnklaa
