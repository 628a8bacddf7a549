import Derived.Test.YtnhhboikbbnklaaSh2
namespace Go.Proofs.Ytnhhboikbbnklaa
open Go.RowKit
set_option linter.unusedVariables false
set_option linter.unusedSimpArgs false

/-- A line, as it is read. -/
structure Ln where
  front : Wd
  skip : Bool
  ns : List Node
  st : Int
  en : Int
  syms : List Wd
/-- .. and where its lists lie. -/
structure LV where
  ln : Ln
  vn : Value
  vs : Value
def LV.cells (x : LV) : List Value := x.ln.front.cells ++ [.bool x.ln.skip, x.vn, .int .i64 x.ln.st, .int .i64 x.ln.en, x.vs]
def zeroLn : Ln := ⟨⟨0, zero8⟩, false, [], 0, 0, []⟩
abbrev SymsAt := RowAt Wd.cells 9 69
structure LV.At (w : World) (x : LV) : Prop where
  nodes : NodesAt w x.vn x.ln.ns
  syms : SymsAt w x.vs x.ln.syms
  front : x.ln.front.ls.length = 8
  small : x.ln.ns.length ≤ 5000
theorem slice_one {w : World} {base size n : Nat} {e : TypeId} {v : Value} {xs : List Value} (h : w.ownsRow base e size v n xs) : v.oneCell' = true := by
  obtain ⟨a, c, rfl⟩ := own_form h; rfl
theorem LV.cells_len {x : LV} (h : x.ln.front.ls.length = 8) : x.cells.length = 14 := by simp [LV.cells, Wd.cells, h]
theorem LV.At.one {w : World} {x : LV} (h : x.At w) : x.cells.toArray.all (·.oneCell') = true := by
  apply all_oneCell_toArray
  have h1 := slice_one h.nodes.own
  have h2 := slice_one h.syms.own
  intro v hv
  simp [LV.cells, Wd.cells] at hv
  rcases hv with rfl | ⟨a, _, rfl⟩ | rfl | rfl | rfl | rfl | rfl
  · rfl
  · rfl
  · rfl
  · exact h1
  · rfl
  · rfl
  · exact h2
theorem LV.At.fresh {w w' : World} {x : LV} (h : x.At w) (hm : Fresh w w') : x.At w' := ⟨h.nodes.fresh hm, h.syms.fresh hm, h.front, h.small⟩
theorem szLine : (Try.prog.info? 75).map (·.size) = some 14 := by kernel_rfl
theorem szLineOf {x : LV} (h : x.ln.front.ls.length = 8) : (Try.prog.info? 75).map (·.size) = some x.cells.toArray.size := by rw [List.size_toArray, LV.cells_len h]; exact szLine
theorem LV.size {x : LV} (h : x.ln.front.ls.length = 8) : x.cells.toArray.size = 14 := by rw [List.size_toArray, LV.cells_len h]
def zeroLV : LV := ⟨zeroLn, .slice none 0 0, .slice none 0 0⟩
theorem zeroLV_at (w : World) : zeroLV.At w := ⟨⟨World.ownsRow_nil _ _ _ _, fun _ h => by cases h⟩, RowAt.nil _ _ _ _, rfl, by simp [zeroLV, zeroLn]⟩

theorem eight {ls : List Int} (h : ls.length = 8) : ∃ a b c d e f g k, ls = [a, b, c, d, e, f, g, k] := by
  match ls, h with
  | [a, b, c, d, e, f, g, k], _ => exact ⟨a, b, c, d, e, f, g, k, rfl⟩
def headB (d : Wd) : Bool := isCapB (d.ls.getD 0 0)
def byteL (ls : List Int) : Prop := ∀ x ∈ ls, 0 ≤ x ∧ x ≤ 255

set_option maxHeartbeats 1000000 in
theorem isHead_any (d : Wd) (w : World) (hl : d.ls.length = 8) (hb : 0 ≤ d.ls.getD 0 0 ∧ d.ls.getD 0 0 ≤ 255) :
    Calls Try.prog 70 #[.agg d.cells.toArray] w fun e w' => e = .returned (.bool (headB d)) ∧ Fresh w w' := by
  obtain ⟨p, ls⟩ := d
  obtain ⟨a, b, c, d, e, f, g, k, rfl⟩ := eight hl
  have e1 : (Wd.cells ⟨p, [a, b, c, d, e, f, g, k]⟩).toArray = #[.int .i64 p, .int .u8 a, .int .u8 b, .int .u8 c, .int .u8 d, .int .u8 e, .int .u8 f, .int .u8 g, .int .u8 k] := rfl
  have e2 : headB ⟨p, [a, b, c, d, e, f, g, k]⟩ = isCapB a := rfl
  rw [e1, e2]
  simp at hb
  obtain ⟨hb0, hb1⟩ := hb
  clear e1 e2 hl
  go_enter Try.func70, Try.ntmps70
  go_wp2_with (go_at_call 82; refine (isCap_any _ _).mono ?_; rintro e w' ⟨rfl, hw⟩; rw [hw]; clear hw)
  go_ret
  exact ⟨rfl, (Mod.refl _ _).alloc _⟩

set_option maxHeartbeats 1000000 in
theorem isRule_any (x : LV) (w : World) (hl : x.ln.front.ls.length = 8) (hb : 0 ≤ x.ln.front.ls.getD 0 0 ∧ x.ln.front.ls.getD 0 0 ≤ 255) :
    Calls Try.prog 58 #[.agg x.cells.toArray] w fun e w' => e = .returned (.bool (!headB x.ln.front)) ∧ Fresh w w' := by
  have RG : Hid ((w.alloc (.cells x.cells.toArray 75)).rangeAt w.heap.size 0 x.ln.front.cells) := by
    intro j v hj
    rw [cellOf (heap_alloc_at _ _)]
    simp only [LV.cells, Nat.zero_add, List.getElem?_toArray]
    rw [List.getElem?_append_left (List.getElem?_eq_some_iff.1 hj).1]; exact hj
  go_enter Try.func58, Try.ntmps58
  go_wp2_with (first
    | (go_at_call 70; refine (isHead_any _ _ hl hb).mono ?_; rintro e w1 ⟨rfl, hf⟩)
    | (refine wpList_load_mid rfl 69 _ rfl w.heap.size 0 rfl x.ln.front.cells _ RG.out Try.underlying69 rfl (by rw [Wd.cells_len hl]; exact szWord) ?_))
  go_ret
  exact ⟨rfl, ((Mod.refl _ w).alloc _).trans hf⟩
end Go.Proofs.Ytnhhboikbbnklaa
