import Derived.Test.YtnhhboikbbnklaaCk4
namespace Go.Proofs.Ytnhhboikbbnklaa
open Go.RowKit
set_option linter.unusedVariables false
set_option linter.unusedSimpArgs false

def emptyB (x : Ln) : Bool := ruleB x && (longF x.ns x.st x.en ByteArray.empty 0 == 0)
def emptyL (lns : List Ln) : Nat → Nat → Int
  | 0, _ => -1
  | f + 1, i => match lns[i]? with | some x => if emptyB x then x.front.place else emptyL lns f (i + 1) | none => -1
def emptyF (lns : List Ln) : Int := emptyL lns (lns.length + 1) 0
theorem longest_zero (w : World) (v : Value) (st en : Int) (ns : List Node) (hN : NodesAt w v ns) (hn : ns.length ≤ 100000) :
    Calls Try.prog 25 #[patV v st en, .string ⟨#[]⟩, .int .i64 0] w fun e w' => e = .returned (.int .i64 (longF ns st en ByteArray.empty 0)) ∧ Fresh w w' := by
  have := longest_any w v st en ns ByteArray.empty 0 hN hn (by simp) (by omega)
  exact this

set_option maxRecDepth 20000 in
set_option maxHeartbeats 8000000 in
theorem empty_find (w : World) (v : Value) (xs : List LV) (hL : LinesAt w v xs) (hn : xs.length ≤ 1000) (hfb : ∀ x ∈ xs, FB x) :
    Calls Try.prog 37 #[v] w fun e w' => e = .returned (.int .i64 (emptyF (xs.map LV.ln))) ∧ Fresh w w' := by
  obtain ⟨ao, cap, hv⟩ := own_form hL.own
  subst hv
  have HL := hid hL
  have HFB := hid hfb
  generalize hR : emptyF (xs.map LV.ln) = R
  have HR : Hid (emptyL (xs.map LV.ln) ((xs.map LV.ln).length + 1) 0 = R) := hR
  clear hL hfb hR
  go_enter Try.func37, Try.ntmps37
  go_wp2
  go_loopw [7] (fun x9 wr => ∃ (f i : Nat), x9 = .int .i64 i ∧ emptyL (xs.map LV.ln) f i = R ∧ xs.length + 1 ≤ f + i ∧ i ≤ xs.length ∧ Fresh w wr)
      (fun x _ => 1001 - (intOf x).toNat)
  case atStart => exact ⟨_, 0, rfl, HR.out, by simp, by omega, Mod.refl _ _⟩
  case round =>
    obtain ⟨f, i, rfl, hR, hfu, hi, hfr⟩ := hrel
    obtain ⟨f, rfl⟩ : ∃ g, f = g + 1 := ⟨f - 1, by omega⟩
    unfold emptyL at hR
    have HME := hid (meas (B := 1001) i (by omega))
    by_cases hlt : i < xs.length
    · have hlt' : i < (xs.map LV.ln).length := by simpa using hlt
      rw [List.getElem?_eq_getElem hlt'] at hR
      simp only [List.getElem_map] at hR
      obtain ⟨g, cap', hv'⟩ := Joins.ownsRow_form HL.out.own (by omega)
      rw [Value.slice.injEq] at hv'
      obtain ⟨rfl, _, rfl⟩ := hv'
      have HL1 := hid (HL.out.fresh hfr)
      have RG := hid (HL1.out.row.range i hlt)
      have hA := HL1.out.each xs[i] (by simp)
      have HA := hid hA
      have HFr := hid hA.front
      have HFi := hid (HFB.out xs[i] (by simp))
      have k0 := LV.at0 xs[i]
      obtain ⟨k10, k11, k12⟩ := LV.at10 hA.front
      generalize hX : xs[i] = x at *
      clear hA hX
      have hrb : Hid (ruleB x.ln = !headB x.ln.front) := rfl
      have RU := hid (fun w => isRule_any x w HFr.out HFi.out)
      rw [← hrb.out] at RU
      have LG := hid (fun w hN => longest_zero w x.vn x.ln.st x.ln.en x.ln.ns hN (by have := HA.out.small; omega))
      unfold emptyB at hR
      generalize longF x.ln.ns x.ln.st x.ln.en ByteArray.empty 0 = lg at hR LG
      cases hr : ruleB x.ln
      · rw [hr] at hR RU
        simp only [Bool.false_and, Bool.false_eq_true, if_false] at hR
        have HRR := hid hR
        clear hR
        go_wp2_with (first
          | (go_at_call 58; refine (RU.out _).mono ?_; rintro e w1 ⟨rfl, hf⟩)
          | (refine wpList_load_mid rfl 75 _ rfl g (i * 14) rfl x.cells _ RG.out Try.underlying75 rfl (by rw [LV.cells_len HFr.out]; exact szLine) ?_)
          | (refine wpList_store_new rfl 75 _ _ rfl wr _ _ _ rfl rfl rfl (szLineOf HFr.out) (sameSize rfl (LV.size HFr.out)) HA.out.one ?_)
          | (refine wpList_load_row rfl 75 _ rfl wr.heap.size rfl _ _ _ _ (heap_alloc_at _ _) Try.underlying75 rfl (szLineOf HFr.out) ?_))
        go_roundw
        case rel => exact ⟨f, i + 1, by go_num, HRR.out, by omega, by omega, (hfr.alloc _).trans hf⟩
        case measure => exact HME.out
      · rw [hr] at hR RU
        simp only [Bool.true_and] at hR
        cases hlg : (lg == 0)
        all_goals
          rw [hlg] at hR
          simp only [Bool.false_eq_true, if_false, if_true] at hR
          have HRR := hid hR
          clear hR
          go_wp2_with (first
            | (go_at_call 58; refine (RU.out _).mono ?_; rintro e w1 ⟨rfl, hf⟩; have kc := cellOf (hf.at (heap_alloc_at _ _) (fun x => x)); have HBL := hid (hf.at (heap_alloc_at _ _) (fun x => x)); have HN1 := hid ((HA.out.nodes.fresh ((Mod.refl _ wr).alloc (.cells x.cells.toArray 75 (0, 0)))).fresh hf))
            | (go_at_call 25; refine (LG.out _ HN1.out).mono ?_; rintro e w2 ⟨rfl, hf2⟩; clear kc; have kc := cellOf (hf2.at HBL.out (fun x => x)))
            | (refine wpList_load_mid rfl 75 _ rfl g (i * 14) rfl x.cells _ RG.out Try.underlying75 rfl (by rw [LV.cells_len HFr.out]; exact szLine) ?_)
            | (refine wpList_store_new rfl 75 _ _ rfl wr _ _ _ rfl rfl rfl (szLineOf HFr.out) (sameSize rfl (LV.size HFr.out)) HA.out.one ?_)
            | (refine wpList_load_row rfl 75 _ rfl wr.heap.size rfl _ _ _ _ (heap_alloc_at _ _) Try.underlying75 rfl (szLineOf HFr.out) ?_))
        · go_roundw
          case rel => exact ⟨f, i + 1, by go_num, HRR.out, by omega, by omega, ((hfr.alloc _).trans hf).trans hf2⟩
          case measure => exact HME.out
        · go_ret
          exact ⟨ret_int HRR.out, ((hfr.alloc _).trans hf).trans hf2⟩
    · rw [List.getElem?_eq_none (by simp; omega)] at hR
      have HRR := hid hR
      clear hR
      go_wp2
      go_ret
      exact ⟨ret_int HRR.out, hfr⟩

def hasProd (lns : List Ln) : Bool := lns.any (fun x => !ruleB x)
set_option maxRecDepth 20000 in
set_option maxHeartbeats 8000000 in
theorem hasProd_any (w : World) (v : Value) (xs : List LV) (hL : LinesAt w v xs) (hn : xs.length ≤ 1000) (hfb : ∀ x ∈ xs, FB x) :
    Calls Try.prog 38 #[v] w fun e w' => e = .returned (.bool (hasProd (xs.map LV.ln))) ∧ Fresh w w' := by
  obtain ⟨ao, cap, hv⟩ := own_form hL.own
  subst hv
  have HL := hid hL
  have HFB := hid hfb
  clear hL hfb
  go_enter Try.func38, Try.ntmps38
  go_wp2
  go_loopw [6] (fun x9 wr => ∃ (i : Nat), x9 = .int .i64 i ∧ (∀ j (hj : j < xs.length), j < i → ruleB xs[j].ln = true) ∧ i ≤ xs.length ∧ Fresh w wr)
      (fun x _ => 1001 - (intOf x).toNat)
  case atStart => exact ⟨0, rfl, fun j _ h => by omega, by omega, Mod.refl _ _⟩
  case round =>
    obtain ⟨i, rfl, hall, hi, hfr⟩ := hrel
    have HME := hid (meas (B := 1001) i (by omega))
    have HAl := hid hall
    clear hall
    by_cases hlt : i < xs.length
    · obtain ⟨g, cap', hv'⟩ := Joins.ownsRow_form HL.out.own (by omega)
      rw [Value.slice.injEq] at hv'
      obtain ⟨rfl, _, rfl⟩ := hv'
      have HL1 := hid (HL.out.fresh hfr)
      have RG := hid (HL1.out.row.range i hlt)
      have HFr := hid (HL1.out.each xs[i] (by simp)).front
      have HFi := hid (HFB.out xs[i] (by simp))
      have hrb : Hid (ruleB xs[i].ln = !headB xs[i].ln.front) := rfl
      have RU := hid (fun w => isRule_any xs[i] w HFr.out HFi.out)
      rw [← hrb.out] at RU
      cases hr : ruleB xs[i].ln
      all_goals
        rw [hr] at RU
        have HRb := hid hr
        clear hr
        go_wp2_with (first
          | (go_at_call 58; refine (RU.out _).mono ?_; rintro e w1 ⟨rfl, hf⟩)
          | (refine wpList_load_mid rfl 75 _ rfl g (i * 14) rfl xs[i].cells _ RG.out Try.underlying75 rfl (by rw [LV.cells_len HFr.out]; exact szLine) ?_))
      · go_ret
        refine ⟨ret_bool ?_, hfr.trans hf⟩
        symm; unfold hasProd; rw [List.any_eq_true]
        exact ⟨xs[i].ln, List.mem_map.2 ⟨xs[i], List.getElem_mem hlt, rfl⟩, by rw [HRb.out]; rfl⟩
      · go_roundw
        case rel =>
          refine ⟨i + 1, by go_num, ?_, by omega, hfr.trans hf⟩
          intro j hj hji
          by_cases e : j = i
          · subst e; exact HRb.out
          · exact HAl.out j hj (by omega)
        case measure => exact HME.out
    · have hie : i = xs.length := by omega
      subst hie
      go_wp2
      go_ret
      refine ⟨ret_bool ?_, hfr⟩
      symm; unfold hasProd; rw [List.any_eq_false]
      intro x hx
      simp only [List.mem_map] at hx
      obtain ⟨y, hy, rfl⟩ := hx
      obtain ⟨j, hj, rfl⟩ := List.getElem_of_mem hy
      simp [HAl.out j hj hj]
end Go.Proofs.Ytnhhboikbbnklaa
