import Derived.Test.YtjcknghdgfcboaaLd1
import Derived.Deep.OwnRows
import Derived.Test.YtjcknghdgfcboaaRg1
namespace Go.Proofs.Ytjcknghdgfcboaa
open Go.RowKit
set_option linter.unusedVariables false
set_option linter.unusedSimpArgs false

abbrev bsl (g n : Nat) : Value := .slice (some ⟨g, 0, none⟩) n n
def BSet (w : World) (g : Nat) (fs : List Bool) : Prop := w.heap[g]? = some (.cells (bools fs).toArray 4 (0, 0))
theorem BSet.fresh {w w' : World} {g : Nat} {fs : List Bool} (h : BSet w g fs) (m : Fresh w w') : BSet w' g fs := m.at h (fun x => x)
theorem BSet.lt {w : World} {g : Nat} {fs : List Bool} (h : BSet w g fs) : g < w.heap.size := heap_lt h
theorem BSet.cell {w : World} {g : Nat} {fs : List Bool} (h : BSet w g fs) {j : Nat} (hj : j < fs.length) : w.cell? ⟨g, j, none⟩ = some (.bool (fs.getD j false)) := by
  rw [cellOf h, List.getElem?_toArray, List.getElem?_map, List.getElem?_eq_getElem hj]
  simp [hj]
theorem BSet.frozen {w : World} {g : Nat} {fs : List Bool} (h : BSet w g fs) (j : Nat) : w.frozen? ⟨g, j, none⟩ = false := frozenOf h j
theorem BSet.put {w : World} {g : Nat} {fs : List Bool} (h : BSet w g fs) (j : Nat) (b : Bool) : BSet (w.setCell ⟨g, j, none⟩ (.bool b)) g (fs.set j b) := by
  unfold BSet
  rw [Proofs.Ytjcknghdgfcboaa.heap_setCell_same h]
  congr 2
  apply Array.ext_getElem?
  intro k
  simp [bools, List.map_set]
theorem made_bools (n : Nat) : madeCells #[.bool false] n = (bools (List.replicate n false)).toArray := by
  unfold madeCells
  apply Array.ext_getElem?
  intro i
  by_cases h : i < n <;> simp [h, Nat.mod_one]
theorem on_getD {fs : List Bool} {i : Nat} : On fs i ↔ fs.getD i false = true := by
  unfold On
  rw [List.getD_eq_getElem?_getD]
  cases fs[i]? with
  | none => simp
  | some b => simp
def orI (xs ys : List Bool) (n i : Nat) : List Bool := (List.range n).map fun j => decide (j < i) && (xs.getD j false || ys.getD j false)
theorem orI_len (xs ys : List Bool) (n i : Nat) : (orI xs ys n i).length = n := by simp [orI]
theorem orI_zero (xs ys : List Bool) (n : Nat) : orI xs ys n 0 = List.replicate n false := by
  apply List.ext_getElem?
  intro j
  by_cases h : j < n
  · simp [orI, h]
  · simp [orI, h]
theorem orI_set (xs ys : List Bool) {n i : Nat} (hi : i < n) : (orI xs ys n i).set i (xs.getD i false || ys.getD i false) = orI xs ys n (i + 1) := by
  apply List.ext_getElem
  · simp [orI]
  · intro j h1 h2
    rw [List.getElem_set]
    simp only [orI, List.getElem_map, List.getElem_range]
    by_cases e : i = j
    · subst e; simp
    · rw [if_neg e]
      congr 1
      rw [Bool.eq_iff_iff, decide_eq_true_eq, decide_eq_true_eq]; omega
def moI (xs ys : List Bool) (i : Nat) : Bool := (List.range i).any fun j => ys.getD j false && !xs.getD j false
theorem moI_succ (xs ys : List Bool) (i : Nat) : moI xs ys (i + 1) = (moI xs ys i || (ys.getD i false && !xs.getD i false)) := by
  unfold moI; rw [List.range_succ, List.any_append]; simp
theorem or_un {xs ys : List Bool} {n : Nat} (h : xs.length = n) : Un xs ys (orI xs ys n n) := by
  refine ⟨by rw [orI_len, h], fun j => ?_⟩
  rw [on_getD, on_getD, on_getD]
  by_cases hj : j < n
  · have : (orI xs ys n n).getD j false = (xs.getD j false || ys.getD j false) := by
      simp [orI, hj]
    rw [this, Bool.or_eq_true]
    constructor
    · rintro (q | q)
      · exact .inl q
      · exact .inr ⟨by omega, q⟩
    · rintro (q | ⟨_, q⟩)
      · exact .inl q
      · exact .inr q
  · have e1 : (orI xs ys n n).getD j false = false := by simp [orI, hj]
    have e2 : xs.getD j false = false := by
      rw [List.getD_eq_getElem?_getD, List.getElem?_eq_none (by omega)]; rfl
    rw [e1, e2]
    constructor
    · intro q; cases q
    · rintro (q | ⟨q, _⟩)
      · cases q
      · omega

set_option maxRecDepth 20000 in
set_option maxHeartbeats 2000000 in
theorem zunion_any (w : World) (ga gb n : Nat) (xs ys : List Bool) (ha : BSet w ga xs) (hb : BSet w gb ys) (la : xs.length = n) (lb : ys.length = n) (hn : n ≤ 1000) :
    Calls Try.prog 54 #[bsl ga n, bsl gb n] w fun e w' => e = .returned (.tuple #[bsl w.heap.size n, .bool (moI xs ys n)]) ∧ Fresh w w' ∧ BSet w' w.heap.size (orI xs ys n n) := by
  have HA := hid ha
  have HB := hid hb
  have LA := hid la
  have LB := hid lb
  have hga := ha.lt
  have hgb := hb.lt
  have mk := fun w => run_make_row' (P := Try.prog) 73 4 (.bool false) 1 Try.underlying73 (by kernel_rfl) rfl .i64 .i64 n (by omega) (by omega) w
  clear ha hb la lb
  go_enter Try.func54, Try.ntmps54
  go_wp2
  go_loopw [7, 8] (fun x7 x8 wr => ∃ i : Nat, x8 = .int .i64 i ∧ i ≤ n ∧ x7 = .bool (moI xs ys i) ∧ BSet wr w.heap.size (orI xs ys n i) ∧ Fresh w wr)
      (fun _ x _ => 1001 - (intOf x).toNat)
  case atStart =>
    refine ⟨0, rfl, by omega, rfl, ?_, (Mod.refl _ w).alloc _⟩
    rw [orI_zero, made_bools]; exact heap_alloc_at _ _
  case round =>
    obtain ⟨i, rfl, hi, rfl, hC, hfr⟩ := hrel
    have HME := hid (meas (B := 1001) i (by omega))
    have HF := hid hfr
    have HC := hid hC
    clear mk
    by_cases hlt : i < n
    · have k1 : (i : Int) < (n : Int) := by omega
      have c1 := (HA.out.fresh hfr).cell (j := i) (by rw [LA.out]; exact hlt)
      have c2 := (HB.out.fresh hfr).cell (j := i) (by rw [LB.out]; exact hlt)
      have c3 := hC.cell (j := i) (by rw [orI_len]; exact hlt)
      have z3 := hC.frozen i
      have HS := hid (orI_set xs ys hlt)
      have HM := hid (moI_succ xs ys i)
      have n1 : ga ≠ w.heap.size := by omega
      have n2 : gb ≠ w.heap.size := by omega
      have n3 : w.heap.size ≠ ga := by omega
      have n4 : w.heap.size ≠ gb := by omega
      generalize (orI xs ys n i).getD i false = xo at c3
      generalize xs.getD i false = xa at c1 HS HM
      generalize ys.getD i false = yb at c2 HS HM
      generalize moI xs ys i = mo at HM
      clear hC hfr
      cases xa <;> cases yb <;> cases mo
      all_goals
        go_wp2
        go_roundw
        case rel =>
          refine ⟨i + 1, by go_num, by omega, by rw [HM.out]; rfl, ?_, HF.out.setCell (by simp) _⟩
          rw [← HS.out]; exact HC.out.put _ _
        case measure => exact HME.out
    · have k1 : ¬ (i : Int) < (n : Int) := by omega
      have hin : i = n := by omega
      subst hin
      go_wp2
      go_ret2
      exact ⟨rfl, HF.out, HC.out⟩
/-- one byte further -/
def onI (H : Nat → Bool) (fs : List Bool) (n i : Nat) : List Bool := (List.range n).map fun j => decide (0 < j ∧ j ≤ i) && (fs.getD (j - 1) false && H (j - 1))
theorem onI_len (H : Nat → Bool) (fs : List Bool) (n i : Nat) : (onI H fs n i).length = n := by simp [onI]
theorem onI_zero (H : Nat → Bool) (fs : List Bool) (n : Nat) : onI H fs n 0 = List.replicate n false := by
  apply List.ext_getElem?
  intro j
  by_cases h : j < n
  · have : decide (0 < j ∧ j ≤ 0) = false := decide_eq_false (by omega)
    simp only [onI, List.getElem?_map, List.getElem?_range h, Option.map_some, this, Bool.false_and]
    simp [h]
  · simp [onI, h]
theorem onI_set (H : Nat → Bool) (fs : List Bool) {n i : Nat} (hi : i + 1 < n) : (onI H fs n i).set (i + 1) (fs.getD i false && H i) = onI H fs n (i + 1) := by
  apply List.ext_getElem
  · simp [onI]
  · intro j h1 h2
    rw [List.getElem_set]
    simp only [onI, List.getElem_map, List.getElem_range]
    by_cases e : i + 1 = j
    · subst e; simp
    · rw [if_neg e]
      congr 1
      rw [Bool.eq_iff_iff, decide_eq_true_eq, decide_eq_true_eq]; omega
theorem bytesK_one {t : ByteArray} {i : Nat} (h : i < t.size) : bytesK t i 1 = [t[i].toNat] := by
  show [] ++ (if h : i + 0 < t.size then [t[i + 0].toNat] else []) = _
  rw [dif_pos (by omega)]; simp
theorem on_goes {ws : List Int} {t : ByteArray} {fs : List Bool} {H : Nat → Bool} (hH : ∀ j (hj : j < t.size), H j = hasB ws t[j].toNat) : Goes (Lang.byte fun c => hasB ws c = true) t fs (onI H fs (t.size + 1) t.size) := by
  refine ⟨onI_len _ _ _ _, fun j hj => ?_⟩
  have e : (onI H fs (t.size + 1) t.size).getD j false = (decide (0 < j ∧ j ≤ t.size) && (fs.getD (j - 1) false && H (j - 1))) := by
    have : j < t.size + 1 := by omega
    rw [List.getD_eq_getElem?_getD]
    simp only [onI, List.getElem?_map, List.getElem?_range this, Option.map_some, Option.getD_some]
  rw [on_getD, e, Bool.and_eq_true, Bool.and_eq_true, decide_eq_true_eq]
  constructor
  · rintro ⟨⟨h0, _⟩, h1, h2⟩
    refine ⟨j - 1, by omega, on_getD.2 h1, t[j - 1].toNat, ?_, ?_⟩
    · show hasB ws t[j - 1].toNat = true
      rw [← hH (j - 1) (by omega)]; exact h2
    · rw [show j - (j - 1) = 1 by omega, bytesK_one (by omega)]
  · rintro ⟨i, hi, hf, c, hc, he⟩
    have hl := bytesK_len t i (j - i) (by omega)
    rw [he] at hl
    simp at hl
    have hj1 : j = i + 1 := by omega
    subst hj1
    rw [show i + 1 - i = 1 by omega, bytesK_one (by omega)] at he
    simp at he
    refine ⟨⟨by omega, by omega⟩, by simpa using on_getD.1 hf, ?_⟩
    rw [show i + 1 - 1 = i by omega, hH i (by omega), he]; exact hc

def SetRet (L : Lang) (t : ByteArray) (fs : List Bool) (g : Nat) (w : World) (e : Ending) (w' : World) : Prop :=
  ∃ g' gs, e = .returned (bsl g' (t.size + 1)) ∧ Fresh w w' ∧ BSet w' g' gs ∧ Goes L t fs gs
/-- what a function of sets of places does -/
def SetC (f : Nat) (p : ByteArray) (L : Lang) : Prop := ∀ (t : ByteArray) (g : Nat) (fs : List Bool) (w : World), t.size ≤ 210 → BSet w g fs → fs.length = t.size + 1 →
  Calls Try.prog f #[.string p, .string t, bsl g (t.size + 1)] w fun e w' => SetRet L t fs g w e w'

set_option maxRecDepth 20000 in
set_option maxHeartbeats 2000000 in
theorem zone_byte (a : ByteArray) (hs : a.size ≤ 80000) (h40 : atB a 0 ≠ 40) (hok : (rSet a 0).2.2 = true) (hend : (rSet a 0).2.1 = a.size) : SetC 64 a (Lang.byte fun c => hasB (rSet a 0).1 c = true) := by
  intro t g fs w ht hg hl
  have HG := hid hg
  have HL := hid hl
  have hgl := hg.lt
  have HA := hid (fun (c : Nat) (w : World) (hc : c < 256) => zhas_any a c w hs hc h40 hok hend)
  have h0 : 0 < a.size := by
    have hin : atB a 0 ≠ -1 := by
      intro e
      unfold rSet at hok
      rw [e, if_neg (by decide), if_neg (by decide), if_neg (by decide), if_pos (by decide)] at hok
      cases hok
    have := atB_lt hin; omega
  have b0 : atB a 0 = (a[0].toNat : Int) := atB_ix h0
  have hl0 : a[0].toNat < 256 := a[0].toNat_lt
  have p0 : (0 : Int) < (a.size : Int) := by omega
  rw [b0] at h40
  have k40 : ((a[0].toNat : Int) == 40) = false := by simpa using h40
  have mk := fun w => run_make_row' (P := Try.prog) 73 4 (.bool false) 1 Try.underlying73 (by kernel_rfl) rfl .i64 .i64 (t.size + 1) (by omega) (by omega) w
  simp only [Int.natCast_add, Int.cast_ofNat_Int] at mk
  generalize (rSet a 0).1 = ws at HA ⊢
  generalize hH : (fun j : Nat => if h : j < t.size then hasB ws t[j].toNat else false) = H
  have HH : Hid (∀ j (hj : j < t.size), H j = hasB ws t[j].toNat) := fun j hj => by rw [← hH]; simp [hj]
  clear hg hl hok hend b0 hH h40
  go_enter Try.func64, Try.ntmps64
  go_wp2
  go_loopw [8] (fun x8 wr => ∃ i : Nat, x8 = .int .i64 i ∧ i ≤ t.size ∧ BSet wr w.heap.size (onI H fs (t.size + 1) i) ∧ Fresh w wr)
      (fun x _ => 1001 - (intOf x).toNat)
  case atStart =>
    refine ⟨0, rfl, by omega, ?_, (Mod.refl _ w).alloc _⟩
    rw [onI_zero, made_bools]; exact heap_alloc_at _ _
  case round =>
    obtain ⟨i, rfl, hi, hC, hfr⟩ := hrel
    have HME := hid (meas (B := 1001) i (by omega))
    have HF := hid hfr
    have HC := hid hC
    clear mk
    by_cases hlt : i < t.size
    · have k1 : (i : Int) < (t.size : Int) := by omega
      have k2 : (i : Int) < (t.size : Int) + 1 := by omega
      have k3 : (i : Int) + 1 < (t.size : Int) + 1 := by omega
      have c1 := (HG.out.fresh hfr).cell (j := i) (by rw [HL.out]; omega)
      have c3 := hC.cell (j := i + 1) (by rw [onI_len]; omega)
      have z3 := hC.frozen (i + 1)
      have HS := hid (onI_set H fs (n := t.size + 1) (i := i) (by omega))
      have hbl : t[i].toNat < 256 := t[i].toNat_lt
      have HX := hid (fun w => HA.out t[i].toNat w hbl)
      have HHi := hid (HH.out i hlt)
      have n1 : g ≠ w.heap.size := by omega
      have n3 : w.heap.size ≠ g := by omega
      rw [← HHi.out] at HX
      generalize (onI H fs (t.size + 1) i).getD (i + 1) false = xo at c3
      generalize fs.getD i false = xa at c1 HS
      generalize H i = yb at HX HS
      clear hC hfr HHi
      cases xa <;> cases yb
      all_goals
        go_wp2_with (first
          | (go_at_call 71; refine (HX.out _).mono ?_; rintro e w' ⟨rfl, hw⟩; rw [hw]; clear hw))
        go_roundw
        case rel =>
          refine ⟨i + 1, by go_num, by omega, ?_, HF.out.setCell (by simp) _⟩
          rw [← HS.out]; exact HC.out.put _ _
        case measure => exact HME.out
    · have k1 : ¬ (i : Int) < (t.size : Int) := by omega
      have hin : i = t.size := by omega
      have HI := hid hin
      clear hin
      go_wp2
      go_ret
      refine ⟨w.heap.size, _, rfl, HF.out, HC.out, ?_⟩
      rw [HI.out]; exact on_goes HH.out
end Go.Proofs.Ytjcknghdgfcboaa
namespace Go.Proofs.Ytjcknghdgfcboaa
open Go.RowKit
set_option linter.unusedVariables false
set_option linter.unusedSimpArgs false

abbrev Pc (s : ByteArray) : Int → LR := lPiece (lAtom (lgK s 6) s) s
abbrev Am (s : ByteArray) : Int → LR := lAtom (lgK s 6) s
def PatIs (p : ByteArray) (L : Lang) : Prop := lchK p 6 0 = ⟨p.size, true, L⟩
def PceIs (p : ByteArray) (L : Lang) : Prop := Pc p 0 = ⟨p.size, true, L⟩
def AtmIs (p : ByteArray) (L : Lang) : Prop := Am p 0 = ⟨p.size, true, L⟩
theorem zatm_all (p : ByteArray) (hp : p.size ≤ 80000) : AtmC p 0 (zAtom (zgK p 6) p) := zatom_any p 6 0 hp (by omega) (fun k' e => zpat_all p hp k' 1 (by omega))
theorem zpce_all (p : ByteArray) (hp : p.size ≤ 80000) : PceC p 0 (zPiece (zAtom (zgK p 6) p) p) := zpiece_any p 6 0 hp (zatm_all p hp)
theorem lg_pc (s : ByteArray) : LGoodF s (Pc s) := lg_piece s 6
theorem lg_am (s : ByteArray) : LGoodF s (Am s) := lg_atom s 6
theorem loc_pce (s s' : ByteArray) : Loc s s' (Pc s) (Pc s') := loc_piece (loc_atom (loc_gK s s' 6 6 (Nat.le_refl _)) (lg_atom s 6)) (lg_atom s 6)
theorem loc_am (s s' : ByteArray) : LocA s s' (Am s) (Am s') := loc_atom (loc_gK s s' 6 6 (Nat.le_refl _)) (lg_atom s 6)
theorem alike_cut {s : ByteArray} {a e : Nat} (he : e ≤ s.size) {x : Int} (h0 : 0 ≤ x) : Alike s (a + x) (s.extract a e) x (e - a - x.toNat) := fun j hj => by
  rw [atB_part he (by omega) (by omega)]
  congr 1; omega
theorem cut_size {s : ByteArray} {a e : Nat} (he : e ≤ s.size) : (s.extract a e).size = e - a := by rw [ByteArray.size_extract]; omega
/-- a piece by itself -/
theorem pce_cut {u : ByteArray} {i j : Nat} {A : Lang} (h : Pc u i = ⟨(j : Int), true, A⟩) (hi : i ≤ u.size) : PceIs (u.extract i j) A ∧ i < j ∧ j ≤ u.size := by
  have g := lg_pc u i (by omega) (by omega) (by rw [h])
  rw [h] at g
  dsimp only at g
  have hsz := cut_size (s := u) (a := i) (e := j) (by omega)
  refine ⟨?_, by omega, by omega⟩
  have al := alike_cut (s := u) (a := i) (e := j) (by omega) (x := 0) (by omega)
  rw [Int.add_zero] at al
  have sm := loc_pce u (u.extract i j) i 0 (j - i) (by omega) (by omega) (by omega) al (by rw [atB_out (by omega)]; decide) (by rw [h]) (by rw [h]; dsimp only; omega)
  unfold PceIs
  rw [lr_eta sm.ok, sm.next, sm.lang, h]
  dsimp only
  congr 1; omega
/-- an atom by itself -/
theorem atm_cut {q : ByteArray} {n : Nat} {A : Lang} (h : Am q 0 = ⟨(n : Int), true, A⟩) : AtmIs (q.extract 0 n) A ∧ 0 < n ∧ n ≤ q.size := by
  have g := lg_am q 0 (by omega) (by omega) (by rw [h])
  rw [h] at g
  dsimp only at g
  have hsz := cut_size (s := q) (a := 0) (e := n) (by omega)
  refine ⟨?_, by omega, by omega⟩
  have al := alike_cut (s := q) (a := 0) (e := n) (by omega) (x := 0) (by omega)
  have sm := loc_am q (q.extract 0 n) 0 0 (n - 0) (by omega) (by omega) (by omega) al (by rw [h]) (by rw [h]; dsimp only; omega)
  unfold AtmIs
  rw [lr_eta sm.ok, sm.next, sm.lang, h]
  dsimp only
  congr 1; omega
/-- what stands in brackets, by itself -/
theorem grp_cut {a : ByteArray} {A : Lang} (h : AtmIs a A) (h40 : atB a 0 = 40) : PatIs (a.extract 1 (a.size - 1)) A ∧ 3 ≤ a.size := by
  unfold AtmIs Am lAtom at h
  rw [if_pos h40] at h
  have h' : lGroup (lchK a 5) a 0 = ⟨a.size, true, A⟩ := h
  unfold lGroup at h'
  by_cases c1 : (lchK a 5 (0 + 1)).ok = false
  · rw [if_pos c1] at h'; injection h' with _ e; cases e
  · rw [if_neg c1] at h'
    have hok : (lchK a 5 1).ok = true := by simpa using c1
    by_cases c2 : atB a (lchK a 5 (0 + 1)).next ≠ 41
    · rw [if_pos c2] at h'; injection h' with _ e; cases e
    · rw [if_neg c2] at h'
      injection h' with e1 _ e3
      have hn : (lchK a 5 ((1 : Nat) : Int)).next + 1 = a.size := e1
      have hin := atB_lt (s := a) (i := 0) (by omega)
      have g := lg_chK a 5 ((1 : Nat) : Int) (by omega) (by omega) hok
      have hsz := cut_size (s := a) (a := 1) (e := a.size - 1) (by omega)
      refine ⟨?_, by omega⟩
      have al := alike_cut (s := a) (a := 1) (e := a.size - 1) (by omega) (x := 0) (by omega)
      rw [Int.add_zero] at al
      have sm := loc_chK a (a.extract 1 (a.size - 1)) (show 5 ≤ 6 by omega) ((1 : Nat) : Int) 0 (a.size - 1 - 1) (by omega) (by omega) (by omega) al (by rw [atB_out (by omega)]; decide) hok (by omega)
      unfold PatIs
      rw [lr_eta sm.ok, sm.next, sm.lang]
      have e3' : (lchK a 5 ((1 : Nat) : Int)).lang = A := e3
      rw [e3']
      congr 1; omega
theorem row_le {s : ByteArray} : ∀ {As : List Lang} {x y : Int}, Row (Pc s) x As y → 0 ≤ x → x ≤ s.size → x ≤ y ∧ y ≤ s.size
  | [], x, y, h, _, h1 => by have : x = y := h; omega
  | A :: As, x, y, ⟨h1, h2, h3⟩, h0, hs => by
    have g := lg_pc s x h0 hs h1
    have := row_le h3 (by omega) (by omega)
    omega
theorem row_cut {p : ByteArray} {b x : Nat} (hx : x ≤ p.size) : ∀ {As : List Lang} {y : Int}, Row (Pc p) y As x → (b : Int) ≤ y → Row (Pc (p.extract b x)) (y - b) As ((x : Int) - b)
  | [], y, h, hb => by have : y = x := h; show y - b = (x : Int) - b; omega
  | A :: As, y, ⟨h1, h2, h3⟩, hb => by
    have hy : y < p.size := by
      have := atB_lt (s := p) (i := y) (beg_in (piece_begins h1)); omega
    have g := lg_pc p y (by omega) (by omega) h1
    have hle := row_le h3 (by omega) (by omega)
    have hsz := cut_size (s := p) (a := b) (e := x) hx
    have al := alike_cut (s := p) (a := b) (e := x) hx (x := y - b) (by omega)
    rw [show (b : Int) + (y - b) = y by omega] at al
    have sm := loc_pce p (p.extract b x) y (y - b) (x - b - (y - b).toNat) (by omega) (by omega) (by omega) al (by rw [atB_out (by omega)]; decide) h1 (by omega)
    refine ⟨sm.ok, by rw [sm.lang]; exact h2, ?_⟩
    rw [sm.next, show (Pc p y).next - y + (y - (b : Int)) = (Pc p y).next - b by omega]
    exact row_cut hx h3 (by omega)

set_option maxRecDepth 20000 in
set_option maxHeartbeats 2000000 in
theorem zone_any (a : ByteArray) (A : Lang) (hs : a.size ≤ 1000) (h : AtmIs a A) (ih : ∀ p L, p.size + 2 ≤ a.size → PatIs p L → SetC 45 p L) : SetC 64 a A := by
  by_cases h40 : atB a 0 = 40
  · obtain ⟨hp, h3⟩ := grp_cut h h40
    have hsz := cut_size (s := a) (a := 1) (e := a.size - 1) (by omega)
    have TH := ih _ A (by omega) hp
    intro t g fs w ht hg hl
    have TX := hid (TH t g fs w ht hg hl)
    have hpos : 0 < a.size := by omega
    have b0 : atB a 0 = (a[0].toNat : Int) := atB_ix hpos
    have hl0 : a[0].toNat < 256 := a[0].toNat_lt
    rw [b0] at h40
    have k40 : ((a[0].toNat : Int) == 40) = true := by simp [h40]
    have p0 : (0 : Int) < (a.size : Int) := by omega
    have p1 : (1 : Int) ≤ (a.size : Int) - 1 := by omega
    have p2 : (a.size : Int) - 1 ≤ (a.size : Int) := by omega
    have p3 : ((a.size : Int) - 1).toNat = a.size - 1 := by omega
    clear hg hl b0 h40 h hp TH ih
    go_enter Try.func64, Try.ntmps64
    go_wp2_with (first
      | (go_at_call 45; refine (TX.out).mono ?_; rintro e w1 ⟨g', gs, rfl, q⟩; have HQ := hid q; clear q))
    go_ret
    exact ⟨g', gs, rfl, HQ.out⟩
  · unfold AtmIs Am lAtom at h
    rw [if_neg h40] at h
    by_cases c : (rSet a 0).2.2 = false
    · rw [if_pos c] at h; injection h with _ e; cases e
    · rw [if_neg c] at h
      injection h with e1 _ e3
      have := zone_byte a (by omega) h40 (by simpa using c) e1
      rw [e3] at this; exact this
end Go.Proofs.Ytjcknghdgfcboaa
