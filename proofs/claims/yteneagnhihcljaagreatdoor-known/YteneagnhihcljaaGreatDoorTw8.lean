import Derived.Test.YteneagnhihcljaaGreatDoorGt4
import Derived.Test.YteneagnhihcljaaGreatDoorKn4
import Derived.Laws.MakeOwn
namespace Go.Proofs.YteneagnhihcljaaGreatDoor
open Go.RowKit
set_option linter.unusedVariables false
set_option linter.unusedSimpArgs false

section
variable {α : Type} {cells : α → List Value} {k : Nat}
theorem flat_setX {l : List α} (hw : ∀ x, (cells x).length = k) (hk0 : 0 < k) {x : α} {i : Nat} (hi : i < l.length) (j : Nat) :
    (flatC cells (l.set i x))[j]? = if i * k ≤ j ∧ j < i * k + k then (cells x)[j - i * k]? else (flatC cells l)[j]? := by
  have l1 := flat_len cells k (xs := l) (fun x _ => hw x)
  have l2 := flat_len cells k (xs := l.set i x) (fun x _ => hw x)
  rw [List.length_set] at l2
  have hik : i * k + k ≤ l.length * k := by
    have : (i + 1) * k ≤ l.length * k := Nat.mul_le_mul_right k hi
    rw [Nat.add_mul, Nat.one_mul] at this; exact this
  by_cases hj : j < l.length * k
  · have hq : j / k < l.length := Nat.div_lt_of_lt_mul (by rw [Nat.mul_comm]; exact hj)
    have hr : j % k < k := Nat.mod_lt _ hk0
    have e : j / k * k + j % k = j := by rw [Nat.mul_comm]; exact Nat.div_add_mod j k
    have a1 := flat_at cells k (xs := l) (fun x _ => hw x) (j / k) (j % k) hq hr
    have a2 := flat_at cells k (xs := l.set i x) (fun x _ => hw x) (j / k) (j % k) (by simpa using hq) hr
    rw [e] at a1 a2
    rw [a1, a2, List.getElem_set]
    by_cases hk2 : i = j / k
    · rw [if_pos hk2, if_pos ⟨by rw [hk2]; omega, by rw [hk2]; omega⟩]
      congr 1; rw [hk2]; omega
    · rw [if_neg hk2, if_neg]
      rintro ⟨h1, h2⟩
      apply hk2
      have hd : j = k * i + (j - i * k) := by rw [Nat.mul_comm k i]; omega
      have hlt : j - i * k < k := by omega
      rw [hd, Nat.mul_add_div hk0, Nat.div_eq_of_lt hlt]; omega
  · rw [List.getElem?_eq_none (by omega), if_neg (by omega), List.getElem?_eq_none (by omega)]
/-- a row behind a store of one of its things -/
theorem own_set {w : World} {B g n cap : Nat} {e : TypeId} {l : List α} (hw : ∀ x, (cells x).length = k) (hk0 : 0 < k) (h : w.ownsRow B e k (.slice (some ⟨g, 0, none⟩) n cap) l.length (flatC cells l)) {i : Nat} (hi : i < l.length) (x : α) :
    (w.setCells g (i * k) (cells x)).ownsRow B e k (.slice (some ⟨g, 0, none⟩) n cap) (l.set i x).length (flatC cells (l.set i x)) := by
  have l2 := flat_len cells k (xs := l.set i x) (fun x _ => hw x)
  have hik : i * k + k ≤ l.length * k := by
    have : (i + 1) * k ≤ l.length * k := Nat.mul_le_mul_right k hi
    rw [Nat.add_mul, Nat.one_mul] at this; exact this
  obtain ⟨h1, h2⟩ := h
  refine ⟨l2, ?_⟩
  rcases h2 with ⟨h2, _⟩ | ⟨g', cap', cur, e1, e2, e3, e4, e5, e6, e7⟩
  · cases h2
  · rw [Value.slice.injEq] at e1
    obtain ⟨eg, rfl, rfl⟩ := e1
    have eg' : g = g' := by simpa using eg
    subst eg'
    have hmul : l.length * k ≤ cap * k := Nat.mul_le_mul_right _ e4
    refine .inr ⟨g, cap, setArr cur (i * k) (cells x), by rw [List.length_set], e2, heap_setCells_same _ _ _ _ _ _ _ e3, by rw [List.length_set]; exact e4, e5, by rw [setArr_size]; exact e6, ?_⟩
    apply List.ext_getElem?
    intro j
    rw [flat_setX hw hk0 hi, ← e7, List.length_set]
    by_cases hj : j < l.length * k
    · rw [List.getElem?_take_of_lt hj, List.getElem?_take_of_lt hj, Array.getElem?_toList, Array.getElem?_toList, setArr_at _ _ _ _ (by rw [hw]; omega), hw]
      simp
    · rw [List.getElem?_eq_none (by simp; omega), if_neg (by omega), List.getElem?_eq_none (by simp; omega)]
/-- a row behind a store of one cell of one of its things -/
theorem own_setC {w : World} {B g n cap : Nat} {e : TypeId} {l : List α} (hw : ∀ x, (cells x).length = k) (hk0 : 0 < k) (h : w.ownsRow B e k (.slice (some ⟨g, 0, none⟩) n cap) l.length (flatC cells l)) {i o : Nat} (hi : i < l.length) (ho : o < k) (v : Value) (x : α)
    (hx : cells x = (cells l[i]).set o v) :
    (w.setCell ⟨g, i * k + o, none⟩ v).ownsRow B e k (.slice (some ⟨g, 0, none⟩) n cap) (l.set i x).length (flatC cells (l.set i x)) := by
  have l2 := flat_len cells k (xs := l.set i x) (fun x _ => hw x)
  have hik : i * k + k ≤ l.length * k := by
    have : (i + 1) * k ≤ l.length * k := Nat.mul_le_mul_right k hi
    rw [Nat.add_mul, Nat.one_mul] at this; exact this
  obtain ⟨h1, h2⟩ := h
  refine ⟨l2, ?_⟩
  rcases h2 with ⟨h2, _⟩ | ⟨g', cap', cur, e1, e2, e3, e4, e5, e6, e7⟩
  · cases h2
  · rw [Value.slice.injEq] at e1
    obtain ⟨eg, rfl, rfl⟩ := e1
    have eg' : g = g' := by simpa using eg
    subst eg'
    have hmul : l.length * k ≤ cap * k := Nat.mul_le_mul_right _ e4
    refine .inr ⟨g, cap, cur.setIfInBounds (i * k + o) v, by rw [List.length_set], e2, Proofs.YteneagnhihcljaaGreatDoor.heap_setCell_same e3 _ _, by rw [List.length_set]; exact e4, e5, by simpa using e6, ?_⟩
    apply List.ext_getElem?
    intro j
    rw [flat_setX hw hk0 hi, List.length_set, hx]
    by_cases hj : j < l.length * k
    · have hc : cur.toList[j]? = (flatC cells l)[j]? := by rw [← e7, List.getElem?_take_of_lt hj]
      rw [List.getElem?_take_of_lt hj, Array.getElem?_toList, Array.getElem?_setIfInBounds, ← Array.getElem?_toList, hc]
      by_cases hin : i * k ≤ j ∧ j < i * k + k
      · rw [if_pos hin, List.getElem?_set]
        have hfa := flat_at cells k (xs := l) (fun x _ => hw x) i (j - i * k) hi (by omega)
        rw [show i * k + (j - i * k) = j by omega] at hfa
        by_cases ho2 : o = j - i * k
        · rw [if_pos (by omega), if_pos ho2, if_pos (by omega), if_pos (by rw [hw]; omega)]
        · rw [if_neg (by omega), if_neg ho2, hfa]
      · rw [if_neg hin, if_neg (by omega)]
    · rw [List.getElem?_eq_none (by simp; omega), if_neg (by omega), List.getElem?_eq_none]
      rw [flat_len cells k (xs := l) (fun x _ => hw x)]; omega
end
theorem Nd.cells_len (n : Nd) : n.cells.length = 4 := rfl

set_option maxRecDepth 20000 in
set_option maxHeartbeats 2000000 in
theorem childrenOf_any (w : World) (R H : Int) (vp vn : Value) (ps : List PV) (l : List Nd) (i : Nat) (hp : PrsAt w w.heap.size vp ps) (hn : NdsAt w vn l) (hi : i < l.length) (hps : ps.length ≤ 1000) :
    Calls Tryz.prog 68 #[.agg #[.int .i64 R, .int .i64 H, vp], vn, .int .i64 i] w fun e w' => e = .returned (.int .i64 (arF (prsOf ps) l[i])) ∧ Fresh w w' := by
  obtain ⟨pa, pc, hvp⟩ := own_form hp.row.own
  subst hvp
  obtain ⟨na, nc, hvn⟩ := own_form hn.own
  subst hvn
  obtain ⟨g, c', hg⟩ := Joins.ownsRow_form hn.own (by omega)
  rw [Value.slice.injEq] at hg
  obtain ⟨rfl, _, rfl⟩ := hg
  have hgl := (hn.own.lt g rfl).2
  have c0 : w.cell? ⟨g, i * 4, none⟩ = some (.int .i64 l[i].prod) := hn.cell i 0 hi (by omega)
  have hi1 : (i : Int) < (l.length : Int) := by omega
  have hi2 : ¬ (l.length ≤ i) := by omega
  have HP := hid hp
  generalize hX : arF (prsOf ps) l[i] = X
  unfold arF at hX
  generalize l[i].prod = pr at c0 hX
  clear hn hp
  by_cases h0 : pr < 0
  · rw [if_pos h0] at hX
    subst hX
    go_enter Tryz.func68, Tryz.ntmps68
    go_wp2
    go_ret
    exact ⟨rfl, (Mod.refl _ w).alloc _⟩
  · rw [if_neg h0] at hX
    obtain ⟨q, rfl⟩ : ∃ q : Nat, pr = q := ⟨pr.toNat, by omega⟩
    rw [Int.toNat_natCast] at hX
    by_cases hq : q < ps.length
    · have hq1 : (q : Int) < (ps.length : Int) := by omega
      have hq2 : ¬ (ps.length ≤ q) := by omega
      have e : (prsOf ps)[q]? = some ps[q].pr := by simp [prsOf, hq]
      rw [e] at hX
      simp only [] at hX
      subst hX
      obtain ⟨gp, c2, hg2⟩ := Joins.ownsRow_form HP.out.row.own (by omega)
      rw [Value.slice.injEq] at hg2
      obtain ⟨rfl, _, rfl⟩ := hg2
      have hpl := (HP.out.row.own.lt gp rfl).2
      have c1 : w.cell? ⟨gp, q * 2 + 1, none⟩ = some ps[q].vs := HP.out.row.cell q 1 hq (by omega)
      obtain ⟨sa, sc, hsv, _⟩ := HP.out.syms ps[q] (by simp)
      rw [hsv] at c1
      clear hsv e
      generalize ps[q].pr.syms.length = N at c1
      go_enter Tryz.func68, Tryz.ntmps68
      go_wp2
      go_ret
      exact ⟨rfl, (Mod.refl _ w).alloc _⟩
    · have hq1 : ¬ (q : Int) < (ps.length : Int) := by omega
      have hq2 : ps.length ≤ q := by omega
      have e : (prsOf ps)[q]? = none := by simp [prsOf]; omega
      rw [e] at hX
      simp only [] at hX
      subst hX
      clear e
      go_enter Tryz.func68, Tryz.ntmps68
      go_wp2
      go_ret
      exact ⟨rfl, (Mod.refl _ w).alloc _⟩

set_option maxRecDepth 20000 in
set_option maxHeartbeats 4000000 in
theorem sizeOf_any (w : World) (R H : Int) (vp vn : Value) (ps : List PV) (l : List Nd) (i : Nat) (S : List Nat) (hp : PrsAt w w.heap.size vp ps) (hn : NdsAt w vn l) (hi : i < l.length) (hps : ps.length ≤ 1000) (hll : l.length ≤ 1000000000000)
    (hS : S.length + i + 1 = l.length) (hz : ∀ (j d : Nat), S[j]? = some d → ∃ x : Nd, l[i + 1 + j]? = some x ∧ x.size = (d : Int)) (hb : ∀ (j d : Nat), S[j]? = some d → 1 ≤ d ∧ j + d ≤ S.length) (har : arF (prsOf ps) l[i] ≤ 1000) :
    Calls Tryz.prog 51 #[.agg #[.int .i64 R, .int .i64 H, vp], vn, .int .i64 i] w fun e w' => e = .returned (.int .i64 (szL S (arF (prsOf ps) l[i]) 1)) ∧ Fresh w w' := by
  have CO := hid (fun W (hW : Fresh w W) => childrenOf_any W R H vp vn ps l i ((hp.kept (Nat.le_refl _) hW (fun _ _ x => x)).up hW.size) (hn.fresh hW) hi hps)
  obtain ⟨pa, pc, hvp⟩ := own_form hp.row.own
  subst hvp
  obtain ⟨na, nc, hvn⟩ := own_form hn.own
  subst hvn
  obtain ⟨g, c', hg⟩ := Joins.ownsRow_form hn.own (by omega)
  rw [Value.slice.injEq] at hg
  obtain ⟨rfl, _, rfl⟩ := hg
  have HN := hid hn
  have HZ := hid hz
  have HBd := hid hb
  have HSL := hid hS
  generalize arF (prsOf ps) l[i] = A at CO har
  generalize hRES : szL S A 1 = RES
  have HRES := hid hRES
  have hT : (w.alloc (.cells #[.int .i64 R, .int .i64 H, .slice pa ps.length pc] 42 (0, 0))).heap[w.heap.size]? = _ := heap_alloc_at _ _
  have t0 := cellOf hT 0
  have t1 := cellOf hT 1
  have t2 := cellOf hT 2
  simp at t0 t1 t2
  clear hp hn hz hb hS hRES hT
  go_enter Tryz.func51, Tryz.ntmps51
  go_wp2_with (first
    | (go_at_call 68; refine (CO.out _ ((Mod.refl _ w).alloc _)).mono ?_; rintro e w1 ⟨rfl, hf1⟩))
  have HF1 : Hid (Fresh w w1) := Mod.trans ((Mod.refl _ w).alloc _) hf1
  clear hf1 t0 t1 t2
  go_loopw [7, 8] (fun x7 x8 wr => ∃ (z f : Nat), x7 = .int .i64 z ∧ x8 = .int .i64 f ∧ szL S f z = RES ∧ 1 ≤ z ∧ z ≤ S.length + 1 ∧ f ≤ 1000 ∧ wr = w1)
      (fun _ x _ => (intOf x).toNat)
  case atStart => exact ⟨1, A, rfl, rfl, HRES.out, by omega, by omega, har, rfl⟩
  case round =>
    obtain ⟨z, f, rfl, rfl, hres, hz1, hz2, hf, hwr⟩ := hrel
    subst hwr
    have hSL := HSL.out
    have hSb : S.length + i ≤ 1000000000000 := by omega
    by_cases hf0 : f = 0
    · subst hf0
      have hr : z = RES := hres
      have HR := hid hr
      clear hres hr hSL
      go_wp2
      go_ret
      exact ⟨by rw [HR.out]; rfl, HF1.out⟩
    · obtain ⟨f', rfl⟩ : ∃ f', f = f' + 1 := ⟨f - 1, by omega⟩
      unfold szL at hres
      by_cases hlt : z ≤ S.length
      · have hz0 : z - 1 < S.length := by omega
        rw [List.getElem?_eq_getElem hz0] at hres
        simp only [] at hres
        have hbd := HBd.out (z - 1) S[z - 1] (List.getElem?_eq_getElem hz0)
        obtain ⟨x, hx1, hx2⟩ := HZ.out (z - 1) S[z - 1] (List.getElem?_eq_getElem hz0)
        rw [show i + 1 + (z - 1) = i + z by omega] at hx1
        have hl1 : i + z < l.length := by omega
        have c3 : wr.cell? ⟨g, (i + z) * 4 + 3, none⟩ = some (.int .i64 (l[i + z]'hl1).size) := (HN.out.fresh HF1.out).cell (i + z) 3 hl1 (by omega)
        rw [List.getElem?_eq_getElem hl1, Option.some.injEq] at hx1
        rw [hx1, hx2] at c3
        have hl2 : (i : Int) + (z : Int) < (l.length : Int) := by omega
        generalize S[z - 1] = d at hres hbd c3
        have hf1 : (0 : Int) < (f' : Int) + 1 := by omega
        have HRS := hid hres
        have HME : Hid ((intOf (Value.int .i64 (f' : Int))).toNat < (intOf (Value.int .i64 ((f' + 1 : Nat) : Int))).toNat) := by unfold Hid; simp [intOf]
        clear hres hx1 hx2 hSL
        go_wp2
        go_roundw
        case rel => exact ⟨z + d, f', by go_num, by go_num, HRS.out, by omega, by omega, by omega, by first | rfl | trivial⟩
        case measure => exact HME.out
      · have hn : S[z - 1]? = none := List.getElem?_eq_none (by omega)
        rw [hn] at hres
        have hr : z = RES := hres
        have HR := hid hr
        have hl2 : ¬ ((i : Int) + (z : Int) < (l.length : Int)) := by omega
        have hl3 : decide ((i : Int) + (z : Int) < (l.length : Int)) = false := by simpa using hl2
        have hf1 : (0 : Int) < (f' : Int) + 1 := by omega
        clear hres hr hSL hn
        go_wp2
        go_ret
        exact ⟨by rw [HR.out]; rfl, HF1.out⟩
end Go.Proofs.YteneagnhihcljaaGreatDoor
