import Derived.Test.YteneagnhihcljaaGreatDoorTw8
import Derived.Test.YteneagnhihcljaaGreatDoorGt4
import Derived.Test.YteneagnhihcljaaGreatDoorTw6
namespace Go.Proofs.YteneagnhihcljaaGreatDoor
open Go.RowKit
set_option linter.unusedVariables false
set_option linter.unusedSimpArgs false

def zeroNd : Nd := ⟨0, 0, 0, 0⟩
def fillL {α : Type} (z : α) (D : List α) (n i : Nat) : List α := D.take i ++ List.replicate (n - i) z
theorem fillL_len {α : Type} (z : α) {D : List α} {n i : Nat} (h : D.length = n) (hi : i ≤ n) : (fillL z D n i).length = n := by simp [fillL]; omega
theorem fillL_set {α : Type} (z : α) {D : List α} {n i : Nat} (h : D.length = n) (hi : i < D.length) : (fillL z D n i).set i D[i] = fillL z D n (i + 1) := by
  unfold fillL
  rw [List.set_append_right _ _ (by simp; omega)]
  rw [show i - (D.take i).length = 0 by simp; omega, show n - i = (n - (i + 1)) + 1 by omega, List.replicate_succ, List.set_cons_zero, takeS hi, List.append_assoc]
  rfl
def joinL {α : Type} (D E : List α) (m : Nat) : List α := D.take m ++ E.drop m
theorem joinL_len {α : Type} {D E : List α} {n m : Nat} (h : D.length = n) (h2 : E.length = n) (hm : m ≤ n) : (joinL D E m).length = n := by simp [joinL]; omega
theorem joinL_set {α : Type} {D E : List α} {n m : Nat} (h : D.length = n) (h2 : E.length = n) (hm : m < E.length) : (joinL D E (m + 1)).set m E[m] = joinL D E m := by
  unfold joinL
  rw [takeS (by omega), List.append_assoc, List.set_append_right _ _ (by simp; omega)]
  rw [show m - (D.take m).length = 0 by simp; omega, List.singleton_append, List.set_cons_zero, ← List.drop_eq_getElem_cons hm]
theorem joinL_at {α : Type} {D E : List α} {n m : Nat} (h : D.length = n) (h2 : E.length = n) (hm : m < D.length) : (joinL D E (m + 1))[m]? = some D[m] := by
  unfold joinL
  rw [List.getElem?_append_left (by simp; omega), List.getElem?_take_of_lt (by omega), List.getElem?_eq_getElem hm]
theorem joinL_after {α : Type} {D E : List α} {n m j : Nat} (h : D.length = n) (h2 : E.length = n) (hm : m ≤ n) : (joinL D E m)[m + j]? = E[m + j]? := by
  unfold joinL
  rw [List.getElem?_append_right (by simp; omega), List.getElem?_drop]
  congr 1; simp; omega
theorem nodesF_at (ps : List Pr) (st : List St) {j : Nat} (hj : j < st.length) {d : Nat} (hd : (sizesF ps (ndL st 0))[j]? = some d) : ∃ x, (ndL st 0)[j]? = some x ∧ (nodesF ps st)[j]? = some (setSz x d) := by
  have h1 : j < (ndL st 0).length := by rw [ndL_len]; exact hj
  refine ⟨(ndL st 0)[j], List.getElem?_eq_getElem h1, ?_⟩
  unfold nodesF
  rw [List.getElem?_zipWith, List.getElem?_eq_getElem h1, hd]

section
variable {α : Type} {cells : α → List Value} {k : Nat}
theorem own_there {w : World} {B g n cap : Nat} {e : TypeId} {l : List α} (hw : ∀ x, (cells x).length = k) (h : w.ownsRow B e k (.slice (some ⟨g, 0, none⟩) n cap) l.length (flatC cells l)) {i : Nat} (hi : i < l.length) : w.there g (i * k) k := by
  intro j hj
  have hr : RowAt cells k e w (.slice (some ⟨g, 0, none⟩) n cap) l := ⟨ownsRow_base h (Nat.zero_le _), fun x _ => hw x⟩
  have hc := hr.cell i j hi hj
  refine ⟨by rw [hc]; simp [hw, hj], ?_⟩
  obtain ⟨_, h2⟩ := h
  rcases h2 with ⟨h2, _⟩ | ⟨g', cap', cur, e1, e2, e3, _⟩
  · cases h2
  · rw [Value.slice.injEq] at e1
    obtain ⟨eg, _, _⟩ := e1
    have eg' : g = g' := by simpa using eg
    subst eg'
    exact frozenOf e3 _
end
theorem infoNd : (Tryz.prog.info? 123).map (fun i => (i.zero, i.size, i.bytes)) = some (some (.agg #[.int .i64 0, .int .i64 0, .int .i64 0, .int .i64 0]), 4, 32) := by kernel_rfl
theorem infoNd' : ∃ i, Tryz.prog.info? 123 = some i ∧ i.zero = some (.agg #[.int .i64 0, .int .i64 0, .int .i64 0, .int .i64 0]) ∧ i.size = 4 ∧ i.bytes = 32 := by
  have h := infoNd
  cases hq : Tryz.prog.info? 123 with
  | none => simp [hq] at h
  | some i => simp [hq] at h; exact ⟨i, rfl, h.1, h.2.1, h.2.2⟩
theorem made_nodes (n : Nat) : (madeCells #[Value.int .i64 0, .int .i64 0, .int .i64 0, .int .i64 0] (n * 4)).toList = flatC Nd.cells (List.replicate n zeroNd) := by
  apply List.ext_getElem?
  intro j
  have hl := flat_len Nd.cells 4 (xs := List.replicate n zeroNd) (fun x _ => rfl)
  rw [List.length_replicate] at hl
  have hz : ∀ r, r < 4 → (#[Value.int .i64 0, .int .i64 0, .int .i64 0, .int .i64 0] : Array Value)[r]! = .int .i64 0 := by
    intro r hr
    rcases r with _ | _ | _ | _ | r
    all_goals first | rfl | omega
  by_cases hj : j < n * 4
  · have hq : j / 4 < n := by omega
    have hr : j % 4 < 4 := Nat.mod_lt _ (by omega)
    have a1 := flat_at Nd.cells 4 (xs := List.replicate n zeroNd) (fun x _ => rfl) (j / 4) (j % 4) (by simpa using hq) hr
    rw [show j / 4 * 4 + j % 4 = j by omega] at a1
    rw [a1, List.getElem_replicate]
    unfold madeCells
    simp only [Array.toList_map, List.getElem?_map, Array.toList_range, List.getElem?_range hj, Option.map_some]
    have e : (#[Value.int .i64 0, .int .i64 0, .int .i64 0, .int .i64 0] : Array Value).size = 4 := rfl
    rw [e, hz _ hr]
    generalize j % 4 = r at hr
    rcases r with _ | _ | _ | _ | r
    all_goals first | rfl | omega
  · rw [List.getElem?_eq_none (by simp [madeCells]; omega), List.getElem?_eq_none (by omega)]

def stN (p v : Value) : Sem Unit := Instr.storeAt 123 p v
theorem stN_rule (p v : Value) : Instr.storeAt 123 p v = stN p v := rfl
theorem nd_one (a b c d : Int) : (#[Value.int .i64 a, .int .i64 b, .int .i64 c, .int .i64 d] : Array Value).all (·.oneCell') = true :=
  all_oneCell_toArray (cs := [.int .i64 a, .int .i64 b, .int .i64 c, .int .i64 d]) (by intro v hv; simp only [List.mem_cons, List.not_mem_nil, or_false] at hv; rcases hv with rfl | rfl | rfl | rfl <;> rfl)
theorem szStp : (Tryz.prog.info? 121).map (·.size) = some 2 := by kernel_rfl

attribute [local go_sem ↓] stN_rule
end Go.Proofs.YteneagnhihcljaaGreatDoor
namespace Go.Proofs.YteneagnhihcljaaGreatDoor
open Go.RowKit
set_option linter.unusedVariables false
set_option linter.unusedSimpArgs false

theorem gTo_congr {ps : List Pr} {R H : Int} {t : Nat} {ch ch' : Int → Nat → Int} (h : ∀ X, 0 ≤ X → X < H → ch X t = ch' X t) (hps : ∀ p ∈ ps, StkIn R H p.syms) : ∀ (f : Nat) (k : List Sy) (st : List St), StkIn R H k → gTo ps ch t f k st = gTo ps ch' t f k st
  | 0, _, _, _ => rfl
  | f + 1, [], _, _ => rfl
  | f + 1, s :: k, st, hk => by
    have hs := hk s (by simp)
    unfold gTo
    cases hq : s.isH
    · simp
    · rw [hq] at hs
      simp only [if_true] at hs
      rw [h s.num hs.1 hs.2]
      simp only [Bool.true_eq_false, if_false]
      split
      · cases hp : ps[(ch' s.num t).toNat]? with
        | none => rfl
        | some p =>
          simp only []
          refine gTo_congr h hps f _ _ (fun x hx => ?_)
          rcases List.mem_append.1 hx with hx | hx
          · exact hps p (List.mem_of_getElem? hp) x hx
          · exact hk x (by simp [hx])
      · rfl
theorem gTo_in {ps : List Pr} {R H : Int} {t : Nat} {ch : Int → Nat → Int} (hps : ∀ p ∈ ps, StkIn R H p.syms) (hR : R ≤ 100) (hl : ps.length ≤ 100) : ∀ (f : Nat) (k : List Sy) (st : List St) (r : List Sy × List St), gTo ps ch t f k st = some r → StkIn R H k → (∀ s ∈ st, 0 ≤ s.num ∧ s.num ≤ 127) →
    StkIn R H r.1 ∧ ∀ s ∈ r.2, 0 ≤ s.num ∧ s.num ≤ 127
  | 0, _, _, _, h, _, _ => by cases h
  | f + 1, [], st, r, h, hk, hs => by cases h; exact ⟨hk, hs⟩
  | f + 1, s :: k, st, r, h, hk, hs => by
    have h1 := hk s (by simp)
    unfold gTo at h
    split at h
    · rename_i hq
      rw [hq] at h1
      simp only [Bool.false_eq_true, if_false] at h1
      cases h
      refine ⟨fun x hx => hk x (by simp [hx]), fun x hx => ?_⟩
      rcases List.mem_append.1 hx with hx | hx
      · exact hs x hx
      · simp only [List.mem_singleton] at hx
        subst hx
        exact ⟨h1.1, by dsimp only; omega⟩
    · split at h
      · rename_i h0
        cases hp : ps[(ch s.num t).toNat]? with
        | none => rw [hp] at h; cases h
        | some p =>
          rw [hp] at h
          have hlt := (List.getElem?_eq_some_iff.1 hp).1
          refine gTo_in hps hR hl f _ _ r h (fun x hx => ?_) (fun x hx => ?_)
          · rcases List.mem_append.1 hx with hx | hx
            · exact hps p (List.mem_of_getElem? hp) x hx
            · exact hk x (by simp [hx])
          · rcases List.mem_append.1 hx with hx | hx
            · exact hs x hx
            · simp only [List.mem_singleton] at hx
              subst hx
              exact ⟨h0, by dsimp only; omega⟩
      · cases h
theorem szF_eq (B : Nat) : ∀ n, szF B n = n * (1 + 6 * B)
  | 0 => by simp [szF]
  | n + 1 => by rw [szF, szF_eq B n, Nat.add_mul, Nat.one_mul]; omega
theorem enough_le {H n : Nat} (hH : H ≤ 8) : enough H n ≤ n * 335923 + 16124313 := by
  have h1 : szN H ≤ 335923 := szN_le hH
  unfold enough
  rw [szF_eq]
  have h2 : n * szN H ≤ n * 335923 := Nat.mul_le_mul_left _ h1
  have h3 : H * (1 + 6 * szN H) ≤ 8 * (1 + 6 * 335923) := Nat.mul_le_mul hH (by omega)
  omega
theorem chL_eq {hs : List Hd} {ps : List Pr} {X : Int} {t : Nat} (h0 : 0 ≤ X) (h8 : X < 8) (ht : t < 9) : chL (tabL (ps.zip (aheadsF hs ps)) 72) X t = chF hs ps X t := by
  unfold chL
  rw [if_pos ⟨h0, h8, ht⟩, tabL_at _ (by omega) ht, show ((X.toNat : Nat) : Int) = X by omega]
  rfl
/-- what a right table gives -/
structure Tab (ps : List Pr) (R H : Nat) (hs : List Hd) : Prop where
  g : LLG ps R H (hN hs) (hF hs) (hO hs) (chF hs ps)
  ok : ∀ x ∈ hs, x.ok
  hR : R ≤ 8
  hH : H ≤ 8
  h0 : 0 < H
  hl : ps.length ≤ 20
variable {ps : List Pr} {R H : Nat} {hs : List Hd}
theorem Tab.syms (h : Tab ps R H hs) : ∀ p ∈ ps, p.syms.length ≤ 6 ∧ StkIn R H p.syms := fun p hp => ⟨h.g.mx p hp, h.g.tab.sy p hp⟩
/-- one kind more -/
theorem Tab.step (h : Tab ps R H hs) {k : List Sy} {st : List St} {t : Nat} (ht : t ≤ R) (hk : StkOk (hN hs) (hF hs) (hO hs) R k) (hi : StkIn R H k) (hs1 : ∀ s ∈ st, 0 ≤ s.num ∧ s.num ≤ 127) (hw : (wanB hs R k).getD t false = true) :
    gTo ps (chL (tabL (ps.zip (aheadsF hs ps)) 72)) t (enough H k.length) k st = some (gToF ps hs H t k st) ∧ (gToF ps hs H t k st).1.length ≤ k.length + 48 ∧ (gToF ps hs H t k st).2.length ≤ st.length + (k.length * 335923 + 16124313) ∧
      StkOk (hN hs) (hF hs) (hO hs) R (gToF ps hs H t k st).1 ∧ StkIn R H (gToF ps hs H t k st).1 ∧ (∀ s ∈ (gToF ps hs H t k st).2, 0 ≤ s.num ∧ s.num ≤ 127) ∧ st.length ≤ (gToF ps hs H t k st).2.length := by
  rw [wanB_at h.ok h.hR k hi t] at hw
  obtain ⟨r, h1, h2, h3⟩ := h.g.grows ht k hk hw st
  have e : gToF ps hs H t k st = r := by unfold gToF; rw [h1]; rfl
  rw [e]
  have hR := h.hR
  have hH := h.hH
  have hl := h.hl
  have hin := gTo_in (R := R) (H := H) (fun p hp => (h.syms p hp).2) (by omega) (by omega) _ _ _ _ h1 hi hs1
  have hc := gTo_congr (R := R) (H := H) (t := t) (ch := chL (tabL (ps.zip (aheadsF hs ps)) 72)) (ch' := chF hs ps) (fun X x0 x1 => chL_eq x0 (by omega) (by omega)) (fun p hp => (h.syms p hp).2) (enough H k.length) k st hi
  have he := enough_le (n := k.length) hH
  exact ⟨by rw [hc]; exact h1, by omega, by omega, h.g.stkTo _ _ _ _ h1 hk, hin.1, hin.2, gTo_len _ _ _ _ h1⟩
theorem Tab.start (h : Tab ps R H hs) : StkOk (hN hs) (hF hs) (hO hs) R [⟨true, 0⟩] ∧ StkIn R H [⟨true, 0⟩] := by
  refine ⟨h.g.stk0, fun s hs => ?_⟩
  simp only [List.mem_singleton] at hs
  subst hs
  have := h.h0
  simp; omega
end Go.Proofs.YteneagnhihcljaaGreatDoor
