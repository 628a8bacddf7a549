import Derived.Test.YteneagnhihcljaaGreatDoorTw8
import Derived.Test.YteneagnhihcljaaGreatDoorGt4
import Derived.Test.YteneagnhihcljaaGreatDoorTw6
namespace Go.Proofs.YteneagnhihcljaaGreatDoor
open Go.RowKit
set_option linter.unusedVariables false
set_option linter.unusedSimpArgs false

def zeroNd : Nd := ⟨0, 0, 0, 0⟩
def fillL {α : Type} (z : α) (D : List α) (n i : Nat) : List α := D.take i ++ List.replicate (n - i) z
theorem fillL_len {α : Type} (z : α) {D : List α} {n i : Nat} (h : D.length = n) (hi : i ≤ n) : (fillL z D n i).length = n := by simp [fillL]; omega
theorem fillL_set {α : Type} (z : α) {D : List α} {n i : Nat} (h : D.length = n) (hi : i < D.length) : (fillL z D n i).set i D[i] = fillL z D n (i + 1) := by
  unfold fillL
  rw [List.set_append_right _ _ (by simp; omega)]
  rw [show i - (D.take i).length = 0 by simp; omega, show n - i = (n - (i + 1)) + 1 by omega, List.replicate_succ, List.set_cons_zero, takeS hi, List.append_assoc]
  rfl
def joinL {α : Type} (D E : List α) (m : Nat) : List α := D.take m ++ E.drop m
theorem joinL_len {α : Type} {D E : List α} {n m : Nat} (h : D.length = n) (h2 : E.length = n) (hm : m ≤ n) : (joinL D E m).length = n := by simp [joinL]; omega
theorem joinL_set {α : Type} {D E : List α} {n m : Nat} (h : D.length = n) (h2 : E.length = n) (hm : m < E.length) : (joinL D E (m + 1)).set m E[m] = joinL D E m := by
  unfold joinL
  rw [takeS (by omega), List.append_assoc, List.set_append_right _ _ (by simp; omega)]
  rw [show m - (D.take m).length = 0 by simp; omega, List.singleton_append, List.set_cons_zero, ← List.drop_eq_getElem_cons hm]
theorem joinL_at {α : Type} {D E : List α} {n m : Nat} (h : D.length = n) (h2 : E.length = n) (hm : m < D.length) : (joinL D E (m + 1))[m]? = some D[m] := by
  unfold joinL
  rw [List.getElem?_append_left (by simp; omega), List.getElem?_take_of_lt (by omega), List.getElem?_eq_getElem hm]
theorem joinL_after {α : Type} {D E : List α} {n m j : Nat} (h : D.length = n) (h2 : E.length = n) (hm : m ≤ n) : (joinL D E m)[m + j]? = E[m + j]? := by
  unfold joinL
  rw [List.getElem?_append_right (by simp; omega), List.getElem?_drop]
  congr 1; simp; omega
theorem nodesF_at (ps : List Pr) (st : List St) {j : Nat} (hj : j < st.length) {d : Nat} (hd : (sizesF ps (ndL st 0))[j]? = some d) : ∃ x, (ndL st 0)[j]? = some x ∧ (nodesF ps st)[j]? = some (setSz x d) := by
  have h1 : j < (ndL st 0).length := by rw [ndL_len]; exact hj
  refine ⟨(ndL st 0)[j], List.getElem?_eq_getElem h1, ?_⟩
  unfold nodesF
  rw [List.getElem?_zipWith, List.getElem?_eq_getElem h1, hd]

section
variable {α : Type} {cells : α → List Value} {k : Nat}
theorem own_there {w : World} {B g n cap : Nat} {e : TypeId} {l : List α} (hw : ∀ x, (cells x).length = k) (h : w.ownsRow B e k (.slice (some ⟨g, 0, none⟩) n cap) l.length (flatC cells l)) {i : Nat} (hi : i < l.length) : w.there g (i * k) k := by
  intro j hj
  have hr : RowAt cells k e w (.slice (some ⟨g, 0, none⟩) n cap) l := ⟨ownsRow_base h (Nat.zero_le _), fun x _ => hw x⟩
  have hc := hr.cell i j hi hj
  refine ⟨by rw [hc]; simp [hw, hj], ?_⟩
  obtain ⟨_, h2⟩ := h
  rcases h2 with ⟨h2, _⟩ | ⟨g', cap', cur, e1, e2, e3, _⟩
  · cases h2
  · rw [Value.slice.injEq] at e1
    obtain ⟨eg, _, _⟩ := e1
    have eg' : g = g' := by simpa using eg
    subst eg'
    exact frozenOf e3 _
end
theorem infoNd : (Tryz.prog.info? 123).map (fun i => (i.zero, i.size, i.bytes)) = some (some (.agg #[.int .i64 0, .int .i64 0, .int .i64 0, .int .i64 0]), 4, 32) := by kernel_rfl
theorem infoNd' : ∃ i, Tryz.prog.info? 123 = some i ∧ i.zero = some (.agg #[.int .i64 0, .int .i64 0, .int .i64 0, .int .i64 0]) ∧ i.size = 4 ∧ i.bytes = 32 := by
  have h := infoNd
  cases hq : Tryz.prog.info? 123 with
  | none => simp [hq] at h
  | some i => simp [hq] at h; exact ⟨i, rfl, h.1, h.2.1, h.2.2⟩
theorem made_nodes (n : Nat) : (madeCells #[Value.int .i64 0, .int .i64 0, .int .i64 0, .int .i64 0] (n * 4)).toList = flatC Nd.cells (List.replicate n zeroNd) := by
  apply List.ext_getElem?
  intro j
  have hl := flat_len Nd.cells 4 (xs := List.replicate n zeroNd) (fun x _ => rfl)
  rw [List.length_replicate] at hl
  have hz : ∀ r, r < 4 → (#[Value.int .i64 0, .int .i64 0, .int .i64 0, .int .i64 0] : Array Value)[r]! = .int .i64 0 := by
    intro r hr
    rcases r with _ | _ | _ | _ | r
    all_goals first | rfl | omega
  by_cases hj : j < n * 4
  · have hq : j / 4 < n := by omega
    have hr : j % 4 < 4 := Nat.mod_lt _ (by omega)
    have a1 := flat_at Nd.cells 4 (xs := List.replicate n zeroNd) (fun x _ => rfl) (j / 4) (j % 4) (by simpa using hq) hr
    rw [show j / 4 * 4 + j % 4 = j by omega] at a1
    rw [a1, List.getElem_replicate]
    unfold madeCells
    simp only [Array.toList_map, List.getElem?_map, Array.toList_range, List.getElem?_range hj, Option.map_some]
    have e : (#[Value.int .i64 0, .int .i64 0, .int .i64 0, .int .i64 0] : Array Value).size = 4 := rfl
    rw [e, hz _ hr]
    generalize j % 4 = r at hr
    rcases r with _ | _ | _ | _ | r
    all_goals first | rfl | omega
  · rw [List.getElem?_eq_none (by simp [madeCells]; omega), List.getElem?_eq_none (by omega)]

def stN (p v : Value) : Sem Unit := Instr.storeAt 123 p v
theorem stN_rule (p v : Value) : Instr.storeAt 123 p v = stN p v := rfl
theorem nd_one (a b c d : Int) : (#[Value.int .i64 a, .int .i64 b, .int .i64 c, .int .i64 d] : Array Value).all (·.oneCell') = true :=
  all_oneCell_toArray (cs := [.int .i64 a, .int .i64 b, .int .i64 c, .int .i64 d]) (by intro v hv; simp only [List.mem_cons, List.not_mem_nil, or_false] at hv; rcases hv with rfl | rfl | rfl | rfl <;> rfl)
theorem szStp : (Tryz.prog.info? 121).map (·.size) = some 2 := by kernel_rfl

attribute [local go_sem ↓] stN_rule
set_option maxRecDepth 20000 in
set_option maxHeartbeats 8000000 in
theorem writeDown_any (w : World) (R H : Int) (vp vs : Value) (ps : List PV) (st : List St) (hp : PrsAt w w.heap.size vp ps) (hst : RowAt St.cells 2 121 w vs st) (hnum : ∀ s ∈ st, 0 ≤ s.num ∧ s.num ≤ 127) (hl : st.length ≤ 1000000000000)
    (hps : ps.length ≤ 1000) (har : ∀ p ∈ ps, p.pr.syms.length ≤ 1000) :
    Calls Tryz.prog 34 #[.agg #[.int .i64 R, .int .i64 H, vp], vs] w fun e w' => ∃ v, e = .returned v ∧ Fresh w w' ∧ NdOwn w' w.heap.size v (nodesF (prsOf ps) st) := by
  obtain ⟨i0, hi0, iz0, iz1, iz2⟩ := infoNd'
  obtain ⟨pa, pc, hvp⟩ := own_form hp.row.own
  subst hvp
  obtain ⟨sa, sc, hvs⟩ := own_form hst.own
  subst hvs
  have HP := hid hp
  have HST := hid hst
  have HNM := hid hnum
  have HAR : Hid (∀ x : Nd, arF (prsOf ps) x ≤ 1000) := fun x => by
    unfold arF
    split
    · omega
    · split
      · rename_i p hq
        obtain ⟨y, hy, rfl⟩ := List.mem_map.1 (List.mem_of_getElem? hq)
        exact har y hy
      · omega
  have mk : ∀ w : World, (Instr.makeSlice 25 (.int .i64 st.length) (.int .i64 st.length)).run Tryz.prog w = .ok (.slice (some ⟨w.heap.size, 0, none⟩) st.length st.length) (w.alloc (.cells (madeCells #[.int .i64 0, .int .i64 0, .int .i64 0, .int .i64 0] (st.length * 4)) 123)) := fun w => by
    have h := run_make (P := Tryz.prog) w 25 123 i0 _ Tryz.underlying25 hi0 iz0 .i64 .i64 (st.length : Int) (st.length : Int) (by omega) (Int.le_refl _) (by rw [iz2]; omega) (by omega)
    rw [iz1, Int.toNat_natCast] at h
    exact h
  have HMN := hid (made_nodes st.length)
  generalize madeCells #[Value.int .i64 0, .int .i64 0, .int .i64 0, .int .i64 0] (st.length * 4) = MC at mk HMN
  clear hp hst hnum har
  go_enter Tryz.func34, Tryz.ntmps34
  go_wp2
  have hNDl : (ndL st 0).length = st.length := ndL_len st 0
  have HSZ := hid (fun (j d : Nat) (h : (sizesF (prsOf ps) (ndL st 0))[j]? = some d) => sizesF_bd (prsOf ps) (ndL st 0) j d h)
  have HSA := hid (sizesF_at (prsOf ps) (ndL st 0))
  have HSN := hid (sizesF_len (prsOf ps) (ndL st 0))
  have HNA := hid (fun (j : Nat) (hj : j < st.length) (d : Nat) => nodesF_at (prsOf ps) st hj (d := d))
  have hNFl := nodesF_len (prsOf ps) st
  have HD0 : Hid (ndL (st.drop 0) 0 = (ndL st 0).drop 0) := rfl
  generalize ndL st 0 = ND at hNDl HSZ HSA HSN HNA HD0
  generalize hSZ : sizesF (prsOf ps) ND = SZ at HSZ HSA HSN HNA
  generalize hNF : nodesF (prsOf ps) st = NF at hNFl HNA
  have HNF := hid hNF
  clear hSZ hNF
  have HND := hid hNDl
  have HNFL := hid hNFl
  have HW0 : Hid (Fresh w ((w.alloc (.cells #[.int .i64 R, .int .i64 H, .slice pa ps.length pc] 42 (0, 0))).alloc (.cells MC 123 (0, 0)))) := ((Mod.refl _ w).alloc _).alloc _
  have HT0 : Hid (((w.alloc (.cells #[.int .i64 R, .int .i64 H, .slice pa ps.length pc] 42 (0, 0))).alloc (.cells MC 123 (0, 0))).heap[w.heap.size]? = some (.cells #[.int .i64 R, .int .i64 H, .slice pa ps.length pc] 42 (0, 0))) := heap_alloc_prev (heap_alloc_at _ _)
  have HO0 : Hid (NdOwn ((w.alloc (.cells #[.int .i64 R, .int .i64 H, .slice pa ps.length pc] 42 (0, 0))).alloc (.cells MC 123 (0, 0))) w.heap.size (.slice (some ⟨w.heap.size + 1, 0, none⟩) st.length st.length) (fillL zeroNd ND st.length 0)) := by
    have hf : fillL zeroNd ND st.length 0 = List.replicate st.length zeroNd := by simp [fillL]
    have hfl := flat_len Nd.cells 4 (xs := List.replicate st.length zeroNd) (fun x _ => rfl)
    rw [hf]
    refine ⟨by rw [hfl], .inr ⟨w.heap.size + 1, st.length, MC, by simp, by omega, ?_, by simp, by unfold maxLen; omega, ?_, ?_⟩⟩
    · have := heap_alloc_at (w.alloc (.cells #[.int .i64 R, .int .i64 H, .slice pa ps.length pc] 42 (0, 0))) (.cells MC 123 (0, 0))
      simpa using this
    · have := congrArg List.length HMN.out
      rw [hfl] at this; simpa using this
    · rw [HMN.out, List.take_of_length_le (by rw [hfl]; exact Nat.le_refl _)]
  clear hNDl hNFl
  go_loopw [6, 16] (fun x6 x16 wr => ∃ (i c : Nat), x16 = .int .i64 i ∧ x6 = .int .i64 c ∧ i ≤ st.length ∧ c ≤ i ∧ ndL (st.drop i) c = ND.drop i ∧ Fresh w wr ∧ wr.heap[w.heap.size]? = some (.cells #[.int .i64 R, .int .i64 H, .slice pa ps.length pc] 42 (0, 0)) ∧ NdOwn wr w.heap.size (.slice (some ⟨w.heap.size + 1, 0, none⟩) st.length st.length) (fillL zeroNd ND st.length i))
      (fun _ x _ => 1000000000001 - (intOf x).toNat)
  case atStart => exact ⟨0, 0, rfl, rfl, by omega, by omega, HD0.out, HW0.out, HT0.out, HO0.out⟩
  case round =>
    clear mk HD0 HW0 HT0 HO0 HMN
    obtain ⟨i, c, rfl, rfl, hi, hc, hnd, hfr, htb, hown⟩ := hrel
    have HME := hid (meas (B := 1000000000001) i (by omega))
    have HFR := hid hfr
    have HTB := hid htb
    have HOW := hid hown
    have htl := heap_lt htb
    have hNDl := HND.out
    have hgl := (hown.lt (w.heap.size + 1) rfl).2
    clear hfr htb hown
    by_cases hlt : i < st.length
    · have hi1 : (i : Int) < (st.length : Int) := by omega
      obtain ⟨g, c', hg⟩ := Joins.ownsRow_form HST.out.own (by omega)
      rw [Value.slice.injEq] at hg
      obtain ⟨rfl, _, rfl⟩ := hg
      have RG := hid ((HST.out.fresh HFR.out).range i hlt)
      have hnm := HNM.out st[i] (by simp)
      have hiN : i < ND.length := by omega
      rw [List.drop_eq_getElem_cons hlt, List.drop_eq_getElem_cons hiN] at hnd
      have hfl : (fillL zeroNd ND st.length i).length = st.length := fillL_len _ hNDl hi
      have HTH : Hid (wr.there (w.heap.size + 1) (i * 4) 4) := own_there Nd.cells_len HOW.out (by rw [hfl]; exact hlt)
      have HNX := hid (fun (W : World) (h : NdOwn W w.heap.size (.slice (some ⟨w.heap.size + 1, 0, none⟩) st.length st.length) (fillL zeroNd ND st.length i)) (x : Nd) => own_set (k := 4) Nd.cells_len (by omega) h (i := i) (by rw [hfl]; exact hlt) x)
      have HFS : Hid ((fillL zeroNd ND st.length i).set i ND[i] = fillL zeroNd ND st.length (i + 1)) := fillL_set _ hNDl hiN
      generalize ND[i] = nd at hnd HFS
      generalize st[i] = s at hnd RG hnm
      obtain ⟨sl, sn⟩ := s
      obtain ⟨hn0, hn1⟩ := hnm
      dsimp only at hn0 hn1
      unfold ndL at hnd
      have HFLL := hid hfl
      clear hfl hiN hNDl
      cases sl
      · simp only [Bool.false_eq_true, if_false, List.cons.injEq] at hnd
        obtain ⟨hnd1, hnd2⟩ := hnd
        have HN2 := hid hnd2
        have HOB : Hid (NdOwn (wr.alloc (.cells #[.bool false, .int .i8 sn] 121 (0, 0))) w.heap.size (.slice (some ⟨w.heap.size + 1, 0, none⟩) st.length st.length) (fillL zeroNd ND st.length i)) := HOW.out.alloc _
        have HTHb : Hid ((wr.alloc (.cells #[.bool false, .int .i8 sn] 121 (0, 0))).there (w.heap.size + 1) (i * 4) 4) := own_there Nd.cells_len HOB.out (by rw [HFLL.out]; exact hlt)
        have HNX2 := hid (HNX.out _ HOB.out ⟨sn, -1, c, 0⟩)
        have hset : (fillL zeroNd ND st.length i).set i (⟨sn, -1, c, 0⟩ : Nd) = fillL zeroNd ND st.length (i + 1) := by rw [hnd1]; exact HFS.out
        rw [hset] at HNX2
        clear hset
        obtain ⟨Wx, hWx⟩ : ∃ Wx, Wx = (wr.alloc (.cells #[.bool false, .int .i8 sn] 121 (0, 0))).setCells (w.heap.size + 1) (i * 4) (#[.int .i64 sn, .int .i64 (-1), .int .i64 c, .int .i64 0] : Array Value).toList := ⟨_, rfl⟩
        have HF3 : Hid (Fresh w Wx) := by rw [hWx]; exact Mod.setCells (fun h => by omega) _ _ _ (HFR.out.alloc _)
        have HT3 : Hid (Wx.heap[w.heap.size]? = some (.cells #[.int .i64 R, .int .i64 H, .slice pa ps.length pc] 42 (0, 0))) := by
          rw [hWx]; exact (Mod.setCells (S := fun k => k = w.heap.size + 1) (a := wr) (fun _ => rfl) _ _ _ ((Mod.refl _ wr).alloc _)).at HTB.out (by omega)
        have HO3 : Hid (NdOwn Wx w.heap.size (.slice (some ⟨w.heap.size + 1, 0, none⟩) st.length st.length) (fillL zeroNd ND st.length (i + 1))) := by
          rw [hWx]; exact HNX2.out
        have s1 : (stN (.pointer (some ⟨w.heap.size + 1, i * 4, none⟩)) (.agg #[.int .i64 sn, .int .i64 (-1), .int .i64 c, .int .i64 0])).run Tryz.prog (wr.alloc (.cells #[.bool false, .int .i8 sn] 121 (0, 0))) = .ok () Wx := by
          rw [hWx]; exact run_storeAt_mid _ (w.heap.size + 1) (i * 4) _ _ HTHb.out szNd (nd_one sn (-1) c 0)
        clear hWx
        clear HNX2
        clear hnd1 hnd2
        go_wp2_with (first
          | (refine wpList_load_mid rfl 121 _ rfl g (i * 2) rfl [.bool false, .int .i8 sn] _ RG.out Tryz.underlying121 rfl szStp ?_))
        go_roundw
        case rel =>
          refine ⟨i + 1, c, by go_num, by go_num, by omega, by omega, HN2.out, HF3.out, HT3.out, HO3.out⟩
        case measure => exact HME.out
      · simp only [if_true, List.cons.injEq] at hnd
        obtain ⟨hnd1, hnd2⟩ := hnd
        have HN2 := hid hnd2
        have HOB : Hid (NdOwn (wr.alloc (.cells #[.bool true, .int .i8 sn] 121 (0, 0))) w.heap.size (.slice (some ⟨w.heap.size + 1, 0, none⟩) st.length st.length) (fillL zeroNd ND st.length i)) := HOW.out.alloc _
        have HTHb : Hid ((wr.alloc (.cells #[.bool true, .int .i8 sn] 121 (0, 0))).there (w.heap.size + 1) (i * 4) 4) := own_there Nd.cells_len HOB.out (by rw [HFLL.out]; exact hlt)
        have HNX2 := hid (HNX.out _ HOB.out ⟨-1, sn, c, 0⟩)
        have hset : (fillL zeroNd ND st.length i).set i (⟨-1, sn, c, 0⟩ : Nd) = fillL zeroNd ND st.length (i + 1) := by rw [hnd1]; exact HFS.out
        rw [hset] at HNX2
        clear hset
        obtain ⟨Wx, hWx⟩ : ∃ Wx, Wx = (wr.alloc (.cells #[.bool true, .int .i8 sn] 121 (0, 0))).setCells (w.heap.size + 1) (i * 4) (#[.int .i64 (-1), .int .i64 sn, .int .i64 c, .int .i64 0] : Array Value).toList := ⟨_, rfl⟩
        have HF3 : Hid (Fresh w Wx) := by rw [hWx]; exact Mod.setCells (fun h => by omega) _ _ _ (HFR.out.alloc _)
        have HT3 : Hid (Wx.heap[w.heap.size]? = some (.cells #[.int .i64 R, .int .i64 H, .slice pa ps.length pc] 42 (0, 0))) := by
          rw [hWx]; exact (Mod.setCells (S := fun k => k = w.heap.size + 1) (a := wr) (fun _ => rfl) _ _ _ ((Mod.refl _ wr).alloc _)).at HTB.out (by omega)
        have HO3 : Hid (NdOwn Wx w.heap.size (.slice (some ⟨w.heap.size + 1, 0, none⟩) st.length st.length) (fillL zeroNd ND st.length (i + 1))) := by
          rw [hWx]; exact HNX2.out
        have s1 : (stN (.pointer (some ⟨w.heap.size + 1, i * 4, none⟩)) (.agg #[.int .i64 (-1), .int .i64 sn, .int .i64 c, .int .i64 0])).run Tryz.prog (wr.alloc (.cells #[.bool true, .int .i8 sn] 121 (0, 0))) = .ok () Wx := by
          rw [hWx]; exact run_storeAt_mid _ (w.heap.size + 1) (i * 4) _ _ HTHb.out szNd (nd_one (-1) sn c 0)
        clear hWx
        clear HNX2
        clear hnd1 hnd2
        go_wp2_with (first
          | (refine wpList_load_mid rfl 121 _ rfl g (i * 2) rfl [.bool true, .int .i8 sn] _ RG.out Tryz.underlying121 rfl szStp ?_))
        go_roundw
        case rel =>
          refine ⟨i + 1, c + 1, by go_num, by go_num, by omega, by omega, HN2.out, HF3.out, HT3.out, HO3.out⟩
        case measure => exact HME.out
    · have hie : i = st.length := by omega
      have hi2 : ¬ (i : Int) < (st.length : Int) := by omega
      have HOJ : Hid (NdOwn wr w.heap.size (.slice (some ⟨w.heap.size + 1, 0, none⟩) st.length st.length) (joinL ND NF st.length)) := by
        have e : fillL zeroNd ND st.length i = joinL ND NF st.length := by
          unfold fillL joinL
          rw [hie, Nat.sub_self, List.replicate_zero, List.drop_eq_nil_of_le (by rw [HNFL.out]; exact Nat.le_refl _)]
        rw [← e]; exact HOW.out
      obtain ⟨wa, hwa⟩ : ∃ wa, wa = wr := ⟨_, rfl⟩
      subst hwa
      clear hnd hNDl hie
      go_wp2
      go_loopw [10] (fun x10 wr => ∃ (m : Nat) (q : Int), x10 = .int .i64 q ∧ q = (m : Int) - 1 ∧ m ≤ st.length ∧ Fresh w wr ∧ wr.heap[w.heap.size]? = some (.cells #[.int .i64 R, .int .i64 H, .slice pa ps.length pc] 42 (0, 0)) ∧ NdOwn wr w.heap.size (.slice (some ⟨w.heap.size + 1, 0, none⟩) st.length st.length) (joinL ND NF m))
          (fun x _ => (intOf x + 1).toNat)
      case atStart => exact ⟨st.length, _, rfl, rfl, Nat.le_refl _, HFR.out, HTB.out, HOJ.out⟩
      case round =>
        obtain ⟨m, q, rfl, hq, hm, hfr, htb, hown⟩ := hrel
        have HF2 := hid hfr
        have HT2 := hid htb
        have HO2 := hid hown
        have htl2 := heap_lt htb
        have t0 := cellOf htb 0
        have t1 := cellOf htb 1
        have t2 := cellOf htb 2
        simp at t0 t1 t2
        clear hfr htb hown
        by_cases hm0 : m = 0
        · have hq0 : q = -1 := by omega
          subst hq0
          subst hm0
          clear hq
          go_wp2
          go_ret
          refine ⟨_, rfl, HF2.out, ?_⟩
          have e : joinL ND NF 0 = NF := by simp [joinL]
          have h := HO2.out
          rw [e] at h
          rw [HNF.out]; exact h
        · obtain ⟨m', rfl⟩ : ∃ m', m = m' + 1 := ⟨m - 1, by omega⟩
          have hqe : q = (m' : Int) := by omega
          clear hq
          subst hqe
          have hml : m' < st.length := by omega
          have hm1 : (m' : Int) < (st.length : Int) := by omega
          have HMM : Hid (((m' : Int) - 1 + 1).toNat < ((m' : Int) + 1).toNat) := by unfold Hid; omega
          have hmN : m' < ND.length := by rw [HND.out]; exact hml
          have hmF : m' < NF.length := by rw [HNFL.out]; exact hml
          have hJl : (joinL ND NF (m' + 1)).length = st.length := joinL_len HND.out HNFL.out hm
          have hJm : m' < (joinL ND NF (m' + 1)).length := by rw [hJl]; exact hml
          have hJa : (joinL ND NF (m' + 1))[m'] = ND[m'] := by
            have := joinL_at HND.out HNFL.out hmN (E := NF)
            rw [List.getElem?_eq_getElem hJm] at this
            simpa using this
          have hsz := HSA.out m' hmN
          obtain ⟨x, hx1, hx2⟩ := HNA.out m' hml _ hsz
          rw [List.getElem?_eq_getElem hmN, Option.some.injEq] at hx1
          have SO : Hid (∀ W : World, Fresh wr W → Calls Tryz.prog 51 #[.agg #[.int .i64 R, .int .i64 H, .slice pa ps.length pc], .slice (some ⟨w.heap.size + 1, 0, none⟩) st.length st.length, .int .i64 m'] W fun e w' => e = .returned (.int .i64 (szL (SZ.drop (m' + 1)) (arF (prsOf ps) ND[m']) 1)) ∧ Fresh W w') := fun W hW => by
            have h := sizeOf_any W R H (.slice pa ps.length pc) (.slice (some ⟨w.heap.size + 1, 0, none⟩) st.length st.length) ps (joinL ND NF (m' + 1)) m' (SZ.drop (m' + 1)) ((HP.out.kept (Nat.le_refl _) (HF2.out.trans hW) (fun _ _ x => x)).up (HF2.out.trans hW).size) ⟨ownsRow_base (ownsRow_other HO2.out (fun g hg => hW.block g (HO2.out.lt g hg).2 (fun x => x))) (Nat.zero_le _), fun _ _ => rfl⟩ hJm hps (by rw [hJl]; exact hl)
              (by rw [hJl, List.length_drop, HSN.out, HND.out]; omega)
              (fun j d hd => by
                rw [List.getElem?_drop] at hd
                have hjl : m' + 1 + j < st.length := by
                  have := (List.getElem?_eq_some_iff.1 hd).1
                  rw [HSN.out, HND.out] at this; exact this
                obtain ⟨y, hy1, hy2⟩ := HNA.out (m' + 1 + j) hjl d hd
                refine ⟨setSz y d, ?_, rfl⟩
                rw [joinL_after HND.out HNFL.out hm, hy2])
              (fun j d hd => by
                rw [List.getElem?_drop] at hd
                have := HSZ.out _ _ hd
                rw [List.length_drop, HSN.out]
                omega)
              (by rw [hJa]; exact HAR.out _)
            rw [hJa] at h
            exact h
          generalize szL (SZ.drop (m' + 1)) (arF (prsOf ps) ND[m']) 1 = z at SO hx2 hsz
          have hzb : z ≤ 1000000000000 := by
            have h1 := HSZ.out _ _ hsz
            have h2 := HND.out
            omega
          have hfz := own_there Nd.cells_len HO2.out hJm
          have HSC := hid (fun (W : World) (h : NdOwn W w.heap.size (.slice (some ⟨w.heap.size + 1, 0, none⟩) st.length st.length) (joinL ND NF (m' + 1))) => own_setC (k := 4) Nd.cells_len (by omega) h (i := m') (o := 3) hJm (by omega) (.int .i64 z) (setSz ND[m'] z) (by rw [hJa]; rfl))
          have HJS : Hid ((joinL ND NF (m' + 1)).set m' (setSz ND[m'] z) = joinL ND NF m') := by
            have h := joinL_set HND.out HNFL.out hmF (D := ND)
            have h2 : NF[m'] = setSz ND[m'] z := by
              rw [List.getElem?_eq_getElem hmF, Option.some.injEq] at hx2
              rw [hx2, ← hx1]
            rw [h2] at h
            exact h
          generalize setSz ND[m'] z = nd at HSC HJS
          clear hx1 hx2 hsz hJa hfz
          have HC3 : Hid (∀ W : World, Fresh wr W → NdOwn W w.heap.size (.slice (some ⟨w.heap.size + 1, 0, none⟩) st.length st.length) (joinL ND NF (m' + 1)) ∧ (∃ V, W.cell? ⟨w.heap.size + 1, m' * 4 + 3, none⟩ = some V) ∧ W.frozen? ⟨w.heap.size + 1, m' * 4 + 3, none⟩ = false) := fun W hW => by
            have h := ownsRow_other HO2.out (fun g hg => hW.block g (HO2.out.lt g hg).2 (fun x => x))
            have hr : NdsAt W (.slice (some ⟨w.heap.size + 1, 0, none⟩) st.length st.length) (joinL ND NF (m' + 1)) := ⟨ownsRow_base h (Nat.zero_le _), fun x _ => rfl⟩
            exact ⟨h, ⟨_, hr.cell m' 3 hJm (by omega)⟩, (own_there Nd.cells_len h hJm 3 (by omega)).2⟩
          go_wp2_with (first
            | (go_at_call 51; refine (SO.out _ (Mod.refl _ wr)).mono ?_; rintro e w3 ⟨rfl, hf3⟩; obtain ⟨ho3, ⟨V3, c3⟩, z3⟩ := HC3.out w3 hf3; have HO3 := hid ho3; have HF3 := hid hf3; clear ho3 hf3))
          go_roundw
          case rel =>
            refine ⟨m', (m' : Int) - 1, rfl, rfl, by omega, (HF2.out.trans HF3.out).setCell (fun h => by simp at h; omega) _, ?_, ?_⟩
            · exact heap_setCell_prev (HF3.out.at HT2.out (fun x => x)) (by simp)
            · have h := HSC.out w3 HO3.out
              rw [HJS.out] at h
              exact h
          case measure => exact HMM.out
end Go.Proofs.YteneagnhihcljaaGreatDoor
namespace Go.Proofs.YteneagnhihcljaaGreatDoor
open Go.RowKit
set_option linter.unusedVariables false
set_option linter.unusedSimpArgs false

theorem gTo_congr {ps : List Pr} {R H : Int} {t : Nat} {ch ch' : Int → Nat → Int} (h : ∀ X, 0 ≤ X → X < H → ch X t = ch' X t) (hps : ∀ p ∈ ps, StkIn R H p.syms) : ∀ (f : Nat) (k : List Sy) (st : List St), StkIn R H k → gTo ps ch t f k st = gTo ps ch' t f k st
  | 0, _, _, _ => rfl
  | f + 1, [], _, _ => rfl
  | f + 1, s :: k, st, hk => by
    have hs := hk s (by simp)
    unfold gTo
    cases hq : s.isH
    · simp
    · rw [hq] at hs
      simp only [if_true] at hs
      rw [h s.num hs.1 hs.2]
      simp only [Bool.true_eq_false, if_false]
      split
      · cases hp : ps[(ch' s.num t).toNat]? with
        | none => rfl
        | some p =>
          simp only []
          refine gTo_congr h hps f _ _ (fun x hx => ?_)
          rcases List.mem_append.1 hx with hx | hx
          · exact hps p (List.mem_of_getElem? hp) x hx
          · exact hk x (by simp [hx])
      · rfl
theorem gTo_in {ps : List Pr} {R H : Int} {t : Nat} {ch : Int → Nat → Int} (hps : ∀ p ∈ ps, StkIn R H p.syms) (hR : R ≤ 100) (hl : ps.length ≤ 100) : ∀ (f : Nat) (k : List Sy) (st : List St) (r : List Sy × List St), gTo ps ch t f k st = some r → StkIn R H k → (∀ s ∈ st, 0 ≤ s.num ∧ s.num ≤ 127) →
    StkIn R H r.1 ∧ ∀ s ∈ r.2, 0 ≤ s.num ∧ s.num ≤ 127
  | 0, _, _, _, h, _, _ => by cases h
  | f + 1, [], st, r, h, hk, hs => by cases h; exact ⟨hk, hs⟩
  | f + 1, s :: k, st, r, h, hk, hs => by
    have h1 := hk s (by simp)
    unfold gTo at h
    split at h
    · rename_i hq
      rw [hq] at h1
      simp only [Bool.false_eq_true, if_false] at h1
      cases h
      refine ⟨fun x hx => hk x (by simp [hx]), fun x hx => ?_⟩
      rcases List.mem_append.1 hx with hx | hx
      · exact hs x hx
      · simp only [List.mem_singleton] at hx
        subst hx
        exact ⟨h1.1, by dsimp only; omega⟩
    · split at h
      · rename_i h0
        cases hp : ps[(ch s.num t).toNat]? with
        | none => rw [hp] at h; cases h
        | some p =>
          rw [hp] at h
          have hlt := (List.getElem?_eq_some_iff.1 hp).1
          refine gTo_in hps hR hl f _ _ r h (fun x hx => ?_) (fun x hx => ?_)
          · rcases List.mem_append.1 hx with hx | hx
            · exact hps p (List.mem_of_getElem? hp) x hx
            · exact hk x (by simp [hx])
          · rcases List.mem_append.1 hx with hx | hx
            · exact hs x hx
            · simp only [List.mem_singleton] at hx
              subst hx
              exact ⟨h0, by dsimp only; omega⟩
      · cases h
theorem szF_eq (B : Nat) : ∀ n, szF B n = n * (1 + 6 * B)
  | 0 => by simp [szF]
  | n + 1 => by rw [szF, szF_eq B n, Nat.add_mul, Nat.one_mul]; omega
theorem enough_le {H n : Nat} (hH : H ≤ 8) : enough H n ≤ n * 335923 + 16124313 := by
  have h1 : szN H ≤ 335923 := szN_le hH
  unfold enough
  rw [szF_eq]
  have h2 : n * szN H ≤ n * 335923 := Nat.mul_le_mul_left _ h1
  have h3 : H * (1 + 6 * szN H) ≤ 8 * (1 + 6 * 335923) := Nat.mul_le_mul hH (by omega)
  omega
theorem chL_eq {hs : List Hd} {ps : List Pr} {X : Int} {t : Nat} (h0 : 0 ≤ X) (h8 : X < 8) (ht : t < 9) : chL (tabL (ps.zip (aheadsF hs ps)) 72) X t = chF hs ps X t := by
  unfold chL
  rw [if_pos ⟨h0, h8, ht⟩, tabL_at _ (by omega) ht, show ((X.toNat : Nat) : Int) = X by omega]
  rfl
/-- what a right table gives -/
structure Tab (ps : List Pr) (R H : Nat) (hs : List Hd) : Prop where
  g : LLG ps R H (hN hs) (hF hs) (hO hs) (chF hs ps)
  ok : ∀ x ∈ hs, x.ok
  hR : R ≤ 8
  hH : H ≤ 8
  h0 : 0 < H
  hl : ps.length ≤ 20
variable {ps : List Pr} {R H : Nat} {hs : List Hd}
theorem Tab.syms (h : Tab ps R H hs) : ∀ p ∈ ps, p.syms.length ≤ 6 ∧ StkIn R H p.syms := fun p hp => ⟨h.g.mx p hp, h.g.tab.sy p hp⟩
/-- one kind more -/
theorem Tab.step (h : Tab ps R H hs) {k : List Sy} {st : List St} {t : Nat} (ht : t ≤ R) (hk : StkOk (hN hs) (hF hs) (hO hs) R k) (hi : StkIn R H k) (hs1 : ∀ s ∈ st, 0 ≤ s.num ∧ s.num ≤ 127) (hw : (wanB hs R k).getD t false = true) :
    gTo ps (chL (tabL (ps.zip (aheadsF hs ps)) 72)) t (enough H k.length) k st = some (gToF ps hs H t k st) ∧ (gToF ps hs H t k st).1.length ≤ k.length + 48 ∧ (gToF ps hs H t k st).2.length ≤ st.length + (k.length * 335923 + 16124313) ∧
      StkOk (hN hs) (hF hs) (hO hs) R (gToF ps hs H t k st).1 ∧ StkIn R H (gToF ps hs H t k st).1 ∧ (∀ s ∈ (gToF ps hs H t k st).2, 0 ≤ s.num ∧ s.num ≤ 127) ∧ st.length ≤ (gToF ps hs H t k st).2.length := by
  rw [wanB_at h.ok h.hR k hi t] at hw
  obtain ⟨r, h1, h2, h3⟩ := h.g.grows ht k hk hw st
  have e : gToF ps hs H t k st = r := by unfold gToF; rw [h1]; rfl
  rw [e]
  have hR := h.hR
  have hH := h.hH
  have hl := h.hl
  have hin := gTo_in (R := R) (H := H) (fun p hp => (h.syms p hp).2) (by omega) (by omega) _ _ _ _ h1 hi hs1
  have hc := gTo_congr (R := R) (H := H) (t := t) (ch := chL (tabL (ps.zip (aheadsF hs ps)) 72)) (ch' := chF hs ps) (fun X x0 x1 => chL_eq x0 (by omega) (by omega)) (fun p hp => (h.syms p hp).2) (enough H k.length) k st hi
  have he := enough_le (n := k.length) hH
  exact ⟨by rw [hc]; exact h1, by omega, by omega, h.g.stkTo _ _ _ _ h1 hk, hin.1, hin.2, gTo_len _ _ _ _ h1⟩
theorem Tab.start (h : Tab ps R H hs) : StkOk (hN hs) (hF hs) (hO hs) R [⟨true, 0⟩] ∧ StkIn R H [⟨true, 0⟩] := by
  refine ⟨h.g.stk0, fun s hs => ?_⟩
  simp only [List.mem_singleton] at hs
  subst hs
  have := h.h0
  simp; omega
end Go.Proofs.YteneagnhihcljaaGreatDoor
