import Derived.Test.YteneagnhihcljaaGreatDoorCrw4
import Derived.Test.YteneagnhihcljaaGreatDoorPat5
namespace Go.Proofs.YteneagnhihcljaaGreatDoor
open Go.RowKit
set_option linter.unusedVariables false
set_option linter.unusedSimpArgs false

section
variable {α : Type} (cells : α → List Value) (k : Nat)
def flatC (xs : List α) : List Value := xs.flatMap cells
theorem flat_len {xs : List α} (h : ∀ x ∈ xs, (cells x).length = k) : (flatC cells xs).length = xs.length * k := by
  induction xs with
  | nil => simp [flatC]
  | cons n ns ih =>
    have h1 := h n (by simp)
    have h2 := ih (fun m hm => h m (by simp [hm]))
    simp only [flatC, List.flatMap_cons, List.length_append, List.length_cons] at h2 ⊢
    rw [h2, h1, Nat.add_mul]; omega
theorem flat_at {xs : List α} (h : ∀ x ∈ xs, (cells x).length = k) (i j : Nat) (hi : i < xs.length) (hj : j < k) : (flatC cells xs)[i * k + j]? = (cells xs[i])[j]? := by
  induction xs generalizing i with
  | nil => simp at hi
  | cons n ns ih =>
    have h1 := h n (by simp)
    simp only [flatC, List.flatMap_cons]
    cases i with
    | zero => rw [List.getElem?_append_left (by simp; omega)]; simp
    | succ i =>
      have e0 : (i + 1) * k = i * k + k := Nat.succ_mul i k
      rw [List.getElem?_append_right (by omega), h1]
      have e : (i + 1) * k + j - k = i * k + j := by omega
      rw [e]
      exact ih (fun m hm => h m (by simp [hm])) i (by simpa using hi)
end

/-- v is a slice of these. -/
structure RowAt {α : Type} (cells : α → List Value) (k : Nat) (T : TypeId) (w : World) (v : Value) (xs : List α) : Prop where
  own : w.ownsRow 0 T k v xs.length (flatC cells xs)
  wf : ∀ x ∈ xs, (cells x).length = k
theorem RowAt.kept {α : Type} {cells : α → List Value} {k : Nat} {T : TypeId} {S : Nat → Prop} {w w' : World} {v : Value} {xs : List α} (h : RowAt cells k T w v xs) (hm : Mod S w w') (hs : ∀ b, v.ownBlock = some b → ¬ S b) : RowAt cells k T w' v xs :=
  ⟨ownsRow_other h.own (fun g hg => hm.block g (h.own.lt g hg).2 (hs g hg)), h.wf⟩
theorem RowAt.fresh {α : Type} {cells : α → List Value} {k : Nat} {T : TypeId} {w w' : World} {v : Value} {xs : List α} (h : RowAt cells k T w v xs) (hm : Fresh w w') : RowAt cells k T w' v xs := h.kept hm (fun _ _ x => x)
theorem NodesAt.fresh {w w' : World} {v : Value} {ns : List Node} (h : NodesAt w v ns) (hm : Fresh w w') : NodesAt w' v ns := h.kept hm (fun _ _ x => x)
theorem RowAt.range {α : Type} {cells : α → List Value} {k : Nat} {T : TypeId} {w : World} {g n cap : Nat} {xs : List α} (h : RowAt cells k T w (.slice (some ⟨g, 0, none⟩) n cap) xs) (i : Nat) (hi : i < xs.length) : w.rangeAt g (i * k) (cells xs[i]) := by
  intro j v hj
  have hlt : j < k := by have := (List.getElem?_eq_some_iff.1 hj).1; rw [h.wf _ (by simp)] at this; exact this
  have := h.own.cells (g := g) rfl (i * k + j) v (by rw [flat_at cells k h.wf i j hi hlt]; exact hj)
  rwa [Addr.add_mid, Nat.zero_add] at this
theorem RowAt.cell {α : Type} {cells : α → List Value} {k : Nat} {T : TypeId} {w : World} {g n cap : Nat} {xs : List α} (h : RowAt cells k T w (.slice (some ⟨g, 0, none⟩) n cap) xs) (i j : Nat) (hi : i < xs.length) (hj : j < k) : w.cell? ⟨g, i * k + j, none⟩ = (cells xs[i])[j]? := by
  have hlt : j < (cells xs[i]).length := by rw [h.wf _ (by simp)]; exact hj
  rw [h.range i hi j _ (List.getElem?_eq_getElem hlt)]; simp
theorem RowAt.nil {α : Type} (cells : α → List Value) (k : Nat) (T : TypeId) (w : World) : RowAt cells k T w (.slice none 0 0) [] := ⟨World.ownsRow_nil _ _ _ _, fun _ h => by cases h⟩

structure Wd where
  place : Int
  ls : List Int
def Wd.cells (d : Wd) : List Value := .int .i64 d.place :: d.ls.map (Value.int .u8)
def zero8 : List Int := [0, 0, 0, 0, 0, 0, 0, 0]
def rWordL (s : ByteArray) (i : Int) : Nat → Nat → List Int → List Int × Int
  | 0, n, ls => (ls, i + n)
  | f + 1, n, ls =>
    if n < 8 then
      if isSmallB (atB s (i + n)) then rWordL s i f (n + 1) (ls.set n (atB s (i + n))) else (ls, i + n)
    else (ls, i + 8)
/-- the word, behind it, whether there is one -/
def rWord (s : ByteArray) (i : Int) : Wd × Int × Bool :=
  if (!isSmallB (atB s i) && !isCapB (atB s i)) = true then (⟨0, zero8⟩, i, false)
  else (⟨i, (rWordL s i 9 1 (zero8.set 0 (atB s i))).1⟩, (rWordL s i 9 1 (zero8.set 0 (atB s i))).2, true)
theorem rWordL_len (s : ByteArray) (i : Int) : ∀ (f n : Nat) (ls : List Int), ls.length = 8 → (rWordL s i f n ls).1.length = 8
  | 0, _, _, h => h
  | f + 1, n, ls, h => by
    unfold rWordL; split
    · split
      · exact rWordL_len s i f _ _ (by simpa using h)
      · exact h
    · exact h
theorem rWordL_bd (s : ByteArray) (i : Int) (h0 : 0 ≤ i) : ∀ (f n : Nat) (ls : List Int), n ≤ 8 → i + n ≤ s.size → i + n ≤ (rWordL s i f n ls).2 ∧ (rWordL s i f n ls).2 ≤ i + 8 ∧ (rWordL s i f n ls).2 ≤ s.size
  | 0, n, _, hn, hs => by unfold rWordL; simp; omega
  | f + 1, n, ls, hn, hs => by
    unfold rWordL; split
    · split
      · rename_i h1 h2
        have := atB_lt (s := s) (i := i + n) (by intro e; rw [e] at h2; simp [isSmallB] at h2)
        have := rWordL_bd s i h0 f (n + 1) (ls.set n (atB s (i + n))) (by omega) (by omega)
        omega
      · simp; omega
    · simp; omega
theorem rWord_len (s : ByteArray) (i : Int) : (rWord s i).1.ls.length = 8 := by
  unfold rWord; split
  · rfl
  · exact rWordL_len _ _ _ _ _ rfl
theorem rWord_bd (s : ByteArray) (i : Int) (h0 : 0 ≤ i) : i ≤ (rWord s i).2.1 ∧ (rWord s i).2.1 ≤ i + 8 ∧ ((rWord s i).2.2 = true → i < (rWord s i).2.1 ∧ (rWord s i).2.1 ≤ s.size) := by
  unfold rWord; split
  · simp; omega
  · rename_i h1
    have h2 : atB s i ≠ -1 := by intro e; rw [e] at h1; simp [isSmallB, isCapB] at h1
    have := atB_lt h2
    have := rWordL_bd s i h0 9 1 (zero8.set 0 (atB s i)) (by omega) (by omega)
    exact ⟨by dsimp only; omega, by dsimp only; omega, fun _ => by dsimp only; omega⟩
theorem Wd.cells_len {d : Wd} (h : d.ls.length = 8) : d.cells.length = 9 := by simp [Wd.cells, h]
theorem szWord : (Tryz.prog.info? 64).map (·.size) = some 9 := by kernel_rfl
theorem szWordOf {d : Wd} (h : d.ls.length = 8) : (Tryz.prog.info? 64).map (·.size) = some d.cells.toArray.size := by rw [List.size_toArray, Wd.cells_len h]; exact szWord
theorem Wd.one (d : Wd) : d.cells.toArray.all (·.oneCell') = true := by
  apply all_oneCell_toArray
  intro v hv; simp [Wd.cells] at hv
  rcases hv with rfl | ⟨a, _, rfl⟩ <;> rfl
theorem Wd.size {d : Wd} (h : d.ls.length = 8) : d.cells.toArray.size = 9 := by rw [List.size_toArray, Wd.cells_len h]
theorem sameSize {a b : Array Value} {n : Nat} (ha : a.size = n) (hb : b.size = n) : a.size = b.size := ha.trans hb.symm
end Go.Proofs.YteneagnhihcljaaGreatDoor
namespace Go.Proofs.YteneagnhihcljaaGreatDoor
open Go.RowKit
set_option linter.unusedVariables false
set_option linter.unusedSimpArgs false

/-- An append, under a name that the walk does not open. -/
def apS (ts : Array TypeId) (ty : TypeId) (args : Array Value) : Sem Value := Builtin.append_ ts ty args
theorem apS_rule (ts : Array TypeId) (ty : TypeId) (args : Array Value) : Builtin.append_ ts ty args = apS ts ty args := rfl
/-- An append's run ahead of the walk of a region that draws its order: the rule for its step, and what is behind it. -/
theorem apS_mine {P : Program} (w : World) (base : Nat) (t ty e : TypeId) (i : TypeInfo) (z : Value) (size bytes : Nat) (ht : P.underlying t = some (.slice e)) (hi : P.info? e = some i) (hz : i.zero = some z)
    (hsize : i.size = size) (hby : i.bytes = bytes) (hzs : z.cells.size = size) (hsz : 0 < size)
    (v : Value) (n : Nat) (xs : List Value) (hown : w.ownsRow base e size v n xs)
    (a : Addr) (m c : Nat) (news : List Value) (hl : news.length = m * size) (hnews : ∀ j u, news[j]? = some u → w.cell? (a.add j) = some u) (h1 : ∀ u ∈ news, u.oneCell' = true)
    (h63 : n + m ≤ maxLen) (hbytes : (n + m) * bytes ≤ 140737488355328) (hbase : base ≤ w.heap.size) :
    ∃ v' w', (apS #[t, t] ty #[v, .slice (some a) m c]).run P w = .ok v' w' ∧ w'.ownsRow base e size v' (n + m) (xs ++ news) ∧ w.grownBy w' v.ownBlock ∧
      (∀ k, v'.ownBlock = some k → v.ownBlock = some k ∨ w.heap.size ≤ k) :=
  run_append_mine (P := P) w base t ty e i z size bytes ht hi hz hsize hby hzs hsz v n xs hown a m c news hl hnews h1 h63 hbytes hbase
end Go.Proofs.YteneagnhihcljaaGreatDoor
namespace Go.Proofs.YteneagnhihcljaaGreatDoor
open Go.RowKit
set_option linter.unusedVariables false
set_option linter.unusedSimpArgs false

def bls (l : List Bool) : List Value := l.map Value.bool
def tkA (l : List Bool) : Array Value := (bls l).toArray
def zero9 : List Bool := [false, false, false, false, false, false, false, false, false]
def orL (a b : List Bool) : List Bool := List.zipWith (fun x y => x || y) a b
theorem orL_len {a b : List Bool} (ha : a.length = 9) (hb : b.length = 9) : (orL a b).length = 9 := by simp [orL, ha, hb]
def withT (a : List Bool) (n : Int) : List Bool := if 0 ≤ n ∧ n < 9 then a.set n.toNat true else a
theorem withT_len {a : List Bool} {n : Int} (ha : a.length = 9) : (withT a n).length = 9 := by unfold withT; split <;> simpa using ha
def hasT (a : List Bool) (n : Int) : Bool := if 0 ≤ n then a.getD n.toNat false else false
/-- the numbers in a set, rising -/
def listL (a : List Bool) : Nat → List Int
  | 0 => []
  | k + 1 => if a.getD k false then listL a k ++ [(k : Int)] else listL a k
def listT (a : List Bool) : List Int := listL a 9
theorem szTks : (Tryz.prog.info? 110).map (·.size) = some 9 := by kernel_rfl
theorem szTokOf {l : List Bool} (h : l.length = 9) : (Tryz.prog.info? 110).map (·.size) = some (tkA l).size := by rw [szTks]; simp [tkA, bls, h]
theorem szTokL {l : List Bool} (h : l.length = 9) : (Tryz.prog.info? 110).map (·.size) = some (bls l).length := by rw [szTks]; simp [tkA, bls, h]
theorem tk_size {l : List Bool} (h : l.length = 9) : (tkA l).size = 9 := by simp [tkA, bls, h]
theorem tk_one (l : List Bool) : (tkA l).all (·.oneCell') = true := by
  unfold tkA
  apply all_oneCell_toArray
  intro v hv; simp [bls] at hv
  rcases hv with ⟨_, rfl⟩ | ⟨_, rfl⟩ <;> rfl
theorem tk_set (l : List Bool) (i : Nat) (c : Bool) : (tkA l).setIfInBounds i (.bool c) = tkA (l.set i c) := by simp [tkA, bls, List.map_set]
def orK (k : Nat) (a b : List Bool) : List Bool := (orL a b).take k ++ a.drop k
theorem orK_len {k : Nat} {a b : List Bool} (ha : a.length = 9) (hb : b.length = 9) (hk : k ≤ 9) : (orK k a b).length = 9 := by simp [orK, orL, ha, hb]; omega
theorem orK_zero (a b : List Bool) : orK 0 a b = a := by simp [orK]
theorem orK_nine {a b : List Bool} (ha : a.length = 9) (hb : b.length = 9) : orK 9 a b = orL a b := by
  unfold orK; rw [List.take_of_length_le (by rw [orL_len ha hb]; omega), List.drop_eq_nil_of_le (by omega)]; simp
theorem nine {α : Type} {l : List α} (h : l.length = 9) : ∃ a0 a1 a2 a3 a4 a5 a6 a7 a8, l = [a0, a1, a2, a3, a4, a5, a6, a7, a8] := by
  rcases l with _ | ⟨a0, _ | ⟨a1, _ | ⟨a2, _ | ⟨a3, _ | ⟨a4, _ | ⟨a5, _ | ⟨a6, _ | ⟨a7, _ | ⟨a8, _ | ⟨a9, l⟩⟩⟩⟩⟩⟩⟩⟩⟩⟩ <;> simp at h
  exact ⟨a0, a1, a2, a3, a4, a5, a6, a7, a8, rfl⟩
theorem orK_at {k : Nat} {a b : List Bool} (ha : a.length = 9) (hb : b.length = 9) (hk : k < 9) : (orK k a b)[k]? = a[k]? := by
  obtain ⟨a0, a1, a2, a3, a4, a5, a6, a7, a8, rfl⟩ := nine ha
  obtain ⟨b0, b1, b2, b3, b4, b5, b6, b7, b8, rfl⟩ := nine hb
  rcases k with _ | _ | _ | _ | _ | _ | _ | _ | _ | k
  all_goals first | rfl | omega
theorem orK_set {k : Nat} {a b : List Bool} (ha : a.length = 9) (hb : b.length = 9) (hk : k < 9) : (orK k a b).set k (a.getD k false || b.getD k false) = orK (k + 1) a b := by
  obtain ⟨a0, a1, a2, a3, a4, a5, a6, a7, a8, rfl⟩ := nine ha
  obtain ⟨b0, b1, b2, b3, b4, b5, b6, b7, b8, rfl⟩ := nine hb
  rcases k with _ | _ | _ | _ | _ | _ | _ | _ | _ | k
  all_goals first | rfl | omega
theorem tk_atD {l : List Bool} {i : Nat} (h : i < l.length) : (tkA l)[i]? = some (.bool (l.getD i false)) := by simp [tkA, bls, h]
theorem orK_atD {k : Nat} {a b : List Bool} (ha : a.length = 9) (hb : b.length = 9) (hk : k < 9) : (orK k a b).getD k false = a.getD k false := by
  simp only [List.getD_eq_getElem?_getD, orK_at ha hb hk]

set_option maxRecDepth 20000 in
set_option maxHeartbeats 2000000 in
theorem tunion_any (w : World) (a b : List Bool) (ha : a.length = 9) (hb : b.length = 9) :
    Calls Tryz.prog 46 #[.agg (tkA a), .agg (tkA b)] w fun e w' => e = .returned (.agg (tkA (orL a b))) ∧ Fresh w w' := by
  have HA := hid ha
  have HB := hid hb
  clear ha hb
  go_enter Tryz.func46, Tryz.ntmps46
  go_wp2
  go_loopw [5, 6] (fun x5 x6 wr => ∃ (k : Nat), x6 = .int .i64 k ∧ k ≤ 9 ∧ Fresh w wr ∧ wr.heap[w.heap.size]? = some (.cells (tkA (orK k a b)) 110 (0, 0)) ∧ wr.heap[w.heap.size + 1]? = some (.cells (tkA b) 110 (0, 0)) ∧ wr.heap[w.heap.size + 2]? = some (.cells (tkA zero9) 110 (0, 0)))
      (fun _ x _ => 10 - (intOf x).toNat)
  case atStart =>
    refine ⟨0, rfl, by omega, (((Mod.refl _ w).alloc _).alloc _).alloc _, ?_, ?_, ?_⟩
    · rw [orK_zero]; exact heap_alloc3_1 _ _ _ _
    · exact heap_alloc3_2 _ _ _ _
    · exact heap_alloc3_3 _ _ _ _
  case round =>
    obtain ⟨k, rfl, hk, hfr, hb0, hb1, hb2⟩ := hrel
    have HB0 := hid hb0
    have HB1 := hid hb1
    have HB2 := hid hb2
    have HME := hid (meas (B := 10) k (by omega))
    clear hb0 hb1 hb2
    by_cases hlt : k < 9
    · have hla : k < a.length := by rw [HA.out]; exact hlt
      have hlb : k < b.length := by rw [HB.out]; exact hlt
      have c0 : wr.cell? ⟨w.heap.size, k, none⟩ = some (.bool (a.getD k false)) := by
        rw [cellOf HB0.out, tk_atD (by rw [orK_len HA.out HB.out hk]; exact hlt), orK_atD HA.out HB.out hlt]
      have c1 : wr.cell? ⟨w.heap.size + 1, k, none⟩ = some (.bool (b.getD k false)) := by rw [cellOf HB1.out, tk_atD hlb]
      have z0 := frozenOf HB0.out
      have HS := hid (orK_set HA.out HB.out hlt)
      generalize a.getD k false = ak at c0 HS
      generalize b.getD k false = bk at c1 HS
      clear hla hlb
      cases ak
      all_goals
        go_wp2
        go_roundw
        case rel =>
          refine ⟨k + 1, by go_num, by omega, hfr.setCell (by simp) _, ?_, ?_, ?_⟩
          · rw [Proofs.YteneagnhihcljaaGreatDoor.heap_setCell_same HB0.out, tk_set]; rw [← HS.out]; rfl
          · exact heap_setCell_prev HB1.out (by simp)
          · exact heap_setCell_prev HB2.out (by simp)
        case measure => exact HME.out
    · have hk9 : k = 9 := by omega
      subst hk9
      have HL : Hid ((orK 9 a b).length = 9) := hid (orK_len HA.out HB.out hk)
      go_wp2_with (first
        | (refine wpList_load_row rfl 110 _ rfl w.heap.size rfl _ _ _ _ HB0.out Tryz.underlying110 rfl (szTokOf HL.out) ?_)
        | (refine wpList_store_row rfl 110 _ _ rfl (w.heap.size + 2) _ rfl rfl _ _ HB2.out (szTokOf HL.out) (sameSize rfl (tk_size HL.out)) (tk_one _) ?_))
      refine bodyPost_ret (results_cell_row rfl _ _ (w.heap.size + 2) 110 _ (0, 0) _ rfl (setRow_heap _ _ _ _ _ _ HB2.out) Tryz.underlying110 rfl (szTokOf HL.out)) rfl ⟨?_, hfr.setRow (by simp) _⟩
      rw [orK_nine HA.out HB.out]
end Go.Proofs.YteneagnhihcljaaGreatDoor
namespace Go.Proofs.YteneagnhihcljaaGreatDoor
open Go.RowKit
set_option linter.unusedVariables false
set_option linter.unusedSimpArgs false

abbrev nums (l : List Int) : List Value := l.map (Value.int .i64)
theorem infoI : (Tryz.prog.info? 3).map (fun i => (i.zero, i.size, i.bytes)) = some (some (.int .i64 0), 1, 8) := by kernel_rfl
theorem infoI' : ∃ i, Tryz.prog.info? 3 = some i ∧ i.zero = some (.int .i64 0) ∧ i.size = 1 ∧ i.bytes = 8 := by
  have h := infoI
  cases hq : Tryz.prog.info? 3 with
  | none => simp [hq] at h
  | some i => simp [hq] at h; exact ⟨i, rfl, h.1, h.2.1, h.2.2⟩

set_option maxRecDepth 20000 in
set_option maxHeartbeats 2000000 in
theorem thas_any (w : World) (a : List Bool) (n : Int) (ha : a.length = 9) :
    Calls Tryz.prog 67 #[.agg (tkA a), .int .i64 n] w fun e w' => e = .returned (.bool (hasT a n)) ∧ Fresh w w' := by
  have HA := hid ha
  have HC : Hid (∀ k : Nat, (w.alloc (.cells (tkA a) 110 (0, 0))).cell? ⟨w.heap.size, k, none⟩ = (tkA a)[k]?) := fun k => cellOf (heap_alloc_at _ _) k
  generalize hv : hasT a n = V
  unfold hasT at hv
  by_cases h0 : 0 ≤ n
  · rw [if_pos h0] at hv
    obtain ⟨k, rfl⟩ : ∃ k : Nat, n = k := ⟨n.toNat, by omega⟩
    rw [Int.toNat_natCast] at hv
    by_cases h9 : k < 9
    · have c0 := HC.out k
      rw [tk_atD (by omega), hv] at c0
      clear hv ha
      clear HC HA
      have b1 : decide ((0 : Int) ≤ (k : Int)) = true := by simp
      have b2 : decide ((k : Int) < 9) = true := by simp; omega
      have b3 : decide (k < 9) = true := by simpa using h9
      have b4 : (k : Int) < 9 := by omega
      go_enter Tryz.func67, Tryz.ntmps67
      go_wp2
      go_ret
      exact ⟨rfl, (Mod.refl _ w).alloc _⟩
    · have hV : V = false := by rw [← hv]; simp [List.getElem?_eq_none (show a.length ≤ k by omega)]
      subst hV
      clear hv ha HC
      clear HA
      have h9' : ¬ ((k : Int) < 9) := by omega
      go_enter Tryz.func67, Tryz.ntmps67
      go_wp2
      go_ret
      exact ⟨rfl, (Mod.refl _ w).alloc _⟩
  · rw [if_neg h0] at hv
    subst hv
    clear ha HC
    clear HA
    go_enter Tryz.func67, Tryz.ntmps67
    go_wp2
    go_ret
    exact ⟨rfl, (Mod.refl _ w).alloc _⟩

set_option maxRecDepth 20000 in
set_option maxHeartbeats 2000000 in
theorem twith_any (w : World) (a : List Bool) (n : Int) (ha : a.length = 9) :
    Calls Tryz.prog 48 #[.agg (tkA a), .int .i64 n] w fun e w' => e = .returned (.agg (tkA (withT a n))) ∧ Fresh w w' := by
  have HA := hid ha
  have hb0 : Hid (((w.alloc (.cells (tkA a) 110 (0, 0))).alloc (.cells (tkA zero9) 110 (0, 0))).heap[w.heap.size]? = some (.cells (tkA a) 110 (0, 0))) := heap_alloc2_old _ _ _
  have hb1 : Hid (((w.alloc (.cells (tkA a) 110 (0, 0))).alloc (.cells (tkA zero9) 110 (0, 0))).heap[w.heap.size + 1]? = some (.cells (tkA zero9) 110 (0, 0))) := heap_alloc2_new _ _ _
  by_cases h0 : 0 ≤ n ∧ n < 9
  · have HW : Hid (withT a n = a.set n.toNat true) := by unfold Hid withT; rw [if_pos h0]
    obtain ⟨h0, h9⟩ := h0
    obtain ⟨k, rfl⟩ : ∃ k : Nat, n = k := ⟨n.toNat, by omega⟩
    have h9' : k < 9 := by omega
    rw [HW.out, Int.toNat_natCast, ← tk_set a k true]
    have hsz : Hid ((Tryz.prog.info? 110).map (·.size) = some ((tkA a).setIfInBounds k (.bool true)).size) := by unfold Hid; rw [tk_set]; exact szTokOf (by simpa using ha)
    have hs9 : Hid (((tkA a).setIfInBounds k (.bool true)).size = 9) := by unfold Hid; rw [tk_set]; exact tk_size (by simpa using ha)
    have hs1 : Hid (((tkA a).setIfInBounds k (.bool true)).all (·.oneCell') = true) := by unfold Hid; rw [tk_set]; exact tk_one _
    have c0 : ((w.alloc (.cells (tkA a) 110 (0, 0))).alloc (.cells #[.bool false, .bool false, .bool false, .bool false, .bool false, .bool false, .bool false, .bool false, .bool false] 110 (0, 0))).cell? ⟨w.heap.size, k, none⟩ = some (.bool (a.getD k false)) := by
      rw [cellOf (heap_alloc2_old _ _ _) k, tk_atD (by omega)]
    have z0 : ((w.alloc (.cells (tkA a) 110 (0, 0))).alloc (.cells #[.bool false, .bool false, .bool false, .bool false, .bool false, .bool false, .bool false, .bool false, .bool false] 110 (0, 0))).frozen? ⟨w.heap.size, k, none⟩ = false := frozenOf (heap_alloc2_old _ _ _) k
    generalize a.getD k false = ak at c0
    clear ha
    go_enter Tryz.func48, Tryz.ntmps48
    go_wp2_with (first
      | (refine wpList_load_row rfl 110 _ rfl w.heap.size rfl _ _ _ _ (heap_alloc2_old _ _ _) Tryz.underlying110 rfl hsz.out ?_)
      | (refine wpList_store_row rfl 110 _ _ rfl (w.heap.size + 1) _ rfl rfl _ _ (heap_alloc2_new _ _ _) hsz.out (sameSize rfl hs9.out) hs1.out ?_))
    refine bodyPost_ret (results_cell_row rfl _ _ (w.heap.size + 1) 110 _ (0, 0) _ rfl (setRow_heap _ _ _ _ _ _ (heap_alloc2_new _ _ _)) Tryz.underlying110 rfl hsz.out) rfl ⟨rfl, ?_⟩
    exact (((Mod.refl _ w).alloc _).alloc _).setRow (by simp) _
  · have HW : Hid (withT a n = a) := by unfold Hid withT; rw [if_neg h0]
    rw [HW.out]
    by_cases h00 : 0 ≤ n
    · have h9 : 9 ≤ n := by omega
      clear h0
      have hsz : Hid ((Tryz.prog.info? 110).map (·.size) = some (tkA a).size) := szTokOf ha
      have hs9 : Hid ((tkA a).size = 9) := tk_size ha
      have hs1 : Hid ((tkA a).all (·.oneCell') = true) := tk_one _
      clear ha
      go_enter Tryz.func48, Tryz.ntmps48
      go_wp2_with (first
        | (refine wpList_load_row rfl 110 _ rfl w.heap.size rfl _ _ _ _ hb0.out Tryz.underlying110 rfl hsz.out ?_)
        | (refine wpList_store_row rfl 110 _ _ rfl (w.heap.size + 1) _ rfl rfl _ _ hb1.out hsz.out (sameSize rfl hs9.out) hs1.out ?_))
      refine bodyPost_ret (results_cell_row rfl _ _ (w.heap.size + 1) 110 _ (0, 0) _ rfl (setRow_heap _ _ _ _ _ _ hb1.out) Tryz.underlying110 rfl hsz.out) rfl ⟨rfl, ?_⟩
      exact (((Mod.refl _ w).alloc _).alloc _).setRow (by simp) _
    · clear h0
      have hsz : Hid ((Tryz.prog.info? 110).map (·.size) = some (tkA a).size) := szTokOf ha
      have hs9 : Hid ((tkA a).size = 9) := tk_size ha
      have hs1 : Hid ((tkA a).all (·.oneCell') = true) := tk_one _
      clear ha
      go_enter Tryz.func48, Tryz.ntmps48
      go_wp2_with (first
        | (refine wpList_load_row rfl 110 _ rfl w.heap.size rfl _ _ _ _ hb0.out Tryz.underlying110 rfl hsz.out ?_)
        | (refine wpList_store_row rfl 110 _ _ rfl (w.heap.size + 1) _ rfl rfl _ _ hb1.out hsz.out (sameSize rfl hs9.out) hs1.out ?_))
      refine bodyPost_ret (results_cell_row rfl _ _ (w.heap.size + 1) 110 _ (0, 0) _ rfl (setRow_heap _ _ _ _ _ _ hb1.out) Tryz.underlying110 rfl hsz.out) rfl ⟨rfl, ?_⟩
      exact (((Mod.refl _ w).alloc _).alloc _).setRow (by simp) _

theorem listL_len (a : List Bool) : ∀ k, (listL a k).length ≤ k
  | 0 => by simp [listL]
  | k + 1 => by unfold listL; have := listL_len a k; split <;> simp <;> omega

set_option maxRecDepth 20000 in
set_option maxHeartbeats 2000000 in
theorem tlist_any (w : World) (a : List Bool) (ha : a.length = 9) :
    Calls Tryz.prog 47 #[.agg (tkA a)] w fun e w' => ∃ v, e = .returned v ∧ Fresh w w' ∧ w'.ownsRow w.heap.size 3 1 v (listT a).length (nums (listT a)) := by
  obtain ⟨i0, hi0, hz0, hz1, hz2⟩ := infoI'
  have HA := hid ha
  clear ha
  go_enter Tryz.func47, Tryz.ntmps47
  go_wp2
  go_loopw [3, 4, 5] (fun x3 x4 x5 wr => ∃ (k : Nat), x5 = .int .i64 k ∧ k ≤ 9 ∧ Fresh w wr ∧ wr.ownsRow w.heap.size 3 1 x3 (listL a k).length (nums (listL a k)) ∧ wr.heap[w.heap.size]? = some (.cells (tkA a) 110 (0, 0)) ∧ (∀ g, x3.ownBlock = some g → w.heap.size + 1 ≤ g))
      (fun _ _ x _ => 10 - (intOf x).toNat)
  case atStart =>
    refine ⟨0, rfl, by omega, (Mod.refl _ w).alloc _, World.ownsRow_nil _ _ _ _, ?_, by simp [Value.ownBlock]⟩
    exact heap_alloc_at _ _
  case round =>
    obtain ⟨k, rfl, hk, hfr, hown, hb0, hob⟩ := hrel
    have HB0 := hid hb0
    have HO := hid hown
    have HOB := hid hob
    have hlk := listL_len a k
    have hzz : w.heap.size + 1 ≤ wr.heap.size := by have := heap_lt hb0; omega
    have HME := hid (meas (B := 10) k (by omega))
    clear hb0 hob
    by_cases hlt : k < 9
    · have hla : k < a.length := by rw [HA.out]; exact hlt
      have c0 : wr.cell? ⟨w.heap.size, k, none⟩ = some (.bool (a.getD k false)) := by rw [cellOf HB0.out, tk_atD hla]
      have HS : Hid (listL a (k + 1) = if a.getD k false then listL a k ++ [(k : Int)] else listL a k) := by unfold Hid; rw [listL]
      generalize a.getD k false = ak at c0 HS
      obtain ⟨a3, c3, hv3⟩ := own_form hown
      subst hv3
      clear hown hla
      cases ak
      · go_wp2
        go_roundw
        case rel =>
          refine ⟨k + 1, by go_num, by omega, hfr, ?_, HB0.out, HOB.out⟩
          rw [HS.out]; exact HO.out
        case measure => exact HME.out
      · go_wp2_with (first
          | (at_builtin; refine wpList_append_mine _ rfl _ _ 22 rfl w.heap.size 3 i0 _ 1 8 Tryz.underlying22 hi0 hz0 hz1 hz2 rfl (by decide) _ _ _ rfl (HO.out.alloc _) ⟨wr.heap.size, 0, none⟩ 1 1 [.int .i64 k] rfl rfl (new_cells rfl) (by intro u hu; simp at hu; subst hu; rfl) (by unfold maxLen; omega) (by omega) (by simp; omega) ?_))
        intro v' w2 hown2 hgrow hblk
        have fr2 : Fresh w w2 := Mod.grown (S := fun _ => False) (hfr.alloc _) hgrow (fun k hk hlt => by have := HOB.out k hk; omega)
        have hb2 : Hid (w2.heap[w.heap.size]? = some (.cells (tkA a) 110 (0, 0))) := by
          unfold Hid
          rw [hgrow.block w.heap.size (by simp; omega) (fun e => by have := HOB.out _ e.symm; omega)]
          exact heap_alloc_prev HB0.out
        have hbl : Hid (∀ g, v'.ownBlock = some g → w.heap.size + 1 ≤ g) := fun g hg => by
          rcases hblk g hg with h | h
          · exact HOB.out g h
          · first | omega | (simp at h; omega)
        have HO2 := hid hown2
        clear hown2 hgrow hblk
        go_wp2
        go_roundw
        case rel =>
          refine ⟨k + 1, by go_num, by omega, fr2, ?_, hb2.out, hbl.out⟩
          rw [HS.out]; simp only [if_true]; rw [List.length_append, List.length_singleton, show nums (listL a k ++ [(k : Int)]) = nums (listL a k) ++ [.int .i64 k] from by simp]
          exact HO2.out
        case measure => exact HME.out
    · have hk9 : k = 9 := by omega
      subst hk9
      clear hown
      go_wp2
      go_ret
      exact ⟨_, rfl, hfr, HO.out⟩
end Go.Proofs.YteneagnhihcljaaGreatDoor
