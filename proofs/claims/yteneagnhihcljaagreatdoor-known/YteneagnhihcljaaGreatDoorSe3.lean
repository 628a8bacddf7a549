import Derived.Test.YteneagnhihcljaaGreatDoorSh1
import Derived.ChangeKeysEq
import Derived.Deep.QuietTactic
import Derived.BigQuiet
namespace Go.Proofs.YteneagnhihcljaaGreatDoor
open Go.RowKit
set_option linter.unusedVariables false
set_option linter.unusedSimpArgs false

theorem isAggB (w : World) : (isAgg 4).run Tryz.prog w = .ok false w := by
  unfold isAgg; rw [Sem.run_bind, run_underlying Tryz.underlying4]; rfl
theorem isAggT (w : World) : (isAgg 110).run Tryz.prog w = .ok true w := by
  unfold isAgg; rw [Sem.run_bind, run_underlying Tryz.underlying110]; rfl
theorem cellsB : Tryz.prog.cellsOf 4 = 1 := by kernel_rfl
theorem sizeOfTk (w : World) : (sizeOf 110).run Tryz.prog w = .ok 9 w := by
  have h := szTks
  cases hq : Tryz.prog.info? 110 with
  | none => simp [hq] at h
  | some i => simp [hq] at h; simp [sizeOf, typeInfo, hq, h]
theorem partB (xs : Array Value) (i : Nat) (v : Value) (h : xs[i]? = some v) (w : World) : (part 4 xs i).run Tryz.prog w = .ok v w := by
  simp [part, isAggB, h]
theorem eqItems9 (d : Nat) (a b : List Bool) (ha : a.length = 9) (hb : b.length = 9) (w : World) : ∀ is : List Nat, (∀ i ∈ is, i < 9) →
    (Op.eqItems (d + 1) 4 1 (tkA a) (tkA b) is).run Tryz.prog w = .ok (is.all fun i => a.getD i false == b.getD i false) w
  | [], _ => by simp [Op.eqItems]
  | i :: is, h => by
    have h1 := h i (by simp)
    have ih := eqItems9 d a b ha hb w is (fun j hj => h j (by simp [hj]))
    simp only [Op.eqItems, Sem.run_bind, Nat.mul_one, partB _ _ _ (tk_atD (show i < a.length by omega)), partB _ _ _ (tk_atD (show i < b.length by omega)), Result.andThen_ok, run_equalIn_bool w d 4 _ _ Tryz.underlying4]
    cases hq : (a.getD i false == b.getD i false)
    · simp only [Bool.not_false, if_true, Sem.run_pure, List.all_cons, hq, Bool.false_and]
    · simp only [Bool.not_true, Bool.false_eq_true, if_false, ih, List.all_cons, hq, Bool.true_and]
theorem all9 {a b : List Bool} (ha : a.length = 9) (hb : b.length = 9) : ((List.range 9).all fun i => a.getD i false == b.getD i false) = (a == b) := by
  obtain ⟨a0, a1, a2, a3, a4, a5, a6, a7, a8, rfl⟩ := nine ha
  obtain ⟨b0, b1, b2, b3, b4, b5, b6, b7, b8, rfl⟩ := nine hb
  rfl
theorem eqTok (d : Nat) (a b : List Bool) (ha : a.length = 9) (hb : b.length = 9) (w : World) : (Op.equalIn (d + 2) 110 (.agg (tkA a)) (.agg (tkA b))).run Tryz.prog w = .ok (a == b) w := by
  have h := szTks
  obtain ⟨i, hi⟩ : ∃ i, Tryz.prog.info? 4 = some i := by
    cases hq : Tryz.prog.info? 4 with
    | none => have : (Tryz.prog.info? 4).isSome = true := by kernel_rfl
              rw [hq] at this; cases this
    | some i => exact ⟨i, rfl⟩
  rw [run_equalIn_array w (d + 1) _ _ Tryz.underlying110 hi, cellsB, eqItems9 d a b ha hb w _ (fun i hi => by simpa using hi), all9 ha hb]

structure Hd where
  nul : Bool
  rch : Bool
  fru : Bool
  fi : List Bool
  fo : List Bool
structure Hd.ok (h : Hd) : Prop where
  fi : h.fi.length = 9
  fo : h.fo.length = 9
def Hd.cells (h : Hd) : List Value := .bool h.nul :: .bool h.rch :: .bool h.fru :: (bls h.fi ++ bls h.fo)
def hdA (h : Hd) : Array Value := h.cells.toArray
def zeroHd : Hd := ⟨false, false, false, zero9, zero9⟩
def hdEq (a b : Hd) : Bool := a.nul == b.nul && (a.rch == b.rch && (a.fru == b.fru && (a.fi == b.fi && a.fo == b.fo)))
theorem hdEq_iff {a b : Hd} : hdEq a b = true ↔ a = b := by
  obtain ⟨a1, a2, a3, a4, a5⟩ := a
  obtain ⟨b1, b2, b3, b4, b5⟩ := b
  simp [hdEq]
theorem Hd.cells_len {h : Hd} (k : h.ok) : h.cells.length = 21 := by simp [Hd.cells, bls, k.fi, k.fo]
theorem hd_size {h : Hd} (k : h.ok) : (hdA h).size = 21 := by simp [hdA, Hd.cells_len k]
theorem szHd : (Tryz.prog.info? 139).map (·.size) = some 21 := by kernel_rfl
theorem szHdOf {h : Hd} (k : h.ok) : (Tryz.prog.info? 139).map (·.size) = some (hdA h).size := by rw [hd_size k]; exact szHd
theorem szHdL {h : Hd} (k : h.ok) : (Tryz.prog.info? 139).map (·.size) = some h.cells.length := by rw [Hd.cells_len k]; exact szHd
theorem hd_one (h : Hd) : (hdA h).all (·.oneCell') = true := by
  unfold hdA
  apply all_oneCell_toArray
  intro v hv; simp [Hd.cells, bls] at hv
  rcases hv with rfl | rfl | rfl | (⟨_, rfl⟩ | ⟨_, rfl⟩) | (⟨_, rfl⟩ | ⟨_, rfl⟩) <;> rfl
theorem hd_at0 (h : Hd) : (hdA h)[0]? = some (.bool h.nul) := by simp [hdA, Hd.cells]
theorem hd_at1 (h : Hd) : (hdA h)[1]? = some (.bool h.rch) := by simp [hdA, Hd.cells]
theorem hd_at2 (h : Hd) : (hdA h)[2]? = some (.bool h.fru) := by simp [hdA, Hd.cells]
theorem hd_fi {h : Hd} (k : h.ok) : (hdA h).extract 3 12 = tkA h.fi := by
  obtain ⟨n, r, f, fi, fo⟩ := h
  obtain ⟨a0, a1, a2, a3, a4, a5, a6, a7, a8, e⟩ := nine k.fi
  obtain ⟨b0, b1, b2, b3, b4, b5, b6, b7, b8, e2⟩ := nine k.fo
  dsimp only at e e2
  subst e; subst e2
  rfl
theorem hd_fo {h : Hd} (k : h.ok) : (hdA h).extract 12 21 = tkA h.fo := by
  obtain ⟨n, r, f, fi, fo⟩ := h
  obtain ⟨a0, a1, a2, a3, a4, a5, a6, a7, a8, e⟩ := nine k.fi
  obtain ⟨b0, b1, b2, b3, b4, b5, b6, b7, b8, e2⟩ := nine k.fo
  dsimp only at e e2
  subst e; subst e2
  rfl
theorem partT (h : Hd) (o : Nat) (l : List Bool) (k : h.ok) (hx : (hdA h).extract o (o + 9) = tkA l) (ho : o + 9 ≤ 21) (w : World) : (part 110 (hdA h) o).run Tryz.prog w = .ok (.agg (tkA l)) w := by
  simp [part, isAggT, sizeOfTk, hx, hd_size k, ho]
theorem stood154 : Tryz.prog.stoodInHeld 139 = false := by kernel_rfl
theorem guardHd : Tryz.prog.eqGuardType Tryz.prog.depth 139 = false := by kernel_rfl
theorem eqHd (d : Nat) (a b : Hd) (ha : a.ok) (hb : b.ok) (w : World) : (Op.equalIn (d + 4) 139 (.agg (hdA a)) (.agg (hdA b))).run Tryz.prog w = .ok (hdEq a b) w := by
  rw [run_equalIn_struct w (d + 3) _ _ _ (by kernel_rfl) stood154]
  have hf : ((Tryz.prog.fieldsOf 139).toList.map fun f => (f.name, f.type, f.offset)) = [("nullable", 4, 0), ("reached", 4, 1), ("fruitful", 4, 2), ("first", 110, 3), ("follow", 110, 12)] := by kernel_rfl
  generalize (Tryz.prog.fieldsOf 139).toList = fs at hf
  rcases fs with _ | ⟨f0, _ | ⟨f1, _ | ⟨f2, _ | ⟨f3, _ | ⟨f4, _ | ⟨f5, fs⟩⟩⟩⟩⟩⟩ <;> simp at hf
  obtain ⟨⟨n0, t0, o0⟩, ⟨n1, t1, o1⟩, ⟨n2, t2, o2⟩, ⟨n3, t3, o3⟩, ⟨n4, t4, o4⟩⟩ := hf
  simp only [Op.eqFields, n0, t0, o0, n1, t1, o1, n2, t2, o2, n3, t3, o3, n4, t4, o4]
  simp only [Sem.run_bind, Sem.run_ite, partB _ _ _ (hd_at0 a), partB _ _ _ (hd_at0 b), partB _ _ _ (hd_at1 a), partB _ _ _ (hd_at1 b), partB _ _ _ (hd_at2 a), partB _ _ _ (hd_at2 b),
    partT a 3 _ ha (hd_fi ha) (by omega), partT b 3 _ hb (hd_fi hb) (by omega), partT a 12 _ ha (hd_fo ha) (by omega), partT b 12 _ hb (hd_fo hb) (by omega), Result.andThen_ok,
    run_equalIn_bool w (d + 2) 4 _ _ Tryz.underlying4, eqTok (d + 1) a.fi b.fi ha.fi hb.fi, eqTok (d + 1) a.fo b.fo ha.fo hb.fo, Sem.run_pure]
  unfold hdEq
  cases a.nul == b.nul <;> cases a.rch == b.rch <;> cases a.fru == b.fru <;> cases a.fi == b.fi <;> cases a.fo == b.fo <;> simp
end Go.Proofs.YteneagnhihcljaaGreatDoor
namespace Go.Proofs.YteneagnhihcljaaGreatDoor
open Go.RowKit
set_option linter.unusedVariables false
set_option linter.unusedSimpArgs false

structure Sy where
  isH : Bool
  num : Int
def Sy.cells (s : Sy) : List Value := [.bool s.isH, .int .i64 s.num]
structure Pr where
  head : Int
  syms : List Sy
structure PV where
  pr : Pr
  vs : Value
def PV.cells (p : PV) : List Value := [.int .i64 p.pr.head, p.vs]

/-- v is these symbols, in blocks below B. -/
def SymAt (w : World) (B : Nat) (v : Value) (l : List Sy) : Prop :=
  ∃ ao cap, v = .slice ao l.length cap ∧ l.length ≤ cap ∧ cap ≤ maxLen ∧ ∀ i (h : i < l.length), ∃ g o, ao = some ⟨g, o, none⟩ ∧ g < B ∧ w.rangeAt g (o + i * 2) (l[i]).cells
theorem rangeAt_block {w w' : World} {g o : Nat} {cs : List Value} (h : w.rangeAt g o cs) (hb : w'.heap[g]? = w.heap[g]?) : w'.rangeAt g o cs := fun j v hj => by
  have := h j v hj
  simpa [World.cell?, hb] using this
theorem SymAt.kept {S : Nat → Prop} {w w' : World} {B : Nat} {v : Value} {l : List Sy} (h : SymAt w B v l) (hB : B ≤ w.heap.size) (hm : Mod S w w') (hs : ∀ k, k < B → ¬ S k) : SymAt w' B v l := by
  obtain ⟨ao, cap, h1, h2, h3, h4⟩ := h
  refine ⟨ao, cap, h1, h2, h3, fun i hi => ?_⟩
  obtain ⟨g, o, h5, h6, h7⟩ := h4 i hi
  exact ⟨g, o, h5, h6, rangeAt_block h7 (hm.block g (by omega) (hs g h6))⟩
structure PrsAt (w : World) (B : Nat) (v : Value) (ps : List PV) : Prop where
  row : RowAt PV.cells 2 73 w v ps
  lt : ∀ g, v.ownBlock = some g → g < B
  syms : ∀ p ∈ ps, SymAt w B p.vs p.pr.syms
theorem PrsAt.kept {S : Nat → Prop} {w w' : World} {B : Nat} {v : Value} {l : List PV} (h : PrsAt w B v l) (hB : B ≤ w.heap.size) (hm : Mod S w w') (hs : ∀ k, k < B → ¬ S k) : PrsAt w' B v l :=
  ⟨h.row.kept hm (fun b hb => hs b (h.lt b hb)), h.lt, fun p hp => (h.syms p hp).kept hB hm hs⟩

structure FA (w : World) (b : Nat) (R H : Int) (vp vh : Value) (ps : List PV) (hs : List Hd) : Prop where
  blk : w.heap[b]? = some (.cells #[.int .i64 R, .int .i64 H, vp, vh] 118 (0, 0))
  prs : PrsAt w b vp ps
  own : w.ownsRow (b + 1) 139 21 vh hs.length (flatC Hd.cells hs)
  ok : ∀ h ∈ hs, h.ok
variable {w w' : World} {b : Nat} {R H : Int} {vp vh : Value} {ps : List PV} {hs : List Hd}
theorem FA.fresh (h : FA w b R H vp vh ps hs) (hm : Fresh w w') : FA w' b R H vp vh ps hs :=
  ⟨hm.at h.blk (fun x => x), h.prs.kept (Nat.le_of_lt (heap_lt h.blk)) hm (fun _ _ x => x), ownsRow_other h.own (fun g hg => hm.block g (h.own.lt g hg).2 (fun x => x)), h.ok⟩
theorem FA.cell (h : FA w b R H vp vh ps hs) (o : Nat) : w.cell? ⟨b, o, none⟩ = #[.int .i64 R, .int .i64 H, vp, vh][o]? := cellOf h.blk o
theorem FA.row (h : FA w b R H vp vh ps hs) : RowAt Hd.cells 21 139 w vh hs := ⟨ownsRow_base h.own (Nat.zero_le _), fun x hx => Hd.cells_len (h.ok x hx)⟩

def getH (hs : List Hd) (n : Int) : Hd := if 0 ≤ n then (hs[n.toNat]?).getD zeroHd else zeroHd
theorem zeroHd_ok : zeroHd.ok := ⟨rfl, rfl⟩
theorem getH_ok {hs : List Hd} (h : ∀ x ∈ hs, x.ok) (n : Int) : (getH hs n).ok := by
  unfold getH
  split
  · cases hq : hs[n.toNat]? with
    | none => exact zeroHd_ok
    | some x => exact h x (List.mem_of_getElem? hq)
  · exact zeroHd_ok
def putF (hs : List Hd) (n : Int) (h : Hd) : List Hd := if 0 ≤ n then hs.set n.toNat h else hs
def putB (hs : List Hd) (n : Int) (h : Hd) : Bool := if 0 ≤ n then (match hs[n.toNat]? with | some x => !hdEq x h | none => false) else false

set_option maxRecDepth 20000 in
set_option maxHeartbeats 2000000 in
theorem get_any (w : World) (b : Nat) (R H : Int) (vp vh : Value) (ps : List PV) (hs : List Hd) (n : Int) (h : FA w b R H vp vh ps hs) :
    Calls Tryz.prog 66 #[bptr b, .int .i64 n] w fun e w' => e = .returned (.agg (hdA (getH hs n))) ∧ Fresh w w' := by
  have k3 := h.cell 3
  simp at k3
  have HF := hid h
  have zb : Hid ((w.alloc (.cells (hdA zeroHd) 139 (0, 0))).heap[w.heap.size]? = some (.cells (hdA zeroHd) 139 (0, 0))) := heap_alloc_at _ _
  have hb := heap_lt h.blk
  have k3' : (w.alloc (.cells #[.bool false, .bool false, .bool false, .bool false, .bool false, .bool false, .bool false, .bool false, .bool false, .bool false, .bool false, .bool false, .bool false, .bool false, .bool false, .bool false, .bool false, .bool false, .bool false, .bool false, .bool false] 139 (0, 0))).cell? ⟨b, 3, none⟩ = some vh := by
    rw [cellOf (heap_alloc_prev h.blk) 3]; rfl
  obtain ⟨ao, cap, hv⟩ := own_form h.own
  subst hv
  by_cases h0 : 0 ≤ n
  · obtain ⟨k, rfl⟩ : ∃ k : Nat, n = k := ⟨n.toNat, by omega⟩
    by_cases hk : k < hs.length
    · have e1 : Hid (getH hs k = hs[k]) := by unfold Hid getH; rw [if_pos h0]; simp [hk]
      obtain ⟨g, cap', hv'⟩ := Joins.ownsRow_form h.own (by omega)
      rw [Value.slice.injEq] at hv'
      obtain ⟨rfl, _, rfl⟩ := hv'
      have RG := hid ((h.fresh ((Mod.refl _ w).alloc (.cells (hdA zeroHd) 139 (0, 0)))).row.range k hk)
      have HOK := hid (h.ok hs[k] (by simp))
      rw [e1.out]
      have b1 : decide ((k : Int) < 0) = false := by simp
      have b2 : decide ((hs.length : Int) ≤ (k : Int)) = false := by simp; omega
      have b3 : decide (hs.length ≤ k) = false := by simp; omega
      have b4 : (k : Int) < (hs.length : Int) := by omega
      clear h e1
      go_enter Tryz.func66, Tryz.ntmps66
      go_wp2_with (first
        | (refine wpList_load_mid rfl 139 _ rfl g (k * 21) rfl hs[k].cells _ RG.out Tryz.underlying139 rfl (szHdL HOK.out) ?_)
        | (refine wpList_store_row rfl 139 _ _ rfl w.heap.size (hdA hs[k]) rfl rfl _ _ zb.out (szHdOf HOK.out) (sameSize rfl (hd_size HOK.out)) (hd_one _) ?_))
      refine bodyPost_ret (results_cell_row rfl _ _ w.heap.size 139 _ (0, 0) _ rfl (setRow_heap _ _ _ _ _ _ zb.out) Tryz.underlying139 rfl (szHdOf HOK.out)) rfl ⟨rfl, ?_⟩
      exact ((Mod.refl _ w).alloc _).setRow (by simp) _
    · have e1 : getH hs k = zeroHd := by unfold getH; rw [if_pos h0]; simp [hk]
      rw [e1]
      have b1 : decide ((k : Int) < 0) = false := by simp
      have b2 : decide ((hs.length : Int) ≤ (k : Int)) = true := by simp; omega
      have b3 : decide (hs.length ≤ k) = true := by simp; omega
      have b4 : ¬ (k : Int) < (hs.length : Int) := by omega
      clear h e1
      go_enter Tryz.func66, Tryz.ntmps66
      go_wp2_with (first
        | (refine wpList_store_row rfl 139 _ _ rfl w.heap.size (hdA zeroHd) rfl rfl _ _ zb.out (szHdOf zeroHd_ok) rfl (hd_one _) ?_))
      refine bodyPost_ret (results_cell_row rfl _ _ w.heap.size 139 _ (0, 0) _ rfl (setRow_heap _ _ _ _ _ _ zb.out) Tryz.underlying139 rfl (szHdOf zeroHd_ok)) rfl ⟨rfl, ?_⟩
      exact ((Mod.refl _ w).alloc _).setRow (by simp) _
  · have e1 : getH hs n = zeroHd := by unfold getH; rw [if_neg h0]
    rw [e1]
    have b1 : decide (n < 0) = true := by simp; omega
    clear h e1
    go_enter Tryz.func66, Tryz.ntmps66
    go_wp2_with (first
      | (refine wpList_store_row rfl 139 _ _ rfl w.heap.size (hdA zeroHd) rfl rfl _ _ zb.out (szHdOf zeroHd_ok) rfl (hd_one _) ?_))
    refine bodyPost_ret (results_cell_row rfl _ _ w.heap.size 139 _ (0, 0) _ rfl (setRow_heap _ _ _ _ _ _ zb.out) Tryz.underlying139 rfl (szHdOf zeroHd_ok)) rfl ⟨rfl, ?_⟩
    exact ((Mod.refl _ w).alloc _).setRow (by simp) _
end Go.Proofs.YteneagnhihcljaaGreatDoor
namespace Go.Proofs.YteneagnhihcljaaGreatDoor
open Go.RowKit
set_option linter.unusedVariables false
set_option linter.unusedSimpArgs false

def ldH (v : Value) : Sem Value := Instr.loadAt 139 v
theorem ldH_rule (v : Value) : Instr.loadAt 139 v = ldH v := rfl
def stH (p v : Value) : Sem Unit := Instr.storeAt 139 p v
theorem stH_rule (p v : Value) : Instr.storeAt 139 p v = stH p v := rfl

def setArr : Array Value → Nat → List Value → Array Value
  | cur, _, [] => cur
  | cur, o, v :: vs => setArr (cur.setIfInBounds o v) (o + 1) vs
theorem setArr_size : ∀ (vs : List Value) (cur : Array Value) (o : Nat), (setArr cur o vs).size = cur.size
  | [], _, _ => rfl
  | v :: vs, cur, o => by rw [setArr, setArr_size vs]; simp
theorem setArr_at : ∀ (vs : List Value) (cur : Array Value) (o j : Nat), o + vs.length ≤ cur.size → (setArr cur o vs)[j]? = if o ≤ j ∧ j < o + vs.length then vs[j - o]? else cur[j]?
  | [], cur, o, j, h => by rw [setArr, if_neg (by simp only [List.length_nil]; omega)]
  | v :: vs, cur, o, j, h => by
    simp only [List.length_cons] at h
    rw [setArr, setArr_at vs _ _ _ (by simp; omega)]
    by_cases h1 : o + 1 ≤ j ∧ j < o + 1 + vs.length
    · rw [if_pos h1, if_pos (by simp; omega)]
      have : j - o = (j - (o + 1)) + 1 := by omega
      rw [this]; simp
    · rw [if_neg h1, Array.getElem?_setIfInBounds]
      by_cases h2 : o = j
      · subst h2; rw [if_pos rfl, if_pos (by omega), if_pos (by simp)]; simp
      · rw [if_neg h2, if_neg (by simp; omega)]
theorem heap_setCells_same : ∀ (vs : List Value) (w : World) (g o : Nat) (c : Array Value) (e : TypeId) (f : Nat × Nat), w.heap[g]? = some (.cells c e f) → (w.setCells g o vs).heap[g]? = some (.cells (setArr c o vs) e f)
  | [], _, _, _, _, _, _, h => h
  | v :: vs, w, g, o, c, e, f, h => by
    rw [World.setCells, setArr]
    exact heap_setCells_same vs _ g (o + 1) _ e f (heap_setCell_same h o v)
theorem Mod.setCells {S : Nat → Prop} {a : World} {g : Nat} (hp : g < a.heap.size → S g) : ∀ (vs : List Value) (w : World) (o : Nat), Mod S a w → Mod S a (w.setCells g o vs)
  | [], _, _, h => h
  | v :: vs, w, o, h => Mod.setCells hp vs _ (o + 1) (h.setCell (p := ⟨g, o, none⟩) hp v)

theorem flat_set {hs : List Hd} {h : Hd} {k : Nat} (hok : ∀ x ∈ hs, x.ok) (hh : h.ok) (hk : k < hs.length) (j : Nat) :
    (flatC Hd.cells (hs.set k h))[j]? = if k * 21 ≤ j ∧ j < k * 21 + 21 then h.cells[j - k * 21]? else (flatC Hd.cells hs)[j]? := by
  have hw : ∀ x ∈ hs, x.cells.length = 21 := fun x hx => Hd.cells_len (hok x hx)
  have hw2 : ∀ x ∈ hs.set k h, x.cells.length = 21 := fun x hx => by
    rcases List.mem_or_eq_of_mem_set hx with h1 | h1
    · exact hw x h1
    · rw [h1]; exact Hd.cells_len hh
  have l1 := flat_len Hd.cells 21 hw
  have l2 := flat_len Hd.cells 21 hw2
  rw [List.length_set] at l2
  by_cases hj : j < hs.length * 21
  · have hq : j / 21 < hs.length := by omega
    have hr : j % 21 < 21 := Nat.mod_lt _ (by omega)
    have e : j = j / 21 * 21 + j % 21 := by omega
    have a1 := flat_at Hd.cells 21 hw (j / 21) (j % 21) hq hr
    have a2 := flat_at Hd.cells 21 hw2 (j / 21) (j % 21) (by simpa using hq) hr
    rw [← e] at a1 a2
    rw [a1, a2, List.getElem_set]
    by_cases hk2 : k = j / 21
    · rw [if_pos hk2, if_pos (by omega)]
      congr 1; omega
    · rw [if_neg hk2, if_neg (by omega)]
  · rw [List.getElem?_eq_none (by omega), if_neg (by omega), List.getElem?_eq_none (by omega)]

variable {w w' : World} {b : Nat} {R H : Int} {vp vh : Value} {ps : List PV} {hs : List Hd}
theorem FA.put (h : FA w b R H vp vh ps hs) {g n cap : Nat} (hv : vh = .slice (some ⟨g, 0, none⟩) n cap) {k : Nat} (hk : k < hs.length) {x : Hd} (hx : x.ok) :
    FA (w.setCells g (k * 21) x.cells) b R H vp vh ps (hs.set k x) ∧ Mod (fun k => vh.ownBlock = some k) w (w.setCells g (k * 21) x.cells) := by
  have hm : Mod (fun k => vh.ownBlock = some k) w (w.setCells g (k * 21) x.cells) := Mod.setCells (fun _ => by rw [hv]; rfl) _ w _ (Mod.refl _ _)
  have hlt := (h.own.lt g (by rw [hv]; rfl))
  refine ⟨⟨?_, ?_, ?_, ?_⟩, hm⟩
  · refine hm.at h.blk ?_
    rw [hv]; simp [Value.ownBlock]; omega
  · refine h.prs.kept (Nat.le_of_lt (heap_lt h.blk)) hm ?_
    intro k hk; rw [hv]; simp [Value.ownBlock]; omega
  · obtain ⟨h1, h2⟩ := h.own
    rcases h2 with ⟨h2, _⟩ | ⟨g', cap', cur, e1, e2, e3, e4, e5, e6, e7⟩
    · rw [hv] at h2; cases h2
    · have e1' := hv.symm.trans e1
      rw [Value.slice.injEq] at e1'
      obtain ⟨eg, rfl, rfl⟩ := e1'
      have eg' : g = g' := by simpa using eg
      subst eg'
      have hw2 : ∀ y ∈ hs.set k x, y.cells.length = 21 := fun y hy => by
        rcases List.mem_or_eq_of_mem_set hy with h1 | h1
        · exact Hd.cells_len (h.ok y h1)
        · rw [h1]; exact Hd.cells_len hx
      have l2 := flat_len Hd.cells 21 hw2
      have hxl := Hd.cells_len hx
      rw [List.length_set] at l2 ⊢
      refine ⟨l2, .inr ⟨g, cap, setArr cur (k * 21) x.cells, e1, e2, heap_setCells_same _ _ _ _ _ _ _ e3, e4, e5, by rw [setArr_size]; exact e6, ?_⟩⟩
      apply List.ext_getElem?
      intro j
      rw [flat_set h.ok hx hk, ← e7]
      have hmul : hs.length * 21 ≤ cap * 21 := Nat.mul_le_mul_right _ e4
      by_cases hj : j < hs.length * 21
      · rw [List.getElem?_take_of_lt hj, List.getElem?_take_of_lt hj, Array.getElem?_toList, Array.getElem?_toList, setArr_at _ _ _ _ (by omega), hxl]
        simp
      · rw [List.getElem?_eq_none (by simp; omega), if_neg (by omega), List.getElem?_eq_none (by simp; omega)]
  · intro y hy
    rcases List.mem_or_eq_of_mem_set hy with h1 | h1
    · exact h.ok y h1
    · rw [h1]; exact hx
theorem FA.there (h : FA w b R H vp vh ps hs) {g n cap : Nat} (hv : vh = .slice (some ⟨g, 0, none⟩) n cap) {k : Nat} (hk : k < hs.length) : w.there g (k * 21) 21 := by
  intro j hj
  have hr := h.row
  subst hv
  have hc := hr.cell k j hk hj
  have hlen := Hd.cells_len (h.ok hs[k] (by simp))
  refine ⟨by rw [hc]; simp [hlen, hj], ?_⟩
  obtain ⟨_, h2⟩ := h.own
  rcases h2 with ⟨h2, _⟩ | ⟨g', cap', cur, e1, e2, e3, _⟩
  · cases h2
  · rw [Value.slice.injEq] at e1
    obtain ⟨eg, _, _⟩ := e1
    have eg' : g = g' := by simpa using eg
    subst eg'
    exact frozenOf e3 _

theorem ldH_mid {w : World} {g o : Nat} {h : Hd} (k : h.ok) (hr : w.rangeAt g o h.cells) : (ldH (.pointer (some ⟨g, o, none⟩))).run Tryz.prog w = .ok (.agg (hdA h)) w :=
  run_loadAt_mid w g o _ _ _ hr Tryz.underlying139 rfl (szHdL k)
theorem rangeAt_new (w : World) (h : Hd) (t : TypeId) : (w.alloc (.cells (hdA h) t (0, 0))).rangeAt w.heap.size 0 h.cells := fun j v hj => by
  rw [cellOf (heap_alloc_at _ _), Nat.zero_add]; simpa [hdA] using hj

theorem fdrewN' (w : World) (n : Nat) : Fresh w (w.drewN n) := ⟨rfl, rfl, rfl, Nat.le_refl _, fun _ _ _ => rfl⟩

attribute [local go_sem ↓] ldH_rule stH_rule
set_option maxRecDepth 20000 in
set_option maxHeartbeats 2000000 in
theorem put_in (w : World) (b : Nat) (R H : Int) (vp vh : Value) (ps : List PV) (hs : List Hd) (k : Nat) (x : Hd) (hx : x.ok) (h : FA w b R H vp vh ps hs) (hk : k < hs.length) :
    Calls Tryz.prog 87 #[bptr b, .int .i64 k, .agg (hdA x)] w fun e w' => e = .returned (.bool (!hdEq hs[k] x)) ∧ FA w' b R H vp vh ps (hs.set k x) ∧ Mod (fun k => vh.ownBlock = some k) w w' := by
  have hb := heap_lt h.blk
  obtain ⟨g, cap, hv⟩ := Joins.ownsRow_form h.own (by omega)
  have k3 := h.cell 3
  simp at k3
  have hF1 := h.fresh ((Mod.refl _ w).alloc (.cells (hdA x) 139 (0, 0)))
  subst hv
  have k3' : (w.alloc (.cells (hdA x) 139 (0, 0))).cell? ⟨b, 3, none⟩ = some (.slice (some ⟨g, 0, none⟩) hs.length cap) := by
    rw [cellOf hF1.blk 3]; rfl
  have l1 : ∀ n, (ldH (.pointer (some ⟨g, k * 21, none⟩))).run Tryz.prog ((w.alloc (.cells (hdA x) 139 (0, 0))).drewN n) = .ok (.agg (hdA hs[k])) ((w.alloc (.cells (hdA x) 139 (0, 0))).drewN n) := fun n =>
    ldH_mid (h.ok hs[k] (by simp)) (rangeAt_block (hF1.row.range k hk) rfl)
  have l2 : ∀ n, (ldH (.pointer (some ⟨w.heap.size, 0, none⟩))).run Tryz.prog ((w.alloc (.cells (hdA x) 139 (0, 0))).drewN n) = .ok (.agg (hdA x)) ((w.alloc (.cells (hdA x) 139 (0, 0))).drewN n) := fun n =>
    ldH_mid hx (rangeAt_block (rangeAt_new w x _) rfl)
  have q1 : ∀ w, (Op.equalIn 10000 139 (.agg (hdA hs[k])) (.agg (hdA x))).run Tryz.prog w = .ok (hdEq hs[k] x) w := fun w => eqHd 9996 hs[k] x (h.ok hs[k] (by simp)) hx w
  have g1 := guardHd
  have b1 : decide ((k : Int) < 0) = false := by simp
  have b2 : decide ((hs.length : Int) ≤ (k : Int)) = false := by simp; omega
  have b3 : decide (hs.length ≤ k) = false := by simp; omega
  have b4 : (k : Int) < (hs.length : Int) := by omega
  have HF := hid h
  have HF1 := hid hF1
  have HX := hid hx
  have HID : Hid (hdEq hs[k] x = true → hs[k] = x) := hid hdEq_iff.1
  clear h hF1 hx
  generalize hdEq hs[k] x = qq at q1 HID
  go_enter Tryz.func87, Tryz.ntmps87
  go_wp2_with fail
  go_quiet (fail)
  cases qq
  · generalize hW : World.drewN _ _ = W
    have hfr : Fresh w W := by rw [← hW]; exact (Mod.refl _ w).alloc _ |>.trans (fdrewN' _ _)
    have hF2 : FA W b R H vp (.slice (some ⟨g, 0, none⟩) hs.length cap) ps hs := by rw [← hW]; exact HF1.out.fresh (fdrewN' _ _)
    have k4 := hF2.cell 3
    simp at k4
    have l3 : (ldH (.pointer (some ⟨w.heap.size, 0, none⟩))).run Tryz.prog W.drew = .ok (.agg (hdA x)) W.drew := by
      refine ldH_mid HX.out ?_
      rw [← hW]; exact rangeAt_block (rangeAt_new w x _) rfl
    have s1 : (stH (.pointer (some ⟨g, k * 21, none⟩)) (.agg (hdA x))).run Tryz.prog W.drew = .ok () (W.drew.setCells g (k * 21) x.cells) :=
      run_storeAt_mid W.drew g (k * 21) _ _ (by rw [hd_size HX.out]; exact (hF2.fresh (Mod.drew (Mod.refl _ W))).there rfl hk) (szHdOf HX.out) (hd_one x)
    have HF2 := hid ((hF2.fresh (Mod.drew (Mod.refl _ W))).put rfl hk HX.out)
    have HFR := hid hfr
    clear hF2 hfr l1 l2 k3 k3' hW
    go_wp2
    go_region
    all_goals
      go_wp2
      go_ret
      refine ⟨rfl, HF2.out.1, ?_⟩
      exact Mod.trans (HFR.out.mono (fun _ _ x => x.elim)) (Mod.trans (Mod.drew (Mod.refl _ W)) HF2.out.2)
  · go_wp2
    go_ret
    refine ⟨rfl, ?_, ?_⟩
    · have e := HID.out trivial
      have e2 : hs.set k x = hs := by rw [← e, List.set_getElem_self]
      rw [e2]
      exact HF1.out.fresh (fdrewN' _ _)
    · exact ((Mod.refl _ w).alloc _).trans (Mod.mono (fdrewN' _ _) (fun _ _ x => x.elim))

set_option maxRecDepth 20000 in
set_option maxHeartbeats 2000000 in
theorem put_out (w : World) (b : Nat) (R H : Int) (vp vh : Value) (ps : List PV) (hs : List Hd) (n : Int) (x : Hd) (h : FA w b R H vp vh ps hs) (hn : n < 0 ∨ (hs.length : Int) ≤ n) :
    Calls Tryz.prog 87 #[bptr b, .int .i64 n, .agg (hdA x)] w fun e w' => e = .returned (.bool false) ∧ FA w' b R H vp vh ps hs ∧ Mod (fun k => vh.ownBlock = some k) w w' := by
  have hb := heap_lt h.blk
  have hF1 := h.fresh ((Mod.refl _ w).alloc (.cells (hdA x) 139 (0, 0)))
  obtain ⟨ao, cap, hv⟩ := own_form h.own
  subst hv
  have k3 := h.cell 3
  simp at k3
  have k3' : (w.alloc (.cells (hdA x) 139 (0, 0))).cell? ⟨b, 3, none⟩ = some (.slice ao hs.length cap) := by
    rw [cellOf hF1.blk 3]; rfl
  have HF1 := hid hF1
  clear h hF1
  by_cases h0 : n < 0
  · have b1 : decide (n < 0) = true := by simpa using h0
    clear hn
    go_enter Tryz.func87, Tryz.ntmps87
    go_wp2_with fail
    go_quiet (fail)
    go_wp2
    go_ret
    exact ⟨rfl, HF1.out.fresh (fdrewN' _ _), ((Mod.refl _ w).alloc _).trans (Mod.mono (fdrewN' _ _) (fun _ _ x => x.elim))⟩
  · have h1 : (hs.length : Int) ≤ n := by omega
    have b1 : decide (n < 0) = false := by simp; omega
    have b2 : decide ((hs.length : Int) ≤ n) = true := by simpa using h1
    clear hn
    go_enter Tryz.func87, Tryz.ntmps87
    go_wp2_with fail
    go_quiet (fail)
    go_wp2
    go_ret
    exact ⟨rfl, HF1.out.fresh (fdrewN' _ _), ((Mod.refl _ w).alloc _).trans (Mod.mono (fdrewN' _ _) (fun _ _ x => x.elim))⟩

theorem put_any (w : World) (b : Nat) (R H : Int) (vp vh : Value) (ps : List PV) (hs : List Hd) (n : Int) (x : Hd) (hx : x.ok) (h : FA w b R H vp vh ps hs) :
    Calls Tryz.prog 87 #[bptr b, .int .i64 n, .agg (hdA x)] w fun e w' => e = .returned (.bool (putB hs n x)) ∧ FA w' b R H vp vh ps (putF hs n x) ∧ Mod (fun k => vh.ownBlock = some k) w w' := by
  unfold putB putF
  by_cases h0 : 0 ≤ n
  · rw [if_pos h0, if_pos h0]
    obtain ⟨k, rfl⟩ : ∃ k : Nat, n = k := ⟨n.toNat, by omega⟩
    rw [Int.toNat_natCast]
    by_cases hk : k < hs.length
    · rw [List.getElem?_eq_getElem hk]
      exact put_in w b R H vp vh ps hs k x hx h hk
    · rw [List.getElem?_eq_none (by omega), List.set_eq_of_length_le (by omega)]
      exact put_out w b R H vp vh ps hs k x h (.inr (by omega))
  · rw [if_neg h0, if_neg h0]
    exact put_out w b R H vp vh ps hs n x h (.inl (by omega))
end Go.Proofs.YteneagnhihcljaaGreatDoor
