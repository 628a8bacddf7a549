import Derived.Test.YtcpgklcimacngaaGreatLng1
import Derived.ChangeKeysEq
namespace Go.Proofs.YtcpgklcimacngaaGreat
open Go.RowKit
set_option linter.unusedVariables false
set_option linter.unusedSimpArgs false

abbrev nums (l : List Int) : List Value := l.map (Value.int .i64)
theorem infoI : (Tryz.prog.info? 3).map (fun i => (i.zero, i.size, i.bytes)) = some (some (.int .i64 0), 1, 8) := by kernel_rfl
theorem infoI' : ∃ i, Tryz.prog.info? 3 = some i ∧ i.zero = some (.int .i64 0) ∧ i.size = 1 ∧ i.bytes = 8 := by
  have h := infoI
  cases hq : Tryz.prog.info? 3 with
  | none => simp [hq] at h
  | some i => simp [hq] at h; exact ⟨i, rfl, h.1, h.2.1, h.2.2⟩

set_option maxRecDepth 20000 in
set_option maxHeartbeats 2000000 in
theorem thas_any (w : World) (a : List Bool) (n : Int) (ha : a.length = 9) :
    Calls Tryz.prog 38 #[.agg (tkA a), .int .i64 n] w fun e w' => e = .returned (.bool (hasT a n)) ∧ Fresh w w' := by
  have HA := hid ha
  have HC : Hid (∀ k : Nat, (w.alloc (.cells (tkA a) 95 (0, 0))).cell? ⟨w.heap.size, k, none⟩ = (tkA a)[k]?) := fun k => cellOf (heap_alloc_at _ _) k
  generalize hv : hasT a n = V
  unfold hasT at hv
  by_cases h0 : 0 ≤ n
  · rw [if_pos h0] at hv
    obtain ⟨k, rfl⟩ : ∃ k : Nat, n = k := ⟨n.toNat, by omega⟩
    rw [Int.toNat_natCast] at hv
    by_cases h9 : k < 9
    · have c0 := HC.out k
      rw [tk_atD (by omega), hv] at c0
      clear hv ha
      clear HC HA
      have b1 : decide ((0 : Int) ≤ (k : Int)) = true := by simp
      have b2 : decide ((k : Int) < 9) = true := by simp; omega
      have b3 : decide (k < 9) = true := by simpa using h9
      have b4 : (k : Int) < 9 := by omega
      go_enter Tryz.func38, Tryz.ntmps38
      go_wp2
      go_ret
      exact ⟨rfl, (Mod.refl _ w).alloc _⟩
    · have hV : V = false := by rw [← hv]; simp [List.getElem?_eq_none (show a.length ≤ k by omega)]
      subst hV
      clear hv ha HC
      clear HA
      have h9' : ¬ ((k : Int) < 9) := by omega
      go_enter Tryz.func38, Tryz.ntmps38
      go_wp2
      go_ret
      exact ⟨rfl, (Mod.refl _ w).alloc _⟩
  · rw [if_neg h0] at hv
    subst hv
    clear ha HC
    clear HA
    go_enter Tryz.func38, Tryz.ntmps38
    go_wp2
    go_ret
    exact ⟨rfl, (Mod.refl _ w).alloc _⟩

set_option maxRecDepth 20000 in
set_option maxHeartbeats 2000000 in
theorem twith_any (w : World) (a : List Bool) (n : Int) (ha : a.length = 9) :
    Calls Tryz.prog 33 #[.agg (tkA a), .int .i64 n] w fun e w' => e = .returned (.agg (tkA (withT a n))) ∧ Fresh w w' := by
  have HA := hid ha
  have hb0 : Hid (((w.alloc (.cells (tkA a) 95 (0, 0))).alloc (.cells (tkA zero9) 95 (0, 0))).heap[w.heap.size]? = some (.cells (tkA a) 95 (0, 0))) := heap_alloc2_old _ _ _
  have hb1 : Hid (((w.alloc (.cells (tkA a) 95 (0, 0))).alloc (.cells (tkA zero9) 95 (0, 0))).heap[w.heap.size + 1]? = some (.cells (tkA zero9) 95 (0, 0))) := heap_alloc2_new _ _ _
  by_cases h0 : 0 ≤ n ∧ n < 9
  · have HW : Hid (withT a n = a.set n.toNat true) := by unfold Hid withT; rw [if_pos h0]
    obtain ⟨h0, h9⟩ := h0
    obtain ⟨k, rfl⟩ : ∃ k : Nat, n = k := ⟨n.toNat, by omega⟩
    have h9' : k < 9 := by omega
    rw [HW.out, Int.toNat_natCast, ← tk_set a k true]
    have hsz : Hid ((Tryz.prog.info? 95).map (·.size) = some ((tkA a).setIfInBounds k (.bool true)).size) := by unfold Hid; rw [tk_set]; exact szTokOf (by simpa using ha)
    have hs9 : Hid (((tkA a).setIfInBounds k (.bool true)).size = 9) := by unfold Hid; rw [tk_set]; exact tk_size (by simpa using ha)
    have hs1 : Hid (((tkA a).setIfInBounds k (.bool true)).all (·.oneCell') = true) := by unfold Hid; rw [tk_set]; exact tk_one _
    have c0 : ((w.alloc (.cells (tkA a) 95 (0, 0))).alloc (.cells #[.bool false, .bool false, .bool false, .bool false, .bool false, .bool false, .bool false, .bool false, .bool false] 95 (0, 0))).cell? ⟨w.heap.size, k, none⟩ = some (.bool (a.getD k false)) := by
      rw [cellOf (heap_alloc2_old _ _ _) k, tk_atD (by omega)]
    have z0 : ((w.alloc (.cells (tkA a) 95 (0, 0))).alloc (.cells #[.bool false, .bool false, .bool false, .bool false, .bool false, .bool false, .bool false, .bool false, .bool false] 95 (0, 0))).frozen? ⟨w.heap.size, k, none⟩ = false := frozenOf (heap_alloc2_old _ _ _) k
    generalize a.getD k false = ak at c0
    clear ha
    go_enter Tryz.func33, Tryz.ntmps33
    go_wp2_with (first
      | (refine wpList_load_row rfl 95 _ rfl w.heap.size rfl _ _ _ _ (heap_alloc2_old _ _ _) Tryz.underlying95 rfl hsz.out ?_)
      | (refine wpList_store_row rfl 95 _ _ rfl (w.heap.size + 1) _ rfl rfl _ _ (heap_alloc2_new _ _ _) hsz.out (sameSize rfl hs9.out) hs1.out ?_))
    refine bodyPost_ret (results_cell_row rfl _ _ (w.heap.size + 1) 95 _ (0, 0) _ rfl (setRow_heap _ _ _ _ _ _ (heap_alloc2_new _ _ _)) Tryz.underlying95 rfl hsz.out) rfl ⟨rfl, ?_⟩
    exact (((Mod.refl _ w).alloc _).alloc _).setRow (by simp) _
  · have HW : Hid (withT a n = a) := by unfold Hid withT; rw [if_neg h0]
    rw [HW.out]
    by_cases h00 : 0 ≤ n
    · have h9 : 9 ≤ n := by omega
      clear h0
      have hsz : Hid ((Tryz.prog.info? 95).map (·.size) = some (tkA a).size) := szTokOf ha
      have hs9 : Hid ((tkA a).size = 9) := tk_size ha
      have hs1 : Hid ((tkA a).all (·.oneCell') = true) := tk_one _
      clear ha
      go_enter Tryz.func33, Tryz.ntmps33
      go_wp2_with (first
        | (refine wpList_load_row rfl 95 _ rfl w.heap.size rfl _ _ _ _ hb0.out Tryz.underlying95 rfl hsz.out ?_)
        | (refine wpList_store_row rfl 95 _ _ rfl (w.heap.size + 1) _ rfl rfl _ _ hb1.out hsz.out (sameSize rfl hs9.out) hs1.out ?_))
      refine bodyPost_ret (results_cell_row rfl _ _ (w.heap.size + 1) 95 _ (0, 0) _ rfl (setRow_heap _ _ _ _ _ _ hb1.out) Tryz.underlying95 rfl hsz.out) rfl ⟨rfl, ?_⟩
      exact (((Mod.refl _ w).alloc _).alloc _).setRow (by simp) _
    · clear h0
      have hsz : Hid ((Tryz.prog.info? 95).map (·.size) = some (tkA a).size) := szTokOf ha
      have hs9 : Hid ((tkA a).size = 9) := tk_size ha
      have hs1 : Hid ((tkA a).all (·.oneCell') = true) := tk_one _
      clear ha
      go_enter Tryz.func33, Tryz.ntmps33
      go_wp2_with (first
        | (refine wpList_load_row rfl 95 _ rfl w.heap.size rfl _ _ _ _ hb0.out Tryz.underlying95 rfl hsz.out ?_)
        | (refine wpList_store_row rfl 95 _ _ rfl (w.heap.size + 1) _ rfl rfl _ _ hb1.out hsz.out (sameSize rfl hs9.out) hs1.out ?_))
      refine bodyPost_ret (results_cell_row rfl _ _ (w.heap.size + 1) 95 _ (0, 0) _ rfl (setRow_heap _ _ _ _ _ _ hb1.out) Tryz.underlying95 rfl hsz.out) rfl ⟨rfl, ?_⟩
      exact (((Mod.refl _ w).alloc _).alloc _).setRow (by simp) _

end Go.Proofs.YtcpgklcimacngaaGreat
namespace Go.Proofs.YtcpgklcimacngaaGreat
open Go.RowKit
set_option linter.unusedVariables false
set_option linter.unusedSimpArgs false

theorem isAggB (w : World) : (isAgg 4).run Tryz.prog w = .ok false w := by
  unfold isAgg; rw [Sem.run_bind, run_underlying Tryz.underlying4]; rfl
theorem isAggT (w : World) : (isAgg 95).run Tryz.prog w = .ok true w := by
  unfold isAgg; rw [Sem.run_bind, run_underlying Tryz.underlying95]; rfl
theorem cellsB : Tryz.prog.cellsOf 4 = 1 := by kernel_rfl
theorem sizeOfTk (w : World) : (sizeOf 95).run Tryz.prog w = .ok 9 w := by
  have h := szTks
  cases hq : Tryz.prog.info? 95 with
  | none => simp [hq] at h
  | some i => simp [hq] at h; simp [sizeOf, typeInfo, hq, h]
theorem partB (xs : Array Value) (i : Nat) (v : Value) (h : xs[i]? = some v) (w : World) : (part 4 xs i).run Tryz.prog w = .ok v w := by
  simp [part, isAggB, h]
theorem eqItems9 (d : Nat) (a b : List Bool) (ha : a.length = 9) (hb : b.length = 9) (w : World) : ∀ is : List Nat, (∀ i ∈ is, i < 9) →
    (Op.eqItems (d + 1) 4 1 (tkA a) (tkA b) is).run Tryz.prog w = .ok (is.all fun i => a.getD i false == b.getD i false) w
  | [], _ => by simp [Op.eqItems]
  | i :: is, h => by
    have h1 := h i (by simp)
    have ih := eqItems9 d a b ha hb w is (fun j hj => h j (by simp [hj]))
    simp only [Op.eqItems, Sem.run_bind, Nat.mul_one, partB _ _ _ (tk_atD (show i < a.length by omega)), partB _ _ _ (tk_atD (show i < b.length by omega)), Result.andThen_ok, run_equalIn_bool w d 4 _ _ Tryz.underlying4]
    cases hq : (a.getD i false == b.getD i false)
    · simp only [Bool.not_false, if_true, Sem.run_pure, List.all_cons, hq, Bool.false_and]
    · simp only [Bool.not_true, Bool.false_eq_true, if_false, ih, List.all_cons, hq, Bool.true_and]
theorem all9 {a b : List Bool} (ha : a.length = 9) (hb : b.length = 9) : ((List.range 9).all fun i => a.getD i false == b.getD i false) = (a == b) := by
  obtain ⟨a0, a1, a2, a3, a4, a5, a6, a7, a8, rfl⟩ := nine ha
  obtain ⟨b0, b1, b2, b3, b4, b5, b6, b7, b8, rfl⟩ := nine hb
  rfl
theorem eqTok (d : Nat) (a b : List Bool) (ha : a.length = 9) (hb : b.length = 9) (w : World) : (Op.equalIn (d + 2) 95 (.agg (tkA a)) (.agg (tkA b))).run Tryz.prog w = .ok (a == b) w := by
  have h := szTks
  obtain ⟨i, hi⟩ : ∃ i, Tryz.prog.info? 4 = some i := by
    cases hq : Tryz.prog.info? 4 with
    | none => have : (Tryz.prog.info? 4).isSome = true := by kernel_rfl
              rw [hq] at this; cases this
    | some i => exact ⟨i, rfl⟩
  rw [run_equalIn_array w (d + 1) _ _ Tryz.underlying95 hi, cellsB, eqItems9 d a b ha hb w _ (fun i hi => by simpa using hi), all9 ha hb]

structure Hd where
  nul : Bool
  rch : Bool
  fru : Bool
  fi : List Bool
  fo : List Bool
structure Hd.ok (h : Hd) : Prop where
  fi : h.fi.length = 9
  fo : h.fo.length = 9
def Hd.cells (h : Hd) : List Value := .bool h.nul :: .bool h.rch :: .bool h.fru :: (bls h.fi ++ bls h.fo)
def hdA (h : Hd) : Array Value := h.cells.toArray
def zeroHd : Hd := ⟨false, false, false, zero9, zero9⟩
def hdEq (a b : Hd) : Bool := a.nul == b.nul && (a.rch == b.rch && (a.fru == b.fru && (a.fi == b.fi && a.fo == b.fo)))
theorem hdEq_iff {a b : Hd} : hdEq a b = true ↔ a = b := by
  obtain ⟨a1, a2, a3, a4, a5⟩ := a
  obtain ⟨b1, b2, b3, b4, b5⟩ := b
  simp [hdEq]
theorem Hd.cells_len {h : Hd} (k : h.ok) : h.cells.length = 21 := by simp [Hd.cells, bls, k.fi, k.fo]
theorem hd_size {h : Hd} (k : h.ok) : (hdA h).size = 21 := by simp [hdA, Hd.cells_len k]
theorem szHd : (Tryz.prog.info? 97).map (·.size) = some 21 := by kernel_rfl
theorem szHdOf {h : Hd} (k : h.ok) : (Tryz.prog.info? 97).map (·.size) = some (hdA h).size := by rw [hd_size k]; exact szHd
theorem szHdL {h : Hd} (k : h.ok) : (Tryz.prog.info? 97).map (·.size) = some h.cells.length := by rw [Hd.cells_len k]; exact szHd
theorem hd_one (h : Hd) : (hdA h).all (·.oneCell') = true := by
  unfold hdA
  apply all_oneCell_toArray
  intro v hv; simp [Hd.cells, bls] at hv
  rcases hv with rfl | rfl | rfl | (⟨_, rfl⟩ | ⟨_, rfl⟩) | (⟨_, rfl⟩ | ⟨_, rfl⟩) <;> rfl
theorem hd_at0 (h : Hd) : (hdA h)[0]? = some (.bool h.nul) := by simp [hdA, Hd.cells]
theorem hd_at1 (h : Hd) : (hdA h)[1]? = some (.bool h.rch) := by simp [hdA, Hd.cells]
theorem hd_at2 (h : Hd) : (hdA h)[2]? = some (.bool h.fru) := by simp [hdA, Hd.cells]
theorem hd_fi {h : Hd} (k : h.ok) : (hdA h).extract 3 12 = tkA h.fi := by
  obtain ⟨n, r, f, fi, fo⟩ := h
  obtain ⟨a0, a1, a2, a3, a4, a5, a6, a7, a8, e⟩ := nine k.fi
  obtain ⟨b0, b1, b2, b3, b4, b5, b6, b7, b8, e2⟩ := nine k.fo
  dsimp only at e e2
  subst e; subst e2
  rfl
theorem hd_fo {h : Hd} (k : h.ok) : (hdA h).extract 12 21 = tkA h.fo := by
  obtain ⟨n, r, f, fi, fo⟩ := h
  obtain ⟨a0, a1, a2, a3, a4, a5, a6, a7, a8, e⟩ := nine k.fi
  obtain ⟨b0, b1, b2, b3, b4, b5, b6, b7, b8, e2⟩ := nine k.fo
  dsimp only at e e2
  subst e; subst e2
  rfl
theorem partT (h : Hd) (o : Nat) (l : List Bool) (k : h.ok) (hx : (hdA h).extract o (o + 9) = tkA l) (ho : o + 9 ≤ 21) (w : World) : (part 95 (hdA h) o).run Tryz.prog w = .ok (.agg (tkA l)) w := by
  simp [part, isAggT, sizeOfTk, hx, hd_size k, ho]
theorem stood154 : Tryz.prog.stoodInHeld 97 = false := by kernel_rfl
theorem guardHd : Tryz.prog.eqGuardType Tryz.prog.depth 97 = false := by kernel_rfl
theorem eqHd (d : Nat) (a b : Hd) (ha : a.ok) (hb : b.ok) (w : World) : (Op.equalIn (d + 4) 97 (.agg (hdA a)) (.agg (hdA b))).run Tryz.prog w = .ok (hdEq a b) w := by
  rw [run_equalIn_struct w (d + 3) _ _ _ (by kernel_rfl) stood154]
  have hf : ((Tryz.prog.fieldsOf 97).toList.map fun f => (f.name, f.type, f.offset)) = [("nullable", 4, 0), ("reached", 4, 1), ("fruitful", 4, 2), ("first", 95, 3), ("follow", 95, 12)] := by kernel_rfl
  generalize (Tryz.prog.fieldsOf 97).toList = fs at hf
  rcases fs with _ | ⟨f0, _ | ⟨f1, _ | ⟨f2, _ | ⟨f3, _ | ⟨f4, _ | ⟨f5, fs⟩⟩⟩⟩⟩⟩ <;> simp at hf
  obtain ⟨⟨n0, t0, o0⟩, ⟨n1, t1, o1⟩, ⟨n2, t2, o2⟩, ⟨n3, t3, o3⟩, ⟨n4, t4, o4⟩⟩ := hf
  simp only [Op.eqFields, n0, t0, o0, n1, t1, o1, n2, t2, o2, n3, t3, o3, n4, t4, o4]
  simp only [Sem.run_bind, Sem.run_ite, partB _ _ _ (hd_at0 a), partB _ _ _ (hd_at0 b), partB _ _ _ (hd_at1 a), partB _ _ _ (hd_at1 b), partB _ _ _ (hd_at2 a), partB _ _ _ (hd_at2 b),
    partT a 3 _ ha (hd_fi ha) (by omega), partT b 3 _ hb (hd_fi hb) (by omega), partT a 12 _ ha (hd_fo ha) (by omega), partT b 12 _ hb (hd_fo hb) (by omega), Result.andThen_ok,
    run_equalIn_bool w (d + 2) 4 _ _ Tryz.underlying4, eqTok (d + 1) a.fi b.fi ha.fi hb.fi, eqTok (d + 1) a.fo b.fo ha.fo hb.fo, Sem.run_pure]
  unfold hdEq
  cases a.nul == b.nul <;> cases a.rch == b.rch <;> cases a.fru == b.fru <;> cases a.fi == b.fi <;> cases a.fo == b.fo <;> simp
end Go.Proofs.YtcpgklcimacngaaGreat
namespace Go.Proofs.YtcpgklcimacngaaGreat
open Go.RowKit
set_option linter.unusedVariables false
set_option linter.unusedSimpArgs false

structure Sy where
  isH : Bool
  num : Int
def Sy.cells (s : Sy) : List Value := [.bool s.isH, .int .i64 s.num]
structure Pr where
  head : Int
  syms : List Sy
structure PV where
  pr : Pr
  vs : Value
def PV.cells (p : PV) : List Value := [.int .i64 p.pr.head, p.vs]

/-- v is these symbols, in blocks below B. -/
def SymAt (w : World) (B : Nat) (v : Value) (l : List Sy) : Prop :=
  ∃ ao cap, v = .slice ao l.length cap ∧ l.length ≤ cap ∧ cap ≤ maxLen ∧ ∀ i (h : i < l.length), ∃ g o, ao = some ⟨g, o, none⟩ ∧ g < B ∧ w.rangeAt g (o + i * 2) (l[i]).cells
theorem rangeAt_block {w w' : World} {g o : Nat} {cs : List Value} (h : w.rangeAt g o cs) (hb : w'.heap[g]? = w.heap[g]?) : w'.rangeAt g o cs := fun j v hj => by
  have := h j v hj
  simpa [World.cell?, hb] using this
theorem SymAt.kept {S : Nat → Prop} {w w' : World} {B : Nat} {v : Value} {l : List Sy} (h : SymAt w B v l) (hB : B ≤ w.heap.size) (hm : Mod S w w') (hs : ∀ k, k < B → ¬ S k) : SymAt w' B v l := by
  obtain ⟨ao, cap, h1, h2, h3, h4⟩ := h
  refine ⟨ao, cap, h1, h2, h3, fun i hi => ?_⟩
  obtain ⟨g, o, h5, h6, h7⟩ := h4 i hi
  exact ⟨g, o, h5, h6, rangeAt_block h7 (hm.block g (by omega) (hs g h6))⟩
structure PrsAt (w : World) (B : Nat) (v : Value) (ps : List PV) : Prop where
  row : RowAt PV.cells 2 89 w v ps
  lt : ∀ g, v.ownBlock = some g → g < B
  syms : ∀ p ∈ ps, SymAt w B p.vs p.pr.syms
theorem PrsAt.kept {S : Nat → Prop} {w w' : World} {B : Nat} {v : Value} {l : List PV} (h : PrsAt w B v l) (hB : B ≤ w.heap.size) (hm : Mod S w w') (hs : ∀ k, k < B → ¬ S k) : PrsAt w' B v l :=
  ⟨h.row.kept hm (fun b hb => hs b (h.lt b hb)), h.lt, fun p hp => (h.syms p hp).kept hB hm hs⟩

structure FA (w : World) (b : Nat) (R H : Int) (vp vh : Value) (ps : List PV) (hs : List Hd) : Prop where
  blk : w.heap[b]? = some (.cells #[.int .i64 R, .int .i64 H, vp, vh] 93 (0, 0))
  prs : PrsAt w b vp ps
  own : w.ownsRow (b + 1) 97 21 vh hs.length (flatC Hd.cells hs)
  ok : ∀ h ∈ hs, h.ok
variable {w w' : World} {b : Nat} {R H : Int} {vp vh : Value} {ps : List PV} {hs : List Hd}
theorem FA.fresh (h : FA w b R H vp vh ps hs) (hm : Fresh w w') : FA w' b R H vp vh ps hs :=
  ⟨hm.at h.blk (fun x => x), h.prs.kept (Nat.le_of_lt (heap_lt h.blk)) hm (fun _ _ x => x), ownsRow_other h.own (fun g hg => hm.block g (h.own.lt g hg).2 (fun x => x)), h.ok⟩
theorem FA.cell (h : FA w b R H vp vh ps hs) (o : Nat) : w.cell? ⟨b, o, none⟩ = #[.int .i64 R, .int .i64 H, vp, vh][o]? := cellOf h.blk o
theorem FA.row (h : FA w b R H vp vh ps hs) : RowAt Hd.cells 21 97 w vh hs := ⟨ownsRow_base h.own (Nat.zero_le _), fun x hx => Hd.cells_len (h.ok x hx)⟩

def getH (hs : List Hd) (n : Int) : Hd := if 0 ≤ n then (hs[n.toNat]?).getD zeroHd else zeroHd
theorem zeroHd_ok : zeroHd.ok := ⟨rfl, rfl⟩
theorem getH_ok {hs : List Hd} (h : ∀ x ∈ hs, x.ok) (n : Int) : (getH hs n).ok := by
  unfold getH
  split
  · cases hq : hs[n.toNat]? with
    | none => exact zeroHd_ok
    | some x => exact h x (List.mem_of_getElem? hq)
  · exact zeroHd_ok
def putF (hs : List Hd) (n : Int) (h : Hd) : List Hd := if 0 ≤ n then hs.set n.toNat h else hs
def putB (hs : List Hd) (n : Int) (h : Hd) : Bool := if 0 ≤ n then (match hs[n.toNat]? with | some x => !hdEq x h | none => false) else false

set_option maxRecDepth 20000 in
set_option maxHeartbeats 2000000 in
theorem get_any (w : World) (b : Nat) (R H : Int) (vp vh : Value) (ps : List PV) (hs : List Hd) (n : Int) (h : FA w b R H vp vh ps hs) :
    Calls Tryz.prog 36 #[bptr b, .int .i64 n] w fun e w' => e = .returned (.agg (hdA (getH hs n))) ∧ Fresh w w' := by
  have k3 := h.cell 3
  simp at k3
  have HF := hid h
  have zb : Hid ((w.alloc (.cells (hdA zeroHd) 97 (0, 0))).heap[w.heap.size]? = some (.cells (hdA zeroHd) 97 (0, 0))) := heap_alloc_at _ _
  have hb := heap_lt h.blk
  have k3' : (w.alloc (.cells #[.bool false, .bool false, .bool false, .bool false, .bool false, .bool false, .bool false, .bool false, .bool false, .bool false, .bool false, .bool false, .bool false, .bool false, .bool false, .bool false, .bool false, .bool false, .bool false, .bool false, .bool false] 97 (0, 0))).cell? ⟨b, 3, none⟩ = some vh := by
    rw [cellOf (heap_alloc_prev h.blk) 3]; rfl
  obtain ⟨ao, cap, hv⟩ := own_form h.own
  subst hv
  by_cases h0 : 0 ≤ n
  · obtain ⟨k, rfl⟩ : ∃ k : Nat, n = k := ⟨n.toNat, by omega⟩
    by_cases hk : k < hs.length
    · have e1 : Hid (getH hs k = hs[k]) := by unfold Hid getH; rw [if_pos h0]; simp [hk]
      obtain ⟨g, cap', hv'⟩ := Joins.ownsRow_form h.own (by omega)
      rw [Value.slice.injEq] at hv'
      obtain ⟨rfl, _, rfl⟩ := hv'
      have RG := hid ((h.fresh ((Mod.refl _ w).alloc (.cells (hdA zeroHd) 97 (0, 0)))).row.range k hk)
      have HOK := hid (h.ok hs[k] (by simp))
      rw [e1.out]
      have b1 : decide ((k : Int) < 0) = false := by simp
      have b2 : decide ((hs.length : Int) ≤ (k : Int)) = false := by simp; omega
      have b3 : decide (hs.length ≤ k) = false := by simp; omega
      have b4 : (k : Int) < (hs.length : Int) := by omega
      clear h e1
      go_enter Tryz.func36, Tryz.ntmps36
      go_wp2_with (first
        | (refine wpList_load_mid rfl 97 _ rfl g (k * 21) rfl hs[k].cells _ RG.out Tryz.underlying97 rfl (szHdL HOK.out) ?_)
        | (refine wpList_store_row rfl 97 _ _ rfl w.heap.size (hdA hs[k]) rfl rfl _ _ zb.out (szHdOf HOK.out) (sameSize rfl (hd_size HOK.out)) (hd_one _) ?_))
      refine bodyPost_ret (results_cell_row rfl _ _ w.heap.size 97 _ (0, 0) _ rfl (setRow_heap _ _ _ _ _ _ zb.out) Tryz.underlying97 rfl (szHdOf HOK.out)) rfl ⟨rfl, ?_⟩
      exact ((Mod.refl _ w).alloc _).setRow (by simp) _
    · have e1 : getH hs k = zeroHd := by unfold getH; rw [if_pos h0]; simp [hk]
      rw [e1]
      have b1 : decide ((k : Int) < 0) = false := by simp
      have b2 : decide ((hs.length : Int) ≤ (k : Int)) = true := by simp; omega
      have b3 : decide (hs.length ≤ k) = true := by simp; omega
      have b4 : ¬ (k : Int) < (hs.length : Int) := by omega
      clear h e1
      go_enter Tryz.func36, Tryz.ntmps36
      go_wp2_with (first
        | (refine wpList_store_row rfl 97 _ _ rfl w.heap.size (hdA zeroHd) rfl rfl _ _ zb.out (szHdOf zeroHd_ok) rfl (hd_one _) ?_))
      refine bodyPost_ret (results_cell_row rfl _ _ w.heap.size 97 _ (0, 0) _ rfl (setRow_heap _ _ _ _ _ _ zb.out) Tryz.underlying97 rfl (szHdOf zeroHd_ok)) rfl ⟨rfl, ?_⟩
      exact ((Mod.refl _ w).alloc _).setRow (by simp) _
  · have e1 : getH hs n = zeroHd := by unfold getH; rw [if_neg h0]
    rw [e1]
    have b1 : decide (n < 0) = true := by simp; omega
    clear h e1
    go_enter Tryz.func36, Tryz.ntmps36
    go_wp2_with (first
      | (refine wpList_store_row rfl 97 _ _ rfl w.heap.size (hdA zeroHd) rfl rfl _ _ zb.out (szHdOf zeroHd_ok) rfl (hd_one _) ?_))
    refine bodyPost_ret (results_cell_row rfl _ _ w.heap.size 97 _ (0, 0) _ rfl (setRow_heap _ _ _ _ _ _ zb.out) Tryz.underlying97 rfl (szHdOf zeroHd_ok)) rfl ⟨rfl, ?_⟩
    exact ((Mod.refl _ w).alloc _).setRow (by simp) _
end Go.Proofs.YtcpgklcimacngaaGreat
