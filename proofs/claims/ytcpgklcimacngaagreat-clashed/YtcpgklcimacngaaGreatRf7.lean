import Derived.Test.YtcpgklcimacngaaGreatRg1
import Derived.Test.YtcpgklcimacngaaGreatKc1
import Derived.Deep.DeepCutAuto
import Derived.Deep.RegionWith
namespace Go.Proofs.YtcpgklcimacngaaGreat
open Go.RowKit
set_option linter.unusedVariables false
set_option linter.unusedSimpArgs false

theorem zres1 {P : Program} {fn : Func} {p u : Tmp} {ty : TypeId} (h : fn.results = #[.cell p ty, .tmp u]) (tmps : Array Value) (w : World) (g : Nat) (t : TypeId) (cs : Array Value) (fr : Nat × Nat) (d : TypeDesc)
    (hp : tmps.getD p undef = .pointer (some ⟨g, 0, none⟩)) (hg : w.heap[g]? = some (.cells cs t fr))
    (hu : P.underlying ty = some d) (hd : (match d with | .struct _ | .array _ _ => true | _ => false) = true) (hi : (P.info? ty).map (·.size) = some cs.size) :
    (results fn tmps).run P w = .ok (.tuple #[.agg cs, tmps.getD u undef]) w := by
  have hp' : tmps[p]?.getD undef = .pointer (some ⟨g, 0, none⟩) := by simpa using hp
  simp [results, h, hp', asAddr, run_loadVar_row w g t ty cs fr d hg hu hd hi]
theorem run_storeAt_row {P : Program} (w : World) (g : Nat) (t ty : TypeId) (old cells : Array Value) (hg : w.heap[g]? = some (.cells old t (0, 0))) (hi : (P.info? ty).map (·.size) = some cells.size) (hold : old.size = cells.size) (h1 : cells.all (·.oneCell') = true) :
    (Instr.storeAt ty (.pointer (some ⟨g, 0, none⟩)) (.agg cells)).run P w = .ok () (w.setRow g cells) := by
  simp only [Instr.storeAt, Instr.sureAddr, Sem.run_bind, Sem.run_pure, Result.andThen_ok, run_storeVar_row w g t ty old cells hg hi hold h1]
abbrev nilS : Value := .slice none 0 0
abbrev zlL (r k : Bool) (nm pt : ByteArray) (vs vp : Value) (a : Int) : List Value := [.bool r, .bool k, .string nm, .string pt, vs, vp, .int .i64 a]
abbrev zlA (r k : Bool) (nm pt : ByteArray) (vs vp : Value) (a : Int) : Array Value := #[.bool r, .bool k, .string nm, .string pt, vs, vp, .int .i64 a]
theorem szZL : (Tryz.prog.info? 64).map (·.size) = some 7 := by kernel_rfl
theorem zl_one {r k : Bool} {nm pt : ByteArray} {vs vp : Value} {a : Int} (h1 : vs.oneCell' = true) (h2 : vp.oneCell' = true) : (zlA r k nm pt vs vp a).all (·.oneCell') = true := by
  refine all_oneCell_toArray (cs := zlL r k nm pt vs vp a) ?_
  intro v hv
  simp only [List.mem_cons, List.not_mem_nil, or_false] at hv
  rcases hv with rfl | rfl | rfl | rfl | rfl | rfl | rfl
  · rfl
  · rfl
  · rfl
  · rfl
  · exact h1
  · exact h2
  · rfl
def stZ (p v : Value) : Sem Unit := Instr.storeAt 64 p v
theorem stZ_rule (p v : Value) : Instr.storeAt 64 p v = stZ p v := rfl

/-- a line of the reference in memory -/
structure ZLV where
  ln : ZLn
  vs : Value
  vp : Value
  pl : Int
def ZLV.cells (x : ZLV) : List Value := zlL x.ln.rule x.ln.skip x.ln.name x.ln.pat x.vs x.vp x.pl
structure ZLV.At (b : Nat) (w : World) (x : ZLV) : Prop where
  syms : w.ownsRow b 9 1 x.vs x.ln.syms.length (strs x.ln.syms)
  places : w.ownsRow b 3 1 x.vp x.ln.places.length (ints x.ln.places)
def noZL : ZLn := ⟨false, false, ⟨#[]⟩, ⟨#[]⟩, [], []⟩
theorem ZLV.At.fresh {b : Nat} {w w' : World} {x : ZLV} (h : x.At b w) (hm : Fresh w w') : x.At b w' :=
  ⟨ownsRow_other h.syms (fun g hg => hm.block g (h.syms.lt g hg).2 (fun x => x)), ownsRow_other h.places (fun g hg => hm.block g (h.places.lt g hg).2 (fun x => x))⟩
theorem ZLV.At.kept {S : Nat → Prop} {b : Nat} {w w' : World} {x : ZLV} (h : x.At b w) (hm : Mod S w w') (h1 : ∀ k, x.vs.ownBlock = some k → ¬ S k) (h2 : ∀ k, x.vp.ownBlock = some k → ¬ S k) : x.At b w' :=
  ⟨ownsRow_other h.syms (fun g hg => hm.block g (h.syms.lt g hg).2 (h1 g hg)), ownsRow_other h.places (fun g hg => hm.block g (h.places.lt g hg).2 (h2 g hg))⟩
theorem ZLV.At.one {b : Nat} {w : World} {x : ZLV} (h : x.At b w) : x.cells.toArray.all (·.oneCell') = true := zl_one (slice_one h.syms) (slice_one h.places)
/-- what line answers -/
def ZRet (w : World) (r : Option ZLn) (e : Ending) (w' : World) : Prop :=
  ∃ x : ZLV, e = .returned (.tuple #[.agg x.cells.toArray, .bool r.isSome]) ∧ x.At w.heap.size w' ∧ Fresh w w' ∧ ∀ z, r = some z → x.ln = z
theorem nil_at (b : Nat) (w : World) (x : ZLV) (h1 : x.ln.syms = []) (h2 : x.ln.places = []) (h3 : x.vs = nilS) (h4 : x.vp = nilS) : x.At b w := by
  refine ⟨?_, ?_⟩
  · rw [h1, h3]; exact World.ownsRow_nil _ _ _ _
  · rw [h2, h4]; exact World.ownsRow_nil _ _ _ _

attribute [local go_sem ↓] stZ_rule
set_option maxRecDepth 20000 in
set_option maxHeartbeats 1000000 in
theorem zline_rule (s : ByteArray) (w : World) (hs : s.size ≤ 70000) (n : Nat) (hn : zLet s 0 = n) (hn0 : 0 < n) (hok : zRuleOk s n = true) :
    Calls Tryz.prog 39 #[.string s] w fun e w' => e = .returned (.tuple #[.agg (zlA true (atB s n == 126) (s.extract 0 n) (s.extract (n + 1) s.size) (.slice none 0 0) (.slice none 0 0) 0), .bool (zpK s 6 (n + 1) == (s.size : Int))]) ∧ Fresh w w' := by
  have ZL := hid (fun w => zletters_any s 0 w (by omega) (by omega))
  have e0 : ((0 : Nat) : Int) = 0 := rfl
  rw [e0, hn] at ZL
  unfold zRuleOk at hok
  rw [Bool.and_eq_true, Bool.and_eq_true, decide_eq_true_eq, decide_eq_true_eq, Bool.or_eq_true] at hok
  obtain ⟨⟨h8, hns⟩, hch⟩ := hok
  have PT := hid (fun w => zpat_all s (by omega) 6 0 (by omega) (n + 1) w (by omega))
  have en : ((n + 1 : Nat) : Int) = (n : Int) + 1 := by omega
  rw [en, e0] at PT
  have hb := atB_ix hns
  rw [hb] at hch ⊢
  have hbl : s[n].toNat < 256 := s[n].toNat_lt
  have k1 : 0 < (n : Int) := by omega
  have k2 : ¬ (8 : Int) < (n : Int) := by omega
  have k3 : ¬ (s.size : Int) ≤ (n : Int) := by omega
  have k4 : (n : Int) < (s.size : Int) := by omega
  have k5 : ((s[n].toNat : Int) != 61 && (s[n].toNat : Int) != 126) = false := by
    rcases hch with h | h
    · have : (s[n].toNat : Int) = 61 := by simpa using h
      rw [this]; decide
    · have : (s[n].toNat : Int) = 126 := by simpa using h
      rw [this]; decide
  generalize zpK s 6 ((n : Int) + 1) = pk at PT ⊢
  have hz : (w.alloc (.cells (zlA false false ⟨#[]⟩ ⟨#[]⟩ (.slice none 0 0) (.slice none 0 0) 0) 64 (0, 0))).heap[w.heap.size]? = some (.cells (zlA false false ⟨#[]⟩ ⟨#[]⟩ (.slice none 0 0) (.slice none 0 0) 0) 64 (0, 0)) := heap_alloc_at _ _
  clear hb hn
  have s1 : (stZ (.pointer (some ⟨w.heap.size, 0, none⟩)) (.agg #[.bool true, .bool ((s[n].toNat : Int) == 126), .string (s.extract 0 n), .string (s.extract (n + 1) s.size), .slice none 0 0, .slice none 0 0, .int .i64 0])).run Tryz.prog (w.alloc (.cells #[.bool false, .bool false, .string ⟨#[]⟩, .string ⟨#[]⟩, .slice none 0 0, .slice none 0 0, .int .i64 0] 64 (0, 0))).drew = .ok () ((w.alloc (.cells #[.bool false, .bool false, .string ⟨#[]⟩, .string ⟨#[]⟩, .slice none 0 0, .slice none 0 0, .int .i64 0] 64 (0, 0))).drew.setRow w.heap.size #[.bool true, .bool ((s[n].toNat : Int) == 126), .string (s.extract 0 n), .string (s.extract (n + 1) s.size), .slice none 0 0, .slice none 0 0, .int .i64 0]) :=
    run_storeAt_row (t := 64) (old :=  #[.bool false, .bool false, .string ⟨#[]⟩, .string ⟨#[]⟩, .slice none 0 0, .slice none 0 0, .int .i64 0]) _ _ _ _ hz szZL rfl (zl_one rfl rfl)
  by_cases q61 : s[n].toNat = 61
  · have q1 : ((s[n].toNat : Int) != 61) = false := by simp [q61]
    clear q61
    go_enter Tryz.func39, Tryz.ntmps39
    go_upto_region 6 with (first
      | (go_at_call 60; refine (ZL.out _).mono ?_; rintro e w' ⟨rfl, hw⟩; rw [hw]; clear hw)
      | (go_at_call 61; refine (PT.out _).mono ?_; rintro e w' ⟨rfl, hw⟩; rw [hw]; clear hw))
    go_region
    all_goals
      go_wp2_with fail
      refine bodyPost_ret (zres1 rfl _ _ w.heap.size 64 _ (0, 0) _ rfl (setRow_heap _ _ _ _ _ _ hz) Tryz.underlying64 rfl szZL) rfl ⟨rfl, ?_⟩
      exact ((Mod.refl _ w).alloc _).drew.setRow (by simp) _
  · have q1 : ((s[n].toNat : Int) != 61) = true := by simp; omega
    have q2 : ((s[n].toNat : Int) != 126) = false := by rw [q1] at k5; simpa using k5
    clear q61 k5
    go_enter Tryz.func39, Tryz.ntmps39
    go_upto_region 6 with (first
      | (go_at_call 60; refine (ZL.out _).mono ?_; rintro e w' ⟨rfl, hw⟩; rw [hw]; clear hw)
      | (go_at_call 61; refine (PT.out _).mono ?_; rintro e w' ⟨rfl, hw⟩; rw [hw]; clear hw))
    go_region
    all_goals
      go_wp2_with fail
      refine bodyPost_ret (zres1 rfl _ _ w.heap.size 64 _ (0, 0) _ rfl (setRow_heap _ _ _ _ _ _ hz) Tryz.underlying64 rfl szZL) rfl ⟨rfl, ?_⟩
      exact ((Mod.refl _ w).alloc _).drew.setRow (by simp) _
end Go.Proofs.YtcpgklcimacngaaGreat
namespace Go.Proofs.YtcpgklcimacngaaGreat
open Go.RowKit
set_option linter.unusedVariables false
set_option linter.unusedSimpArgs false

set_option maxRecDepth 20000 in
set_option maxHeartbeats 1000000 in
theorem zline_norule (s : ByteArray) (w : World) (hs : s.size ≤ 70000) (n : Nat) (hn : zLet s 0 = n) (hn0 : 0 < n) (hok : zRuleOk s n = false) :
    Calls Tryz.prog 39 #[.string s] w fun e w' => e = .returned (.tuple #[.agg (zlA false false ⟨#[]⟩ ⟨#[]⟩ (.slice none 0 0) (.slice none 0 0) 0), .bool false]) ∧ Fresh w w' := by
  have ZL := hid (fun w => zletters_any s 0 w (by omega) (by omega))
  have e0 : ((0 : Nat) : Int) = 0 := rfl
  rw [e0, hn] at ZL
  have hle := zLetL_le s (s.size + 2) 0 (by omega) (by omega)
  have hle2 : ((zLet s 0 : Nat) : Int) ≤ s.size := by have h : 0 + ((zLet s 0 : Nat) : Int) ≤ s.size := hle; omega
  rw [hn] at hle2
  have hz : (w.alloc (.cells (zlA false false ⟨#[]⟩ ⟨#[]⟩ (.slice none 0 0) (.slice none 0 0) 0) 64 (0, 0))).heap[w.heap.size]? = some (.cells (zlA false false ⟨#[]⟩ ⟨#[]⟩ (.slice none 0 0) (.slice none 0 0) 0) 64 (0, 0)) := heap_alloc_at _ _
  have HZ := hid hz
  clear hz hle hn
  have k1 : 0 < (n : Int) := by omega
  unfold zRuleOk at hok
  by_cases h8 : 8 < n
  · have k2 : (8 : Int) < (n : Int) := by omega
    clear hok
    go_enter Tryz.func39, Tryz.ntmps39
    go_wp2_with (first
      | (go_at_call 60; refine (ZL.out _).mono ?_; rintro e w' ⟨rfl, hw⟩; rw [hw]; clear hw)
      | (refine wpList_store_row rfl 64 _ _ rfl w.heap.size _ rfl rfl _ _ HZ.out szZL rfl (zl_one rfl rfl) ?_))
    refine bodyPost_ret (zres1 rfl _ _ w.heap.size 64 _ (0, 0) _ rfl (setRow_heap _ _ _ _ _ _ HZ.out) Tryz.underlying64 rfl szZL) rfl ⟨rfl, ?_⟩
    exact ((Mod.refl _ w).alloc _).setRow (by simp) _
  · have k2 : ¬ (8 : Int) < (n : Int) := by omega
    by_cases hns : n < s.size
    · have hb := atB_ix hns
      rw [hb, decide_eq_true (by omega), decide_eq_true hns] at hok
      simp only [Bool.true_and, Bool.or_eq_false_iff] at hok
      obtain ⟨c1, c2⟩ := hok
      have q1 : ((s[n].toNat : Int) != 61) = true := by simpa using c1
      have q2 : ((s[n].toNat : Int) != 126) = true := by simpa using c2
      have hbl : s[n].toNat < 256 := s[n].toNat_lt
      have k3 : ¬ (s.size : Int) ≤ (n : Int) := by omega
      have k4 : (n : Int) < (s.size : Int) := by omega
      clear hb c1 c2
      go_enter Tryz.func39, Tryz.ntmps39
      go_wp2_with (first
        | (go_at_call 60; refine (ZL.out _).mono ?_; rintro e w' ⟨rfl, hw⟩; rw [hw]; clear hw)
        | (refine wpList_store_row rfl 64 _ _ rfl w.heap.size _ rfl rfl _ _ HZ.out szZL rfl (zl_one rfl rfl) ?_))
      refine bodyPost_ret (zres1 rfl _ _ w.heap.size 64 _ (0, 0) _ rfl (setRow_heap _ _ _ _ _ _ HZ.out) Tryz.underlying64 rfl szZL) rfl ⟨rfl, ?_⟩
      exact ((Mod.refl _ w).alloc _).setRow (by simp) _
    · have k3 : (s.size : Int) ≤ (n : Int) := by omega
      clear hok
      go_enter Tryz.func39, Tryz.ntmps39
      go_wp2_with (first
        | (go_at_call 60; refine (ZL.out _).mono ?_; rintro e w' ⟨rfl, hw⟩; rw [hw]; clear hw)
        | (refine wpList_store_row rfl 64 _ _ rfl w.heap.size _ rfl rfl _ _ HZ.out szZL rfl (zl_one rfl rfl) ?_))
      refine bodyPost_ret (zres1 rfl _ _ w.heap.size 64 _ (0, 0) _ rfl (setRow_heap _ _ _ _ _ _ HZ.out) Tryz.underlying64 rfl szZL) rfl ⟨rfl, ?_⟩
      exact ((Mod.refl _ w).alloc _).setRow (by simp) _

theorem zSym_bd (s : ByteArray) {i : Int} (h0 : 0 ≤ i) : zSym s i = -1 ∨ (i < zSym s i ∧ zSym s i ≤ s.size) := by
  by_cases h : 0 ≤ zSym s i
  · right
    obtain ⟨m, hw, hm⟩ := zSym_some h0 h
    have hp := hw.pos
    have hin : atB s (i + ((m - 1 : Nat) : Int)) ≠ -1 := by
      by_cases m1 : m - 1 = 0
      · rw [m1]
        intro q
        have := hw.first
        simp only [Int.natCast_zero, Int.add_zero] at q
        rw [q] at this
        revert this; decide
      · exact small_in (hw.rest (m - 1) (by omega) (by omega))
    have := atB_lt hin
    omega
  · left
    unfold zSym at h ⊢
    split
    · rfl
    · rename_i c0
      rw [if_neg c0] at h
      split
      · rename_i c1
        rw [if_pos c1] at h
        split
        · rfl
        · rename_i c2
          rw [if_neg c2] at h; omega
      · rename_i c1
        rw [if_neg c1] at h
        split
        · rfl
        · rename_i c2
          rw [if_neg c2] at h; omega

set_option maxRecDepth 20000 in
set_option maxHeartbeats 1000000 in
theorem zline_nohead (s : ByteArray) (w : World) (hs : s.size ≤ 70000) (hn : zLet s 0 = 0) (hok : ¬ (0 ≤ zSym s 0 ∧ atB s (zSym s 0) = 58)) :
    Calls Tryz.prog 39 #[.string s] w fun e w' => e = .returned (.tuple #[.agg (zlA false false ⟨#[]⟩ ⟨#[]⟩ (.slice none 0 0) (.slice none 0 0) 0), .bool false]) ∧ Fresh w w' := by
  have ZL := hid (fun w => zletters_any s 0 w (by omega) (by omega))
  have ZY := hid (fun w => zsymbol_any s 0 w (by omega) (by omega))
  have e0 : ((0 : Nat) : Int) = 0 := rfl
  rw [e0, hn] at ZL
  rw [e0] at ZL ZY
  have hbd := zSym_bd s (i := 0) (by omega)
  have hz : (w.alloc (.cells (zlA false false ⟨#[]⟩ ⟨#[]⟩ (.slice none 0 0) (.slice none 0 0) 0) 64 (0, 0))).heap[w.heap.size]? = some (.cells (zlA false false ⟨#[]⟩ ⟨#[]⟩ (.slice none 0 0) (.slice none 0 0) 0) 64 (0, 0)) := heap_alloc_at _ _
  have HZ := hid hz
  clear hz hn
  generalize zSym s 0 = y at ZY hbd hok
  by_cases y0 : y < 0
  · clear hok hbd
    go_enter Tryz.func39, Tryz.ntmps39
    go_wp2_with (first
      | (go_at_call 60; refine (ZL.out _).mono ?_; rintro e w' ⟨rfl, hw⟩; rw [hw]; clear hw)
      | (go_at_call 62; refine (ZY.out _).mono ?_; rintro e w' ⟨rfl, hw⟩; rw [hw]; clear hw)
      | (refine wpList_store_row rfl 64 _ _ rfl w.heap.size _ rfl rfl _ _ HZ.out szZL rfl (zl_one rfl rfl) ?_))
    refine bodyPost_ret (zres1 rfl _ _ w.heap.size 64 _ (0, 0) _ rfl (setRow_heap _ _ _ _ _ _ HZ.out) Tryz.underlying64 rfl szZL) rfl ⟨rfl, ?_⟩
    exact ((Mod.refl _ w).alloc _).setRow (by simp) _
  · obtain ⟨j, rfl⟩ : ∃ j : Nat, y = j := ⟨y.toNat, by omega⟩
    by_cases hj : j < s.size
    · have hb := atB_ix hj
      rw [hb] at hok
      have q1 : ((s[j].toNat : Int) != 58) = true := by
        have : ¬ (s[j].toNat : Int) = 58 := fun q => hok ⟨by omega, q⟩
        simpa using this
      have hbl : s[j].toNat < 256 := s[j].toNat_lt
      have k3 : ¬ (s.size : Int) ≤ (j : Int) := by omega
      have k4 : (j : Int) < (s.size : Int) := by omega
      clear hb hok hbd
      go_enter Tryz.func39, Tryz.ntmps39
      go_wp2_with (first
        | (go_at_call 60; refine (ZL.out _).mono ?_; rintro e w' ⟨rfl, hw⟩; rw [hw]; clear hw)
        | (go_at_call 62; refine (ZY.out _).mono ?_; rintro e w' ⟨rfl, hw⟩; rw [hw]; clear hw)
        | (refine wpList_store_row rfl 64 _ _ rfl w.heap.size _ rfl rfl _ _ HZ.out szZL rfl (zl_one rfl rfl) ?_))
      refine bodyPost_ret (zres1 rfl _ _ w.heap.size 64 _ (0, 0) _ rfl (setRow_heap _ _ _ _ _ _ HZ.out) Tryz.underlying64 rfl szZL) rfl ⟨rfl, ?_⟩
      exact ((Mod.refl _ w).alloc _).setRow (by simp) _
    · have k3 : (s.size : Int) ≤ (j : Int) := by omega
      clear hok hbd
      go_enter Tryz.func39, Tryz.ntmps39
      go_wp2_with (first
        | (go_at_call 60; refine (ZL.out _).mono ?_; rintro e w' ⟨rfl, hw⟩; rw [hw]; clear hw)
        | (go_at_call 62; refine (ZY.out _).mono ?_; rintro e w' ⟨rfl, hw⟩; rw [hw]; clear hw)
        | (refine wpList_store_row rfl 64 _ _ rfl w.heap.size _ rfl rfl _ _ HZ.out szZL rfl (zl_one rfl rfl) ?_))
      refine bodyPost_ret (zres1 rfl _ _ w.heap.size 64 _ (0, 0) _ rfl (setRow_heap _ _ _ _ _ _ HZ.out) Tryz.underlying64 rfl szZL) rfl ⟨rfl, ?_⟩
      exact ((Mod.refl _ w).alloc _).setRow (by simp) _
end Go.Proofs.YtcpgklcimacngaaGreat
