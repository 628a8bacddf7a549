import Derived.Test.YtcpgklcimacngaaGreatPrs5
import Derived.Deep.QuietTactic
import Derived.BigQuiet
import Derived.Deep.OwnRows
namespace Go.Proofs.YtcpgklcimacngaaGreat
open Go.RowKit
set_option linter.unusedVariables false
set_option linter.unusedSimpArgs false

abbrev cptr (cb : Nat) : Value := .pointer (some ⟨cb, 0, none⟩)

/-- The cells that the crowd's methods read. -/
theorem CrAt.facts {w : World} {cb lb ib n : Nat} {l : List Nat} (h : CrAt w cb lb ib n l) :
    (w.cell? ⟨cb, 0, none⟩ = some (.slice (some ⟨lb, 0, none⟩) n n) ∧ w.cell? ⟨cb, 1, none⟩ = some (.int .i64 l.length) ∧ w.cell? ⟨cb, 2, none⟩ = some (.slice (some ⟨ib, 0, none⟩) n n)) ∧
    (∀ j, j < n → w.cell? ⟨ib, j, none⟩ = some (.bool (decide (j ∈ l)))) ∧
    (∀ j (hj : j < l.length), w.cell? ⟨lb, j, none⟩ = some (.int .i64 l[j])) ∧
    (∀ j, j < n → ∃ x : Int, w.cell? ⟨lb, j, none⟩ = some (.int .i64 x)) ∧
    (∀ o, w.frozen? ⟨cb, o, none⟩ = false) ∧ (∀ o, w.frozen? ⟨lb, o, none⟩ = false) ∧ (∀ o, w.frozen? ⟨ib, o, none⟩ = false) := by
  obtain ⟨ls, h1, h2, h3⟩ := h.lst
  refine ⟨⟨by rw [cellOf h.blk]; rfl, by rw [cellOf h.blk]; rfl, by rw [cellOf h.blk]; rfl⟩, ?_, ?_, ?_, frozenOf h.blk, frozenOf h3, frozenOf h.ins⟩
  · intro j hj; rw [cellOf h.ins, boolsOf_at _ _ _ hj]
  · intro j hj
    have hl := nodup_len h.nodup h.lt
    rw [cellOf h3, i64s_at _ _ (by omega)]
    have : (ls.take l.length)[j]? = (l.map Int.ofNat)[j]? := by rw [h2]
    rw [List.getElem?_take_of_lt hj] at this
    simp [hj] at this
    simp [this]
  · intro j hj; exact ⟨_, by rw [cellOf h3, i64s_at _ _ (by omega)]⟩

theorem CrAt.of_heap {w w' : World} {cb lb ib n : Nat} {l : List Nat} (h : CrAt w cb lb ib n l) (e : w'.heap = w.heap) : CrAt w' cb lb ib n l := by
  obtain ⟨ls, h1, h2, h3⟩ := h.lst
  exact ⟨h.nodup, h.lt, by rw [e]; exact h.blk, ⟨ls, h1, h2, by rw [e]; exact h3⟩, by rw [e]; exact h.ins, h.d1, h.d2, h.d3⟩
theorem Mod.of_heap {S : Nat → Prop} {a w w' : World} (h : Mod S a w) (e : w'.heap = w.heap) (e1 : w'.os = w.os) (e2 : w'.tape = w.tape) (e3 : w'.output = w.output) : Mod S a w' :=
  ⟨e1.trans h.os, e2.trans h.tape, e3.trans h.output, by rw [e]; exact h.size, fun k hk hs => by rw [e]; exact h.block k hk hs⟩

set_option maxHeartbeats 2000000 in
theorem member_in (w : World) (cb lb ib n : Nat) (l : List Nat) (i : Nat) (h : CrAt w cb lb ib n l) (hn : n ≤ 100000) (hi : i < l.length) :
    Calls Tryz.prog 88 #[cptr cb, .int .i64 i] w fun e w' => e = .returned (.int .i64 l[i]) ∧ w' = w := by
  obtain ⟨⟨f1, f2, f3⟩, _, f5, _⟩ := h.facts
  have f6 := f5 i hi
  have hl := nodup_len h.nodup h.lt
  clear f5 h
  have hi' : (i : Int) < n := by omega
  go_enter Tryz.func88, Tryz.ntmps88
  go_wp2
  go_ret
  exact ⟨rfl, rfl⟩

set_option maxHeartbeats 2000000 in
theorem holds_any (w : World) (cb lb ib n : Nat) (l : List Nat) (m : Int) (h : CrAt w cb lb ib n l) (hn : n ≤ 100000) :
    Calls Tryz.prog 76 #[cptr cb, .int .i64 m] w fun e w' => e = .returned (.bool (decide (0 ≤ m ∧ m < n ∧ m.toNat ∈ l))) ∧ w' = w := by
  obtain ⟨⟨f1, f2, f3⟩, f4, _⟩ := h.facts
  by_cases h0 : 0 ≤ m
  · by_cases h1 : m < n
    · obtain ⟨k, rfl⟩ : ∃ k : Nat, m = k := ⟨m.toNat, by omega⟩
      have f6 := f4 k (by omega)
      clear f4 h
      go_enter Tryz.func76, Tryz.ntmps76
      go_wp2
      go_ret
      exact ⟨ret_bool (by simp; omega), rfl⟩
    · clear f4 h
      have h2 : (n : Int) ≤ m := by omega
      go_enter Tryz.func76, Tryz.ntmps76
      go_wp2
      go_ret
      exact ⟨ret_bool (by simp; omega), rfl⟩
  · clear f4 h
    have h2 : m < 0 := by omega
    go_enter Tryz.func76, Tryz.ntmps76
    go_wp2
    go_ret
    exact ⟨ret_bool (by simp; omega), rfl⟩

set_option maxHeartbeats 2000000 in
theorem enter_in (w : World) (cb lb ib n : Nat) (l : List Nat) (m : Nat) (h : CrAt w cb lb ib n l) (hn : n ≤ 100000) (hm : m < n) (hm2 : m ∉ l) :
    Calls Tryz.prog 74 #[cptr cb, .int .i64 m] w fun e w' => e = .returned (.tuple #[]) ∧ CrAt w' cb lb ib n (enterF n l m) ∧ Mod (cfoot cb lb ib) w w' := by
  obtain ⟨⟨f1, f2, f3⟩, f4, _, f5, z1, z2, z3⟩ := h.facts
  have hl := nodup_len_lt h.nodup h.lt hm hm2
  have f6 := f4 m hm
  obtain ⟨x, f7⟩ := f5 l.length hl
  have hd : decide (m ∈ l) = false := by simpa using hm2
  rw [hd] at f6
  have H := hid h
  have d1 := h.d1
  have d2 := h.d2
  have d3 := h.d3
  have b1 : (m : Int) < (n : Int) := by omega
  have b2 : ((l.length : Nat) : Int) < (n : Int) := by omega
  have b3 : decide ((m : Int) < 0) = false := by simp
  have b4 : decide ((n : Int) ≤ (m : Int)) = false := by simp; omega
  have b5 : decide (n ≤ m) = false := by simp; omega
  have HM := hid hm2
  clear f4 f5 h hd hm2
  go_enter Tryz.func74, Tryz.ntmps74
  go_wp2_with fail
  go_quiet (fail)
  go_wp2
  go_region
  all_goals
    go_wp2
    refine bodyPost_end (results_none rfl _ _ _) rfl ⟨rfl, ?_, ?_⟩
    · rw [enterF_yes hm HM.out]; exact CrAt.of_heap (H.out.entered hm HM.out) rfl
    · exact Mod.of_heap ((((Mod.refl _ w).setCell (p := ⟨ib, m, none⟩) (fun _ => .inr (.inr rfl)) (.bool true)).setCell (p := ⟨lb, l.length, none⟩) (fun _ => .inr (.inl rfl)) (.int .i64 m)).setCell (p := ⟨cb, 1, none⟩) (fun _ => .inl rfl) (.int .i64 (l.length + 1))) rfl rfl rfl rfl

set_option maxHeartbeats 2000000 in
theorem enter_neg (w : World) (cb lb ib n : Nat) (l : List Nat) (m : Int) (h : CrAt w cb lb ib n l) (hm : m < 0) :
    Calls Tryz.prog 74 #[cptr cb, .int .i64 m] w fun e w' => e = .returned (.tuple #[]) ∧ CrAt w' cb lb ib n (enterF n l m) ∧ Mod (cfoot cb lb ib) w w' := by
  have e1 : enterF n l m = l := enterF_no (by omega)
  rw [e1]
  have H := hid h
  have b3 : decide (m < 0) = true := by simpa using hm
  clear h e1
  go_enter Tryz.func74, Tryz.ntmps74
  go_wp2_with fail
  go_quiet (fail)
  go_wp2
  refine bodyPost_ret (results_none rfl _ _ _) rfl ⟨rfl, CrAt.of_heap H.out rfl, Mod.of_heap (Mod.refl _ w) rfl rfl rfl rfl⟩

set_option maxHeartbeats 2000000 in
theorem enter_great (w : World) (cb lb ib n : Nat) (l : List Nat) (m : Int) (h : CrAt w cb lb ib n l) (hn : n ≤ 100000) (h0 : 0 ≤ m) (hm : (n : Int) ≤ m) :
    Calls Tryz.prog 74 #[cptr cb, .int .i64 m] w fun e w' => e = .returned (.tuple #[]) ∧ CrAt w' cb lb ib n (enterF n l m) ∧ Mod (cfoot cb lb ib) w w' := by
  have e1 : enterF n l m = l := enterF_no (by omega)
  rw [e1]
  have H := hid h
  obtain ⟨⟨f1, f2, f3⟩, _⟩ := h.facts
  have b3 : decide (m < 0) = false := by simpa using h0
  have b4 : decide ((n : Int) ≤ m) = true := by simpa using hm
  clear h e1
  go_enter Tryz.func74, Tryz.ntmps74
  go_wp2_with fail
  go_quiet (fail)
  go_wp2
  refine bodyPost_ret (results_none rfl _ _ _) rfl ⟨rfl, CrAt.of_heap H.out rfl, Mod.of_heap (Mod.refl _ w) rfl rfl rfl rfl⟩

set_option maxHeartbeats 2000000 in
theorem enter_has (w : World) (cb lb ib n : Nat) (l : List Nat) (m : Nat) (h : CrAt w cb lb ib n l) (hn : n ≤ 100000) (hm : m < n) (hm2 : m ∈ l) :
    Calls Tryz.prog 74 #[cptr cb, .int .i64 m] w fun e w' => e = .returned (.tuple #[]) ∧ CrAt w' cb lb ib n (enterF n l m) ∧ Mod (cfoot cb lb ib) w w' := by
  have e1 : enterF n l m = l := enterF_no (by simp [hm2])
  rw [e1]
  have H := hid h
  obtain ⟨⟨f1, f2, f3⟩, f4, _⟩ := h.facts
  have f6 := f4 m hm
  have hd : decide (m ∈ l) = true := by simpa using hm2
  rw [hd] at f6
  have b1 : (m : Int) < (n : Int) := by omega
  have b3 : decide ((m : Int) < 0) = false := by simp
  have b4 : decide ((n : Int) ≤ (m : Int)) = false := by simp; omega
  have b5 : decide (n ≤ m) = false := by simp; omega
  clear h e1 f4 hm2 hd
  go_enter Tryz.func74, Tryz.ntmps74
  go_wp2_with fail
  go_quiet (fail)
  go_wp2
  refine bodyPost_ret (results_none rfl _ _ _) rfl ⟨rfl, CrAt.of_heap H.out rfl, Mod.of_heap (Mod.refl _ w) rfl rfl rfl rfl⟩

theorem enter_any (w : World) (cb lb ib n : Nat) (l : List Nat) (m : Int) (h : CrAt w cb lb ib n l) (hn : n ≤ 100000) :
    Calls Tryz.prog 74 #[cptr cb, .int .i64 m] w fun e w' => e = .returned (.tuple #[]) ∧ CrAt w' cb lb ib n (enterF n l m) ∧ Mod (cfoot cb lb ib) w w' := by
  by_cases h0 : m < 0
  · exact enter_neg w cb lb ib n l m h h0
  · by_cases h1 : (n : Int) ≤ m
    · exact enter_great w cb lb ib n l m h hn (by omega) h1
    · obtain ⟨k, rfl⟩ : ∃ k : Nat, m = k := ⟨m.toNat, by omega⟩
      by_cases h2 : k ∈ l
      · exact enter_has w cb lb ib n l k h hn (by omega) h2
      · exact enter_in w cb lb ib n l k h hn (by omega) h2
end Go.Proofs.YtcpgklcimacngaaGreat
namespace Go.Proofs.YtcpgklcimacngaaGreat
open Go.RowKit
set_option linter.unusedVariables false
set_option linter.unusedSimpArgs false

theorem made_int (n : Nat) : madeCells #[.int .i64 0] n = i64s (List.replicate n 0) := by
  unfold madeCells i64s
  apply Array.ext_getElem?
  intro i
  by_cases h : i < n <;> simp [h, Nat.mod_one]
theorem made_bool (n : Nat) : madeCells #[.bool false] n = boolsOf n [] := by
  unfold madeCells boolsOf
  apply Array.ext_getElem?
  intro i
  by_cases h : i < n <;> simp [h, Nat.mod_one]

set_option maxHeartbeats 2000000 in
theorem newCrowd_any (w : World) (n : Nat) (hn : n ≤ 100000) :
    Calls Tryz.prog 73 #[.int .i64 n] w fun e w' => ∃ cb lb ib, e = .returned (cptr cb) ∧ CrAt w' cb lb ib n [] ∧ Fresh w w' ∧ (∀ k, cfoot cb lb ib k → w.heap.size ≤ k) := by
  have h1 := fun w => run_make_row' (P := Tryz.prog) 50 3 (.int .i64 0) 8 Tryz.underlying50 (by kernel_rfl) rfl .i64 .i64 n (by omega) (by omega) w
  have h2 := fun w => run_make_row' (P := Tryz.prog) 69 4 (.bool false) 1 Tryz.underlying69 (by kernel_rfl) rfl .i64 .i64 n (by omega) (by omega) w
  go_enter Tryz.func73, Tryz.ntmps73
  go_wp2_with fail
  go_region
  all_goals
    go_wp2
    go_ret
  · refine ⟨w.heap.size + 2, w.heap.size, w.heap.size + 1, rfl, ⟨by simp, by simp, ?_, ⟨List.replicate n 0, by simp, by simp, ?_⟩, ?_, by omega, by omega, by omega⟩, Mod.of_heap ((((Mod.refl _ w).alloc _).alloc _).alloc _) rfl rfl rfl rfl, ?_⟩
    · exact heap_alloc3_3 _ _ _ _
    · rw [← made_int]; exact heap_alloc3_1 _ _ _ _
    · rw [← made_bool]; exact heap_alloc3_2 _ _ _ _
    · intro k hk; rcases hk with rfl | rfl | rfl <;> omega
  · refine ⟨w.heap.size + 2, w.heap.size + 1, w.heap.size, rfl, ⟨by simp, by simp, ?_, ⟨List.replicate n 0, by simp, by simp, ?_⟩, ?_, by omega, by omega, by omega⟩, Mod.of_heap ((((Mod.refl _ w).alloc _).alloc _).alloc _) rfl rfl rfl rfl, ?_⟩
    · exact heap_alloc3_3 _ _ _ _
    · rw [← made_int]; exact heap_alloc3_2 _ _ _ _
    · rw [← made_bool]; exact heap_alloc3_1 _ _ _ _
    · intro k hk; rcases hk with rfl | rfl | rfl <;> omega

set_option maxHeartbeats 2000000 in
theorem empty_any (w : World) (cb lb ib n : Nat) (l : List Nat) (h : CrAt w cb lb ib n l) (hn : n ≤ 100000) :
    Calls Tryz.prog 77 #[cptr cb] w fun e w' => e = .returned (.tuple #[]) ∧ CrAt w' cb lb ib n [] ∧ Mod (cfoot cb lb ib) w w' := by
  obtain ⟨⟨f1, f2, f3⟩, f4, _, f5, z1, z2, z3⟩ := h.facts
  have H := hid h
  clear f4 f5 h
  go_enter Tryz.func77, Tryz.ntmps77
  go_wp2
  go_loopw [8] (fun i wr => ∃ k : Nat, i = .int .i64 k ∧ k ≤ n ∧ wr.heap[cb]? = w.heap[cb]? ∧ wr.heap[lb]? = w.heap[lb]? ∧
      (∃ bs : Array Value, bs.size = n ∧ wr.heap[ib]? = some (.cells bs 4 (0, 0)) ∧ ∀ j, j < k → bs[j]? = some (.bool false)) ∧ Mod (cfoot cb lb ib) w wr)
      (fun i _ => n - (intOf i).toNat)
  case atStart => exact ⟨0, rfl, by omega, rfl, rfl, ⟨boolsOf n l, by simp [boolsOf], H.out.ins, by omega⟩, Mod.refl _ _⟩
  case round =>
    obtain ⟨k, rfl, hk, hb, hb2, ⟨bs, hbs, hb3, hall⟩, hmod⟩ := hrel
    have c1 := cellOf (hb.trans H.out.blk)
    have c4 := frozenOf (hb.trans H.out.blk)
    by_cases hx : k < n
    · have c2 : wr.cell? ⟨ib, k, none⟩ = some bs[k] := by rw [cellOf hb3]; simp
      have c3 := frozenOf hb3
      have HB := hid hb
      have HB2 := hid hb2
      have HB3 := hid hb3
      have HA := hid hall
      clear hb hb2 hb3 hall
      go_wp2
      go_roundw
      case rel =>
        refine ⟨k + 1, by go_num, by omega, ?_, ?_, ⟨bs.setIfInBounds k (.bool false), by simpa using hbs, Proofs.YtcpgklcimacngaaGreat.heap_setCell_same HB3.out _ _, ?_⟩, ?_⟩
        · rw [Proofs.YtcpgklcimacngaaGreat.heap_setCell_other _ (by simpa using H.out.d2)]; exact HB.out
        · rw [Proofs.YtcpgklcimacngaaGreat.heap_setCell_other _ (by simpa using H.out.d3)]; exact HB2.out
        · intro j hj
          rw [Array.getElem?_setIfInBounds]
          by_cases e : k = j
          · rw [if_pos e, if_pos (by omega)]
          · rw [if_neg e]; exact HA.out j (by omega)
        · exact hmod.setCell (fun _ => .inr (.inr rfl)) _
      case measure => simp [intOf]; omega
    · have hkn : k = n := by omega
      subst hkn
      have HB := hid hb
      have HB2 := hid hb2
      have HB3 := hid hb3
      have HA := hid hall
      clear hb hb2 hb3 hall
      go_wp2
      refine bodyPost_end (results_none rfl _ _ _) rfl ⟨rfl, ?_, hmod.setCell (fun _ => .inl rfl) _⟩
      obtain ⟨ls, h1, h2, h3⟩ := H.out.lst
      refine ⟨by simp, by simp, ?_, ⟨ls, h1, by simp, ?_⟩, ?_, H.out.d1, H.out.d2, H.out.d3⟩
      · rw [Proofs.YtcpgklcimacngaaGreat.heap_setCell_same (HB.out.trans H.out.blk) 1 _]; simp
      · exact heap_setCell_prev (HB2.out.trans h3) (by simpa using H.out.d1.symm)
      · refine heap_setCell_prev ?_ (by simpa using H.out.d2.symm)
        rw [HB3.out]
        have : bs = boolsOf k [] := by
          apply Array.ext_getElem?
          intro i
          by_cases hi : i < k
          · rw [HA.out i hi, boolsOf_at _ _ _ hi]; simp
          · rw [Array.getElem?_eq_none (by omega), Array.getElem?_eq_none (by simp [boolsOf]; omega)]
        rw [this]
end Go.Proofs.YtcpgklcimacngaaGreat
namespace Go.Proofs.YtcpgklcimacngaaGreat
open Go.RowKit
set_option linter.unusedVariables false
set_option linter.unusedSimpArgs false

theorem NodesAt.cell {w : World} {g n cap : Nat} {ns : List Node} (h : NodesAt w (.slice (some ⟨g, 0, none⟩) n cap) ns) (i j : Nat) (hi : i < ns.length) (hj : j < 7) : w.cell? ⟨g, i * 7 + j, none⟩ = (ns[i]).cells[j]? := by
  have hlt : j < (ns[i]).cells.length := by rw [Node.cells_len (h.wf _ (by simp))]; exact hj
  have := h.own.cells (g := g) rfl (i * 7 + j) ((ns[i]).cells[j]) (by rw [ncells_at h.wf i j hi hj]; simp)
  rw [Addr.add_mid, Nat.zero_add] at this
  rw [this]; simp
theorem NodesAt.reads {w : World} {g n cap : Nat} {ns : List Node} (h : NodesAt w (.slice (some ⟨g, 0, none⟩) n cap) ns) (i : Nat) (hi : i < ns.length) :
    w.cell? ⟨g, i * 7, none⟩ = some (.bool (ns[i]).reads) ∧ w.cell? ⟨g, i * 7 + 5, none⟩ = some (.int .i64 (ns[i]).next) ∧ w.cell? ⟨g, i * 7 + 6, none⟩ = some (.int .i64 (ns[i]).other) := by
  have hw := h.wf _ (List.getElem_mem hi)
  refine ⟨?_, ?_, ?_⟩
  · have := h.cell i 0 hi (by omega); rw [Node.cells_at hw] at this; simpa using this
  · have := h.cell i 5 hi (by omega); rw [Node.cells_at hw] at this; simpa using this
  · have := h.cell i 6 hi (by omega); rw [Node.cells_at hw] at this; simpa using this

def spreadL (ns : List Node) : Nat → Nat → List Nat → List Nat
  | 0, _, l => l
  | f + 1, i, l =>
    if h : i < l.length then
      match ns[l[i]]? with
      | some nd => if nd.reads then spreadL ns f (i + 1) l else spreadL ns f (i + 1) (enterF ns.length (enterF ns.length l nd.next) nd.other)
      | none => spreadL ns f (i + 1) l
    else l
def spreadF (ns : List Node) (l : List Nat) : List Nat := spreadL ns (ns.length + 1) 0 l

theorem meas {B : Nat} (i : Nat) (h : i < B) : B - (intOf (.int .i64 ((i : Int) + 1))).toNat < B - (intOf (.int .i64 (i : Int))).toNat := by
  simp [intOf]; omega
theorem enterF_len (n : Nat) (l : List Nat) (m : Int) : l.length ≤ (enterF n l m).length := by
  unfold enterF; split <;> simp

set_option maxHeartbeats 2000000 in
theorem spread_any (w : World) (v : Value) (st en : Int) (ns : List Node) (cb lb ib : Nat) (l : List Nat) (hN : NodesAt w v ns) (hC : CrAt w cb lb ib ns.length l) (hn : ns.length ≤ 100000) (hd : ∀ k, v.ownBlock = some k → ¬ cfoot cb lb ib k) :
    Calls Tryz.prog 75 #[patV v st en, cptr cb] w fun e w' => e = .returned (.tuple #[]) ∧ CrAt w' cb lb ib ns.length (spreadF ns l) ∧ Mod (cfoot cb lb ib) w w' := by
  have HNo := hid hN
  have HD := hid hd
  generalize hR : spreadF ns l = R
  have HR : Hid (spreadL ns (ns.length + 1) 0 l = R) := hR
  have HCr := hid hC
  have hcf : ∀ k, cfoot cb lb ib k → k < w.heap.size := fun k hk => hC.foot_lt hk
  have HF := hid hcf
  clear hR hN hC hd hcf
  go_enter Tryz.func75, Tryz.ntmps75
  go_wp2
  go_loopw [4] (fun x wr => ∃ (f i : Nat) (l' : List Nat), x = .int .i64 i ∧ spreadL ns f i l' = R ∧ i ≤ l'.length ∧ ns.length + 1 ≤ f + i ∧ CrAt wr cb lb ib ns.length l' ∧ NodesAt wr v ns ∧
      wr.heap[w.heap.size]? = some (.cells #[v, .int .i64 st, .int .i64 en] 83 (0, 0)) ∧ Mod (cfoot cb lb ib) w wr)
      (fun x _ => 100001 - (intOf x).toNat)
  case atStart =>
    have m1 : Mod (cfoot cb lb ib) w (w.alloc (.cells #[v, .int .i64 st, .int .i64 en] 83 (0, 0))) := (Mod.refl _ w).alloc _
    have m2 : Fresh w (w.alloc (.cells #[v, .int .i64 st, .int .i64 en] 83 (0, 0))) := (Mod.refl _ w).alloc _
    exact ⟨ns.length + 1, 0, l, rfl, HR.out, by omega, by omega, HCr.out.kept m2 (fun _ _ x => x), HNo.out.kept m2 (fun _ _ x => x), heap_alloc_at _ _, m1⟩
  case round =>
    obtain ⟨f, i, l', rfl, hR, hi, hfu, hC, hN, hb, hm⟩ := hrel
    have hlen := nodup_len hC.nodup hC.lt
    obtain ⟨⟨f1, f2, f3⟩, _⟩ := hC.facts
    have HC := hid hC
    have HNn := hid hN
    have HB := hid hb
    have HM := hid hm
    have c1 := cellOf hb
    clear hC hN hb hm
    have HME := hid (meas (B := 100001) i (by omega))
    by_cases hlt : i < l'.length
    · obtain ⟨f, rfl⟩ : ∃ g, f = g + 1 := ⟨f - 1, by omega⟩
      unfold spreadL at hR
      rw [dif_pos hlt] at hR
      have hx : l'[i] < ns.length := HC.out.lt _ (by simp)
      obtain ⟨g, cap, hv⟩ := Joins.ownsRow_form HNn.out.own (by omega)
      rw [List.getElem?_eq_getElem hx] at hR
      simp only [] at hR
      have MI := hid (member_in wr cb lb ib ns.length l' i HC.out hn hlt)
      generalize hm : l'[i] = m at hx hR MI
      subst hv
      obtain ⟨n1, n2, n3⟩ := HNn.out.reads m hx
      have hne : ∀ k, cfoot cb lb ib k → k < w.heap.size := HF.out
      cases hrd : ns[m].reads
      · rw [hrd] at hR n1
        simp only [Bool.false_eq_true, if_false] at hR
        have HRR := hid hR
        have q0 : ¬ cfoot cb lb ib w.heap.size := fun h => by have := hne _ h; omega
        have Q0 := hid q0
        clear hR hm hne q0
        have hc0 := HC.out
        have hN0 := HNn.out
        have hm0 : Mod (cfoot cb lb ib) wr wr := Mod.refl _ _
        go_wp2_with (first
          | (go_at_call 88; refine MI.out.mono ?_; rintro e w' ⟨rfl, hw⟩; rw [hw]; clear hw)
          | (go_at_call 74; refine (enter_any _ cb lb ib _ _ _ hc0 hn).mono ?_; rintro e w1 ⟨rfl, hc1, hm1⟩; replace hm0 := hm0.trans hm1; replace hN0 := hN0.kept hm1 HD.out; clear hc0; have hc0 := hc1; clear hc1 hm1; have c2 := cellOf (hm0.at HB.out Q0.out); have n4 := (hN0.reads m hx).2.2))
        go_roundw
        case rel =>
          have e1 := enterF_len ns.length l' ns[m].next
          have e2 := enterF_len ns.length (enterF ns.length l' ns[m].next) ns[m].other
          exact ⟨f, i + 1, _, by go_num, HRR.out, by omega, by omega, hc0, hN0, hm0.at HB.out Q0.out, HM.out.trans hm0⟩
        case measure => exact HME.out
      · rw [hrd] at hR n1
        simp only [if_true] at hR
        have HRR := hid hR
        clear hR hm hne
        go_wp2_with (first
          | (go_at_call 88; refine MI.out.mono ?_; rintro e w' ⟨rfl, hw⟩; rw [hw]; clear hw))
        go_roundw
        case rel =>
          exact ⟨f, i + 1, l', by go_num, HRR.out, by omega, by omega, HC.out, HNn.out, HB.out, HM.out⟩
        case measure => exact HME.out
    · have hRr : l' = R := by
        rw [← hR]; cases f with
        | zero => rfl
        | succ f => unfold spreadL; rw [dif_neg hlt]
      have HRR := hid hRr
      clear hR hRr
      go_wp2
      refine bodyPost_end (results_none rfl _ _ _) rfl ⟨rfl, ?_, HM.out⟩
      rw [← HRR.out]; exact HC.out
end Go.Proofs.YtcpgklcimacngaaGreat
namespace Go.Proofs.YtcpgklcimacngaaGreat
open Go.RowKit
set_option linter.unusedVariables false
set_option linter.unusedSimpArgs false

def stepOne (ns : List Node) (c : Nat) (acc : List Nat) (m : Nat) : List Nat :=
  match ns[m]? with
  | some nd => if nd.reads && hasB nd.set c then enterF ns.length acc nd.next else acc
  | none => acc
def stepF (ns : List Node) (c : Nat) (l acc : List Nat) : List Nat := l.foldl (stepOne ns c) acc
theorem stepF_take (ns : List Node) (c : Nat) (l acc : List Nat) (i : Nat) (hi : i < l.length) : stepF ns c (l.take (i + 1)) acc = stepOne ns c (stepF ns c (l.take i) acc) l[i] := by
  unfold stepF; rw [List.take_add_one, List.foldl_append]; simp [hi]

theorem NodesAt.range {w : World} {g n cap : Nat} {ns : List Node} (h : NodesAt w (.slice (some ⟨g, 0, none⟩) n cap) ns) (i : Nat) (hi : i < ns.length) :
    w.rangeAt g (i * 7 + 1) ((ns[i]).set.map (Value.int .u64)) := by
  intro j v hj
  have hw := h.wf _ (List.getElem_mem hi)
  have hlt : j < 4 := by have := (List.getElem?_eq_some_iff.1 hj).1; simp [Node.wf] at hw; simpa [hw] using this
  have := h.cell i (j + 1) hi (by omega)
  have e : i * 7 + 1 + j = i * 7 + (j + 1) := by omega
  rw [e, this, Node.cells_at hw, if_neg (by omega), if_pos (by omega)]
  simp at hj
  obtain ⟨a, ha, rfl⟩ := hj
  simp [ha]

theorem step_none (w : World) (v : Value) (st en : Int) (cb cb2 : Nat) :
    Calls Tryz.prog 79 #[patV v st en, cptr cb, .int .i64 (-1), cptr cb2] w fun e w' => e = .returned (.tuple #[]) ∧ Fresh w w' := by
  go_enter Tryz.func79, Tryz.ntmps79
  go_wp2
  exact bodyPost_ret (results_none rfl _ _ _) rfl ⟨rfl, (Mod.refl _ _).alloc _⟩

set_option maxRecDepth 20000 in
set_option maxHeartbeats 2000000 in
theorem step_any (w : World) (v : Value) (st en : Int) (ns : List Node) (cb lb ib cb2 lb2 ib2 : Nat) (l acc : List Nat) (c : Nat) (hc : c ≤ 255) (hN : NodesAt w v ns) (hC : CrAt w cb lb ib ns.length l) (hC2 : CrAt w cb2 lb2 ib2 ns.length acc) (hn : ns.length ≤ 100000)
    (hd : ∀ k, v.ownBlock = some k → ¬ cfoot cb2 lb2 ib2 k) (hd2 : ∀ k, cfoot cb lb ib k → ¬ cfoot cb2 lb2 ib2 k) :
    Calls Tryz.prog 79 #[patV v st en, cptr cb, .int .i64 c, cptr cb2] w fun e w' => e = .returned (.tuple #[]) ∧ CrAt w' cb2 lb2 ib2 ns.length (stepF ns c l acc) ∧ Mod (cfoot cb2 lb2 ib2) w w' := by
  have HNo := hid hN
  have HD := hid hd
  have HD2 := hid hd2
  have HCr := hid hC
  have HCr2 := hid hC2
  have hcf : ∀ k, cfoot cb2 lb2 ib2 k → k < w.heap.size := fun k hk => hC2.foot_lt hk
  have Q0 := hid (show ¬ cfoot cb2 lb2 ib2 w.heap.size from fun h => by have := hcf _ h; omega)
  have hlen := nodup_len hC.nodup hC.lt
  have hc1 : ((c : Int) == -1) = false := by simp
  clear hN hC hC2 hd hd2 hcf
  go_enter Tryz.func79, Tryz.ntmps79
  go_wp2
  go_loopw [8] (fun x wr => ∃ (i : Nat), x = .int .i64 i ∧ i ≤ l.length ∧ CrAt wr cb lb ib ns.length l ∧ CrAt wr cb2 lb2 ib2 ns.length (stepF ns c (l.take i) acc) ∧ NodesAt wr v ns ∧
      wr.heap[w.heap.size]? = some (.cells #[v, .int .i64 st, .int .i64 en] 83 (0, 0)) ∧ Mod (cfoot cb2 lb2 ib2) w wr)
      (fun x _ => 100001 - (intOf x).toNat)
  case atStart =>
    have m1 : Mod (cfoot cb2 lb2 ib2) w (w.alloc (.cells #[v, .int .i64 st, .int .i64 en] 83 (0, 0))) := (Mod.refl _ w).alloc _
    have m2 : Fresh w (w.alloc (.cells #[v, .int .i64 st, .int .i64 en] 83 (0, 0))) := (Mod.refl _ w).alloc _
    exact ⟨0, rfl, by omega, HCr.out.kept m2 (fun _ _ x => x), HCr2.out.kept m2 (fun _ _ x => x), HNo.out.kept m2 (fun _ _ x => x), heap_alloc_at _ _, m1⟩
  case round =>
    obtain ⟨i, rfl, hi, hC, hC2, hN, hb, hm⟩ := hrel
    obtain ⟨⟨f1, f2, f3⟩, _⟩ := hC.facts
    have HC := hid hC
    have HC2 := hid hC2
    have HNn := hid hN
    have HB := hid hb
    have HM := hid hm
    have c1 := cellOf hb
    clear hC hC2 hN hb hm
    have HME := hid (meas (B := 100001) i (by omega))
    by_cases hlt : i < l.length
    · have hx : l[i] < ns.length := HC.out.lt _ (by simp)
      obtain ⟨g, cap, hv⟩ := Joins.ownsRow_form HNn.out.own (by omega)
      have HST := hid (stepF_take ns c l acc i hlt)
      have MI := hid (member_in wr cb lb ib ns.length l i HC.out hn hlt)
      generalize hm : l[i] = m at hx HST MI
      subst hv
      obtain ⟨n1, n2, n3⟩ := HNn.out.reads m hx
      have RG := hid (HNn.out.range m hx)
      have hw4 := hid (HNn.out.wf _ (List.getElem_mem hx))
      have SZ : Hid ((Tryz.prog.info? 149).map (·.size) = some (((ns[m]).set.map (Value.int .u64)).length)) := by
        have := hw4.out; unfold Node.wf at this; unfold Hid; rw [List.length_map, this]; exact szSet
      clear hm
      cases hrd : ns[m].reads
      · rw [hrd] at n1
        have HS2 : Hid (stepF ns c (l.take (i + 1)) acc = stepF ns c (l.take i) acc) := by
          unfold Hid; rw [HST.out]; unfold stepOne; rw [List.getElem?_eq_getElem hx]; simp [hrd]
        go_wp2_with (first
          | (go_at_call 88; refine MI.out.mono ?_; rintro e w' ⟨rfl, hw⟩; rw [hw]; clear hw))
        go_roundw
        case rel =>
          exact ⟨i + 1, by go_num, by omega, HC.out, by rw [HS2.out]; exact HC2.out, HNn.out, HB.out, HM.out⟩
        case measure => exact HME.out
      · rw [hrd] at n1
        cases hhas : hasB ns[m].set c
        · have HS2 : Hid (stepF ns c (l.take (i + 1)) acc = stepF ns c (l.take i) acc) := by
            unfold Hid; rw [HST.out]; unfold stepOne; rw [List.getElem?_eq_getElem hx]; simp [hhas]
          go_wp2_with (first
            | (go_at_call 88; refine MI.out.mono ?_; rintro e w' ⟨rfl, hw⟩; rw [hw]; clear hw)
            | (go_at_call 89; refine (has_any ns[m].set c _ hw4.out hc).mono ?_; rw [hhas]; rintro e w1 ⟨rfl, hf⟩)
            | (refine wpList_load_mid rfl 149 _ rfl g (m * 7 + 1) rfl ((ns[m]).set.map (Value.int .u64)) _ RG.out Tryz.underlying149 rfl SZ.out ?_))
          go_roundw
          case rel =>
            exact ⟨i + 1, by go_num, by omega, HC.out.kept hf (fun _ _ x => x), by rw [HS2.out]; exact HC2.out.kept hf (fun _ _ x => x), HNn.out.kept hf (fun _ _ x => x), hf.at HB.out (fun x => x), HM.out.trans (hf.mono (fun _ _ x => x.elim))⟩
          case measure => exact HME.out
        · have HS2 : Hid (stepF ns c (l.take (i + 1)) acc = enterF ns.length (stepF ns c (l.take i) acc) ns[m].next) := by
            unfold Hid; rw [HST.out]; unfold stepOne; rw [List.getElem?_eq_getElem hx]; simp [hhas, hrd]
          go_wp2_with (first
            | (go_at_call 88; refine MI.out.mono ?_; rintro e w' ⟨rfl, hw⟩; rw [hw]; clear hw)
            | (go_at_call 89; refine (has_any ns[m].set c _ hw4.out hc).mono ?_; rw [hhas]; rintro e w1 ⟨rfl, hf⟩; have c2 := cellOf (hf.at HB.out (fun x => x)); have n4 := ((HNn.out.kept hf (fun _ _ x => x)).reads m hx).2.1)
            | (go_at_call 74; refine (enter_any w1 cb2 lb2 ib2 _ _ _ (HC2.out.kept hf (fun _ _ x => x)) hn).mono ?_; rintro e w2 ⟨rfl, hc2, hm2⟩)
            | (refine wpList_load_mid rfl 149 _ rfl g (m * 7 + 1) rfl ((ns[m]).set.map (Value.int .u64)) _ RG.out Tryz.underlying149 rfl SZ.out ?_))
          go_roundw
          case rel =>
            exact ⟨i + 1, by go_num, by omega, (HC.out.kept hf (fun _ _ x => x)).kept hm2 HD2.out, by rw [HS2.out]; exact hc2, (HNn.out.kept hf (fun _ _ x => x)).kept hm2 HD.out, hm2.at (hf.at HB.out (fun x => x)) Q0.out, (HM.out.trans (hf.mono (fun _ _ x => x.elim))).trans hm2⟩
          case measure => exact HME.out
    · have hie : i = l.length := by omega
      subst hie
      go_wp2
      refine bodyPost_end (results_none rfl _ _ _) rfl ⟨rfl, ?_, HM.out⟩
      have := HC2.out; rw [List.take_length] at this; exact this
end Go.Proofs.YtcpgklcimacngaaGreat
