import Derived.Test.YtdbdkdekeicmhaaCrw1
import Derived.Deep.OwnRows
namespace Go.Proofs.Ytdbdkdekeicmhaa
open Go.RowKit
set_option linter.unusedVariables false
set_option linter.unusedSimpArgs false

theorem made_int (n : Nat) : madeCells #[.int .i64 0] n = i64s (List.replicate n 0) := by
  unfold madeCells i64s
  apply Array.ext_getElem?
  intro i
  by_cases h : i < n <;> simp [h, Nat.mod_one]
theorem made_bool (n : Nat) : madeCells #[.bool false] n = boolsOf n [] := by
  unfold madeCells boolsOf
  apply Array.ext_getElem?
  intro i
  by_cases h : i < n <;> simp [h, Nat.mod_one]

set_option maxHeartbeats 2000000 in
theorem newCrowd_any (w : World) (n : Nat) (hn : n ≤ 100000) :
    Calls Try.prog 26 #[.int .i64 n] w fun e w' => ∃ cb lb ib, e = .returned (cptr cb) ∧ CrAt w' cb lb ib n [] ∧ Fresh w w' ∧ (∀ k, cfoot cb lb ib k → w.heap.size ≤ k) := by
  have h1 := fun w => run_make_row' (P := Try.prog) 67 3 (.int .i64 0) 8 Try.underlying67 (by kernel_rfl) rfl .i64 .i64 n (by omega) (by omega) w
  have h2 := fun w => run_make_row' (P := Try.prog) 33 4 (.bool false) 1 Try.underlying33 (by kernel_rfl) rfl .i64 .i64 n (by omega) (by omega) w
  go_enter Try.func26, Try.ntmps26
  go_wp2_with fail
  go_region
  all_goals
    go_wp2
    go_ret
  · refine ⟨w.heap.size + 2, w.heap.size, w.heap.size + 1, rfl, ⟨by simp, by simp, ?_, ⟨List.replicate n 0, by simp, by simp, ?_⟩, ?_, by omega, by omega, by omega⟩, Mod.of_heap ((((Mod.refl _ w).alloc _).alloc _).alloc _) rfl rfl rfl rfl, ?_⟩
    · exact heap_alloc3_3 _ _ _ _
    · rw [← made_int]; exact heap_alloc3_1 _ _ _ _
    · rw [← made_bool]; exact heap_alloc3_2 _ _ _ _
    · intro k hk; rcases hk with rfl | rfl | rfl <;> omega
  · refine ⟨w.heap.size + 2, w.heap.size + 1, w.heap.size, rfl, ⟨by simp, by simp, ?_, ⟨List.replicate n 0, by simp, by simp, ?_⟩, ?_, by omega, by omega, by omega⟩, Mod.of_heap ((((Mod.refl _ w).alloc _).alloc _).alloc _) rfl rfl rfl rfl, ?_⟩
    · exact heap_alloc3_3 _ _ _ _
    · rw [← made_int]; exact heap_alloc3_2 _ _ _ _
    · rw [← made_bool]; exact heap_alloc3_1 _ _ _ _
    · intro k hk; rcases hk with rfl | rfl | rfl <;> omega

set_option maxHeartbeats 2000000 in
theorem empty_any (w : World) (cb lb ib n : Nat) (l : List Nat) (h : CrAt w cb lb ib n l) (hn : n ≤ 100000) :
    Calls Try.prog 30 #[cptr cb] w fun e w' => e = .returned (.tuple #[]) ∧ CrAt w' cb lb ib n [] ∧ Mod (cfoot cb lb ib) w w' := by
  obtain ⟨⟨f1, f2, f3⟩, f4, _, f5, z1, z2, z3⟩ := h.facts
  have H := hid h
  clear f4 f5 h
  go_enter Try.func30, Try.ntmps30
  go_wp2
  go_loopw [8] (fun i wr => ∃ k : Nat, i = .int .i64 k ∧ k ≤ n ∧ wr.heap[cb]? = w.heap[cb]? ∧ wr.heap[lb]? = w.heap[lb]? ∧
      (∃ bs : Array Value, bs.size = n ∧ wr.heap[ib]? = some (.cells bs 4 (0, 0)) ∧ ∀ j, j < k → bs[j]? = some (.bool false)) ∧ Mod (cfoot cb lb ib) w wr)
      (fun i _ => n - (intOf i).toNat)
  case atStart => exact ⟨0, rfl, by omega, rfl, rfl, ⟨boolsOf n l, by simp [boolsOf], H.out.ins, by omega⟩, Mod.refl _ _⟩
  case round =>
    obtain ⟨k, rfl, hk, hb, hb2, ⟨bs, hbs, hb3, hall⟩, hmod⟩ := hrel
    have c1 := cellOf (hb.trans H.out.blk)
    have c4 := frozenOf (hb.trans H.out.blk)
    by_cases hx : k < n
    · have c2 : wr.cell? ⟨ib, k, none⟩ = some bs[k] := by rw [cellOf hb3]; simp
      have c3 := frozenOf hb3
      have HB := hid hb
      have HB2 := hid hb2
      have HB3 := hid hb3
      have HA := hid hall
      clear hb hb2 hb3 hall
      go_wp2
      go_roundw
      case rel =>
        refine ⟨k + 1, by go_num, by omega, ?_, ?_, ⟨bs.setIfInBounds k (.bool false), by simpa using hbs, Proofs.Ytdbdkdekeicmhaa.heap_setCell_same HB3.out _ _, ?_⟩, ?_⟩
        · rw [Proofs.Ytdbdkdekeicmhaa.heap_setCell_other _ (by simpa using H.out.d2)]; exact HB.out
        · rw [Proofs.Ytdbdkdekeicmhaa.heap_setCell_other _ (by simpa using H.out.d3)]; exact HB2.out
        · intro j hj
          rw [Array.getElem?_setIfInBounds]
          by_cases e : k = j
          · rw [if_pos e, if_pos (by omega)]
          · rw [if_neg e]; exact HA.out j (by omega)
        · exact hmod.setCell (fun _ => .inr (.inr rfl)) _
      case measure => simp [intOf]; omega
    · have hkn : k = n := by omega
      subst hkn
      have HB := hid hb
      have HB2 := hid hb2
      have HB3 := hid hb3
      have HA := hid hall
      clear hb hb2 hb3 hall
      go_wp2
      refine bodyPost_end (results_none rfl _ _ _) rfl ⟨rfl, ?_, hmod.setCell (fun _ => .inl rfl) _⟩
      obtain ⟨ls, h1, h2, h3⟩ := H.out.lst
      refine ⟨by simp, by simp, ?_, ⟨ls, h1, by simp, ?_⟩, ?_, H.out.d1, H.out.d2, H.out.d3⟩
      · rw [Proofs.Ytdbdkdekeicmhaa.heap_setCell_same (HB.out.trans H.out.blk) 1 _]; simp
      · exact heap_setCell_prev (HB2.out.trans h3) (by simpa using H.out.d1.symm)
      · refine heap_setCell_prev ?_ (by simpa using H.out.d2.symm)
        rw [HB3.out]
        have : bs = boolsOf k [] := by
          apply Array.ext_getElem?
          intro i
          by_cases hi : i < k
          · rw [HA.out i hi, boolsOf_at _ _ _ hi]; simp
          · rw [Array.getElem?_eq_none (by omega), Array.getElem?_eq_none (by simp [boolsOf]; omega)]
        rw [this]
end Go.Proofs.Ytdbdkdekeicmhaa
namespace Go.Proofs.Ytdbdkdekeicmhaa
open Go.RowKit
set_option linter.unusedVariables false
set_option linter.unusedSimpArgs false

theorem NodesAt.cell {w : World} {g n cap : Nat} {ns : List Node} (h : NodesAt w (.slice (some ⟨g, 0, none⟩) n cap) ns) (i j : Nat) (hi : i < ns.length) (hj : j < 7) : w.cell? ⟨g, i * 7 + j, none⟩ = (ns[i]).cells[j]? := by
  have hlt : j < (ns[i]).cells.length := by rw [Node.cells_len (h.wf _ (by simp))]; exact hj
  have := h.own.cells (g := g) rfl (i * 7 + j) ((ns[i]).cells[j]) (by rw [ncells_at h.wf i j hi hj]; simp)
  rw [Addr.add_mid, Nat.zero_add] at this
  rw [this]; simp
theorem NodesAt.reads {w : World} {g n cap : Nat} {ns : List Node} (h : NodesAt w (.slice (some ⟨g, 0, none⟩) n cap) ns) (i : Nat) (hi : i < ns.length) :
    w.cell? ⟨g, i * 7, none⟩ = some (.bool (ns[i]).reads) ∧ w.cell? ⟨g, i * 7 + 5, none⟩ = some (.int .i64 (ns[i]).next) ∧ w.cell? ⟨g, i * 7 + 6, none⟩ = some (.int .i64 (ns[i]).other) := by
  have hw := h.wf _ (List.getElem_mem hi)
  refine ⟨?_, ?_, ?_⟩
  · have := h.cell i 0 hi (by omega); rw [Node.cells_at hw] at this; simpa using this
  · have := h.cell i 5 hi (by omega); rw [Node.cells_at hw] at this; simpa using this
  · have := h.cell i 6 hi (by omega); rw [Node.cells_at hw] at this; simpa using this

def spreadL (ns : List Node) : Nat → Nat → List Nat → List Nat
  | 0, _, l => l
  | f + 1, i, l =>
    if h : i < l.length then
      match ns[l[i]]? with
      | some nd => if nd.reads then spreadL ns f (i + 1) l else spreadL ns f (i + 1) (enterF ns.length (enterF ns.length l nd.next) nd.other)
      | none => spreadL ns f (i + 1) l
    else l
def spreadF (ns : List Node) (l : List Nat) : List Nat := spreadL ns (ns.length + 1) 0 l

theorem meas {B : Nat} (i : Nat) (h : i < B) : B - (intOf (.int .i64 ((i : Int) + 1))).toNat < B - (intOf (.int .i64 (i : Int))).toNat := by
  simp [intOf]; omega
theorem enterF_len (n : Nat) (l : List Nat) (m : Int) : l.length ≤ (enterF n l m).length := by
  unfold enterF; split <;> simp

set_option maxHeartbeats 2000000 in
theorem spread_any (w : World) (v : Value) (st en : Int) (ns : List Node) (cb lb ib : Nat) (l : List Nat) (hN : NodesAt w v ns) (hC : CrAt w cb lb ib ns.length l) (hn : ns.length ≤ 100000) (hd : ∀ k, v.ownBlock = some k → ¬ cfoot cb lb ib k) :
    Calls Try.prog 28 #[patV v st en, cptr cb] w fun e w' => e = .returned (.tuple #[]) ∧ CrAt w' cb lb ib ns.length (spreadF ns l) ∧ Mod (cfoot cb lb ib) w w' := by
  have HNo := hid hN
  have HD := hid hd
  generalize hR : spreadF ns l = R
  have HR : Hid (spreadL ns (ns.length + 1) 0 l = R) := hR
  have HCr := hid hC
  have hcf : ∀ k, cfoot cb lb ib k → k < w.heap.size := fun k hk => hC.foot_lt hk
  have HF := hid hcf
  clear hR hN hC hd hcf
  go_enter Try.func28, Try.ntmps28
  go_wp2
  go_loopw [4] (fun x wr => ∃ (f i : Nat) (l' : List Nat), x = .int .i64 i ∧ spreadL ns f i l' = R ∧ i ≤ l'.length ∧ ns.length + 1 ≤ f + i ∧ CrAt wr cb lb ib ns.length l' ∧ NodesAt wr v ns ∧
      wr.heap[w.heap.size]? = some (.cells #[v, .int .i64 st, .int .i64 en] 54 (0, 0)) ∧ Mod (cfoot cb lb ib) w wr)
      (fun x _ => 100001 - (intOf x).toNat)
  case atStart =>
    have m1 : Mod (cfoot cb lb ib) w (w.alloc (.cells #[v, .int .i64 st, .int .i64 en] 54 (0, 0))) := (Mod.refl _ w).alloc _
    have m2 : Fresh w (w.alloc (.cells #[v, .int .i64 st, .int .i64 en] 54 (0, 0))) := (Mod.refl _ w).alloc _
    exact ⟨ns.length + 1, 0, l, rfl, HR.out, by omega, by omega, HCr.out.kept m2 (fun _ _ x => x), HNo.out.kept m2 (fun _ _ x => x), heap_alloc_at _ _, m1⟩
  case round =>
    obtain ⟨f, i, l', rfl, hR, hi, hfu, hC, hN, hb, hm⟩ := hrel
    have hlen := nodup_len hC.nodup hC.lt
    obtain ⟨⟨f1, f2, f3⟩, _⟩ := hC.facts
    have HC := hid hC
    have HNn := hid hN
    have HB := hid hb
    have HM := hid hm
    have c1 := cellOf hb
    clear hC hN hb hm
    have HME := hid (meas (B := 100001) i (by omega))
    by_cases hlt : i < l'.length
    · obtain ⟨f, rfl⟩ : ∃ g, f = g + 1 := ⟨f - 1, by omega⟩
      unfold spreadL at hR
      rw [dif_pos hlt] at hR
      have hx : l'[i] < ns.length := HC.out.lt _ (by simp)
      obtain ⟨g, cap, hv⟩ := Joins.ownsRow_form HNn.out.own (by omega)
      rw [List.getElem?_eq_getElem hx] at hR
      simp only [] at hR
      have MI := hid (member_in wr cb lb ib ns.length l' i HC.out hn hlt)
      generalize hm : l'[i] = m at hx hR MI
      subst hv
      obtain ⟨n1, n2, n3⟩ := HNn.out.reads m hx
      have hne : ∀ k, cfoot cb lb ib k → k < w.heap.size := HF.out
      cases hrd : ns[m].reads
      · rw [hrd] at hR n1
        simp only [Bool.false_eq_true, if_false] at hR
        have HRR := hid hR
        have q0 : ¬ cfoot cb lb ib w.heap.size := fun h => by have := hne _ h; omega
        have Q0 := hid q0
        clear hR hm hne q0
        have hc0 := HC.out
        have hN0 := HNn.out
        have hm0 : Mod (cfoot cb lb ib) wr wr := Mod.refl _ _
        go_wp2_with (first
          | (go_at_call 38; refine MI.out.mono ?_; rintro e w' ⟨rfl, hw⟩; rw [hw]; clear hw)
          | (go_at_call 27; refine (enter_any _ cb lb ib _ _ _ hc0 hn).mono ?_; rintro e w1 ⟨rfl, hc1, hm1⟩; replace hm0 := hm0.trans hm1; replace hN0 := hN0.kept hm1 HD.out; clear hc0; have hc0 := hc1; clear hc1 hm1; have c2 := cellOf (hm0.at HB.out Q0.out); have n4 := (hN0.reads m hx).2.2))
        go_roundw
        case rel =>
          have e1 := enterF_len ns.length l' ns[m].next
          have e2 := enterF_len ns.length (enterF ns.length l' ns[m].next) ns[m].other
          exact ⟨f, i + 1, _, by go_num, HRR.out, by omega, by omega, hc0, hN0, hm0.at HB.out Q0.out, HM.out.trans hm0⟩
        case measure => exact HME.out
      · rw [hrd] at hR n1
        simp only [if_true] at hR
        have HRR := hid hR
        clear hR hm hne
        go_wp2_with (first
          | (go_at_call 38; refine MI.out.mono ?_; rintro e w' ⟨rfl, hw⟩; rw [hw]; clear hw))
        go_roundw
        case rel =>
          exact ⟨f, i + 1, l', by go_num, HRR.out, by omega, by omega, HC.out, HNn.out, HB.out, HM.out⟩
        case measure => exact HME.out
    · have hRr : l' = R := by
        rw [← hR]; cases f with
        | zero => rfl
        | succ f => unfold spreadL; rw [dif_neg hlt]
      have HRR := hid hRr
      clear hR hRr
      go_wp2
      refine bodyPost_end (results_none rfl _ _ _) rfl ⟨rfl, ?_, HM.out⟩
      rw [← HRR.out]; exact HC.out
end Go.Proofs.Ytdbdkdekeicmhaa
