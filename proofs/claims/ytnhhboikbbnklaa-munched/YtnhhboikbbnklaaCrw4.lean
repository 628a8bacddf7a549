import Derived.Test.YtnhhboikbbnklaaCrw3
namespace Go.Proofs.Ytnhhboikbbnklaa
open Go.RowKit
set_option linter.unusedVariables false
set_option linter.unusedSimpArgs false

theorem NodesAt.cell {w : World} {g n cap : Nat} {ns : List Node} (h : NodesAt w (.slice (some ⟨g, 0, none⟩) n cap) ns) (i j : Nat) (hi : i < ns.length) (hj : j < 7) : w.cell? ⟨g, i * 7 + j, none⟩ = (ns[i]).cells[j]? := by
  have hlt : j < (ns[i]).cells.length := by rw [Node.cells_len (h.wf _ (by simp))]; exact hj
  have := h.own.cells (g := g) rfl (i * 7 + j) ((ns[i]).cells[j]) (by rw [ncells_at h.wf i j hi hj]; simp)
  rw [Addr.add_mid, Nat.zero_add] at this
  rw [this]; simp
theorem NodesAt.reads {w : World} {g n cap : Nat} {ns : List Node} (h : NodesAt w (.slice (some ⟨g, 0, none⟩) n cap) ns) (i : Nat) (hi : i < ns.length) :
    w.cell? ⟨g, i * 7, none⟩ = some (.bool (ns[i]).reads) ∧ w.cell? ⟨g, i * 7 + 5, none⟩ = some (.int .i64 (ns[i]).next) ∧ w.cell? ⟨g, i * 7 + 6, none⟩ = some (.int .i64 (ns[i]).other) := by
  have hw := h.wf _ (List.getElem_mem hi)
  refine ⟨?_, ?_, ?_⟩
  · have := h.cell i 0 hi (by omega); rw [Node.cells_at hw] at this; simpa using this
  · have := h.cell i 5 hi (by omega); rw [Node.cells_at hw] at this; simpa using this
  · have := h.cell i 6 hi (by omega); rw [Node.cells_at hw] at this; simpa using this

def spreadL (ns : List Node) : Nat → Nat → List Nat → List Nat
  | 0, _, l => l
  | f + 1, i, l =>
    if h : i < l.length then
      match ns[l[i]]? with
      | some nd => if nd.reads then spreadL ns f (i + 1) l else spreadL ns f (i + 1) (enterF ns.length (enterF ns.length l nd.next) nd.other)
      | none => spreadL ns f (i + 1) l
    else l
def spreadF (ns : List Node) (l : List Nat) : List Nat := spreadL ns (ns.length + 1) 0 l

theorem meas {B : Nat} (i : Nat) (h : i < B) : B - (intOf (.int .i64 ((i : Int) + 1))).toNat < B - (intOf (.int .i64 (i : Int))).toNat := by
  simp [intOf]; omega
theorem enterF_len (n : Nat) (l : List Nat) (m : Int) : l.length ≤ (enterF n l m).length := by
  unfold enterF; split <;> simp

set_option maxHeartbeats 2000000 in
theorem spread_any (w : World) (v : Value) (st en : Int) (ns : List Node) (cb lb ib : Nat) (l : List Nat) (hN : NodesAt w v ns) (hC : CrAt w cb lb ib ns.length l) (hn : ns.length ≤ 100000) (hd : ∀ k, v.ownBlock = some k → ¬ cfoot cb lb ib k) :
    Calls Try.prog 46 #[patV v st en, cptr cb] w fun e w' => e = .returned (.tuple #[]) ∧ CrAt w' cb lb ib ns.length (spreadF ns l) ∧ Mod (cfoot cb lb ib) w w' := by
  have HNo := hid hN
  have HD := hid hd
  generalize hR : spreadF ns l = R
  have HR : Hid (spreadL ns (ns.length + 1) 0 l = R) := hR
  have HCr := hid hC
  have hcf : ∀ k, cfoot cb lb ib k → k < w.heap.size := fun k hk => hC.foot_lt hk
  have HF := hid hcf
  clear hR hN hC hd hcf
  go_enter Try.func46, Try.ntmps46
  go_wp2
  go_loopw [4] (fun x wr => ∃ (f i : Nat) (l' : List Nat), x = .int .i64 i ∧ spreadL ns f i l' = R ∧ i ≤ l'.length ∧ ns.length + 1 ≤ f + i ∧ CrAt wr cb lb ib ns.length l' ∧ NodesAt wr v ns ∧
      wr.heap[w.heap.size]? = some (.cells #[v, .int .i64 st, .int .i64 en] 72 (0, 0)) ∧ Mod (cfoot cb lb ib) w wr)
      (fun x _ => 100001 - (intOf x).toNat)
  case atStart =>
    have m1 : Mod (cfoot cb lb ib) w (w.alloc (.cells #[v, .int .i64 st, .int .i64 en] 72 (0, 0))) := (Mod.refl _ w).alloc _
    have m2 : Fresh w (w.alloc (.cells #[v, .int .i64 st, .int .i64 en] 72 (0, 0))) := (Mod.refl _ w).alloc _
    exact ⟨ns.length + 1, 0, l, rfl, HR.out, by omega, by omega, HCr.out.kept m2 (fun _ _ x => x), HNo.out.kept m2 (fun _ _ x => x), heap_alloc_at _ _, m1⟩
  case round =>
    obtain ⟨f, i, l', rfl, hR, hi, hfu, hC, hN, hb, hm⟩ := hrel
    have hlen := nodup_len hC.nodup hC.lt
    obtain ⟨⟨f1, f2, f3⟩, _⟩ := hC.facts
    have HC := hid hC
    have HNn := hid hN
    have HB := hid hb
    have HM := hid hm
    have c1 := cellOf hb
    clear hC hN hb hm
    have HME := hid (meas (B := 100001) i (by omega))
    by_cases hlt : i < l'.length
    · obtain ⟨f, rfl⟩ : ∃ g, f = g + 1 := ⟨f - 1, by omega⟩
      unfold spreadL at hR
      rw [dif_pos hlt] at hR
      have hx : l'[i] < ns.length := HC.out.lt _ (by simp)
      obtain ⟨g, cap, hv⟩ := Joins.ownsRow_form HNn.out.own (by omega)
      rw [List.getElem?_eq_getElem hx] at hR
      simp only [] at hR
      have MI := hid (member_in wr cb lb ib ns.length l' i HC.out hn hlt)
      generalize hm : l'[i] = m at hx hR MI
      subst hv
      obtain ⟨n1, n2, n3⟩ := HNn.out.reads m hx
      have hne : ∀ k, cfoot cb lb ib k → k < w.heap.size := HF.out
      cases hrd : ns[m].reads
      · rw [hrd] at hR n1
        simp only [Bool.false_eq_true, if_false] at hR
        have HRR := hid hR
        have q0 : ¬ cfoot cb lb ib w.heap.size := fun h => by have := hne _ h; omega
        have Q0 := hid q0
        clear hR hm hne q0
        have hc0 := HC.out
        have hN0 := HNn.out
        have hm0 : Mod (cfoot cb lb ib) wr wr := Mod.refl _ _
        go_wp2_with (first
          | (go_at_call 65; refine MI.out.mono ?_; rintro e w' ⟨rfl, hw⟩; rw [hw]; clear hw)
          | (go_at_call 45; refine (enter_any _ cb lb ib _ _ _ hc0 hn).mono ?_; rintro e w1 ⟨rfl, hc1, hm1⟩; replace hm0 := hm0.trans hm1; replace hN0 := hN0.kept hm1 HD.out; clear hc0; have hc0 := hc1; clear hc1 hm1; have c2 := cellOf (hm0.at HB.out Q0.out); have n4 := (hN0.reads m hx).2.2))
        go_roundw
        case rel =>
          have e1 := enterF_len ns.length l' ns[m].next
          have e2 := enterF_len ns.length (enterF ns.length l' ns[m].next) ns[m].other
          exact ⟨f, i + 1, _, by go_num, HRR.out, by omega, by omega, hc0, hN0, hm0.at HB.out Q0.out, HM.out.trans hm0⟩
        case measure => exact HME.out
      · rw [hrd] at hR n1
        simp only [if_true] at hR
        have HRR := hid hR
        clear hR hm hne
        go_wp2_with (first
          | (go_at_call 65; refine MI.out.mono ?_; rintro e w' ⟨rfl, hw⟩; rw [hw]; clear hw))
        go_roundw
        case rel =>
          exact ⟨f, i + 1, l', by go_num, HRR.out, by omega, by omega, HC.out, HNn.out, HB.out, HM.out⟩
        case measure => exact HME.out
    · have hRr : l' = R := by
        rw [← hR]; cases f with
        | zero => rfl
        | succ f => unfold spreadL; rw [dif_neg hlt]
      have HRR := hid hRr
      clear hR hRr
      go_wp2
      refine bodyPost_end (results_none rfl _ _ _) rfl ⟨rfl, ?_, HM.out⟩
      rw [← HRR.out]; exact HC.out
end Go.Proofs.Ytnhhboikbbnklaa
