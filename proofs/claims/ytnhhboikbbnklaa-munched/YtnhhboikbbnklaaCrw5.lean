import Derived.Test.YtnhhboikbbnklaaCrw4
namespace Go.Proofs.Ytnhhboikbbnklaa
open Go.RowKit
set_option linter.unusedVariables false
set_option linter.unusedSimpArgs false

def stepOne (ns : List Node) (c : Nat) (acc : List Nat) (m : Nat) : List Nat :=
  match ns[m]? with
  | some nd => if nd.reads && hasB nd.set c then enterF ns.length acc nd.next else acc
  | none => acc
def stepF (ns : List Node) (c : Nat) (l acc : List Nat) : List Nat := l.foldl (stepOne ns c) acc
theorem stepF_take (ns : List Node) (c : Nat) (l acc : List Nat) (i : Nat) (hi : i < l.length) : stepF ns c (l.take (i + 1)) acc = stepOne ns c (stepF ns c (l.take i) acc) l[i] := by
  unfold stepF; rw [List.take_add_one, List.foldl_append]; simp [hi]

theorem NodesAt.range {w : World} {g n cap : Nat} {ns : List Node} (h : NodesAt w (.slice (some ⟨g, 0, none⟩) n cap) ns) (i : Nat) (hi : i < ns.length) :
    w.rangeAt g (i * 7 + 1) ((ns[i]).set.map (Value.int .u64)) := by
  intro j v hj
  have hw := h.wf _ (List.getElem_mem hi)
  have hlt : j < 4 := by have := (List.getElem?_eq_some_iff.1 hj).1; simp [Node.wf] at hw; simpa [hw] using this
  have := h.cell i (j + 1) hi (by omega)
  have e : i * 7 + 1 + j = i * 7 + (j + 1) := by omega
  rw [e, this, Node.cells_at hw, if_neg (by omega), if_pos (by omega)]
  simp at hj
  obtain ⟨a, ha, rfl⟩ := hj
  simp [ha]

theorem step_none (w : World) (v : Value) (st en : Int) (cb cb2 : Nat) :
    Calls Try.prog 50 #[patV v st en, cptr cb, .int .i64 (-1), cptr cb2] w fun e w' => e = .returned (.tuple #[]) ∧ Fresh w w' := by
  go_enter Try.func50, Try.ntmps50
  go_wp2
  exact bodyPost_ret (results_none rfl _ _ _) rfl ⟨rfl, (Mod.refl _ _).alloc _⟩

set_option maxRecDepth 20000 in
set_option maxHeartbeats 2000000 in
theorem step_any (w : World) (v : Value) (st en : Int) (ns : List Node) (cb lb ib cb2 lb2 ib2 : Nat) (l acc : List Nat) (c : Nat) (hc : c ≤ 255) (hN : NodesAt w v ns) (hC : CrAt w cb lb ib ns.length l) (hC2 : CrAt w cb2 lb2 ib2 ns.length acc) (hn : ns.length ≤ 100000)
    (hd : ∀ k, v.ownBlock = some k → ¬ cfoot cb2 lb2 ib2 k) (hd2 : ∀ k, cfoot cb lb ib k → ¬ cfoot cb2 lb2 ib2 k) :
    Calls Try.prog 50 #[patV v st en, cptr cb, .int .i64 c, cptr cb2] w fun e w' => e = .returned (.tuple #[]) ∧ CrAt w' cb2 lb2 ib2 ns.length (stepF ns c l acc) ∧ Mod (cfoot cb2 lb2 ib2) w w' := by
  have HNo := hid hN
  have HD := hid hd
  have HD2 := hid hd2
  have HCr := hid hC
  have HCr2 := hid hC2
  have hcf : ∀ k, cfoot cb2 lb2 ib2 k → k < w.heap.size := fun k hk => hC2.foot_lt hk
  have Q0 := hid (show ¬ cfoot cb2 lb2 ib2 w.heap.size from fun h => by have := hcf _ h; omega)
  have hlen := nodup_len hC.nodup hC.lt
  have hc1 : ((c : Int) == -1) = false := by simp
  clear hN hC hC2 hd hd2 hcf
  go_enter Try.func50, Try.ntmps50
  go_wp2
  go_loopw [8] (fun x wr => ∃ (i : Nat), x = .int .i64 i ∧ i ≤ l.length ∧ CrAt wr cb lb ib ns.length l ∧ CrAt wr cb2 lb2 ib2 ns.length (stepF ns c (l.take i) acc) ∧ NodesAt wr v ns ∧
      wr.heap[w.heap.size]? = some (.cells #[v, .int .i64 st, .int .i64 en] 72 (0, 0)) ∧ Mod (cfoot cb2 lb2 ib2) w wr)
      (fun x _ => 100001 - (intOf x).toNat)
  case atStart =>
    have m1 : Mod (cfoot cb2 lb2 ib2) w (w.alloc (.cells #[v, .int .i64 st, .int .i64 en] 72 (0, 0))) := (Mod.refl _ w).alloc _
    have m2 : Fresh w (w.alloc (.cells #[v, .int .i64 st, .int .i64 en] 72 (0, 0))) := (Mod.refl _ w).alloc _
    exact ⟨0, rfl, by omega, HCr.out.kept m2 (fun _ _ x => x), HCr2.out.kept m2 (fun _ _ x => x), HNo.out.kept m2 (fun _ _ x => x), heap_alloc_at _ _, m1⟩
  case round =>
    obtain ⟨i, rfl, hi, hC, hC2, hN, hb, hm⟩ := hrel
    obtain ⟨⟨f1, f2, f3⟩, _⟩ := hC.facts
    have HC := hid hC
    have HC2 := hid hC2
    have HNn := hid hN
    have HB := hid hb
    have HM := hid hm
    have c1 := cellOf hb
    clear hC hC2 hN hb hm
    have HME := hid (meas (B := 100001) i (by omega))
    by_cases hlt : i < l.length
    · have hx : l[i] < ns.length := HC.out.lt _ (by simp)
      obtain ⟨g, cap, hv⟩ := Joins.ownsRow_form HNn.out.own (by omega)
      have HST := hid (stepF_take ns c l acc i hlt)
      have MI := hid (member_in wr cb lb ib ns.length l i HC.out hn hlt)
      generalize hm : l[i] = m at hx HST MI
      subst hv
      obtain ⟨n1, n2, n3⟩ := HNn.out.reads m hx
      have RG := hid (HNn.out.range m hx)
      have hw4 := hid (HNn.out.wf _ (List.getElem_mem hx))
      have SZ : Hid ((Try.prog.info? 130).map (·.size) = some (((ns[m]).set.map (Value.int .u64)).length)) := by
        have := hw4.out; unfold Node.wf at this; unfold Hid; rw [List.length_map, this]; exact szSet
      clear hm
      cases hrd : ns[m].reads
      · rw [hrd] at n1
        have HS2 : Hid (stepF ns c (l.take (i + 1)) acc = stepF ns c (l.take i) acc) := by
          unfold Hid; rw [HST.out]; unfold stepOne; rw [List.getElem?_eq_getElem hx]; simp [hrd]
        go_wp2_with (first
          | (go_at_call 65; refine MI.out.mono ?_; rintro e w' ⟨rfl, hw⟩; rw [hw]; clear hw))
        go_roundw
        case rel =>
          exact ⟨i + 1, by go_num, by omega, HC.out, by rw [HS2.out]; exact HC2.out, HNn.out, HB.out, HM.out⟩
        case measure => exact HME.out
      · rw [hrd] at n1
        cases hhas : hasB ns[m].set c
        · have HS2 : Hid (stepF ns c (l.take (i + 1)) acc = stepF ns c (l.take i) acc) := by
            unfold Hid; rw [HST.out]; unfold stepOne; rw [List.getElem?_eq_getElem hx]; simp [hhas]
          go_wp2_with (first
            | (go_at_call 65; refine MI.out.mono ?_; rintro e w' ⟨rfl, hw⟩; rw [hw]; clear hw)
            | (go_at_call 66; refine (has_any ns[m].set c _ hw4.out hc).mono ?_; rw [hhas]; rintro e w1 ⟨rfl, hf⟩)
            | (refine wpList_load_mid rfl 130 _ rfl g (m * 7 + 1) rfl ((ns[m]).set.map (Value.int .u64)) _ RG.out Try.underlying130 rfl SZ.out ?_))
          go_roundw
          case rel =>
            exact ⟨i + 1, by go_num, by omega, HC.out.kept hf (fun _ _ x => x), by rw [HS2.out]; exact HC2.out.kept hf (fun _ _ x => x), HNn.out.kept hf (fun _ _ x => x), hf.at HB.out (fun x => x), HM.out.trans (hf.mono (fun _ _ x => x.elim))⟩
          case measure => exact HME.out
        · have HS2 : Hid (stepF ns c (l.take (i + 1)) acc = enterF ns.length (stepF ns c (l.take i) acc) ns[m].next) := by
            unfold Hid; rw [HST.out]; unfold stepOne; rw [List.getElem?_eq_getElem hx]; simp [hhas, hrd]
          go_wp2_with (first
            | (go_at_call 65; refine MI.out.mono ?_; rintro e w' ⟨rfl, hw⟩; rw [hw]; clear hw)
            | (go_at_call 66; refine (has_any ns[m].set c _ hw4.out hc).mono ?_; rw [hhas]; rintro e w1 ⟨rfl, hf⟩; have c2 := cellOf (hf.at HB.out (fun x => x)); have n4 := ((HNn.out.kept hf (fun _ _ x => x)).reads m hx).2.1)
            | (go_at_call 45; refine (enter_any w1 cb2 lb2 ib2 _ _ _ (HC2.out.kept hf (fun _ _ x => x)) hn).mono ?_; rintro e w2 ⟨rfl, hc2, hm2⟩)
            | (refine wpList_load_mid rfl 130 _ rfl g (m * 7 + 1) rfl ((ns[m]).set.map (Value.int .u64)) _ RG.out Try.underlying130 rfl SZ.out ?_))
          go_roundw
          case rel =>
            exact ⟨i + 1, by go_num, by omega, (HC.out.kept hf (fun _ _ x => x)).kept hm2 HD2.out, by rw [HS2.out]; exact hc2, (HNn.out.kept hf (fun _ _ x => x)).kept hm2 HD.out, hm2.at (hf.at HB.out (fun x => x)) Q0.out, (HM.out.trans (hf.mono (fun _ _ x => x.elim))).trans hm2⟩
          case measure => exact HME.out
    · have hie : i = l.length := by omega
      subst hie
      go_wp2
      refine bodyPost_end (results_none rfl _ _ _) rfl ⟨rfl, ?_, HM.out⟩
      have := HC2.out; rw [List.take_length] at this; exact this
end Go.Proofs.Ytnhhboikbbnklaa
