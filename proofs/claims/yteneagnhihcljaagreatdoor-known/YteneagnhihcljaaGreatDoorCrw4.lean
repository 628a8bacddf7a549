import Derived.Test.YteneagnhihcljaaGreatDoorPrs6
namespace Go.Proofs.YteneagnhihcljaaGreatDoor
open Go.RowKit
set_option linter.unusedVariables false
set_option linter.unusedSimpArgs false

theorem NodesAt.cell {w : World} {g n cap : Nat} {ns : List Node} (h : NodesAt w (.slice (some ⟨g, 0, none⟩) n cap) ns) (i j : Nat) (hi : i < ns.length) (hj : j < 7) : w.cell? ⟨g, i * 7 + j, none⟩ = (ns[i]).cells[j]? := by
  have hlt : j < (ns[i]).cells.length := by rw [Node.cells_len (h.wf _ (by simp))]; exact hj
  have := h.own.cells (g := g) rfl (i * 7 + j) ((ns[i]).cells[j]) (by rw [ncells_at h.wf i j hi hj]; simp)
  rw [Addr.add_mid, Nat.zero_add] at this
  rw [this]; simp
theorem NodesAt.reads {w : World} {g n cap : Nat} {ns : List Node} (h : NodesAt w (.slice (some ⟨g, 0, none⟩) n cap) ns) (i : Nat) (hi : i < ns.length) :
    w.cell? ⟨g, i * 7, none⟩ = some (.bool (ns[i]).reads) ∧ w.cell? ⟨g, i * 7 + 5, none⟩ = some (.int .i64 (ns[i]).next) ∧ w.cell? ⟨g, i * 7 + 6, none⟩ = some (.int .i64 (ns[i]).other) := by
  have hw := h.wf _ (List.getElem_mem hi)
  refine ⟨?_, ?_, ?_⟩
  · have := h.cell i 0 hi (by omega); rw [Node.cells_at hw] at this; simpa using this
  · have := h.cell i 5 hi (by omega); rw [Node.cells_at hw] at this; simpa using this
  · have := h.cell i 6 hi (by omega); rw [Node.cells_at hw] at this; simpa using this

def spreadL (ns : List Node) : Nat → Nat → List Nat → List Nat
  | 0, _, l => l
  | f + 1, i, l =>
    if h : i < l.length then
      match ns[l[i]]? with
      | some nd => if nd.reads then spreadL ns f (i + 1) l else spreadL ns f (i + 1) (enterF ns.length (enterF ns.length l nd.next) nd.other)
      | none => spreadL ns f (i + 1) l
    else l
def spreadF (ns : List Node) (l : List Nat) : List Nat := spreadL ns (ns.length + 1) 0 l

theorem meas {B : Nat} (i : Nat) (h : i < B) : B - (intOf (.int .i64 ((i : Int) + 1))).toNat < B - (intOf (.int .i64 (i : Int))).toNat := by
  simp [intOf]; omega
theorem enterF_len (n : Nat) (l : List Nat) (m : Int) : l.length ≤ (enterF n l m).length := by
  unfold enterF; split <;> simp

set_option maxHeartbeats 2000000 in
theorem spread_any (w : World) (v : Value) (st en : Int) (ns : List Node) (cb lb ib : Nat) (l : List Nat) (hN : NodesAt w v ns) (hC : CrAt w cb lb ib ns.length l) (hn : ns.length ≤ 100000) (hd : ∀ k, v.ownBlock = some k → ¬ cfoot cb lb ib k) :
    Calls Tryz.prog 59 #[patV v st en, cptr cb] w fun e w' => e = .returned (.tuple #[]) ∧ CrAt w' cb lb ib ns.length (spreadF ns l) ∧ Mod (cfoot cb lb ib) w w' := by
  have HNo := hid hN
  have HD := hid hd
  generalize hR : spreadF ns l = R
  have HR : Hid (spreadL ns (ns.length + 1) 0 l = R) := hR
  have HCr := hid hC
  have hcf : ∀ k, cfoot cb lb ib k → k < w.heap.size := fun k hk => hC.foot_lt hk
  have HF := hid hcf
  clear hR hN hC hd hcf
  go_enter Tryz.func59, Tryz.ntmps59
  go_wp2
  go_loopw [4] (fun x wr => ∃ (f i : Nat) (l' : List Nat), x = .int .i64 i ∧ spreadL ns f i l' = R ∧ i ≤ l'.length ∧ ns.length + 1 ≤ f + i ∧ CrAt wr cb lb ib ns.length l' ∧ NodesAt wr v ns ∧
      wr.heap[w.heap.size]? = some (.cells #[v, .int .i64 st, .int .i64 en] 67 (0, 0)) ∧ Mod (cfoot cb lb ib) w wr)
      (fun x _ => 100001 - (intOf x).toNat)
  case atStart =>
    have m1 : Mod (cfoot cb lb ib) w (w.alloc (.cells #[v, .int .i64 st, .int .i64 en] 67 (0, 0))) := (Mod.refl _ w).alloc _
    have m2 : Fresh w (w.alloc (.cells #[v, .int .i64 st, .int .i64 en] 67 (0, 0))) := (Mod.refl _ w).alloc _
    exact ⟨ns.length + 1, 0, l, rfl, HR.out, by omega, by omega, HCr.out.kept m2 (fun _ _ x => x), HNo.out.kept m2 (fun _ _ x => x), heap_alloc_at _ _, m1⟩
  case round =>
    obtain ⟨f, i, l', rfl, hR, hi, hfu, hC, hN, hb, hm⟩ := hrel
    have hlen := nodup_len hC.nodup hC.lt
    obtain ⟨⟨f1, f2, f3⟩, _⟩ := hC.facts
    have HC := hid hC
    have HNn := hid hN
    have HB := hid hb
    have HM := hid hm
    have c1 := cellOf hb
    clear hC hN hb hm
    have HME := hid (meas (B := 100001) i (by omega))
    by_cases hlt : i < l'.length
    · obtain ⟨f, rfl⟩ : ∃ g, f = g + 1 := ⟨f - 1, by omega⟩
      unfold spreadL at hR
      rw [dif_pos hlt] at hR
      have hx : l'[i] < ns.length := HC.out.lt _ (by simp)
      obtain ⟨g, cap, hv⟩ := Joins.ownsRow_form HNn.out.own (by omega)
      rw [List.getElem?_eq_getElem hx] at hR
      simp only [] at hR
      have MI := hid (member_in wr cb lb ib ns.length l' i HC.out hn hlt)
      generalize hm : l'[i] = m at hx hR MI
      subst hv
      obtain ⟨n1, n2, n3⟩ := HNn.out.reads m hx
      have hne : ∀ k, cfoot cb lb ib k → k < w.heap.size := HF.out
      cases hrd : ns[m].reads
      · rw [hrd] at hR n1
        simp only [Bool.false_eq_true, if_false] at hR
        have HRR := hid hR
        have q0 : ¬ cfoot cb lb ib w.heap.size := fun h => by have := hne _ h; omega
        have Q0 := hid q0
        clear hR hm hne q0
        have hc0 := HC.out
        have hN0 := HNn.out
        have hm0 : Mod (cfoot cb lb ib) wr wr := Mod.refl _ _
        go_wp2_with (first
          | (go_at_call 75; refine MI.out.mono ?_; rintro e w' ⟨rfl, hw⟩; rw [hw]; clear hw)
          | (go_at_call 58; refine (enter_any _ cb lb ib _ _ _ hc0 hn).mono ?_; rintro e w1 ⟨rfl, hc1, hm1⟩; replace hm0 := hm0.trans hm1; replace hN0 := hN0.kept hm1 HD.out; clear hc0; have hc0 := hc1; clear hc1 hm1; have c2 := cellOf (hm0.at HB.out Q0.out); have n4 := (hN0.reads m hx).2.2))
        go_roundw
        case rel =>
          have e1 := enterF_len ns.length l' ns[m].next
          have e2 := enterF_len ns.length (enterF ns.length l' ns[m].next) ns[m].other
          exact ⟨f, i + 1, _, by go_num, HRR.out, by omega, by omega, hc0, hN0, hm0.at HB.out Q0.out, HM.out.trans hm0⟩
        case measure => exact HME.out
      · rw [hrd] at hR n1
        simp only [if_true] at hR
        have HRR := hid hR
        clear hR hm hne
        go_wp2_with (first
          | (go_at_call 75; refine MI.out.mono ?_; rintro e w' ⟨rfl, hw⟩; rw [hw]; clear hw))
        go_roundw
        case rel =>
          exact ⟨f, i + 1, l', by go_num, HRR.out, by omega, by omega, HC.out, HNn.out, HB.out, HM.out⟩
        case measure => exact HME.out
    · have hRr : l' = R := by
        rw [← hR]; cases f with
        | zero => rfl
        | succ f => unfold spreadL; rw [dif_neg hlt]
      have HRR := hid hRr
      clear hR hRr
      go_wp2
      refine bodyPost_end (results_none rfl _ _ _) rfl ⟨rfl, ?_, HM.out⟩
      rw [← HRR.out]; exact HC.out
end Go.Proofs.YteneagnhihcljaaGreatDoor
namespace Go.Proofs.YteneagnhihcljaaGreatDoor
open Go.RowKit
set_option linter.unusedVariables false
set_option linter.unusedSimpArgs false

def stepOne (ns : List Node) (c : Nat) (acc : List Nat) (m : Nat) : List Nat :=
  match ns[m]? with
  | some nd => if nd.reads && hasB nd.set c then enterF ns.length acc nd.next else acc
  | none => acc
def stepF (ns : List Node) (c : Nat) (l acc : List Nat) : List Nat := l.foldl (stepOne ns c) acc
theorem stepF_take (ns : List Node) (c : Nat) (l acc : List Nat) (i : Nat) (hi : i < l.length) : stepF ns c (l.take (i + 1)) acc = stepOne ns c (stepF ns c (l.take i) acc) l[i] := by
  unfold stepF; rw [List.take_add_one, List.foldl_append]; simp [hi]

theorem NodesAt.range {w : World} {g n cap : Nat} {ns : List Node} (h : NodesAt w (.slice (some ⟨g, 0, none⟩) n cap) ns) (i : Nat) (hi : i < ns.length) :
    w.rangeAt g (i * 7 + 1) ((ns[i]).set.map (Value.int .u64)) := by
  intro j v hj
  have hw := h.wf _ (List.getElem_mem hi)
  have hlt : j < 4 := by have := (List.getElem?_eq_some_iff.1 hj).1; simp [Node.wf] at hw; simpa [hw] using this
  have := h.cell i (j + 1) hi (by omega)
  have e : i * 7 + 1 + j = i * 7 + (j + 1) := by omega
  rw [e, this, Node.cells_at hw, if_neg (by omega), if_pos (by omega)]
  simp at hj
  obtain ⟨a, ha, rfl⟩ := hj
  simp [ha]

theorem step_none (w : World) (v : Value) (st en : Int) (cb cb2 : Nat) :
    Calls Tryz.prog 63 #[patV v st en, cptr cb, .int .i64 (-1), cptr cb2] w fun e w' => e = .returned (.tuple #[]) ∧ Fresh w w' := by
  go_enter Tryz.func63, Tryz.ntmps63
  go_wp2
  exact bodyPost_ret (results_none rfl _ _ _) rfl ⟨rfl, (Mod.refl _ _).alloc _⟩

set_option maxRecDepth 20000 in
set_option maxHeartbeats 2000000 in
theorem step_any (w : World) (v : Value) (st en : Int) (ns : List Node) (cb lb ib cb2 lb2 ib2 : Nat) (l acc : List Nat) (c : Nat) (hc : c ≤ 255) (hN : NodesAt w v ns) (hC : CrAt w cb lb ib ns.length l) (hC2 : CrAt w cb2 lb2 ib2 ns.length acc) (hn : ns.length ≤ 100000)
    (hd : ∀ k, v.ownBlock = some k → ¬ cfoot cb2 lb2 ib2 k) (hd2 : ∀ k, cfoot cb lb ib k → ¬ cfoot cb2 lb2 ib2 k) :
    Calls Tryz.prog 63 #[patV v st en, cptr cb, .int .i64 c, cptr cb2] w fun e w' => e = .returned (.tuple #[]) ∧ CrAt w' cb2 lb2 ib2 ns.length (stepF ns c l acc) ∧ Mod (cfoot cb2 lb2 ib2) w w' := by
  have HNo := hid hN
  have HD := hid hd
  have HD2 := hid hd2
  have HCr := hid hC
  have HCr2 := hid hC2
  have hcf : ∀ k, cfoot cb2 lb2 ib2 k → k < w.heap.size := fun k hk => hC2.foot_lt hk
  have Q0 := hid (show ¬ cfoot cb2 lb2 ib2 w.heap.size from fun h => by have := hcf _ h; omega)
  have hlen := nodup_len hC.nodup hC.lt
  have hc1 : ((c : Int) == -1) = false := by simp
  clear hN hC hC2 hd hd2 hcf
  go_enter Tryz.func63, Tryz.ntmps63
  go_wp2
  go_loopw [8] (fun x wr => ∃ (i : Nat), x = .int .i64 i ∧ i ≤ l.length ∧ CrAt wr cb lb ib ns.length l ∧ CrAt wr cb2 lb2 ib2 ns.length (stepF ns c (l.take i) acc) ∧ NodesAt wr v ns ∧
      wr.heap[w.heap.size]? = some (.cells #[v, .int .i64 st, .int .i64 en] 67 (0, 0)) ∧ Mod (cfoot cb2 lb2 ib2) w wr)
      (fun x _ => 100001 - (intOf x).toNat)
  case atStart =>
    have m1 : Mod (cfoot cb2 lb2 ib2) w (w.alloc (.cells #[v, .int .i64 st, .int .i64 en] 67 (0, 0))) := (Mod.refl _ w).alloc _
    have m2 : Fresh w (w.alloc (.cells #[v, .int .i64 st, .int .i64 en] 67 (0, 0))) := (Mod.refl _ w).alloc _
    exact ⟨0, rfl, by omega, HCr.out.kept m2 (fun _ _ x => x), HCr2.out.kept m2 (fun _ _ x => x), HNo.out.kept m2 (fun _ _ x => x), heap_alloc_at _ _, m1⟩
  case round =>
    obtain ⟨i, rfl, hi, hC, hC2, hN, hb, hm⟩ := hrel
    obtain ⟨⟨f1, f2, f3⟩, _⟩ := hC.facts
    have HC := hid hC
    have HC2 := hid hC2
    have HNn := hid hN
    have HB := hid hb
    have HM := hid hm
    have c1 := cellOf hb
    clear hC hC2 hN hb hm
    have HME := hid (meas (B := 100001) i (by omega))
    by_cases hlt : i < l.length
    · have hx : l[i] < ns.length := HC.out.lt _ (by simp)
      obtain ⟨g, cap, hv⟩ := Joins.ownsRow_form HNn.out.own (by omega)
      have HST := hid (stepF_take ns c l acc i hlt)
      have MI := hid (member_in wr cb lb ib ns.length l i HC.out hn hlt)
      generalize hm : l[i] = m at hx HST MI
      subst hv
      obtain ⟨n1, n2, n3⟩ := HNn.out.reads m hx
      have RG := hid (HNn.out.range m hx)
      have hw4 := hid (HNn.out.wf _ (List.getElem_mem hx))
      have SZ : Hid ((Tryz.prog.info? 152).map (·.size) = some (((ns[m]).set.map (Value.int .u64)).length)) := by
        have := hw4.out; unfold Node.wf at this; unfold Hid; rw [List.length_map, this]; exact szSet
      clear hm
      cases hrd : ns[m].reads
      · rw [hrd] at n1
        have HS2 : Hid (stepF ns c (l.take (i + 1)) acc = stepF ns c (l.take i) acc) := by
          unfold Hid; rw [HST.out]; unfold stepOne; rw [List.getElem?_eq_getElem hx]; simp [hrd]
        go_wp2_with (first
          | (go_at_call 75; refine MI.out.mono ?_; rintro e w' ⟨rfl, hw⟩; rw [hw]; clear hw))
        go_roundw
        case rel =>
          exact ⟨i + 1, by go_num, by omega, HC.out, by rw [HS2.out]; exact HC2.out, HNn.out, HB.out, HM.out⟩
        case measure => exact HME.out
      · rw [hrd] at n1
        cases hhas : hasB ns[m].set c
        · have HS2 : Hid (stepF ns c (l.take (i + 1)) acc = stepF ns c (l.take i) acc) := by
            unfold Hid; rw [HST.out]; unfold stepOne; rw [List.getElem?_eq_getElem hx]; simp [hhas]
          go_wp2_with (first
            | (go_at_call 75; refine MI.out.mono ?_; rintro e w' ⟨rfl, hw⟩; rw [hw]; clear hw)
            | (go_at_call 76; refine (has_any ns[m].set c _ hw4.out hc).mono ?_; rw [hhas]; rintro e w1 ⟨rfl, hf⟩)
            | (refine wpList_load_mid rfl 152 _ rfl g (m * 7 + 1) rfl ((ns[m]).set.map (Value.int .u64)) _ RG.out Tryz.underlying152 rfl SZ.out ?_))
          go_roundw
          case rel =>
            exact ⟨i + 1, by go_num, by omega, HC.out.kept hf (fun _ _ x => x), by rw [HS2.out]; exact HC2.out.kept hf (fun _ _ x => x), HNn.out.kept hf (fun _ _ x => x), hf.at HB.out (fun x => x), HM.out.trans (hf.mono (fun _ _ x => x.elim))⟩
          case measure => exact HME.out
        · have HS2 : Hid (stepF ns c (l.take (i + 1)) acc = enterF ns.length (stepF ns c (l.take i) acc) ns[m].next) := by
            unfold Hid; rw [HST.out]; unfold stepOne; rw [List.getElem?_eq_getElem hx]; simp [hhas, hrd]
          go_wp2_with (first
            | (go_at_call 75; refine MI.out.mono ?_; rintro e w' ⟨rfl, hw⟩; rw [hw]; clear hw)
            | (go_at_call 76; refine (has_any ns[m].set c _ hw4.out hc).mono ?_; rw [hhas]; rintro e w1 ⟨rfl, hf⟩; have c2 := cellOf (hf.at HB.out (fun x => x)); have n4 := ((HNn.out.kept hf (fun _ _ x => x)).reads m hx).2.1)
            | (go_at_call 58; refine (enter_any w1 cb2 lb2 ib2 _ _ _ (HC2.out.kept hf (fun _ _ x => x)) hn).mono ?_; rintro e w2 ⟨rfl, hc2, hm2⟩)
            | (refine wpList_load_mid rfl 152 _ rfl g (m * 7 + 1) rfl ((ns[m]).set.map (Value.int .u64)) _ RG.out Tryz.underlying152 rfl SZ.out ?_))
          go_roundw
          case rel =>
            exact ⟨i + 1, by go_num, by omega, (HC.out.kept hf (fun _ _ x => x)).kept hm2 HD2.out, by rw [HS2.out]; exact hc2, (HNn.out.kept hf (fun _ _ x => x)).kept hm2 HD.out, hm2.at (hf.at HB.out (fun x => x)) Q0.out, (HM.out.trans (hf.mono (fun _ _ x => x.elim))).trans hm2⟩
          case measure => exact HME.out
    · have hie : i = l.length := by omega
      subst hie
      go_wp2
      refine bodyPost_end (results_none rfl _ _ _) rfl ⟨rfl, ?_, HM.out⟩
      have := HC2.out; rw [List.take_length] at this; exact this
end Go.Proofs.YteneagnhihcljaaGreatDoor
namespace Go.Proofs.YteneagnhihcljaaGreatDoor
open Go.RowKit
set_option linter.unusedVariables false
set_option linter.unusedSimpArgs false

def holdsB (n : Nat) (t : List Nat) (en : Int) : Bool := decide (0 ≤ en ∧ en < n ∧ en.toNat ∈ t)
def nextL (ns : List Node) (s : ByteArray) (i : Nat) (t : List Nat) : List Nat := if h : i < s.size then stepF ns s[i].toNat t [] else []
def runL (ns : List Node) (en : Int) (s : ByteArray) : Nat → Nat → List Nat → Int → Int
  | 0, _, _, best => best
  | f + 1, i, l, best =>
    if i ≤ s.size ∧ 0 < l.length then runL ns en s f (i + 1) (nextL ns s i (spreadF ns l)) (if holdsB ns.length (spreadF ns l) en then i else best)
    else best
def longF (ns : List Node) (st en : Int) (s : ByteArray) (i : Nat) : Int := runL ns en s (s.size + 2) i (enterF ns.length [] st) (-1)

theorem Fresh.step {w wr w1 : World} {S : Nat → Prop} (h : Fresh w wr) (hm : Mod S wr w1) (hS : ∀ k, S k → w.heap.size ≤ k) : Fresh w w1 :=
  Mod.trans' (S := fun _ => False) h hm (fun i hi hs => absurd (hS i hs) (by omega))

set_option maxRecDepth 20000 in
set_option maxHeartbeats 4000000 in
theorem longest_any (w : World) (v : Value) (st en : Int) (ns : List Node) (s : ByteArray) (i0 : Nat) (hN : NodesAt w v ns) (hn : ns.length ≤ 100000) (hs : s.size ≤ 1000) (hi : i0 ≤ 2000) :
    Calls Tryz.prog 39 #[patV v st en, .string s, .int .i64 i0] w fun e w' => e = .returned (.int .i64 (longF ns st en s i0)) ∧ Fresh w w' := by
  have HNo := hid hN
  generalize hR : longF ns st en s i0 = R
  have HR : Hid (runL ns en s (s.size + 2) i0 (enterF ns.length [] st) (-1) = R) := hR
  have hvb : ∀ k, v.ownBlock = some k → k < w.heap.size := fun k hk => (hN.own.lt k hk).2
  have HVB := hid hvb
  obtain ⟨ao, cap, hv⟩ := own_form hN.own
  subst hv
  clear hR hN hvb
  go_enter Tryz.func39, Tryz.ntmps39
  have hf0 : Fresh w (w.alloc (.cells #[.slice ao ns.length cap, .int .i64 st, .int .i64 en] 67 (0, 0))) := (Mod.refl _ w).alloc _
  have HB0 := hid (heap_alloc_at w (.cells #[.slice ao ns.length cap, .int .i64 st, .int .i64 en] 67 (0, 0)))
  go_wp2_with (first
    | (go_at_call 57; refine (newCrowd_any _ ns.length hn).mono ?_; rintro e w1 ⟨c1, l1, b1, rfl, hC1, hF1, hk1⟩; have k1 := cellOf (hF1.at HB0.out (fun x => x))))
  have HB1 := hid (hF1.at HB0.out (fun x => x))
  clear k1
  go_wp2_with (first
    | (go_at_call 57; refine (newCrowd_any w1 ns.length hn).mono ?_; rintro e w2 ⟨c2, l2, b2, rfl, hC2, hF2, hk2⟩; have k1 := cellOf (hF2.at HB1.out (fun x => x))))
  clear k1
  have HB2 := hid (hF2.at HB1.out (fun x => x))
  have hC1' := hC1.kept hF2 (fun _ _ x => x)
  have q1 : ∀ k, cfoot c1 l1 b1 k → w.heap.size < k := fun k hk => by have := hk1 k hk; simp at this; omega
  have q2 : ∀ k, cfoot c2 l2 b2 k → w1.heap.size ≤ k := hk2
  have z1 : w.heap.size < w1.heap.size := by have := hF1.size; simp at this; omega
  have q12 : ∀ k, cfoot c1 l1 b1 k → ¬ cfoot c2 l2 b2 k := fun k hk h2 => by have := hC1.foot_lt hk; have := q2 k h2; omega
  have fr2 : Fresh w w2 := (hf0.trans hF1).trans hF2
  have k1 := cellOf HB2.out
  go_wp2_with (first
    | (go_at_call 58; refine (enter_any w2 c1 l1 b1 _ _ _ hC1' hn).mono ?_; rintro e w3 ⟨rfl, hC3, hm3⟩))
  have hB3 := hm3.at HB2.out (fun h => by have := q1 _ h; omega)
  have fr3 := Fresh.step fr2 hm3 (fun k hk => by have := q1 k hk; omega)
  have hC23 := hC2.kept hm3 (fun k hk h1 => q12 k h1 hk)
  clear k1 hC1 hC1' hC2 hF1 hF2 hk1 hk2 hm3 hf0
  have ST : Hid (∃ (f i : Nat) (l acc : List Nat) (best : Int) (ca la ia cb lb ib : Nat),
      (Value.int .i64 (-1) = .int .i64 best ∧ cptr c1 = cptr ca ∧ cptr c2 = cptr cb ∧ Value.int .i64 i0 = .int .i64 i) ∧ runL ns en s f i l best = R ∧ s.size + 2 ≤ f + i ∧ i ≤ 3000 ∧
      CrAt w3 ca la ia ns.length l ∧ CrAt w3 cb lb ib ns.length acc ∧ (∀ k, cfoot ca la ia k → w.heap.size < k) ∧ (∀ k, cfoot cb lb ib k → w.heap.size < k) ∧ (∀ k, cfoot ca la ia k → ¬ cfoot cb lb ib k) ∧
      w3.heap[w.heap.size]? = some (.cells #[.slice ao ns.length cap, .int .i64 st, .int .i64 en] 67 (0, 0)) ∧ Fresh w w3) :=
    ⟨s.size + 2, i0, _, _, -1, c1, l1, b1, c2, l2, b2, ⟨rfl, rfl, rfl, rfl⟩, HR.out, by omega, by omega, hC3, hC23, q1, fun k hk => by have := q2 k hk; omega, q12, hB3, fr3⟩
  clear hC3 hC23 q1 q2 q12 hB3 fr3 fr2 z1
  go_loopw [7, 8, 9, 10] (fun x7 x8 x9 x10 wr => ∃ (f i : Nat) (l acc : List Nat) (best : Int) (ca la ia cb lb ib : Nat),
      (x7 = .int .i64 best ∧ x8 = cptr ca ∧ x9 = cptr cb ∧ x10 = .int .i64 i) ∧ runL ns en s f i l best = R ∧ s.size + 2 ≤ f + i ∧ i ≤ 3000 ∧
      CrAt wr ca la ia ns.length l ∧ CrAt wr cb lb ib ns.length acc ∧ (∀ k, cfoot ca la ia k → w.heap.size < k) ∧ (∀ k, cfoot cb lb ib k → w.heap.size < k) ∧ (∀ k, cfoot ca la ia k → ¬ cfoot cb lb ib k) ∧
      wr.heap[w.heap.size]? = some (.cells #[.slice ao ns.length cap, .int .i64 st, .int .i64 en] 67 (0, 0)) ∧ Fresh w wr)
      (fun _ _ _ x _ => 3001 - (intOf x).toNat)
  case atStart => exact ST.out
  case round =>
    obtain ⟨f, i, l, acc, best, ca, la, ia, cb, lb, ib, ⟨rfl, rfl, rfl, rfl⟩, hR, hfu, hi3, hA, hB, qa, qb, qab, hbox, hfr⟩ := hrel
    obtain ⟨⟨a1, a2, a3⟩, _⟩ := hA.facts
    have HNr := hid (HNo.out.kept hfr (fun _ _ x => x))
    have HA := hid hA
    have HBc := hid hB
    have QA := hid qa
    have QB := hid qb
    have QAB := hid qab
    have HBX := hid hbox
    have HFR := hid hfr
    clear hA hB qa qb qab hbox hfr ST
    by_cases hgo : i ≤ s.size ∧ 0 < l.length
    · obtain ⟨hle, hpos⟩ := hgo
      obtain ⟨f, rfl⟩ : ∃ g, f = g + 1 := ⟨f - 1, by omega⟩
      unfold runL at hR
      rw [if_pos ⟨hle, hpos⟩] at hR
      have HME := hid (meas (B := 3001) i (by omega))
      have hpos' : (0 : Int) < (l.length : Int) := by omega
      have hvA : Hid (∀ k, (Value.slice ao ns.length cap).ownBlock = some k → ¬ cfoot ca la ia k) := fun k hk h => by have := HVB.out k hk; have := QA.out k h; omega
      have hvB : Hid (∀ k, (Value.slice ao ns.length cap).ownBlock = some k → ¬ cfoot cb lb ib k) := fun k hk h => by have := HVB.out k hk; have := QB.out k h; omega
      have nA : Hid (¬ cfoot ca la ia w.heap.size) := fun h => by have := QA.out _ h; omega
      have nB : Hid (¬ cfoot cb lb ib w.heap.size) := fun h => by have := QB.out _ h; omega
      have qA : Hid (∀ k, cfoot ca la ia k → w.heap.size ≤ k) := fun k hk => by have := QA.out k hk; omega
      have qB : Hid (∀ k, cfoot cb lb ib k → w.heap.size ≤ k) := fun k hk => by have := QB.out k hk; omega
      have qBA : Hid (∀ k, cfoot cb lb ib k → ¬ cfoot ca la ia k) := fun k h1 h2 => QAB.out k h2 h1
      have hA0 := HA.out
      have hB0 := HBc.out
      have hN0 := HNr.out
      have hfr0 := HFR.out
      have k1 := cellOf HBX.out
      have HBX0 := HBX
      by_cases hlt : i < s.size
      · have hat : atB s (i : Int) = ((s[i].toNat : Nat) : Int) := by simp [atB, hlt]
        have hb8 : s[i].toNat ≤ 255 := by have := s[i].toNat_lt; omega
        have hnx : nextL ns s i (spreadF ns l) = stepF ns s[i].toNat (spreadF ns l) [] := by unfold nextL; rw [dif_pos hlt]
        rw [hnx] at hR
        generalize s[i].toNat = cN at hat hb8 hR
        have HAT := hid hat
        cases hh : holdsB ns.length (spreadF ns l) en
        all_goals
          rw [hh] at hR
          have HRR := hid hR
          have HH : Hid (decide (0 ≤ en ∧ en < (ns.length : Int) ∧ en.toNat ∈ spreadF ns l) = _) := hh
          clear hR hh hnx hat
          go_wp2_with (first
            | (go_at_call 59; refine (spread_any _ _ _ _ ns ca la ia l hN0 hA0 hn hvA.out).mono ?_; rintro e w1 ⟨rfl, hA1, hm1⟩; replace hA0 := hA1; replace hB0 := hB0.kept hm1 qBA.out; replace hN0 := hN0.kept hm1 hvA.out; replace hfr0 := Fresh.step hfr0 hm1 qA.out; replace HBX0 := hid (hm1.at HBX0.out nA.out); clear k1; have k1 := cellOf HBX0.out; clear hm1)
            | (go_at_call 60; refine (holds_any _ ca la ia ns.length _ en hA0 hn).mono ?_; rw [HH.out]; rintro e w' ⟨rfl, hw⟩; rw [hw]; clear hw)
            | (go_at_call 61; refine (empty_any _ cb lb ib _ _ hB0 hn).mono ?_; rintro e w1 ⟨rfl, hB1, hm1⟩; replace hB0 := hB1; replace hA0 := hA0.kept hm1 QAB.out; replace hN0 := hN0.kept hm1 hvB.out; replace hfr0 := Fresh.step hfr0 hm1 qB.out; replace HBX0 := hid (hm1.at HBX0.out nB.out); clear k1; have k1 := cellOf HBX0.out; clear hm1)
            | (go_at_call 62; refine (at_any _ _ _ (by unfold maxLen; omega)).mono ?_; rw [HAT.out]; rintro e w' ⟨rfl, hw⟩; rw [hw]; clear hw)
            | (go_at_call 63; refine (step_any _ _ _ _ ns ca la ia cb lb ib _ _ cN hb8 hN0 hA0 hB0 hn hvB.out QAB.out).mono ?_; rintro e w1 ⟨rfl, hB1, hm1⟩; replace hB0 := hB1; replace hA0 := hA0.kept hm1 QAB.out; replace hfr0 := Fresh.step hfr0 hm1 qB.out; replace HBX0 := hid (hm1.at HBX0.out nB.out); clear k1 hm1))
          go_roundw
          case rel => exact ⟨f, i + 1, _, _, _, cb, lb, ib, ca, la, ia, ⟨rfl, rfl, rfl, by go_num⟩, HRR.out, by omega, by omega, hB0, hA0, QB.out, QA.out, qBA.out, HBX0.out, hfr0⟩
          case measure => exact HME.out
      · have hat : atB s (i : Int) = -1 := by simp [atB, hlt]
        have hnx : nextL ns s i (spreadF ns l) = [] := by unfold nextL; rw [dif_neg hlt]
        rw [hnx] at hR
        have HAT := hid hat
        cases hh : holdsB ns.length (spreadF ns l) en
        all_goals
          rw [hh] at hR
          have HRR := hid hR
          have HH : Hid (decide (0 ≤ en ∧ en < (ns.length : Int) ∧ en.toNat ∈ spreadF ns l) = _) := hh
          clear hR hh hnx hat
          go_wp2_with (first
            | (go_at_call 59; refine (spread_any _ _ _ _ ns ca la ia l hN0 hA0 hn hvA.out).mono ?_; rintro e w1 ⟨rfl, hA1, hm1⟩; replace hA0 := hA1; replace hB0 := hB0.kept hm1 qBA.out; replace hN0 := hN0.kept hm1 hvA.out; replace hfr0 := Fresh.step hfr0 hm1 qA.out; replace HBX0 := hid (hm1.at HBX0.out nA.out); clear k1; have k1 := cellOf HBX0.out; clear hm1)
            | (go_at_call 60; refine (holds_any _ ca la ia ns.length _ en hA0 hn).mono ?_; rw [HH.out]; rintro e w' ⟨rfl, hw⟩; rw [hw]; clear hw)
            | (go_at_call 61; refine (empty_any _ cb lb ib _ _ hB0 hn).mono ?_; rintro e w1 ⟨rfl, hB1, hm1⟩; replace hB0 := hB1; replace hA0 := hA0.kept hm1 QAB.out; replace hN0 := hN0.kept hm1 hvB.out; replace hfr0 := Fresh.step hfr0 hm1 qB.out; replace HBX0 := hid (hm1.at HBX0.out nB.out); clear k1; have k1 := cellOf HBX0.out; clear hm1)
            | (go_at_call 62; refine (at_any _ _ _ (by unfold maxLen; omega)).mono ?_; rw [HAT.out]; rintro e w' ⟨rfl, hw⟩; rw [hw]; clear hw)
            | (go_at_call 63; refine (step_none _ _ _ _ _ _).mono ?_; rintro e w1 ⟨rfl, hm1⟩; replace hB0 := hB0.kept hm1 (fun _ _ x => x); replace hA0 := hA0.kept hm1 (fun _ _ x => x); replace hfr0 := hfr0.trans hm1; replace HBX0 := hid (hm1.at HBX0.out (fun x => x)); clear k1 hm1))
          go_roundw
          case rel => exact ⟨f, i + 1, _, _, _, cb, lb, ib, ca, la, ia, ⟨rfl, rfl, rfl, by go_num⟩, HRR.out, by omega, by omega, hB0, hA0, QB.out, QA.out, qBA.out, HBX0.out, hfr0⟩
          case measure => exact HME.out
    · have hRr : best = R := by
        rw [← hR]; cases f with
        | zero => rfl
        | succ f => unfold runL; rw [if_neg hgo]
      have HRR := hid hRr
      clear hR hRr
      by_cases h1 : i ≤ s.size
      · have h2 : l.length = 0 := by omega
        rw [h2] at a2
        go_wp2
        go_ret
        exact ⟨ret_int HRR.out, HFR.out⟩
      · go_wp2
        go_ret
        exact ⟨ret_int HRR.out, HFR.out⟩
end Go.Proofs.YteneagnhihcljaaGreatDoor
