import Derived.Test.YtcpgklcimacngaaGreatCrw2
import Derived.Test.YtcpgklcimacngaaGreatApp
namespace Go.Proofs.YtcpgklcimacngaaGreat
open Go.RowKit
set_option linter.unusedVariables false
set_option linter.unusedSimpArgs false

def holdsB (n : Nat) (t : List Nat) (en : Int) : Bool := decide (0 ≤ en ∧ en < n ∧ en.toNat ∈ t)
def nextL (ns : List Node) (s : ByteArray) (i : Nat) (t : List Nat) : List Nat := if h : i < s.size then stepF ns s[i].toNat t [] else []
def runL (ns : List Node) (en : Int) (s : ByteArray) : Nat → Nat → List Nat → Int → Int
  | 0, _, _, best => best
  | f + 1, i, l, best =>
    if i ≤ s.size ∧ 0 < l.length then runL ns en s f (i + 1) (nextL ns s i (spreadF ns l)) (if holdsB ns.length (spreadF ns l) en then i else best)
    else best
def longF (ns : List Node) (st en : Int) (s : ByteArray) (i : Nat) : Int := runL ns en s (s.size + 2) i (enterF ns.length [] st) (-1)

theorem Fresh.step {w wr w1 : World} {S : Nat → Prop} (h : Fresh w wr) (hm : Mod S wr w1) (hS : ∀ k, S k → w.heap.size ≤ k) : Fresh w w1 :=
  Mod.trans' (S := fun _ => False) h hm (fun i hi hs => absurd (hS i hs) (by omega))

set_option maxRecDepth 20000 in
set_option maxHeartbeats 4000000 in
theorem longest_any (w : World) (v : Value) (st en : Int) (ns : List Node) (s : ByteArray) (i0 : Nat) (hN : NodesAt w v ns) (hn : ns.length ≤ 100000) (hs : s.size ≤ 1000) (hi : i0 ≤ 2000) :
    Calls Tryz.prog 53 #[patV v st en, .string s, .int .i64 i0] w fun e w' => e = .returned (.int .i64 (longF ns st en s i0)) ∧ Fresh w w' := by
  have HNo := hid hN
  generalize hR : longF ns st en s i0 = R
  have HR : Hid (runL ns en s (s.size + 2) i0 (enterF ns.length [] st) (-1) = R) := hR
  have hvb : ∀ k, v.ownBlock = some k → k < w.heap.size := fun k hk => (hN.own.lt k hk).2
  have HVB := hid hvb
  obtain ⟨ao, cap, hv⟩ := own_form hN.own
  subst hv
  clear hR hN hvb
  go_enter Tryz.func53, Tryz.ntmps53
  have hf0 : Fresh w (w.alloc (.cells #[.slice ao ns.length cap, .int .i64 st, .int .i64 en] 83 (0, 0))) := (Mod.refl _ w).alloc _
  have HB0 := hid (heap_alloc_at w (.cells #[.slice ao ns.length cap, .int .i64 st, .int .i64 en] 83 (0, 0)))
  go_wp2_with (first
    | (go_at_call 73; refine (newCrowd_any _ ns.length hn).mono ?_; rintro e w1 ⟨c1, l1, b1, rfl, hC1, hF1, hk1⟩; have k1 := cellOf (hF1.at HB0.out (fun x => x))))
  have HB1 := hid (hF1.at HB0.out (fun x => x))
  clear k1
  go_wp2_with (first
    | (go_at_call 73; refine (newCrowd_any w1 ns.length hn).mono ?_; rintro e w2 ⟨c2, l2, b2, rfl, hC2, hF2, hk2⟩; have k1 := cellOf (hF2.at HB1.out (fun x => x))))
  clear k1
  have HB2 := hid (hF2.at HB1.out (fun x => x))
  have hC1' := hC1.kept hF2 (fun _ _ x => x)
  have q1 : ∀ k, cfoot c1 l1 b1 k → w.heap.size < k := fun k hk => by have := hk1 k hk; simp at this; omega
  have q2 : ∀ k, cfoot c2 l2 b2 k → w1.heap.size ≤ k := hk2
  have z1 : w.heap.size < w1.heap.size := by have := hF1.size; simp at this; omega
  have q12 : ∀ k, cfoot c1 l1 b1 k → ¬ cfoot c2 l2 b2 k := fun k hk h2 => by have := hC1.foot_lt hk; have := q2 k h2; omega
  have fr2 : Fresh w w2 := (hf0.trans hF1).trans hF2
  have k1 := cellOf HB2.out
  go_wp2_with (first
    | (go_at_call 74; refine (enter_any w2 c1 l1 b1 _ _ _ hC1' hn).mono ?_; rintro e w3 ⟨rfl, hC3, hm3⟩))
  have hB3 := hm3.at HB2.out (fun h => by have := q1 _ h; omega)
  have fr3 := Fresh.step fr2 hm3 (fun k hk => by have := q1 k hk; omega)
  have hC23 := hC2.kept hm3 (fun k hk h1 => q12 k h1 hk)
  clear k1 hC1 hC1' hC2 hF1 hF2 hk1 hk2 hm3 hf0
  have ST : Hid (∃ (f i : Nat) (l acc : List Nat) (best : Int) (ca la ia cb lb ib : Nat),
      (Value.int .i64 (-1) = .int .i64 best ∧ cptr c1 = cptr ca ∧ cptr c2 = cptr cb ∧ Value.int .i64 i0 = .int .i64 i) ∧ runL ns en s f i l best = R ∧ s.size + 2 ≤ f + i ∧ i ≤ 3000 ∧
      CrAt w3 ca la ia ns.length l ∧ CrAt w3 cb lb ib ns.length acc ∧ (∀ k, cfoot ca la ia k → w.heap.size < k) ∧ (∀ k, cfoot cb lb ib k → w.heap.size < k) ∧ (∀ k, cfoot ca la ia k → ¬ cfoot cb lb ib k) ∧
      w3.heap[w.heap.size]? = some (.cells #[.slice ao ns.length cap, .int .i64 st, .int .i64 en] 83 (0, 0)) ∧ Fresh w w3) :=
    ⟨s.size + 2, i0, _, _, -1, c1, l1, b1, c2, l2, b2, ⟨rfl, rfl, rfl, rfl⟩, HR.out, by omega, by omega, hC3, hC23, q1, fun k hk => by have := q2 k hk; omega, q12, hB3, fr3⟩
  clear hC3 hC23 q1 q2 q12 hB3 fr3 fr2 z1
  go_loopw [7, 8, 9, 10] (fun x7 x8 x9 x10 wr => ∃ (f i : Nat) (l acc : List Nat) (best : Int) (ca la ia cb lb ib : Nat),
      (x7 = .int .i64 best ∧ x8 = cptr ca ∧ x9 = cptr cb ∧ x10 = .int .i64 i) ∧ runL ns en s f i l best = R ∧ s.size + 2 ≤ f + i ∧ i ≤ 3000 ∧
      CrAt wr ca la ia ns.length l ∧ CrAt wr cb lb ib ns.length acc ∧ (∀ k, cfoot ca la ia k → w.heap.size < k) ∧ (∀ k, cfoot cb lb ib k → w.heap.size < k) ∧ (∀ k, cfoot ca la ia k → ¬ cfoot cb lb ib k) ∧
      wr.heap[w.heap.size]? = some (.cells #[.slice ao ns.length cap, .int .i64 st, .int .i64 en] 83 (0, 0)) ∧ Fresh w wr)
      (fun _ _ _ x _ => 3001 - (intOf x).toNat)
  case atStart => exact ST.out
  case round =>
    obtain ⟨f, i, l, acc, best, ca, la, ia, cb, lb, ib, ⟨rfl, rfl, rfl, rfl⟩, hR, hfu, hi3, hA, hB, qa, qb, qab, hbox, hfr⟩ := hrel
    obtain ⟨⟨a1, a2, a3⟩, _⟩ := hA.facts
    have HNr := hid (HNo.out.kept hfr (fun _ _ x => x))
    have HA := hid hA
    have HBc := hid hB
    have QA := hid qa
    have QB := hid qb
    have QAB := hid qab
    have HBX := hid hbox
    have HFR := hid hfr
    clear hA hB qa qb qab hbox hfr ST
    by_cases hgo : i ≤ s.size ∧ 0 < l.length
    · obtain ⟨hle, hpos⟩ := hgo
      obtain ⟨f, rfl⟩ : ∃ g, f = g + 1 := ⟨f - 1, by omega⟩
      unfold runL at hR
      rw [if_pos ⟨hle, hpos⟩] at hR
      have HME := hid (meas (B := 3001) i (by omega))
      have hpos' : (0 : Int) < (l.length : Int) := by omega
      have hvA : Hid (∀ k, (Value.slice ao ns.length cap).ownBlock = some k → ¬ cfoot ca la ia k) := fun k hk h => by have := HVB.out k hk; have := QA.out k h; omega
      have hvB : Hid (∀ k, (Value.slice ao ns.length cap).ownBlock = some k → ¬ cfoot cb lb ib k) := fun k hk h => by have := HVB.out k hk; have := QB.out k h; omega
      have nA : Hid (¬ cfoot ca la ia w.heap.size) := fun h => by have := QA.out _ h; omega
      have nB : Hid (¬ cfoot cb lb ib w.heap.size) := fun h => by have := QB.out _ h; omega
      have qA : Hid (∀ k, cfoot ca la ia k → w.heap.size ≤ k) := fun k hk => by have := QA.out k hk; omega
      have qB : Hid (∀ k, cfoot cb lb ib k → w.heap.size ≤ k) := fun k hk => by have := QB.out k hk; omega
      have qBA : Hid (∀ k, cfoot cb lb ib k → ¬ cfoot ca la ia k) := fun k h1 h2 => QAB.out k h2 h1
      have hA0 := HA.out
      have hB0 := HBc.out
      have hN0 := HNr.out
      have hfr0 := HFR.out
      have k1 := cellOf HBX.out
      have HBX0 := HBX
      by_cases hlt : i < s.size
      · have hat : atB s (i : Int) = ((s[i].toNat : Nat) : Int) := by simp [atB, hlt]
        have hb8 : s[i].toNat ≤ 255 := by have := s[i].toNat_lt; omega
        have hnx : nextL ns s i (spreadF ns l) = stepF ns s[i].toNat (spreadF ns l) [] := by unfold nextL; rw [dif_pos hlt]
        rw [hnx] at hR
        generalize s[i].toNat = cN at hat hb8 hR
        have HAT := hid hat
        cases hh : holdsB ns.length (spreadF ns l) en
        all_goals
          rw [hh] at hR
          have HRR := hid hR
          have HH : Hid (decide (0 ≤ en ∧ en < (ns.length : Int) ∧ en.toNat ∈ spreadF ns l) = _) := hh
          clear hR hh hnx hat
          go_wp2_with (first
            | (go_at_call 75; refine (spread_any _ _ _ _ ns ca la ia l hN0 hA0 hn hvA.out).mono ?_; rintro e w1 ⟨rfl, hA1, hm1⟩; replace hA0 := hA1; replace hB0 := hB0.kept hm1 qBA.out; replace hN0 := hN0.kept hm1 hvA.out; replace hfr0 := Fresh.step hfr0 hm1 qA.out; replace HBX0 := hid (hm1.at HBX0.out nA.out); clear k1; have k1 := cellOf HBX0.out; clear hm1)
            | (go_at_call 76; refine (holds_any _ ca la ia ns.length _ en hA0 hn).mono ?_; rw [HH.out]; rintro e w' ⟨rfl, hw⟩; rw [hw]; clear hw)
            | (go_at_call 77; refine (empty_any _ cb lb ib _ _ hB0 hn).mono ?_; rintro e w1 ⟨rfl, hB1, hm1⟩; replace hB0 := hB1; replace hA0 := hA0.kept hm1 QAB.out; replace hN0 := hN0.kept hm1 hvB.out; replace hfr0 := Fresh.step hfr0 hm1 qB.out; replace HBX0 := hid (hm1.at HBX0.out nB.out); clear k1; have k1 := cellOf HBX0.out; clear hm1)
            | (go_at_call 78; refine (at_any _ _ _ (by unfold maxLen; omega)).mono ?_; rw [HAT.out]; rintro e w' ⟨rfl, hw⟩; rw [hw]; clear hw)
            | (go_at_call 79; refine (step_any _ _ _ _ ns ca la ia cb lb ib _ _ cN hb8 hN0 hA0 hB0 hn hvB.out QAB.out).mono ?_; rintro e w1 ⟨rfl, hB1, hm1⟩; replace hB0 := hB1; replace hA0 := hA0.kept hm1 QAB.out; replace hfr0 := Fresh.step hfr0 hm1 qB.out; replace HBX0 := hid (hm1.at HBX0.out nB.out); clear k1 hm1))
          go_roundw
          case rel => exact ⟨f, i + 1, _, _, _, cb, lb, ib, ca, la, ia, ⟨rfl, rfl, rfl, by go_num⟩, HRR.out, by omega, by omega, hB0, hA0, QB.out, QA.out, qBA.out, HBX0.out, hfr0⟩
          case measure => exact HME.out
      · have hat : atB s (i : Int) = -1 := by simp [atB, hlt]
        have hnx : nextL ns s i (spreadF ns l) = [] := by unfold nextL; rw [dif_neg hlt]
        rw [hnx] at hR
        have HAT := hid hat
        cases hh : holdsB ns.length (spreadF ns l) en
        all_goals
          rw [hh] at hR
          have HRR := hid hR
          have HH : Hid (decide (0 ≤ en ∧ en < (ns.length : Int) ∧ en.toNat ∈ spreadF ns l) = _) := hh
          clear hR hh hnx hat
          go_wp2_with (first
            | (go_at_call 75; refine (spread_any _ _ _ _ ns ca la ia l hN0 hA0 hn hvA.out).mono ?_; rintro e w1 ⟨rfl, hA1, hm1⟩; replace hA0 := hA1; replace hB0 := hB0.kept hm1 qBA.out; replace hN0 := hN0.kept hm1 hvA.out; replace hfr0 := Fresh.step hfr0 hm1 qA.out; replace HBX0 := hid (hm1.at HBX0.out nA.out); clear k1; have k1 := cellOf HBX0.out; clear hm1)
            | (go_at_call 76; refine (holds_any _ ca la ia ns.length _ en hA0 hn).mono ?_; rw [HH.out]; rintro e w' ⟨rfl, hw⟩; rw [hw]; clear hw)
            | (go_at_call 77; refine (empty_any _ cb lb ib _ _ hB0 hn).mono ?_; rintro e w1 ⟨rfl, hB1, hm1⟩; replace hB0 := hB1; replace hA0 := hA0.kept hm1 QAB.out; replace hN0 := hN0.kept hm1 hvB.out; replace hfr0 := Fresh.step hfr0 hm1 qB.out; replace HBX0 := hid (hm1.at HBX0.out nB.out); clear k1; have k1 := cellOf HBX0.out; clear hm1)
            | (go_at_call 78; refine (at_any _ _ _ (by unfold maxLen; omega)).mono ?_; rw [HAT.out]; rintro e w' ⟨rfl, hw⟩; rw [hw]; clear hw)
            | (go_at_call 79; refine (step_none _ _ _ _ _ _).mono ?_; rintro e w1 ⟨rfl, hm1⟩; replace hB0 := hB0.kept hm1 (fun _ _ x => x); replace hA0 := hA0.kept hm1 (fun _ _ x => x); replace hfr0 := hfr0.trans hm1; replace HBX0 := hid (hm1.at HBX0.out (fun x => x)); clear k1 hm1))
          go_roundw
          case rel => exact ⟨f, i + 1, _, _, _, cb, lb, ib, ca, la, ia, ⟨rfl, rfl, rfl, by go_num⟩, HRR.out, by omega, by omega, hB0, hA0, QB.out, QA.out, qBA.out, HBX0.out, hfr0⟩
          case measure => exact HME.out
    · have hRr : best = R := by
        rw [← hR]; cases f with
        | zero => rfl
        | succ f => unfold runL; rw [if_neg hgo]
      have HRR := hid hRr
      clear hR hRr
      by_cases h1 : i ≤ s.size
      · have h2 : l.length = 0 := by omega
        rw [h2] at a2
        go_wp2
        go_ret
        exact ⟨ret_int HRR.out, HFR.out⟩
      · go_wp2
        go_ret
        exact ⟨ret_int HRR.out, HFR.out⟩
end Go.Proofs.YtcpgklcimacngaaGreat
namespace Go.Proofs.YtcpgklcimacngaaGreat
open Go.RowKit
set_option linter.unusedVariables false
set_option linter.unusedSimpArgs false

section
variable {α : Type} (cells : α → List Value) (k : Nat)
def flatC (xs : List α) : List Value := xs.flatMap cells
theorem flat_len {xs : List α} (h : ∀ x ∈ xs, (cells x).length = k) : (flatC cells xs).length = xs.length * k := by
  induction xs with
  | nil => simp [flatC]
  | cons n ns ih =>
    have h1 := h n (by simp)
    have h2 := ih (fun m hm => h m (by simp [hm]))
    simp only [flatC, List.flatMap_cons, List.length_append, List.length_cons] at h2 ⊢
    rw [h2, h1, Nat.add_mul]; omega
theorem flat_at {xs : List α} (h : ∀ x ∈ xs, (cells x).length = k) (i j : Nat) (hi : i < xs.length) (hj : j < k) : (flatC cells xs)[i * k + j]? = (cells xs[i])[j]? := by
  induction xs generalizing i with
  | nil => simp at hi
  | cons n ns ih =>
    have h1 := h n (by simp)
    simp only [flatC, List.flatMap_cons]
    cases i with
    | zero => rw [List.getElem?_append_left (by simp; omega)]; simp
    | succ i =>
      have e0 : (i + 1) * k = i * k + k := Nat.succ_mul i k
      rw [List.getElem?_append_right (by omega), h1]
      have e : (i + 1) * k + j - k = i * k + j := by omega
      rw [e]
      exact ih (fun m hm => h m (by simp [hm])) i (by simpa using hi)
end

/-- v is a slice of these. -/
structure RowAt {α : Type} (cells : α → List Value) (k : Nat) (T : TypeId) (w : World) (v : Value) (xs : List α) : Prop where
  own : w.ownsRow 0 T k v xs.length (flatC cells xs)
  wf : ∀ x ∈ xs, (cells x).length = k
theorem RowAt.kept {α : Type} {cells : α → List Value} {k : Nat} {T : TypeId} {S : Nat → Prop} {w w' : World} {v : Value} {xs : List α} (h : RowAt cells k T w v xs) (hm : Mod S w w') (hs : ∀ b, v.ownBlock = some b → ¬ S b) : RowAt cells k T w' v xs :=
  ⟨ownsRow_other h.own (fun g hg => hm.block g (h.own.lt g hg).2 (hs g hg)), h.wf⟩
theorem RowAt.fresh {α : Type} {cells : α → List Value} {k : Nat} {T : TypeId} {w w' : World} {v : Value} {xs : List α} (h : RowAt cells k T w v xs) (hm : Fresh w w') : RowAt cells k T w' v xs := h.kept hm (fun _ _ x => x)
theorem NodesAt.fresh {w w' : World} {v : Value} {ns : List Node} (h : NodesAt w v ns) (hm : Fresh w w') : NodesAt w' v ns := h.kept hm (fun _ _ x => x)
theorem RowAt.range {α : Type} {cells : α → List Value} {k : Nat} {T : TypeId} {w : World} {g n cap : Nat} {xs : List α} (h : RowAt cells k T w (.slice (some ⟨g, 0, none⟩) n cap) xs) (i : Nat) (hi : i < xs.length) : w.rangeAt g (i * k) (cells xs[i]) := by
  intro j v hj
  have hlt : j < k := by have := (List.getElem?_eq_some_iff.1 hj).1; rw [h.wf _ (by simp)] at this; exact this
  have := h.own.cells (g := g) rfl (i * k + j) v (by rw [flat_at cells k h.wf i j hi hlt]; exact hj)
  rwa [Addr.add_mid, Nat.zero_add] at this
theorem RowAt.cell {α : Type} {cells : α → List Value} {k : Nat} {T : TypeId} {w : World} {g n cap : Nat} {xs : List α} (h : RowAt cells k T w (.slice (some ⟨g, 0, none⟩) n cap) xs) (i j : Nat) (hi : i < xs.length) (hj : j < k) : w.cell? ⟨g, i * k + j, none⟩ = (cells xs[i])[j]? := by
  have hlt : j < (cells xs[i]).length := by rw [h.wf _ (by simp)]; exact hj
  rw [h.range i hi j _ (List.getElem?_eq_getElem hlt)]; simp
theorem RowAt.nil {α : Type} (cells : α → List Value) (k : Nat) (T : TypeId) (w : World) : RowAt cells k T w (.slice none 0 0) [] := ⟨World.ownsRow_nil _ _ _ _, fun _ h => by cases h⟩

structure Wd where
  place : Int
  ls : List Int
def Wd.cells (d : Wd) : List Value := .int .i64 d.place :: d.ls.map (Value.int .u8)
def zero8 : List Int := [0, 0, 0, 0, 0, 0, 0, 0]
def rWordL (s : ByteArray) (i : Int) : Nat → Nat → List Int → List Int × Int
  | 0, n, ls => (ls, i + n)
  | f + 1, n, ls =>
    if n < 8 then
      if isSmallB (atB s (i + n)) then rWordL s i f (n + 1) (ls.set n (atB s (i + n))) else (ls, i + n)
    else (ls, i + 8)
/-- the word, behind it, whether there is one -/
def rWord (s : ByteArray) (i : Int) : Wd × Int × Bool :=
  if (!isSmallB (atB s i) && !isCapB (atB s i)) = true then (⟨0, zero8⟩, i, false)
  else (⟨i, (rWordL s i 9 1 (zero8.set 0 (atB s i))).1⟩, (rWordL s i 9 1 (zero8.set 0 (atB s i))).2, true)
theorem rWordL_len (s : ByteArray) (i : Int) : ∀ (f n : Nat) (ls : List Int), ls.length = 8 → (rWordL s i f n ls).1.length = 8
  | 0, _, _, h => h
  | f + 1, n, ls, h => by
    unfold rWordL; split
    · split
      · exact rWordL_len s i f _ _ (by simpa using h)
      · exact h
    · exact h
theorem rWordL_bd (s : ByteArray) (i : Int) (h0 : 0 ≤ i) : ∀ (f n : Nat) (ls : List Int), n ≤ 8 → i + n ≤ s.size → i + n ≤ (rWordL s i f n ls).2 ∧ (rWordL s i f n ls).2 ≤ i + 8 ∧ (rWordL s i f n ls).2 ≤ s.size
  | 0, n, _, hn, hs => by unfold rWordL; simp; omega
  | f + 1, n, ls, hn, hs => by
    unfold rWordL; split
    · split
      · rename_i h1 h2
        have := atB_lt (s := s) (i := i + n) (by intro e; rw [e] at h2; simp [isSmallB] at h2)
        have := rWordL_bd s i h0 f (n + 1) (ls.set n (atB s (i + n))) (by omega) (by omega)
        omega
      · simp; omega
    · simp; omega
theorem rWord_len (s : ByteArray) (i : Int) : (rWord s i).1.ls.length = 8 := by
  unfold rWord; split
  · rfl
  · exact rWordL_len _ _ _ _ _ rfl
theorem rWord_bd (s : ByteArray) (i : Int) (h0 : 0 ≤ i) : i ≤ (rWord s i).2.1 ∧ (rWord s i).2.1 ≤ i + 8 ∧ ((rWord s i).2.2 = true → i < (rWord s i).2.1 ∧ (rWord s i).2.1 ≤ s.size) := by
  unfold rWord; split
  · simp; omega
  · rename_i h1
    have h2 : atB s i ≠ -1 := by intro e; rw [e] at h1; simp [isSmallB, isCapB] at h1
    have := atB_lt h2
    have := rWordL_bd s i h0 9 1 (zero8.set 0 (atB s i)) (by omega) (by omega)
    exact ⟨by dsimp only; omega, by dsimp only; omega, fun _ => by dsimp only; omega⟩
theorem Wd.cells_len {d : Wd} (h : d.ls.length = 8) : d.cells.length = 9 := by simp [Wd.cells, h]
theorem szWord : (Tryz.prog.info? 80).map (·.size) = some 9 := by kernel_rfl
theorem szWordOf {d : Wd} (h : d.ls.length = 8) : (Tryz.prog.info? 80).map (·.size) = some d.cells.toArray.size := by rw [List.size_toArray, Wd.cells_len h]; exact szWord
theorem Wd.one (d : Wd) : d.cells.toArray.all (·.oneCell') = true := by
  apply all_oneCell_toArray
  intro v hv; simp [Wd.cells] at hv
  rcases hv with rfl | ⟨a, _, rfl⟩ <;> rfl
theorem Wd.size {d : Wd} (h : d.ls.length = 8) : d.cells.toArray.size = 9 := by rw [List.size_toArray, Wd.cells_len h]
theorem sameSize {a b : Array Value} {n : Nat} (ha : a.size = n) (hb : b.size = n) : a.size = b.size := ha.trans hb.symm
end Go.Proofs.YtcpgklcimacngaaGreat
namespace Go.Proofs.YtcpgklcimacngaaGreat
open Go.RowKit
set_option linter.unusedVariables false
set_option linter.unusedSimpArgs false

/-- An append, under a name that the walk does not open. -/
def apS (ts : Array TypeId) (ty : TypeId) (args : Array Value) : Sem Value := Builtin.append_ ts ty args
theorem apS_rule (ts : Array TypeId) (ty : TypeId) (args : Array Value) : Builtin.append_ ts ty args = apS ts ty args := rfl
/-- An append's run ahead of the walk of a region that draws its order: the rule for its step, and what is behind it. -/
theorem apS_mine {P : Program} (w : World) (base : Nat) (t ty e : TypeId) (i : TypeInfo) (z : Value) (size bytes : Nat) (ht : P.underlying t = some (.slice e)) (hi : P.info? e = some i) (hz : i.zero = some z)
    (hsize : i.size = size) (hby : i.bytes = bytes) (hzs : z.cells.size = size) (hsz : 0 < size)
    (v : Value) (n : Nat) (xs : List Value) (hown : w.ownsRow base e size v n xs)
    (a : Addr) (m c : Nat) (news : List Value) (hl : news.length = m * size) (hnews : ∀ j u, news[j]? = some u → w.cell? (a.add j) = some u) (h1 : ∀ u ∈ news, u.oneCell' = true)
    (h63 : n + m ≤ maxLen) (hbytes : (n + m) * bytes ≤ 140737488355328) (hbase : base ≤ w.heap.size) :
    ∃ v' w', (apS #[t, t] ty #[v, .slice (some a) m c]).run P w = .ok v' w' ∧ w'.ownsRow base e size v' (n + m) (xs ++ news) ∧ w.grownBy w' v.ownBlock ∧
      (∀ k, v'.ownBlock = some k → v.ownBlock = some k ∨ w.heap.size ≤ k) :=
  run_append_mine (P := P) w base t ty e i z size bytes ht hi hz hsize hby hzs hsz v n xs hown a m c news hl hnews h1 h63 hbytes hbase
end Go.Proofs.YtcpgklcimacngaaGreat
namespace Go.Proofs.YtcpgklcimacngaaGreat
open Go.RowKit
set_option linter.unusedVariables false
set_option linter.unusedSimpArgs false

def bls (l : List Bool) : List Value := l.map Value.bool
def tkA (l : List Bool) : Array Value := (bls l).toArray
def zero9 : List Bool := [false, false, false, false, false, false, false, false, false]
def orL (a b : List Bool) : List Bool := List.zipWith (fun x y => x || y) a b
theorem orL_len {a b : List Bool} (ha : a.length = 9) (hb : b.length = 9) : (orL a b).length = 9 := by simp [orL, ha, hb]
def withT (a : List Bool) (n : Int) : List Bool := if 0 ≤ n ∧ n < 9 then a.set n.toNat true else a
theorem withT_len {a : List Bool} {n : Int} (ha : a.length = 9) : (withT a n).length = 9 := by unfold withT; split <;> simpa using ha
def hasT (a : List Bool) (n : Int) : Bool := if 0 ≤ n then a.getD n.toNat false else false
theorem szTks : (Tryz.prog.info? 95).map (·.size) = some 9 := by kernel_rfl
theorem szTokOf {l : List Bool} (h : l.length = 9) : (Tryz.prog.info? 95).map (·.size) = some (tkA l).size := by rw [szTks]; simp [tkA, bls, h]
theorem szTokL {l : List Bool} (h : l.length = 9) : (Tryz.prog.info? 95).map (·.size) = some (bls l).length := by rw [szTks]; simp [tkA, bls, h]
theorem tk_size {l : List Bool} (h : l.length = 9) : (tkA l).size = 9 := by simp [tkA, bls, h]
theorem tk_one (l : List Bool) : (tkA l).all (·.oneCell') = true := by
  unfold tkA
  apply all_oneCell_toArray
  intro v hv; simp [bls] at hv
  rcases hv with ⟨_, rfl⟩ | ⟨_, rfl⟩ <;> rfl
theorem tk_set (l : List Bool) (i : Nat) (c : Bool) : (tkA l).setIfInBounds i (.bool c) = tkA (l.set i c) := by simp [tkA, bls, List.map_set]
def orK (k : Nat) (a b : List Bool) : List Bool := (orL a b).take k ++ a.drop k
theorem orK_len {k : Nat} {a b : List Bool} (ha : a.length = 9) (hb : b.length = 9) (hk : k ≤ 9) : (orK k a b).length = 9 := by simp [orK, orL, ha, hb]; omega
theorem orK_zero (a b : List Bool) : orK 0 a b = a := by simp [orK]
theorem orK_nine {a b : List Bool} (ha : a.length = 9) (hb : b.length = 9) : orK 9 a b = orL a b := by
  unfold orK; rw [List.take_of_length_le (by rw [orL_len ha hb]; omega), List.drop_eq_nil_of_le (by omega)]; simp
theorem nine {α : Type} {l : List α} (h : l.length = 9) : ∃ a0 a1 a2 a3 a4 a5 a6 a7 a8, l = [a0, a1, a2, a3, a4, a5, a6, a7, a8] := by
  rcases l with _ | ⟨a0, _ | ⟨a1, _ | ⟨a2, _ | ⟨a3, _ | ⟨a4, _ | ⟨a5, _ | ⟨a6, _ | ⟨a7, _ | ⟨a8, _ | ⟨a9, l⟩⟩⟩⟩⟩⟩⟩⟩⟩⟩ <;> simp at h
  exact ⟨a0, a1, a2, a3, a4, a5, a6, a7, a8, rfl⟩
theorem orK_at {k : Nat} {a b : List Bool} (ha : a.length = 9) (hb : b.length = 9) (hk : k < 9) : (orK k a b)[k]? = a[k]? := by
  obtain ⟨a0, a1, a2, a3, a4, a5, a6, a7, a8, rfl⟩ := nine ha
  obtain ⟨b0, b1, b2, b3, b4, b5, b6, b7, b8, rfl⟩ := nine hb
  rcases k with _ | _ | _ | _ | _ | _ | _ | _ | _ | k
  all_goals first | rfl | omega
theorem orK_set {k : Nat} {a b : List Bool} (ha : a.length = 9) (hb : b.length = 9) (hk : k < 9) : (orK k a b).set k (a.getD k false || b.getD k false) = orK (k + 1) a b := by
  obtain ⟨a0, a1, a2, a3, a4, a5, a6, a7, a8, rfl⟩ := nine ha
  obtain ⟨b0, b1, b2, b3, b4, b5, b6, b7, b8, rfl⟩ := nine hb
  rcases k with _ | _ | _ | _ | _ | _ | _ | _ | _ | k
  all_goals first | rfl | omega
theorem tk_atD {l : List Bool} {i : Nat} (h : i < l.length) : (tkA l)[i]? = some (.bool (l.getD i false)) := by simp [tkA, bls, h]
theorem orK_atD {k : Nat} {a b : List Bool} (ha : a.length = 9) (hb : b.length = 9) (hk : k < 9) : (orK k a b).getD k false = a.getD k false := by
  simp only [List.getD_eq_getElem?_getD, orK_at ha hb hk]

set_option maxRecDepth 20000 in
set_option maxHeartbeats 2000000 in
theorem tunion_any (w : World) (a b : List Bool) (ha : a.length = 9) (hb : b.length = 9) :
    Calls Tryz.prog 37 #[.agg (tkA a), .agg (tkA b)] w fun e w' => e = .returned (.agg (tkA (orL a b))) ∧ Fresh w w' := by
  have HA := hid ha
  have HB := hid hb
  clear ha hb
  go_enter Tryz.func37, Tryz.ntmps37
  go_wp2
  go_loopw [5, 6] (fun x5 x6 wr => ∃ (k : Nat), x6 = .int .i64 k ∧ k ≤ 9 ∧ Fresh w wr ∧ wr.heap[w.heap.size]? = some (.cells (tkA (orK k a b)) 95 (0, 0)) ∧ wr.heap[w.heap.size + 1]? = some (.cells (tkA b) 95 (0, 0)) ∧ wr.heap[w.heap.size + 2]? = some (.cells (tkA zero9) 95 (0, 0)))
      (fun _ x _ => 10 - (intOf x).toNat)
  case atStart =>
    refine ⟨0, rfl, by omega, (((Mod.refl _ w).alloc _).alloc _).alloc _, ?_, ?_, ?_⟩
    · rw [orK_zero]; exact heap_alloc3_1 _ _ _ _
    · exact heap_alloc3_2 _ _ _ _
    · exact heap_alloc3_3 _ _ _ _
  case round =>
    obtain ⟨k, rfl, hk, hfr, hb0, hb1, hb2⟩ := hrel
    have HB0 := hid hb0
    have HB1 := hid hb1
    have HB2 := hid hb2
    have HME := hid (meas (B := 10) k (by omega))
    clear hb0 hb1 hb2
    by_cases hlt : k < 9
    · have hla : k < a.length := by rw [HA.out]; exact hlt
      have hlb : k < b.length := by rw [HB.out]; exact hlt
      have c0 : wr.cell? ⟨w.heap.size, k, none⟩ = some (.bool (a.getD k false)) := by
        rw [cellOf HB0.out, tk_atD (by rw [orK_len HA.out HB.out hk]; exact hlt), orK_atD HA.out HB.out hlt]
      have c1 : wr.cell? ⟨w.heap.size + 1, k, none⟩ = some (.bool (b.getD k false)) := by rw [cellOf HB1.out, tk_atD hlb]
      have z0 := frozenOf HB0.out
      have HS := hid (orK_set HA.out HB.out hlt)
      generalize a.getD k false = ak at c0 HS
      generalize b.getD k false = bk at c1 HS
      clear hla hlb
      cases ak
      all_goals
        go_wp2
        go_roundw
        case rel =>
          refine ⟨k + 1, by go_num, by omega, hfr.setCell (by simp) _, ?_, ?_, ?_⟩
          · rw [Proofs.YtcpgklcimacngaaGreat.heap_setCell_same HB0.out, tk_set]; rw [← HS.out]; rfl
          · exact heap_setCell_prev HB1.out (by simp)
          · exact heap_setCell_prev HB2.out (by simp)
        case measure => exact HME.out
    · have hk9 : k = 9 := by omega
      subst hk9
      have HL : Hid ((orK 9 a b).length = 9) := hid (orK_len HA.out HB.out hk)
      go_wp2_with (first
        | (refine wpList_load_row rfl 95 _ rfl w.heap.size rfl _ _ _ _ HB0.out Tryz.underlying95 rfl (szTokOf HL.out) ?_)
        | (refine wpList_store_row rfl 95 _ _ rfl (w.heap.size + 2) _ rfl rfl _ _ HB2.out (szTokOf HL.out) (sameSize rfl (tk_size HL.out)) (tk_one _) ?_))
      refine bodyPost_ret (results_cell_row rfl _ _ (w.heap.size + 2) 95 _ (0, 0) _ rfl (setRow_heap _ _ _ _ _ _ HB2.out) Tryz.underlying95 rfl (szTokOf HL.out)) rfl ⟨?_, hfr.setRow (by simp) _⟩
      rw [orK_nine HA.out HB.out]
end Go.Proofs.YtcpgklcimacngaaGreat
