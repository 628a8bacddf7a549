import Derived.Test.YteneagnhihcljaaGreatDoorBld4
namespace Go.Proofs.YteneagnhihcljaaGreatDoor
open Go.RowKit
set_option linter.unusedVariables false
set_option linter.unusedSimpArgs false

theorem hid {p : Prop} (h : p) : Hid p := h
def okOf : Value → Nat | .bool true => 1 | _ => 0

set_option maxHeartbeats 2000000 in
theorem readBranch_ok (s : ByteArray) (d : Int) (p : Int → List Node → PR) (hs : s.size ≤ 1000) (hd0 : 0 ≤ d) (hd1 : d ≤ 100) (hg : GoodF s p) (hp : Con 93 s d p) :
    Con 91 s d (rBranch p s) := by
  intro i ns w bb v h0 h1 hn h
  have H : Hid _ := h
  have hN := fun k (hk : w.heap.size ≤ k) => h.not_foot hk
  have HN : Hid _ := hN
  have G0 : Hid _ := hg i ns h0 h1
  have HG : Hid _ := hg
  have HP : Hid _ := hp
  clear h hN hg hp
  generalize hR : rBranch p s i ns = R
  have HR : Hid (rBranchL p s (s.size + 5) (p i ns) = R) := hR
  clear hR
  go_enter Tryz.func91, Tryz.ntmps91
  go_wp2_with (first
    | (go_at_call 93; refine (HP.out i ns _ bb v (by omega) (by omega) hn (H.out.fresh ((Mod.refl _ w).alloc _))).mono ?_; rintro e w1 ⟨rfl, v1, h1⟩; have hz : w.heap.size < w1.heap.size := (by have := h1.mod.size; simp at this; omega)))
  have H1 : Hid _ := h1
  clear h1
  go_loopw [12, 13] (fun x y wr => ∃ (f : Nat) (r : PR) (vr : Value), x = .int .i64 r.next ∧ y = .bool r.ok ∧ rBranchL p s f r = R ∧ Good s i ns.length r ∧ (s.size : Int) + 5 ≤ f + r.next + (if r.ok then 0 else s.size + 20) ∧
      wr.heap[w.heap.size]? = some (fragObj 0 0) ∧ wr.heap[w1.heap.size]? = some (fragObj r.st r.en) ∧ BNext w wr bb v vr r.ns ∧ ¬ foot bb vr w.heap.size ∧ ¬ foot bb vr w1.heap.size)
      (fun x y _ => okOf y * (4000 - (intOf x).toNat))
  case atStart =>
    refine ⟨s.size + 5, p i ns, v1, rfl, rfl, HR.out, G0.out, by have := G0.out.lo; split <;> omega, heap_alloc_prev (H1.out.mod.at (heap_alloc_at _ _) (HN.out _ (by simp))), heap_alloc_at _ _, (BNext.ahead ((Mod.refl _ w).alloc _) H1.out).alloc _, H1.out.nf (by simp) (HN.out _ (by simp)), ?_⟩
    exact H1.out.at'.not_foot (Nat.le_refl _)
  case round =>
    obtain ⟨f, r, vr, rfl, rfl, hR, hG, hfu, hb0, hb1, hB, hn0, hn1⟩ := hrel
    have g1 := hG.lo
    have g2 := hG.hi
    have g3 := hG.good
    have g4 := hG.cnt
    have HGd : Hid _ := hG
    have HB : Hid _ := hB
    have HB0 : Hid _ := hb0
    have HB1 : Hid _ := hb1
    have k1 := cellOf hb1
    clear hB hb0 hb1 hG
    cases hro : r.ok
    · have hRr : r = R := by
        rw [← hR]; cases f with
        | zero => rfl
        | succ f => unfold rBranchL; rw [if_neg (by simp [hro])]
      have k2 := cellOf HB0.out
      have k3 := frozenOf HB0.out
      have HRR : Hid _ := hRr
      clear hR hfu g3 hRr
      go_wp2
      refine bodyPost_ret (results_row2 rfl _ _ w.heap.size 166 #[.int .i64 r.st, .int .i64 r.en] (0, 0) _ rfl ?_ Tryz.underlying166 rfl szFrag) rfl ⟨?_, vr, ?_⟩
      · rw [Proofs.YteneagnhihcljaaGreatDoor.heap_setCell_same (Proofs.YteneagnhihcljaaGreatDoor.heap_setCell_same HB0.out 0 _) 1 _]; rfl
      · rw [← HRR.out]; simp [prRet, frag, hro]
      · rw [← HRR.out]; exact (HB.out.put (p := ⟨w.heap.size, 0, none⟩) (by simp) hn0 _).put (p := ⟨w.heap.size, 1, none⟩) (by simp) hn0 _
    · have hg3 := g3 hro
      obtain ⟨f, rfl⟩ : ∃ g, f = g + 1 := ⟨f - 1, by rw [hro] at hfu; simp at hfu; omega⟩
      unfold rBranchL at hR
      cases hmk : beginsB s r.next
      · rw [if_neg (by simp [hmk])] at hR
        have k2 := cellOf HB0.out
        have k3 := frozenOf HB0.out
        have HRR : Hid _ := hR
        clear hR hfu g3
        go_wp2_with (first
          | (go_at_call 94; refine (begins_any _ _ _ (by omega)).mono ?_; rintro e w' ⟨rfl, hw⟩; rw [hw, hmk]; clear hw))
        refine bodyPost_ret (results_row2 rfl _ _ w.heap.size 166 #[.int .i64 r.st, .int .i64 r.en] (0, 0) _ rfl ?_ Tryz.underlying166 rfl szFrag) rfl ⟨?_, vr, ?_⟩
        · rw [Proofs.YteneagnhihcljaaGreatDoor.heap_setCell_same (Proofs.YteneagnhihcljaaGreatDoor.heap_setCell_same HB0.out 0 _) 1 _]; rfl
        · rw [← HRR.out]; simp [prRet, frag, hro]
        · rw [← HRR.out]; exact (HB.out.put (p := ⟨w.heap.size, 0, none⟩) (by simp) hn0 _).put (p := ⟨w.heap.size, 1, none⟩) (by simp) hn0 _
      · rw [if_pos (by simp [hmk, hro])] at hR
        have HGp : Hid _ := HG.out r.next r.ns (by omega) (by omega)
        have HJ : Hid _ := good_joinR h0 HGd.out hro HGp.out
        have p1 := HGp.out.lo
        have p2 := HGp.out.hi
        have p3 := HGp.out.good
        have p4 := HGp.out.cnt
        have HRR : Hid _ := hR
        have HFU : Hid _ := hfu
        clear hR hfu g3
        have q1 := heap_lt HB1.out
        have q0 := heap_lt HB0.out
        generalize hpp : p r.next r.ns = pp at HGp HJ p1 p2 p3 p4 HRR
        have HPP : Hid _ := hpp
        clear hpp
        have HC := HP.out r.next r.ns wr bb vr (by omega) (by omega) (by omega) HB.out.at'
        rw [HPP.out] at HC
        simp only [prRet] at HC
        cases hpo : pp.ok
        · rw [hpo] at HC
          have HC' := hid HC
          clear p3 HC
          go_wp2_with (first
            | (go_at_call 94; refine (begins_any _ _ _ (by omega)).mono ?_; rintro e w' ⟨rfl, hw⟩; rw [hw, hmk]; clear hw)
            | (go_at_call 93; refine HC'.out.mono ?_; rintro e w2 ⟨rfl, v2, h2⟩))
          go_roundw
          case rel =>
            have n1 := h2.nf (k := w1.heap.size) q1 hn1
            have n0 := h2.nf (k := w.heap.size) q0 hn0
            have ej : joinR r pp = ⟨r.st, r.en, pp.next, false, pp.ns⟩ := by unfold joinR; rw [if_neg (by simp [hpo])]
            refine ⟨f, joinR r pp, v2, by rw [ej], by rw [ej], HRR.out, HJ.out, by rw [ej]; simp; omega, ?_, ?_, ?_, n0, n1⟩
            · exact heap_alloc_prev (h2.mod.at HB0.out hn0)
            · rw [ej]; exact heap_alloc_prev (h2.mod.at HB1.out hn1)
            · rw [ej]; exact (HB.out.trans h2).alloc _
          case measure => simp [intOf, okOf]; omega
        · rw [hpo] at HC
          have HC' := hid HC
          have p5 := p3 hpo
          clear p3 HC
          go_wp2_with (first
            | (go_at_call 94; refine (begins_any _ _ _ (by omega)).mono ?_; rintro e w' ⟨rfl, hw⟩; rw [hw, hmk]; clear hw)
            | (go_at_call 93; refine HC'.out.mono ?_; rintro e w2 ⟨rfl, v2, h2⟩; have k2 := cellOf (h2.mod.at HB1.out hn1); have hz2 : w1.heap.size < w2.heap.size := (by have := h2.mod.size; omega))
            | (go_at_call 95; refine (join_any _ bb v2 pp.ns _ _ _ _ (h2.at'.fresh ((Mod.refl _ _).alloc _)) (by omega)).mono ?_; rintro e w3 ⟨rfl, v3, h3⟩; have n1 := h2.nf (k := w1.heap.size) q1 hn1; have k5 := cellOf (h3.mod.at (heap_alloc_prev (h2.mod.at HB1.out hn1)) n1); have k6 := frozenOf (h3.mod.at (heap_alloc_prev (h2.mod.at HB1.out hn1)) n1)))
          go_roundw
          case rel =>
            have n0 := h2.nf (k := w.heap.size) q0 hn0
            have hz0 : w.heap.size < w2.heap.size := (by have := h2.mod.size; omega)
            have n1' := h3.nf (k := w1.heap.size) (by simp; omega) n1
            have n0' := h3.nf (k := w.heap.size) (by simp; omega) n0
            have ej : joinR r pp = ⟨r.st, pp.en, pp.next, true, linkN pp.ns r.en pp.st⟩ := by unfold joinR; rw [if_pos (by simp [hpo])]
            refine ⟨f, joinR r pp, v3, by rw [ej], by rw [ej], HRR.out, HJ.out, by have := HFU.out; rw [ej]; simp [hro] at this; simp; omega, ?_, ?_, ?_, n0', n1'⟩
            · exact heap_setCell_prev (heap_setCell_prev (h3.mod.at (heap_alloc_prev (h2.mod.at HB0.out hn0)) n0) (by simp; omega)) (by simp; omega)
            · rw [ej, Proofs.YteneagnhihcljaaGreatDoor.heap_setCell_same (Proofs.YteneagnhihcljaaGreatDoor.heap_setCell_same (h3.mod.at (heap_alloc_prev (h2.mod.at HB1.out hn1)) n1) 0 _) 1 _]; rfl
            · rw [ej]; exact (((HB.out.trans h2).alloc _).trans h3 |>.put (p := ⟨w1.heap.size, 0, none⟩) (by simp; omega) n1' _).put (p := ⟨w1.heap.size, 1, none⟩) (by simp; omega) n1' _
          case measure => simp [intOf, okOf]; omega
end Go.Proofs.YteneagnhihcljaaGreatDoor
namespace Go.Proofs.YteneagnhihcljaaGreatDoor
open Go.RowKit
set_option linter.unusedVariables false
set_option linter.unusedSimpArgs false

set_option maxHeartbeats 2000000 in
theorem readChoice_ok (s : ByteArray) (d : Int) (p : Int → List Node → PR) (hs : s.size ≤ 1000) (hd0 : 0 ≤ d) (hd1 : d ≤ 100) (hg : GoodF s p) (hp : Con 91 s d p) :
    Con 86 s d (rChoice p s) := by
  intro i ns w bb v h0 h1 hn h
  have H : Hid _ := h
  have hN := fun k (hk : w.heap.size ≤ k) => h.not_foot hk
  have HN : Hid _ := hN
  have G0 : Hid _ := hg i ns h0 h1
  have HG : Hid _ := hg
  have HP : Hid _ := hp
  clear h hN hg hp
  generalize hR : rChoice p s i ns = R
  have HR : Hid (rChoiceL p s (s.size + 5) (p i ns) = R) := hR
  clear hR
  go_enter Tryz.func86, Tryz.ntmps86
  go_wp2_with (first
    | (go_at_call 91; refine (HP.out i ns _ bb v (by omega) (by omega) hn (H.out.fresh ((Mod.refl _ w).alloc _))).mono ?_; rintro e w1 ⟨rfl, v1, h1⟩; have hz : w.heap.size < w1.heap.size := (by have := h1.mod.size; simp at this; omega)))
  have H1 : Hid _ := h1
  clear h1
  go_loopw [12, 13] (fun x y wr => ∃ (f : Nat) (r : PR) (vr : Value), x = .int .i64 r.next ∧ y = .bool r.ok ∧ rChoiceL p s f r = R ∧ Good s i ns.length r ∧ (s.size : Int) + 5 ≤ f + r.next + (if r.ok then 0 else s.size + 20) ∧
      wr.heap[w.heap.size]? = some (fragObj 0 0) ∧ wr.heap[w1.heap.size]? = some (fragObj r.st r.en) ∧ BNext w wr bb v vr r.ns ∧ ¬ foot bb vr w.heap.size ∧ ¬ foot bb vr w1.heap.size)
      (fun x y _ => okOf y * (4000 - (intOf x).toNat))
  case atStart =>
    refine ⟨s.size + 5, p i ns, v1, rfl, rfl, HR.out, G0.out, by have := G0.out.lo; split <;> omega, heap_alloc_prev (H1.out.mod.at (heap_alloc_at _ _) (HN.out _ (by simp))), heap_alloc_at _ _, (BNext.ahead ((Mod.refl _ w).alloc _) H1.out).alloc _, H1.out.nf (by simp) (HN.out _ (by simp)), ?_⟩
    exact H1.out.at'.not_foot (Nat.le_refl _)
  case round =>
    obtain ⟨f, r, vr, rfl, rfl, hR, hG, hfu, hb0, hb1, hB, hn0, hn1⟩ := hrel
    have g1 := hG.lo
    have g2 := hG.hi
    have g3 := hG.good
    have g4 := hG.cnt
    have HGd : Hid _ := hG
    have HB : Hid _ := hB
    have HB0 : Hid _ := hb0
    have HB1 : Hid _ := hb1
    have k1 := cellOf hb1
    clear hB hb0 hb1 hG
    cases hro : r.ok
    · have hRr : r = R := by
        rw [← hR]; cases f with
        | zero => rfl
        | succ f => unfold rChoiceL; rw [if_neg (by simp [hro])]
      have k2 := cellOf HB0.out
      have k3 := frozenOf HB0.out
      have HRR : Hid _ := hRr
      clear hR hfu g3 hRr
      go_wp2
      refine bodyPost_ret (results_row2 rfl _ _ w.heap.size 166 #[.int .i64 r.st, .int .i64 r.en] (0, 0) _ rfl ?_ Tryz.underlying166 rfl szFrag) rfl ⟨?_, vr, ?_⟩
      · rw [Proofs.YteneagnhihcljaaGreatDoor.heap_setCell_same (Proofs.YteneagnhihcljaaGreatDoor.heap_setCell_same HB0.out 0 _) 1 _]; rfl
      · rw [← HRR.out]; simp [prRet, frag, hro]
      · rw [← HRR.out]; exact (HB.out.put (p := ⟨w.heap.size, 0, none⟩) (by simp) hn0 _).put (p := ⟨w.heap.size, 1, none⟩) (by simp) hn0 _
    · have hg3 := g3 hro
      obtain ⟨f, rfl⟩ : ∃ g, f = g + 1 := ⟨f - 1, by rw [hro] at hfu; simp at hfu; omega⟩
      unfold rChoiceL at hR
      cases hmk : (atB s r.next == 124)
      · rw [if_neg (by simp [hmk])] at hR
        have k2 := cellOf HB0.out
        have k3 := frozenOf HB0.out
        have HRR : Hid _ := hR
        clear hR hfu g3
        go_wp2_with (first
          | (go_at_call 62; refine (at_any _ _ _ (by unfold maxLen; omega)).mono ?_; rintro e w' ⟨rfl, hw⟩; rw [hw]; clear hw))
        refine bodyPost_ret (results_row2 rfl _ _ w.heap.size 166 #[.int .i64 r.st, .int .i64 r.en] (0, 0) _ rfl ?_ Tryz.underlying166 rfl szFrag) rfl ⟨?_, vr, ?_⟩
        · rw [Proofs.YteneagnhihcljaaGreatDoor.heap_setCell_same (Proofs.YteneagnhihcljaaGreatDoor.heap_setCell_same HB0.out 0 _) 1 _]; rfl
        · rw [← HRR.out]; simp [prRet, frag, hro]
        · rw [← HRR.out]; exact (HB.out.put (p := ⟨w.heap.size, 0, none⟩) (by simp) hn0 _).put (p := ⟨w.heap.size, 1, none⟩) (by simp) hn0 _
      · rw [if_pos (by simp [hmk, hro])] at hR
        have h124 : atB s r.next = 124 := by simpa using hmk
        have hlt := atB_lt (s := s) (i := r.next) (by omega)
        have H124 := hid h124
        clear h124
        have HGp : Hid _ := HG.out (r.next + 1) r.ns (by omega) (by omega)
        have HJ : Hid _ := good_eitherR h0 HGd.out hro HGp.out
        have p1 := HGp.out.lo
        have p2 := HGp.out.hi
        have p3 := HGp.out.good
        have p4 := HGp.out.cnt
        have HRR : Hid _ := hR
        have HFU : Hid _ := hfu
        clear hR hfu g3
        have q1 := heap_lt HB1.out
        have q0 := heap_lt HB0.out
        generalize hpp : p (r.next + 1) r.ns = pp at HGp HJ p1 p2 p3 p4 HRR
        have HPP : Hid _ := hpp
        clear hpp
        have HC := HP.out (r.next + 1) r.ns wr bb vr (by omega) (by omega) (by omega) HB.out.at'
        rw [HPP.out] at HC
        simp only [prRet] at HC
        cases hpo : pp.ok
        · rw [hpo] at HC
          have HC' := hid HC
          clear p3 HC
          go_wp2_with (first
            | (go_at_call 62; refine (at_any _ _ _ (by unfold maxLen; omega)).mono ?_; rintro e w' ⟨rfl, hw⟩; rw [hw]; clear hw)
            | (go_at_call 91; refine HC'.out.mono ?_; rintro e w2 ⟨rfl, v2, h2⟩))
          go_roundw
          case rel =>
            have n1 := h2.nf (k := w1.heap.size) q1 hn1
            have n0 := h2.nf (k := w.heap.size) q0 hn0
            have ej : eitherR r pp = ⟨r.st, r.en, pp.next, false, pp.ns⟩ := by unfold eitherR; rw [if_neg (by simp [hpo])]
            refine ⟨f, eitherR r pp, v2, by rw [ej], by rw [ej], HRR.out, HJ.out, by rw [ej]; simp; omega, ?_, ?_, ?_, n0, n1⟩
            · exact heap_alloc_prev (h2.mod.at HB0.out hn0)
            · rw [ej]; exact heap_alloc_prev (h2.mod.at HB1.out hn1)
            · rw [ej]; exact (HB.out.trans h2).alloc _
          case measure => simp [intOf, okOf]; omega
        · rw [hpo] at HC
          have HC' := hid HC
          have p5 := p3 hpo
          clear p3 HC
          go_wp2_with (first
            | (go_at_call 62; refine (at_any _ _ _ (by unfold maxLen; omega)).mono ?_; rintro e w' ⟨rfl, hw⟩; rw [hw]; clear hw)
            | (go_at_call 91; refine HC'.out.mono ?_; rintro e w2 ⟨rfl, v2, h2⟩; have k2 := cellOf (h2.mod.at HB1.out hn1); have hz2 : w1.heap.size < w2.heap.size := (by have := h2.mod.size; omega))
            | (go_at_call 92; refine (either_any _ bb v2 pp.ns _ _ _ _ (h2.at'.fresh ((Mod.refl _ _).alloc _)) (by omega)).mono ?_; rintro e w3 ⟨rfl, v3, h3⟩; have n1 := h2.nf (k := w1.heap.size) q1 hn1; have k5 := cellOf (h3.mod.at (heap_alloc_prev (h2.mod.at HB1.out hn1)) n1); have k6 := frozenOf (h3.mod.at (heap_alloc_prev (h2.mod.at HB1.out hn1)) n1)))
          go_roundw
          case rel =>
            have n0 := h2.nf (k := w.heap.size) q0 hn0
            have hz0 : w.heap.size < w2.heap.size := (by have := h2.mod.size; omega)
            have n1' := h3.nf (k := w1.heap.size) (by simp; omega) n1
            have n0' := h3.nf (k := w.heap.size) (by simp; omega) n0
            have ej : eitherR r pp = ⟨pp.ns.length, pp.ns.length + 1, pp.next, true, eitherN pp.ns r.st r.en pp.st pp.en⟩ := by unfold eitherR; rw [if_pos (by simp [hpo])]
            refine ⟨f, eitherR r pp, v3, by rw [ej], by rw [ej], HRR.out, HJ.out, by have := HFU.out; rw [ej]; simp [hro] at this; simp; omega, ?_, ?_, ?_, n0', n1'⟩
            · exact heap_setCell_prev (heap_setCell_prev (h3.mod.at (heap_alloc_prev (h2.mod.at HB0.out hn0)) n0) (by simp; omega)) (by simp; omega)
            · rw [ej, Proofs.YteneagnhihcljaaGreatDoor.heap_setCell_same (Proofs.YteneagnhihcljaaGreatDoor.heap_setCell_same (h3.mod.at (heap_alloc_prev (h2.mod.at HB1.out hn1)) n1) 0 _) 1 _]; rfl
            · rw [ej]; exact (((HB.out.trans h2).alloc _).trans h3 |>.put (p := ⟨w1.heap.size, 0, none⟩) (by simp; omega) n1' _).put (p := ⟨w1.heap.size, 1, none⟩) (by simp; omega) n1' _
          case measure => simp [intOf, okOf]; omega

set_option maxHeartbeats 2000000 in
theorem readGroup_deep (s : ByteArray) (d : Int) (hd : 6 ≤ d) (hd1 : d ≤ 100) : ConG 101 s d (gK s 0) := by
  intro i ns w bb v h0 h1 hn h
  have H := hid h
  have HN := hid (fun k (hk : w.heap.size ≤ k) => h.not_foot hk)
  have e1 : gK s 0 i ns = ⟨0, 0, i, false, ns⟩ := rfl
  rw [e1]
  clear h e1
  go_enter Tryz.func101, Tryz.ntmps101
  go_wp2
  refine bodyPost_ret (results_row2 rfl _ _ w.heap.size 166 #[.int .i64 0, .int .i64 0] (0, 0) _ rfl (heap_alloc_at _ _) Tryz.underlying166 rfl szFrag) rfl ⟨rfl, v, ?_⟩
  have m1 : Fresh w (w.alloc (fragObj 0 0)) := (Mod.refl _ w).alloc _
  exact BNext.ahead m1 (BNext.refl (H.out.fresh m1))

set_option maxHeartbeats 2000000 in
theorem readGroup_ok (s : ByteArray) (d : Int) (c : Int → List Node → PR) (hs : s.size ≤ 1000) (hd0 : 0 ≤ d) (hd : d < 6) (hg : GoodF s c) (hc : Con 86 s (d + 1) c) :
    ConG 101 s d (rGroup c s) := by
  intro i ns w bb v h0 h1 hn h
  have H := hid h
  have HN := hid (fun k (hk : w.heap.size ≤ k) => h.not_foot hk)
  have hg' := hg (i + 1) ns (by omega) (by omega)
  have HC := hc (i + 1) ns (w.alloc (fragObj 0 0)) bb v (by omega) (by omega) (by omega) (h.fresh ((Mod.refl _ w).alloc _))
  generalize hR : rGroup c s i ns = R
  unfold rGroup at hR
  generalize hpp : c (i + 1) ns = pp at HC hg' hR
  simp only [prRet] at HC
  obtain ⟨g1, g2, g3, g4⟩ := hg'
  clear h hg hc hpp
  cases hpo : pp.ok
  · rw [hpo] at HC
    have HC' := hid HC
    rw [if_pos hpo] at hR
    have HR := hid hR
    clear HC g3 hR
    go_enter Tryz.func101, Tryz.ntmps101
    go_wp2_with (first
      | (go_at_call 86; refine HC'.out.mono ?_; rintro e w1 ⟨rfl, v1, h1⟩; have hz : w.heap.size < w1.heap.size := (by have := h1.mod.size; simp at this; omega); have k3 := h1.loc (heap_alloc_at _ _) (HN.out _ (by omega)); have k4 := frozenOf (h1.mod.at (heap_alloc_at _ _) (HN.out _ (by omega)))))
    have hf := h1.nf (k := w.heap.size) (by simp) (HN.out _ (by omega))
    refine bodyPost_ret (results_row2 rfl _ _ w.heap.size 166 #[.int .i64 0, .int .i64 0] (0, 0) _ rfl ?_ Tryz.underlying166 rfl szFrag) rfl ⟨by have := HR.out; subst this; rfl, v1, ?_⟩
    · refine heap_alloc_prev ?_
      rw [Proofs.YteneagnhihcljaaGreatDoor.heap_setCell_same (Proofs.YteneagnhihcljaaGreatDoor.heap_setCell_same (h1.mod.at (heap_alloc_at _ _) (HN.out _ (by omega))) 0 _) 1 _]; rfl
    · rw [← HR.out]
      exact (((BNext.ahead ((Mod.refl _ w).alloc _) h1).put (p := ⟨w.heap.size, 0, none⟩) (by simp) hf _).put (p := ⟨w.heap.size, 1, none⟩) (by simp) hf _).alloc _
  · rw [hpo] at HC
    have HC' := hid HC
    have g5 := g3 hpo
    rw [if_neg (by simp [hpo])] at hR
    by_cases hcl : atB s pp.next = 41
    · rw [if_neg (by simp [hcl])] at hR
      have HR := hid hR
      have c1 : (atB s pp.next != 41) = false := by simp [hcl]
      clear HC g3 hR hcl
      go_enter Tryz.func101, Tryz.ntmps101
      go_wp2_with (first
        | (go_at_call 62; refine (at_any _ _ _ (by unfold maxLen; omega)).mono ?_; rintro e w' ⟨rfl, hw⟩; rw [hw]; clear hw)
        | (go_at_call 86; refine HC'.out.mono ?_; rintro e w1 ⟨rfl, v1, h1⟩; have hz : w.heap.size < w1.heap.size := (by have := h1.mod.size; simp at this; omega); have k3 := h1.loc (heap_alloc_at _ _) (HN.out _ (by omega)); have k4 := frozenOf (h1.mod.at (heap_alloc_at _ _) (HN.out _ (by omega)))))
      have hf := h1.nf (k := w.heap.size) (by simp) (HN.out _ (by omega))
      refine bodyPost_ret (results_row2 rfl _ _ w.heap.size 166 #[.int .i64 pp.st, .int .i64 pp.en] (0, 0) _ rfl ?_ Tryz.underlying166 rfl szFrag) rfl ⟨by have := HR.out; subst this; rfl, v1, ?_⟩
      · refine heap_alloc_prev ?_
        rw [Proofs.YteneagnhihcljaaGreatDoor.heap_setCell_same (Proofs.YteneagnhihcljaaGreatDoor.heap_setCell_same (h1.mod.at (heap_alloc_at _ _) (HN.out _ (by omega))) 0 _) 1 _]; rfl
      · rw [← HR.out]
        exact (((BNext.ahead ((Mod.refl _ w).alloc _) h1).put (p := ⟨w.heap.size, 0, none⟩) (by simp) hf _).put (p := ⟨w.heap.size, 1, none⟩) (by simp) hf _).alloc _
    · rw [if_pos hcl] at hR
      have HR := hid hR
      have c1 : (atB s pp.next != 41) = true := by simpa using hcl
      clear HC g3 hR hcl
      go_enter Tryz.func101, Tryz.ntmps101
      go_wp2_with (first
        | (go_at_call 62; refine (at_any _ _ _ (by unfold maxLen; omega)).mono ?_; rintro e w' ⟨rfl, hw⟩; rw [hw]; clear hw)
        | (go_at_call 86; refine HC'.out.mono ?_; rintro e w1 ⟨rfl, v1, h1⟩; have hz : w.heap.size < w1.heap.size := (by have := h1.mod.size; simp at this; omega); have k3 := h1.loc (heap_alloc_at _ _) (HN.out _ (by omega)); have k4 := frozenOf (h1.mod.at (heap_alloc_at _ _) (HN.out _ (by omega)))))
      have hf := h1.nf (k := w.heap.size) (by simp) (HN.out _ (by omega))
      refine bodyPost_ret (results_row2 rfl _ _ w.heap.size 166 #[.int .i64 0, .int .i64 0] (0, 0) _ rfl ?_ Tryz.underlying166 rfl szFrag) rfl ⟨by have := HR.out; subst this; rfl, v1, ?_⟩
      · refine heap_alloc_prev ?_
        rw [Proofs.YteneagnhihcljaaGreatDoor.heap_setCell_same (Proofs.YteneagnhihcljaaGreatDoor.heap_setCell_same (h1.mod.at (heap_alloc_at _ _) (HN.out _ (by omega))) 0 _) 1 _]; rfl
      · rw [← HR.out]
        exact (((BNext.ahead ((Mod.refl _ w).alloc _) h1).put (p := ⟨w.heap.size, 0, none⟩) (by simp) hf _).put (p := ⟨w.heap.size, 1, none⟩) (by simp) hf _).alloc _

theorem depth_ok (s : ByteArray) (hs : s.size ≤ 1000) : ∀ (k : Nat), k ≤ 6 →
    ConG 101 s (6 - (k : Int)) (gK s k) ∧ Con 86 s (6 - (k : Int)) (chK s k) := by
  have step : ∀ k : Nat, k ≤ 6 → ConG 101 s (6 - (k : Int)) (gK s k) → Con 86 s (6 - (k : Int)) (chK s k) := by
    intro k hk h
    have ga := good_atom' (good_gK s k)
    have gp := good_piece ga
    have gb := good_branch gp
    have a := readAtom_ok s (6 - (k : Int)) (gK s k) hs (by omega) (by omega) h
    have p := readPiece_ok s (6 - (k : Int)) _ hs (by omega) (by omega) ga a
    have b := readBranch_ok s (6 - (k : Int)) _ hs (by omega) (by omega) gp p
    exact readChoice_ok s (6 - (k : Int)) _ hs (by omega) (by omega) gb b
  intro k
  induction k with
  | zero =>
    intro _
    have g := readGroup_deep s (6 - ((0 : Nat) : Int)) (by simp) (by simp)
    exact ⟨g, step 0 (by omega) g⟩
  | succ k ih =>
    intro hk
    have h := (ih (by omega)).2
    have e : (6 : Int) - ((k + 1 : Nat) : Int) + 1 = 6 - (k : Int) := by omega
    have g : ConG 101 s (6 - ((k + 1 : Nat) : Int)) (gK s (k + 1)) :=
      readGroup_ok s (6 - ((k + 1 : Nat) : Int)) (chK s k) hs (by omega) (by omega) (good_chK s k) (by rw [e]; exact h)
    exact ⟨g, step (k + 1) hk g⟩

/-- The whole pattern's reading. -/
theorem readChoice_any (s : ByteArray) (hs : s.size ≤ 1000) : Con 86 s 0 (chK s 6) := by
  have := (depth_ok s hs 6 (Nat.le_refl _)).2
  simpa using this
end Go.Proofs.YteneagnhihcljaaGreatDoor
