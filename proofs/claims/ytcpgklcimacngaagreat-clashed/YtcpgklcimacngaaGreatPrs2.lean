import Derived.Test.YtcpgklcimacngaaGreatBld3
namespace Go.Proofs.YtcpgklcimacngaaGreat
open Go.RowKit
set_option linter.unusedVariables false
set_option linter.unusedSimpArgs false

set_option maxHeartbeats 1000000 in
theorem readAtom_ok (s : ByteArray) (d : Int) (g : Int → List Node → PR) (hs : s.size ≤ 1000) (hd0 : 0 ≤ d) (hd1 : d ≤ 100) (hg : ConG 111 s d g) :
    Con 108 s d (rAtom g s) := by
  intro i ns w bb v h0 h1 hn h
  have H : Hid _ := h
  have hN := fun k (hk : w.heap.size ≤ k) => h.not_foot hk
  have HN : Hid _ := hN
  clear h hN
  by_cases hc : atB s i = 40
  · have hlt := atB_lt (s := s) (i := i) (by omega)
    have e1 : rAtom g s i ns = g i ns := by unfold rAtom; rw [if_pos hc]
    rw [e1]
    have c1 : (atB s i == 40) = true := by simpa using hc
    clear e1 hc
    go_enter Tryz.func108, Tryz.ntmps108
    go_wp2_with (first
      | (go_at_call 78; refine (at_any _ _ _ (by unfold maxLen; omega)).mono ?_; rintro e w' ⟨rfl, hw⟩; rw [hw]; clear hw)
      | (go_at_call 111; refine (hg i ns _ bb v (by omega) (by omega) hn (H.out.fresh ((Mod.refl _ w).alloc _))).mono ?_; rintro e w1 ⟨rfl, v1, h1⟩; have k3 := h1.loc (heap_alloc_at _ _) (HN.out _ (by omega)); have k4 := frozenOf (h1.mod.at (heap_alloc_at _ _) (HN.out _ (by omega)))))
    have hf := h1.nf (k := w.heap.size) (by simp) (HN.out _ (by omega))
    refine bodyPost_ret (results_row2 rfl _ _ w.heap.size 156 #[.int .i64 (g i ns).st, .int .i64 (g i ns).en] (0, 0) _ rfl ?_ Tryz.underlying156 rfl szFrag) rfl ⟨rfl, v1, ?_⟩
    · rw [Proofs.YtcpgklcimacngaaGreat.heap_setCell_same (Proofs.YtcpgklcimacngaaGreat.heap_setCell_same (h1.mod.at (heap_alloc_at _ _) (HN.out _ (by omega))) 0 _) 1 _]; rfl
    · exact ((BNext.ahead ((Mod.refl _ w).alloc _) h1).put (by simp) hf _).put (by simp) hf _
  · have c1 : (atB s i == 40) = false := by simpa using hc
    have hl := rSet_len s i
    obtain ⟨b1, b2, b3⟩ := rSet_bd s i h0
    by_cases hok : (rSet s i).2.2 = false
    · have e1 : rAtom g s i ns = ⟨0, 0, (rSet s i).2.1, false, ns⟩ := by unfold rAtom; rw [if_neg hc, if_pos hok]
      rw [e1]
      have c2 : (!(rSet s i).2.2) = true := by simp [hok]
      have HL : Hid _ := hl
      clear e1 hc hok hg b3 hl
      go_enter Tryz.func108, Tryz.ntmps108
      go_wp2_with (first
        | (go_at_call 78; refine (at_any _ _ _ (by unfold maxLen; omega)).mono ?_; rintro e w' ⟨rfl, hw⟩; rw [hw]; clear hw)
        | (go_at_call 112; refine (readSet_any _ _ _ (by omega) (by omega) (by omega)).mono ?_; rintro e w1 ⟨rfl, hf1⟩; have hz : w.heap.size < w1.heap.size := (by have := hf1.size; simp at this; omega); have k3 := cellOf (hf1.at (heap_alloc_at _ _) (fun x => x)); have k4 := frozenOf (hf1.at (heap_alloc_at _ _) (fun x => x)))
        | (refine wpList_store_new rfl 149 _ _ rfl w1 _ _ _ rfl rfl rfl (szOf _ HL.out) (eq4 rfl (u4 HL.out)) (u64s_one _) ?_))
      have hb := hf1.at (heap_alloc_at _ _) (fun x => x)
      refine bodyPost_ret (results_row2 rfl _ _ w.heap.size 156 #[.int .i64 0, .int .i64 0] (0, 0) _ rfl ?_ Tryz.underlying156 rfl szFrag) rfl ⟨rfl, v, ?_⟩
      · refine heap_alloc_prev ?_
        rw [Proofs.YtcpgklcimacngaaGreat.heap_setCell_same (Proofs.YtcpgklcimacngaaGreat.heap_setCell_same hb 0 _) 1 _]; rfl
      · have m1 : Fresh w w1 := ((Mod.refl _ w).alloc _).trans hf1
        exact ((((BNext.ahead m1 (BNext.refl (H.out.fresh m1))).put (p := ⟨w.heap.size, 0, none⟩) (by simp) (HN.out _ (by simp)) _).put (p := ⟨w.heap.size, 1, none⟩) (by simp) (HN.out _ (by simp)) _).alloc _)
    · have e1 : rAtom g s i ns = ⟨ns.length + 1, ns.length, (rSet s i).2.1, true, oneN ns (rSet s i).1⟩ := by unfold rAtom; rw [if_neg hc, if_neg hok]
      rw [e1]
      have c2 : (!(rSet s i).2.2) = false := by simpa using hok
      have HL : Hid _ := hl
      clear e1 hc hok hg b3 hl
      go_enter Tryz.func108, Tryz.ntmps108
      go_wp2_with (first
        | (go_at_call 78; refine (at_any _ _ _ (by unfold maxLen; omega)).mono ?_; rintro e w' ⟨rfl, hw⟩; rw [hw]; clear hw)
        | (go_at_call 112; refine (readSet_any _ _ _ (by omega) (by omega) (by omega)).mono ?_; rintro e w1 ⟨rfl, hf1⟩; have hz : w.heap.size < w1.heap.size := (by have := hf1.size; simp at this; omega))
        | (go_at_call 113; refine (readOne_any _ bb v ns _ (H.out.fresh (((((Mod.refl _ w).alloc _).trans hf1).alloc _))) (by omega) HL.out).mono ?_; rintro e w2 ⟨rfl, v2, h2⟩; have hb := h2.mod.at (heap_alloc_prev (hf1.at (heap_alloc_at _ _) (fun x => x))) (HN.out _ (by omega)); have k3 := cellOf hb; have k4 := frozenOf hb)
        | (refine wpList_store_new rfl 149 _ _ rfl w1 _ _ _ rfl rfl rfl (szOf _ HL.out) (eq4 rfl (u4 HL.out)) (u64s_one _) ?_)
        | (refine wpList_load_row rfl 149 _ rfl w1.heap.size rfl _ _ _ _ (heap_alloc_at _ _) Tryz.underlying149 rfl (szOf _ HL.out) ?_))
      have hnf := h2.nf (k := w.heap.size) (by simp; omega) (HN.out _ (by simp))
      refine bodyPost_ret (results_row2 rfl _ _ w.heap.size 156 #[.int .i64 (ns.length + 1), .int .i64 ns.length] (0, 0) _ rfl ?_ Tryz.underlying156 rfl szFrag) rfl ⟨rfl, v2, ?_⟩
      · rw [Proofs.YtcpgklcimacngaaGreat.heap_setCell_same (Proofs.YtcpgklcimacngaaGreat.heap_setCell_same hb 0 _) 1 _]; rfl
      · exact ((h2.ahead ((((Mod.refl _ w).alloc _).trans hf1).alloc _)).put (by simp) hnf _).put (by simp) hnf _
end Go.Proofs.YtcpgklcimacngaaGreat
namespace Go.Proofs.YtcpgklcimacngaaGreat
open Go.RowKit
set_option linter.unusedVariables false
set_option linter.unusedSimpArgs false

abbrev fragObj (a b : Int) : Obj := .cells #[.int .i64 a, .int .i64 b] 156 (0, 0)

theorem mark_cases {c : Int} (h : isMark c = true) : ((c != 42) = false) ∨ ((c != 42) = true ∧ (c != 43) = false) ∨ ((c != 42) = true ∧ (c != 43) = true ∧ (c != 63) = false) := by
  simp [isMark] at h
  rcases h with (rfl | rfl) | rfl <;> simp
theorem mark_not {c : Int} (h : isMark c = false) : (c != 42) = true ∧ (c != 43) = true ∧ (c != 63) = true := by
  simp [isMark] at h; simp; omega

set_option maxHeartbeats 2000000 in
theorem readPiece_ok (s : ByteArray) (d : Int) (a : Int → List Node → PR) (hs : s.size ≤ 1000) (hd0 : 0 ≤ d) (hd1 : d ≤ 100) (hg : GoodF s a) (ha : Con 108 s d a) :
    Con 102 s d (rPiece a s) := by
  intro i ns w bb v h0 h1 hn h
  have H : Hid _ := h
  have hN := fun k (hk : w.heap.size ≤ k) => h.not_foot hk
  have HN : Hid _ := hN
  have G0 : Hid _ := hg i ns h0 h1
  clear h hN hg
  generalize hR : rPiece a s i ns = R
  have HR : Hid (rPieceL s (s.size + 5) (a i ns) = R) := hR
  clear hR
  go_enter Tryz.func102, Tryz.ntmps102
  go_wp2_with (first
    | (go_at_call 108; refine (ha i ns _ bb v (by omega) (by omega) hn (H.out.fresh ((Mod.refl _ w).alloc _))).mono ?_; rintro e w1 ⟨rfl, v1, h1⟩; have hz : w.heap.size < w1.heap.size := (by have := h1.mod.size; simp at this; omega)))
  have H1 : Hid _ := h1
  clear h1 ha
  go_loopw [12] (fun x wr => ∃ (f : Nat) (r : PR) (vr : Value), x = .int .i64 r.next ∧ (a i ns).ok = r.ok ∧ rPieceL s f r = R ∧ Good s i ns.length r ∧ (s.size : Int) + 5 ≤ f + r.next + (if r.ok then 0 else s.size + 20) ∧
      wr.heap[w.heap.size]? = some (fragObj 0 0) ∧ wr.heap[w1.heap.size]? = some (fragObj r.st r.en) ∧ BNext w wr bb v vr r.ns ∧ ¬ foot bb vr w.heap.size ∧ ¬ foot bb vr w1.heap.size)
      (fun x _ => 3000 - (intOf x).toNat)
  case atStart =>
    refine ⟨s.size + 5, a i ns, v1, rfl, rfl, HR.out, G0.out, by have := G0.out.lo; split <;> omega, heap_alloc_prev (H1.out.mod.at (heap_alloc_at _ _) (HN.out _ (by simp))), heap_alloc_at _ _, (BNext.ahead ((Mod.refl _ w).alloc _) H1.out).alloc _, H1.out.nf (by simp) (HN.out _ (by simp)), ?_⟩
    exact H1.out.at'.not_foot (Nat.le_refl _)
  case round =>
    obtain ⟨f, r, vr, rfl, hok, hR, hG, hfu, hb0, hb1, hB, hn0, hn1⟩ := hrel
    obtain ⟨g1, g2, g3, g4⟩ := hG
    have HB : Hid _ := hB
    have HB0 : Hid _ := hb0
    have HB1 : Hid _ := hb1
    have k1 := cellOf hb1
    clear hB hb0 hb1
    simp only [hok]
    have HOK : Hid _ := hok
    clear hok
    cases hro : r.ok
    · -- no more
      have hRr : r = R := by
        rw [← hR]; cases f with
        | zero => rfl
        | succ f => unfold rPieceL; rw [if_neg (by simp [hro])]
      have k2 := cellOf HB0.out
      have k3 := frozenOf HB0.out
      have HRR : Hid _ := hRr
      clear hR hfu g3 hRr
      go_wp2
      refine bodyPost_ret (results_row2 rfl _ _ w.heap.size 156 #[.int .i64 r.st, .int .i64 r.en] (0, 0) _ rfl ?_ Tryz.underlying156 rfl szFrag) rfl ⟨?_, vr, ?_⟩
      · rw [Proofs.YtcpgklcimacngaaGreat.heap_setCell_same (Proofs.YtcpgklcimacngaaGreat.heap_setCell_same HB0.out 0 _) 1 _]; rfl
      · rw [← HRR.out]; simp [prRet, frag, hro]
      · rw [← HRR.out]; exact (HB.out.put (p := ⟨w.heap.size, 0, none⟩) (by simp) hn0 _).put (p := ⟨w.heap.size, 1, none⟩) (by simp) hn0 _
    · have hg3 := g3 hro
      obtain ⟨f, rfl⟩ : ∃ g, f = g + 1 := ⟨f - 1, by rw [hro] at hfu; simp at hfu; omega⟩
      unfold rPieceL at hR
      cases hmk : isMark (atB s r.next)
      · rw [if_neg (by simp [hmk])] at hR
        obtain ⟨m1, m2, m3⟩ := mark_not hmk
        have k2 := cellOf HB0.out
        have k3 := frozenOf HB0.out
        have HRR : Hid _ := hR
        clear hR hfu g3 hmk
        go_wp2_with (first
          | (go_at_call 78; refine (at_any _ _ _ (by unfold maxLen; omega)).mono ?_; rintro e w' ⟨rfl, hw⟩; rw [hw]; clear hw))
        refine bodyPost_ret (results_row2 rfl _ _ w.heap.size 156 #[.int .i64 r.st, .int .i64 r.en] (0, 0) _ rfl ?_ Tryz.underlying156 rfl szFrag) rfl ⟨?_, vr, ?_⟩
        · rw [Proofs.YtcpgklcimacngaaGreat.heap_setCell_same (Proofs.YtcpgklcimacngaaGreat.heap_setCell_same HB0.out 0 _) 1 _]; rfl
        · rw [← HRR.out]; simp [prRet, frag, hro]
        · rw [← HRR.out]; exact (HB.out.put (p := ⟨w.heap.size, 0, none⟩) (by simp) hn0 _).put (p := ⟨w.heap.size, 1, none⟩) (by simp) hn0 _
      · rw [if_pos (by simp [hmk, hro])] at hR
        have hlt := atB_lt (s := s) (i := r.next) (by intro e; rw [e] at hmk; simp [isMark] at hmk)
        have mc := mark_cases hmk
        have HRR : Hid _ := hR
        have HFU : Hid _ := hfu
        clear hR hfu g3 hmk
        rcases mc with m1 | ⟨m1, m2⟩ | ⟨m1, m2, m3⟩
        all_goals
          go_wp2_with (first
            | (go_at_call 78; refine (at_any _ _ _ (by unfold maxLen; omega)).mono ?_; rintro e w' ⟨rfl, hw⟩; rw [hw]; clear hw)
            | (go_at_call 109; refine (repeat_any _ bb vr r.ns _ _ _ HB.out.at' (by omega)).mono ?_; rintro e w2 ⟨rfl, v2, h2⟩; have k2 := cellOf (h2.mod.at HB1.out hn1); have k3 := frozenOf (h2.mod.at HB1.out hn1)))
          go_roundw
          case rel =>
            have q1 := heap_lt HB1.out
            have q0 := heap_lt HB0.out
            have n1 := h2.nf (k := w1.heap.size) q1 hn1
            have n0 := h2.nf (k := w.heap.size) q0 hn0
            refine ⟨f, ⟨r.ns.length, r.ns.length + 1, r.next + 1, true, repeatN r.ns r.st r.en (atB s r.next)⟩, v2, rfl, rfl, HRR.out, ⟨by dsimp only; omega, by dsimp only; omega, fun _ => by dsimp only; omega, by dsimp only; rw [repeatN_len]; omega⟩, by have := HFU.out; simp [hro] at this; simp; omega, ?_, ?_, ?_, n0, n1⟩
            · exact heap_setCell_prev (heap_setCell_prev (h2.mod.at HB0.out hn0) (by simp; omega)) (by simp; omega)
            · rw [Proofs.YtcpgklcimacngaaGreat.heap_setCell_same (Proofs.YtcpgklcimacngaaGreat.heap_setCell_same (h2.mod.at HB1.out hn1) 0 _) 1 _]; rfl
            · exact ((HB.out.trans h2).put (p := ⟨w1.heap.size, 0, none⟩) (by simp; omega) n1 _).put (p := ⟨w1.heap.size, 1, none⟩) (by simp; omega) n1 _
          case measure => simp [intOf]; omega
end Go.Proofs.YtcpgklcimacngaaGreat
namespace Go.Proofs.YtcpgklcimacngaaGreat
open Go.RowKit
set_option linter.unusedVariables false
set_option linter.unusedSimpArgs false

theorem hid {p : Prop} (h : p) : Hid p := h
def okOf : Value → Nat | .bool true => 1 | _ => 0

set_option maxHeartbeats 2000000 in
theorem readBranch_ok (s : ByteArray) (d : Int) (p : Int → List Node → PR) (hs : s.size ≤ 1000) (hd0 : 0 ≤ d) (hd1 : d ≤ 100) (hg : GoodF s p) (hp : Con 102 s d p) :
    Con 98 s d (rBranch p s) := by
  intro i ns w bb v h0 h1 hn h
  have H : Hid _ := h
  have hN := fun k (hk : w.heap.size ≤ k) => h.not_foot hk
  have HN : Hid _ := hN
  have G0 : Hid _ := hg i ns h0 h1
  have HG : Hid _ := hg
  have HP : Hid _ := hp
  clear h hN hg hp
  generalize hR : rBranch p s i ns = R
  have HR : Hid (rBranchL p s (s.size + 5) (p i ns) = R) := hR
  clear hR
  go_enter Tryz.func98, Tryz.ntmps98
  go_wp2_with (first
    | (go_at_call 102; refine (HP.out i ns _ bb v (by omega) (by omega) hn (H.out.fresh ((Mod.refl _ w).alloc _))).mono ?_; rintro e w1 ⟨rfl, v1, h1⟩; have hz : w.heap.size < w1.heap.size := (by have := h1.mod.size; simp at this; omega)))
  have H1 : Hid _ := h1
  clear h1
  go_loopw [12, 13] (fun x y wr => ∃ (f : Nat) (r : PR) (vr : Value), x = .int .i64 r.next ∧ y = .bool r.ok ∧ rBranchL p s f r = R ∧ Good s i ns.length r ∧ (s.size : Int) + 5 ≤ f + r.next + (if r.ok then 0 else s.size + 20) ∧
      wr.heap[w.heap.size]? = some (fragObj 0 0) ∧ wr.heap[w1.heap.size]? = some (fragObj r.st r.en) ∧ BNext w wr bb v vr r.ns ∧ ¬ foot bb vr w.heap.size ∧ ¬ foot bb vr w1.heap.size)
      (fun x y _ => okOf y * (4000 - (intOf x).toNat))
  case atStart =>
    refine ⟨s.size + 5, p i ns, v1, rfl, rfl, HR.out, G0.out, by have := G0.out.lo; split <;> omega, heap_alloc_prev (H1.out.mod.at (heap_alloc_at _ _) (HN.out _ (by simp))), heap_alloc_at _ _, (BNext.ahead ((Mod.refl _ w).alloc _) H1.out).alloc _, H1.out.nf (by simp) (HN.out _ (by simp)), ?_⟩
    exact H1.out.at'.not_foot (Nat.le_refl _)
  case round =>
    obtain ⟨f, r, vr, rfl, rfl, hR, hG, hfu, hb0, hb1, hB, hn0, hn1⟩ := hrel
    have g1 := hG.lo
    have g2 := hG.hi
    have g3 := hG.good
    have g4 := hG.cnt
    have HGd : Hid _ := hG
    have HB : Hid _ := hB
    have HB0 : Hid _ := hb0
    have HB1 : Hid _ := hb1
    have k1 := cellOf hb1
    clear hB hb0 hb1 hG
    cases hro : r.ok
    · have hRr : r = R := by
        rw [← hR]; cases f with
        | zero => rfl
        | succ f => unfold rBranchL; rw [if_neg (by simp [hro])]
      have k2 := cellOf HB0.out
      have k3 := frozenOf HB0.out
      have HRR : Hid _ := hRr
      clear hR hfu g3 hRr
      go_wp2
      refine bodyPost_ret (results_row2 rfl _ _ w.heap.size 156 #[.int .i64 r.st, .int .i64 r.en] (0, 0) _ rfl ?_ Tryz.underlying156 rfl szFrag) rfl ⟨?_, vr, ?_⟩
      · rw [Proofs.YtcpgklcimacngaaGreat.heap_setCell_same (Proofs.YtcpgklcimacngaaGreat.heap_setCell_same HB0.out 0 _) 1 _]; rfl
      · rw [← HRR.out]; simp [prRet, frag, hro]
      · rw [← HRR.out]; exact (HB.out.put (p := ⟨w.heap.size, 0, none⟩) (by simp) hn0 _).put (p := ⟨w.heap.size, 1, none⟩) (by simp) hn0 _
    · have hg3 := g3 hro
      obtain ⟨f, rfl⟩ : ∃ g, f = g + 1 := ⟨f - 1, by rw [hro] at hfu; simp at hfu; omega⟩
      unfold rBranchL at hR
      cases hmk : beginsB s r.next
      · rw [if_neg (by simp [hmk])] at hR
        have k2 := cellOf HB0.out
        have k3 := frozenOf HB0.out
        have HRR : Hid _ := hR
        clear hR hfu g3
        go_wp2_with (first
          | (go_at_call 103; refine (begins_any _ _ _ (by omega)).mono ?_; rintro e w' ⟨rfl, hw⟩; rw [hw, hmk]; clear hw))
        refine bodyPost_ret (results_row2 rfl _ _ w.heap.size 156 #[.int .i64 r.st, .int .i64 r.en] (0, 0) _ rfl ?_ Tryz.underlying156 rfl szFrag) rfl ⟨?_, vr, ?_⟩
        · rw [Proofs.YtcpgklcimacngaaGreat.heap_setCell_same (Proofs.YtcpgklcimacngaaGreat.heap_setCell_same HB0.out 0 _) 1 _]; rfl
        · rw [← HRR.out]; simp [prRet, frag, hro]
        · rw [← HRR.out]; exact (HB.out.put (p := ⟨w.heap.size, 0, none⟩) (by simp) hn0 _).put (p := ⟨w.heap.size, 1, none⟩) (by simp) hn0 _
      · rw [if_pos (by simp [hmk, hro])] at hR
        have HGp : Hid _ := HG.out r.next r.ns (by omega) (by omega)
        have HJ : Hid _ := good_joinR h0 HGd.out hro HGp.out
        have p1 := HGp.out.lo
        have p2 := HGp.out.hi
        have p3 := HGp.out.good
        have p4 := HGp.out.cnt
        have HRR : Hid _ := hR
        have HFU : Hid _ := hfu
        clear hR hfu g3
        have q1 := heap_lt HB1.out
        have q0 := heap_lt HB0.out
        generalize hpp : p r.next r.ns = pp at HGp HJ p1 p2 p3 p4 HRR
        have HPP : Hid _ := hpp
        clear hpp
        have HC := HP.out r.next r.ns wr bb vr (by omega) (by omega) (by omega) HB.out.at'
        rw [HPP.out] at HC
        simp only [prRet] at HC
        cases hpo : pp.ok
        · rw [hpo] at HC
          have HC' := hid HC
          clear p3 HC
          go_wp2_with (first
            | (go_at_call 103; refine (begins_any _ _ _ (by omega)).mono ?_; rintro e w' ⟨rfl, hw⟩; rw [hw, hmk]; clear hw)
            | (go_at_call 102; refine HC'.out.mono ?_; rintro e w2 ⟨rfl, v2, h2⟩))
          go_roundw
          case rel =>
            have n1 := h2.nf (k := w1.heap.size) q1 hn1
            have n0 := h2.nf (k := w.heap.size) q0 hn0
            have ej : joinR r pp = ⟨r.st, r.en, pp.next, false, pp.ns⟩ := by unfold joinR; rw [if_neg (by simp [hpo])]
            refine ⟨f, joinR r pp, v2, by rw [ej], by rw [ej], HRR.out, HJ.out, by rw [ej]; simp; omega, ?_, ?_, ?_, n0, n1⟩
            · exact heap_alloc_prev (h2.mod.at HB0.out hn0)
            · rw [ej]; exact heap_alloc_prev (h2.mod.at HB1.out hn1)
            · rw [ej]; exact (HB.out.trans h2).alloc _
          case measure => simp [intOf, okOf]; omega
        · rw [hpo] at HC
          have HC' := hid HC
          have p5 := p3 hpo
          clear p3 HC
          go_wp2_with (first
            | (go_at_call 103; refine (begins_any _ _ _ (by omega)).mono ?_; rintro e w' ⟨rfl, hw⟩; rw [hw, hmk]; clear hw)
            | (go_at_call 102; refine HC'.out.mono ?_; rintro e w2 ⟨rfl, v2, h2⟩; have k2 := cellOf (h2.mod.at HB1.out hn1); have hz2 : w1.heap.size < w2.heap.size := (by have := h2.mod.size; omega))
            | (go_at_call 104; refine (join_any _ bb v2 pp.ns _ _ _ _ (h2.at'.fresh ((Mod.refl _ _).alloc _)) (by omega)).mono ?_; rintro e w3 ⟨rfl, v3, h3⟩; have n1 := h2.nf (k := w1.heap.size) q1 hn1; have k5 := cellOf (h3.mod.at (heap_alloc_prev (h2.mod.at HB1.out hn1)) n1); have k6 := frozenOf (h3.mod.at (heap_alloc_prev (h2.mod.at HB1.out hn1)) n1)))
          go_roundw
          case rel =>
            have n0 := h2.nf (k := w.heap.size) q0 hn0
            have hz0 : w.heap.size < w2.heap.size := (by have := h2.mod.size; omega)
            have n1' := h3.nf (k := w1.heap.size) (by simp; omega) n1
            have n0' := h3.nf (k := w.heap.size) (by simp; omega) n0
            have ej : joinR r pp = ⟨r.st, pp.en, pp.next, true, linkN pp.ns r.en pp.st⟩ := by unfold joinR; rw [if_pos (by simp [hpo])]
            refine ⟨f, joinR r pp, v3, by rw [ej], by rw [ej], HRR.out, HJ.out, by have := HFU.out; rw [ej]; simp [hro] at this; simp; omega, ?_, ?_, ?_, n0', n1'⟩
            · exact heap_setCell_prev (heap_setCell_prev (h3.mod.at (heap_alloc_prev (h2.mod.at HB0.out hn0)) n0) (by simp; omega)) (by simp; omega)
            · rw [ej, Proofs.YtcpgklcimacngaaGreat.heap_setCell_same (Proofs.YtcpgklcimacngaaGreat.heap_setCell_same (h3.mod.at (heap_alloc_prev (h2.mod.at HB1.out hn1)) n1) 0 _) 1 _]; rfl
            · rw [ej]; exact (((HB.out.trans h2).alloc _).trans h3 |>.put (p := ⟨w1.heap.size, 0, none⟩) (by simp; omega) n1' _).put (p := ⟨w1.heap.size, 1, none⟩) (by simp; omega) n1' _
          case measure => simp [intOf, okOf]; omega
end Go.Proofs.YtcpgklcimacngaaGreat
