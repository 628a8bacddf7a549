import Derived.Test.YtnhhboikbbnklaaPrs2
namespace Go.Proofs.Ytnhhboikbbnklaa
open Go.RowKit
set_option linter.unusedVariables false
set_option linter.unusedSimpArgs false

abbrev fragObj (a b : Int) : Obj := .cells #[.int .i64 a, .int .i64 b] 148 (0, 0)

theorem mark_cases {c : Int} (h : isMark c = true) : ((c != 42) = false) ∨ ((c != 42) = true ∧ (c != 43) = false) ∨ ((c != 42) = true ∧ (c != 43) = true ∧ (c != 63) = false) := by
  simp [isMark] at h
  rcases h with (rfl | rfl) | rfl <;> simp
theorem mark_not {c : Int} (h : isMark c = false) : (c != 42) = true ∧ (c != 43) = true ∧ (c != 63) = true := by
  simp [isMark] at h; simp; omega

set_option maxHeartbeats 2000000 in
theorem readPiece_ok (s : ByteArray) (d : Int) (a : Int → List Node → PR) (hs : s.size ≤ 1000) (hd0 : 0 ≤ d) (hd1 : d ≤ 100) (hg : GoodF s a) (ha : Con 103 s d a) :
    Con 97 s d (rPiece a s) := by
  intro i ns w bb v h0 h1 hn h
  have H : Hid _ := h
  have hN := fun k (hk : w.heap.size ≤ k) => h.not_foot hk
  have HN : Hid _ := hN
  have G0 : Hid _ := hg i ns h0 h1
  clear h hN hg
  generalize hR : rPiece a s i ns = R
  have HR : Hid (rPieceL s (s.size + 5) (a i ns) = R) := hR
  clear hR
  go_enter Try.func97, Try.ntmps97
  go_wp2_with (first
    | (go_at_call 103; refine (ha i ns _ bb v (by omega) (by omega) hn (H.out.fresh ((Mod.refl _ w).alloc _))).mono ?_; rintro e w1 ⟨rfl, v1, h1⟩; have hz : w.heap.size < w1.heap.size := (by have := h1.mod.size; simp at this; omega)))
  have H1 : Hid _ := h1
  clear h1 ha
  go_loopw [12] (fun x wr => ∃ (f : Nat) (r : PR) (vr : Value), x = .int .i64 r.next ∧ (a i ns).ok = r.ok ∧ rPieceL s f r = R ∧ Good s i ns.length r ∧ (s.size : Int) + 5 ≤ f + r.next + (if r.ok then 0 else s.size + 20) ∧
      wr.heap[w.heap.size]? = some (fragObj 0 0) ∧ wr.heap[w1.heap.size]? = some (fragObj r.st r.en) ∧ BNext w wr bb v vr r.ns ∧ ¬ foot bb vr w.heap.size ∧ ¬ foot bb vr w1.heap.size)
      (fun x _ => 3000 - (intOf x).toNat)
  case atStart =>
    refine ⟨s.size + 5, a i ns, v1, rfl, rfl, HR.out, G0.out, by have := G0.out.lo; split <;> omega, heap_alloc_prev (H1.out.mod.at (heap_alloc_at _ _) (HN.out _ (by simp))), heap_alloc_at _ _, (BNext.ahead ((Mod.refl _ w).alloc _) H1.out).alloc _, H1.out.nf (by simp) (HN.out _ (by simp)), ?_⟩
    exact H1.out.at'.not_foot (Nat.le_refl _)
  case round =>
    obtain ⟨f, r, vr, rfl, hok, hR, hG, hfu, hb0, hb1, hB, hn0, hn1⟩ := hrel
    obtain ⟨g1, g2, g3, g4⟩ := hG
    have HB : Hid _ := hB
    have HB0 : Hid _ := hb0
    have HB1 : Hid _ := hb1
    have k1 := cellOf hb1
    clear hB hb0 hb1
    simp only [hok]
    have HOK : Hid _ := hok
    clear hok
    cases hro : r.ok
    · -- no more
      have hRr : r = R := by
        rw [← hR]; cases f with
        | zero => rfl
        | succ f => unfold rPieceL; rw [if_neg (by simp [hro])]
      have k2 := cellOf HB0.out
      have k3 := frozenOf HB0.out
      have HRR : Hid _ := hRr
      clear hR hfu g3 hRr
      go_wp2
      refine bodyPost_ret (results_row2 rfl _ _ w.heap.size 148 #[.int .i64 r.st, .int .i64 r.en] (0, 0) _ rfl ?_ Try.underlying148 rfl szFrag) rfl ⟨?_, vr, ?_⟩
      · rw [Proofs.Ytnhhboikbbnklaa.heap_setCell_same (Proofs.Ytnhhboikbbnklaa.heap_setCell_same HB0.out 0 _) 1 _]; rfl
      · rw [← HRR.out]; simp [prRet, frag, hro]
      · rw [← HRR.out]; exact (HB.out.put (p := ⟨w.heap.size, 0, none⟩) (by simp) hn0 _).put (p := ⟨w.heap.size, 1, none⟩) (by simp) hn0 _
    · have hg3 := g3 hro
      obtain ⟨f, rfl⟩ : ∃ g, f = g + 1 := ⟨f - 1, by rw [hro] at hfu; simp at hfu; omega⟩
      unfold rPieceL at hR
      cases hmk : isMark (atB s r.next)
      · rw [if_neg (by simp [hmk])] at hR
        obtain ⟨m1, m2, m3⟩ := mark_not hmk
        have k2 := cellOf HB0.out
        have k3 := frozenOf HB0.out
        have HRR : Hid _ := hR
        clear hR hfu g3 hmk
        go_wp2_with (first
          | (go_at_call 49; refine (at_any _ _ _ (by unfold maxLen; omega)).mono ?_; rintro e w' ⟨rfl, hw⟩; rw [hw]; clear hw))
        refine bodyPost_ret (results_row2 rfl _ _ w.heap.size 148 #[.int .i64 r.st, .int .i64 r.en] (0, 0) _ rfl ?_ Try.underlying148 rfl szFrag) rfl ⟨?_, vr, ?_⟩
        · rw [Proofs.Ytnhhboikbbnklaa.heap_setCell_same (Proofs.Ytnhhboikbbnklaa.heap_setCell_same HB0.out 0 _) 1 _]; rfl
        · rw [← HRR.out]; simp [prRet, frag, hro]
        · rw [← HRR.out]; exact (HB.out.put (p := ⟨w.heap.size, 0, none⟩) (by simp) hn0 _).put (p := ⟨w.heap.size, 1, none⟩) (by simp) hn0 _
      · rw [if_pos (by simp [hmk, hro])] at hR
        have hlt := atB_lt (s := s) (i := r.next) (by intro e; rw [e] at hmk; simp [isMark] at hmk)
        have mc := mark_cases hmk
        have HRR : Hid _ := hR
        have HFU : Hid _ := hfu
        clear hR hfu g3 hmk
        rcases mc with m1 | ⟨m1, m2⟩ | ⟨m1, m2, m3⟩
        all_goals
          go_wp2_with (first
            | (go_at_call 49; refine (at_any _ _ _ (by unfold maxLen; omega)).mono ?_; rintro e w' ⟨rfl, hw⟩; rw [hw]; clear hw)
            | (go_at_call 104; refine (repeat_any _ bb vr r.ns _ _ _ HB.out.at' (by omega)).mono ?_; rintro e w2 ⟨rfl, v2, h2⟩; have k2 := cellOf (h2.mod.at HB1.out hn1); have k3 := frozenOf (h2.mod.at HB1.out hn1)))
          go_roundw
          case rel =>
            have q1 := heap_lt HB1.out
            have q0 := heap_lt HB0.out
            have n1 := h2.nf (k := w1.heap.size) q1 hn1
            have n0 := h2.nf (k := w.heap.size) q0 hn0
            refine ⟨f, ⟨r.ns.length, r.ns.length + 1, r.next + 1, true, repeatN r.ns r.st r.en (atB s r.next)⟩, v2, rfl, rfl, HRR.out, ⟨by dsimp only; omega, by dsimp only; omega, fun _ => by dsimp only; omega, by dsimp only; rw [repeatN_len]; omega⟩, by have := HFU.out; simp [hro] at this; simp; omega, ?_, ?_, ?_, n0, n1⟩
            · exact heap_setCell_prev (heap_setCell_prev (h2.mod.at HB0.out hn0) (by simp; omega)) (by simp; omega)
            · rw [Proofs.Ytnhhboikbbnklaa.heap_setCell_same (Proofs.Ytnhhboikbbnklaa.heap_setCell_same (h2.mod.at HB1.out hn1) 0 _) 1 _]; rfl
            · exact ((HB.out.trans h2).put (p := ⟨w1.heap.size, 0, none⟩) (by simp; omega) n1 _).put (p := ⟨w1.heap.size, 1, none⟩) (by simp; omega) n1 _
          case measure => simp [intOf]; omega
end Go.Proofs.Ytnhhboikbbnklaa
