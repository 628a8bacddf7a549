import Derived.Test.YtcpgklcimacngaaGreatPrs2
namespace Go.Proofs.YtcpgklcimacngaaGreat
open Go.RowKit
set_option linter.unusedVariables false
set_option linter.unusedSimpArgs false

set_option maxHeartbeats 2000000 in
theorem readChoice_ok (s : ByteArray) (d : Int) (p : Int → List Node → PR) (hs : s.size ≤ 1000) (hd0 : 0 ≤ d) (hd1 : d ≤ 100) (hg : GoodF s p) (hp : Con 98 s d p) :
    Con 93 s d (rChoice p s) := by
  intro i ns w bb v h0 h1 hn h
  have H : Hid _ := h
  have hN := fun k (hk : w.heap.size ≤ k) => h.not_foot hk
  have HN : Hid _ := hN
  have G0 : Hid _ := hg i ns h0 h1
  have HG : Hid _ := hg
  have HP : Hid _ := hp
  clear h hN hg hp
  generalize hR : rChoice p s i ns = R
  have HR : Hid (rChoiceL p s (s.size + 5) (p i ns) = R) := hR
  clear hR
  go_enter Tryz.func93, Tryz.ntmps93
  go_wp2_with (first
    | (go_at_call 98; refine (HP.out i ns _ bb v (by omega) (by omega) hn (H.out.fresh ((Mod.refl _ w).alloc _))).mono ?_; rintro e w1 ⟨rfl, v1, h1⟩; have hz : w.heap.size < w1.heap.size := (by have := h1.mod.size; simp at this; omega)))
  have H1 : Hid _ := h1
  clear h1
  go_loopw [12, 13] (fun x y wr => ∃ (f : Nat) (r : PR) (vr : Value), x = .int .i64 r.next ∧ y = .bool r.ok ∧ rChoiceL p s f r = R ∧ Good s i ns.length r ∧ (s.size : Int) + 5 ≤ f + r.next + (if r.ok then 0 else s.size + 20) ∧
      wr.heap[w.heap.size]? = some (fragObj 0 0) ∧ wr.heap[w1.heap.size]? = some (fragObj r.st r.en) ∧ BNext w wr bb v vr r.ns ∧ ¬ foot bb vr w.heap.size ∧ ¬ foot bb vr w1.heap.size)
      (fun x y _ => okOf y * (4000 - (intOf x).toNat))
  case atStart =>
    refine ⟨s.size + 5, p i ns, v1, rfl, rfl, HR.out, G0.out, by have := G0.out.lo; split <;> omega, heap_alloc_prev (H1.out.mod.at (heap_alloc_at _ _) (HN.out _ (by simp))), heap_alloc_at _ _, (BNext.ahead ((Mod.refl _ w).alloc _) H1.out).alloc _, H1.out.nf (by simp) (HN.out _ (by simp)), ?_⟩
    exact H1.out.at'.not_foot (Nat.le_refl _)
  case round =>
    obtain ⟨f, r, vr, rfl, rfl, hR, hG, hfu, hb0, hb1, hB, hn0, hn1⟩ := hrel
    have g1 := hG.lo
    have g2 := hG.hi
    have g3 := hG.good
    have g4 := hG.cnt
    have HGd : Hid _ := hG
    have HB : Hid _ := hB
    have HB0 : Hid _ := hb0
    have HB1 : Hid _ := hb1
    have k1 := cellOf hb1
    clear hB hb0 hb1 hG
    cases hro : r.ok
    · have hRr : r = R := by
        rw [← hR]; cases f with
        | zero => rfl
        | succ f => unfold rChoiceL; rw [if_neg (by simp [hro])]
      have k2 := cellOf HB0.out
      have k3 := frozenOf HB0.out
      have HRR : Hid _ := hRr
      clear hR hfu g3 hRr
      go_wp2
      refine bodyPost_ret (results_row2 rfl _ _ w.heap.size 156 #[.int .i64 r.st, .int .i64 r.en] (0, 0) _ rfl ?_ Tryz.underlying156 rfl szFrag) rfl ⟨?_, vr, ?_⟩
      · rw [Proofs.YtcpgklcimacngaaGreat.heap_setCell_same (Proofs.YtcpgklcimacngaaGreat.heap_setCell_same HB0.out 0 _) 1 _]; rfl
      · rw [← HRR.out]; simp [prRet, frag, hro]
      · rw [← HRR.out]; exact (HB.out.put (p := ⟨w.heap.size, 0, none⟩) (by simp) hn0 _).put (p := ⟨w.heap.size, 1, none⟩) (by simp) hn0 _
    · have hg3 := g3 hro
      obtain ⟨f, rfl⟩ : ∃ g, f = g + 1 := ⟨f - 1, by rw [hro] at hfu; simp at hfu; omega⟩
      unfold rChoiceL at hR
      cases hmk : (atB s r.next == 124)
      · rw [if_neg (by simp [hmk])] at hR
        have k2 := cellOf HB0.out
        have k3 := frozenOf HB0.out
        have HRR : Hid _ := hR
        clear hR hfu g3
        go_wp2_with (first
          | (go_at_call 78; refine (at_any _ _ _ (by unfold maxLen; omega)).mono ?_; rintro e w' ⟨rfl, hw⟩; rw [hw]; clear hw))
        refine bodyPost_ret (results_row2 rfl _ _ w.heap.size 156 #[.int .i64 r.st, .int .i64 r.en] (0, 0) _ rfl ?_ Tryz.underlying156 rfl szFrag) rfl ⟨?_, vr, ?_⟩
        · rw [Proofs.YtcpgklcimacngaaGreat.heap_setCell_same (Proofs.YtcpgklcimacngaaGreat.heap_setCell_same HB0.out 0 _) 1 _]; rfl
        · rw [← HRR.out]; simp [prRet, frag, hro]
        · rw [← HRR.out]; exact (HB.out.put (p := ⟨w.heap.size, 0, none⟩) (by simp) hn0 _).put (p := ⟨w.heap.size, 1, none⟩) (by simp) hn0 _
      · rw [if_pos (by simp [hmk, hro])] at hR
        have h124 : atB s r.next = 124 := by simpa using hmk
        have hlt := atB_lt (s := s) (i := r.next) (by omega)
        have H124 := hid h124
        clear h124
        have HGp : Hid _ := HG.out (r.next + 1) r.ns (by omega) (by omega)
        have HJ : Hid _ := good_eitherR h0 HGd.out hro HGp.out
        have p1 := HGp.out.lo
        have p2 := HGp.out.hi
        have p3 := HGp.out.good
        have p4 := HGp.out.cnt
        have HRR : Hid _ := hR
        have HFU : Hid _ := hfu
        clear hR hfu g3
        have q1 := heap_lt HB1.out
        have q0 := heap_lt HB0.out
        generalize hpp : p (r.next + 1) r.ns = pp at HGp HJ p1 p2 p3 p4 HRR
        have HPP : Hid _ := hpp
        clear hpp
        have HC := HP.out (r.next + 1) r.ns wr bb vr (by omega) (by omega) (by omega) HB.out.at'
        rw [HPP.out] at HC
        simp only [prRet] at HC
        cases hpo : pp.ok
        · rw [hpo] at HC
          have HC' := hid HC
          clear p3 HC
          go_wp2_with (first
            | (go_at_call 78; refine (at_any _ _ _ (by unfold maxLen; omega)).mono ?_; rintro e w' ⟨rfl, hw⟩; rw [hw]; clear hw)
            | (go_at_call 98; refine HC'.out.mono ?_; rintro e w2 ⟨rfl, v2, h2⟩))
          go_roundw
          case rel =>
            have n1 := h2.nf (k := w1.heap.size) q1 hn1
            have n0 := h2.nf (k := w.heap.size) q0 hn0
            have ej : eitherR r pp = ⟨r.st, r.en, pp.next, false, pp.ns⟩ := by unfold eitherR; rw [if_neg (by simp [hpo])]
            refine ⟨f, eitherR r pp, v2, by rw [ej], by rw [ej], HRR.out, HJ.out, by rw [ej]; simp; omega, ?_, ?_, ?_, n0, n1⟩
            · exact heap_alloc_prev (h2.mod.at HB0.out hn0)
            · rw [ej]; exact heap_alloc_prev (h2.mod.at HB1.out hn1)
            · rw [ej]; exact (HB.out.trans h2).alloc _
          case measure => simp [intOf, okOf]; omega
        · rw [hpo] at HC
          have HC' := hid HC
          have p5 := p3 hpo
          clear p3 HC
          go_wp2_with (first
            | (go_at_call 78; refine (at_any _ _ _ (by unfold maxLen; omega)).mono ?_; rintro e w' ⟨rfl, hw⟩; rw [hw]; clear hw)
            | (go_at_call 98; refine HC'.out.mono ?_; rintro e w2 ⟨rfl, v2, h2⟩; have k2 := cellOf (h2.mod.at HB1.out hn1); have hz2 : w1.heap.size < w2.heap.size := (by have := h2.mod.size; omega))
            | (go_at_call 99; refine (either_any _ bb v2 pp.ns _ _ _ _ (h2.at'.fresh ((Mod.refl _ _).alloc _)) (by omega)).mono ?_; rintro e w3 ⟨rfl, v3, h3⟩; have n1 := h2.nf (k := w1.heap.size) q1 hn1; have k5 := cellOf (h3.mod.at (heap_alloc_prev (h2.mod.at HB1.out hn1)) n1); have k6 := frozenOf (h3.mod.at (heap_alloc_prev (h2.mod.at HB1.out hn1)) n1)))
          go_roundw
          case rel =>
            have n0 := h2.nf (k := w.heap.size) q0 hn0
            have hz0 : w.heap.size < w2.heap.size := (by have := h2.mod.size; omega)
            have n1' := h3.nf (k := w1.heap.size) (by simp; omega) n1
            have n0' := h3.nf (k := w.heap.size) (by simp; omega) n0
            have ej : eitherR r pp = ⟨pp.ns.length, pp.ns.length + 1, pp.next, true, eitherN pp.ns r.st r.en pp.st pp.en⟩ := by unfold eitherR; rw [if_pos (by simp [hpo])]
            refine ⟨f, eitherR r pp, v3, by rw [ej], by rw [ej], HRR.out, HJ.out, by have := HFU.out; rw [ej]; simp [hro] at this; simp; omega, ?_, ?_, ?_, n0', n1'⟩
            · exact heap_setCell_prev (heap_setCell_prev (h3.mod.at (heap_alloc_prev (h2.mod.at HB0.out hn0)) n0) (by simp; omega)) (by simp; omega)
            · rw [ej, Proofs.YtcpgklcimacngaaGreat.heap_setCell_same (Proofs.YtcpgklcimacngaaGreat.heap_setCell_same (h3.mod.at (heap_alloc_prev (h2.mod.at HB1.out hn1)) n1) 0 _) 1 _]; rfl
            · rw [ej]; exact (((HB.out.trans h2).alloc _).trans h3 |>.put (p := ⟨w1.heap.size, 0, none⟩) (by simp; omega) n1' _).put (p := ⟨w1.heap.size, 1, none⟩) (by simp; omega) n1' _
          case measure => simp [intOf, okOf]; omega

set_option maxHeartbeats 2000000 in
theorem readGroup_deep (s : ByteArray) (d : Int) (hd : 6 ≤ d) (hd1 : d ≤ 100) : ConG 111 s d (gK s 0) := by
  intro i ns w bb v h0 h1 hn h
  have H := hid h
  have HN := hid (fun k (hk : w.heap.size ≤ k) => h.not_foot hk)
  have e1 : gK s 0 i ns = ⟨0, 0, i, false, ns⟩ := rfl
  rw [e1]
  clear h e1
  go_enter Tryz.func111, Tryz.ntmps111
  go_wp2
  refine bodyPost_ret (results_row2 rfl _ _ w.heap.size 156 #[.int .i64 0, .int .i64 0] (0, 0) _ rfl (heap_alloc_at _ _) Tryz.underlying156 rfl szFrag) rfl ⟨rfl, v, ?_⟩
  have m1 : Fresh w (w.alloc (fragObj 0 0)) := (Mod.refl _ w).alloc _
  exact BNext.ahead m1 (BNext.refl (H.out.fresh m1))

set_option maxHeartbeats 2000000 in
theorem readGroup_ok (s : ByteArray) (d : Int) (c : Int → List Node → PR) (hs : s.size ≤ 1000) (hd0 : 0 ≤ d) (hd : d < 6) (hg : GoodF s c) (hc : Con 93 s (d + 1) c) :
    ConG 111 s d (rGroup c s) := by
  intro i ns w bb v h0 h1 hn h
  have H := hid h
  have HN := hid (fun k (hk : w.heap.size ≤ k) => h.not_foot hk)
  have hg' := hg (i + 1) ns (by omega) (by omega)
  have HC := hc (i + 1) ns (w.alloc (fragObj 0 0)) bb v (by omega) (by omega) (by omega) (h.fresh ((Mod.refl _ w).alloc _))
  generalize hR : rGroup c s i ns = R
  unfold rGroup at hR
  generalize hpp : c (i + 1) ns = pp at HC hg' hR
  simp only [prRet] at HC
  obtain ⟨g1, g2, g3, g4⟩ := hg'
  clear h hg hc hpp
  cases hpo : pp.ok
  · rw [hpo] at HC
    have HC' := hid HC
    rw [if_pos hpo] at hR
    have HR := hid hR
    clear HC g3 hR
    go_enter Tryz.func111, Tryz.ntmps111
    go_wp2_with (first
      | (go_at_call 93; refine HC'.out.mono ?_; rintro e w1 ⟨rfl, v1, h1⟩; have hz : w.heap.size < w1.heap.size := (by have := h1.mod.size; simp at this; omega); have k3 := h1.loc (heap_alloc_at _ _) (HN.out _ (by omega)); have k4 := frozenOf (h1.mod.at (heap_alloc_at _ _) (HN.out _ (by omega)))))
    have hf := h1.nf (k := w.heap.size) (by simp) (HN.out _ (by omega))
    refine bodyPost_ret (results_row2 rfl _ _ w.heap.size 156 #[.int .i64 0, .int .i64 0] (0, 0) _ rfl ?_ Tryz.underlying156 rfl szFrag) rfl ⟨by have := HR.out; subst this; rfl, v1, ?_⟩
    · refine heap_alloc_prev ?_
      rw [Proofs.YtcpgklcimacngaaGreat.heap_setCell_same (Proofs.YtcpgklcimacngaaGreat.heap_setCell_same (h1.mod.at (heap_alloc_at _ _) (HN.out _ (by omega))) 0 _) 1 _]; rfl
    · rw [← HR.out]
      exact (((BNext.ahead ((Mod.refl _ w).alloc _) h1).put (p := ⟨w.heap.size, 0, none⟩) (by simp) hf _).put (p := ⟨w.heap.size, 1, none⟩) (by simp) hf _).alloc _
  · rw [hpo] at HC
    have HC' := hid HC
    have g5 := g3 hpo
    rw [if_neg (by simp [hpo])] at hR
    by_cases hcl : atB s pp.next = 41
    · rw [if_neg (by simp [hcl])] at hR
      have HR := hid hR
      have c1 : (atB s pp.next != 41) = false := by simp [hcl]
      clear HC g3 hR hcl
      go_enter Tryz.func111, Tryz.ntmps111
      go_wp2_with (first
        | (go_at_call 78; refine (at_any _ _ _ (by unfold maxLen; omega)).mono ?_; rintro e w' ⟨rfl, hw⟩; rw [hw]; clear hw)
        | (go_at_call 93; refine HC'.out.mono ?_; rintro e w1 ⟨rfl, v1, h1⟩; have hz : w.heap.size < w1.heap.size := (by have := h1.mod.size; simp at this; omega); have k3 := h1.loc (heap_alloc_at _ _) (HN.out _ (by omega)); have k4 := frozenOf (h1.mod.at (heap_alloc_at _ _) (HN.out _ (by omega)))))
      have hf := h1.nf (k := w.heap.size) (by simp) (HN.out _ (by omega))
      refine bodyPost_ret (results_row2 rfl _ _ w.heap.size 156 #[.int .i64 pp.st, .int .i64 pp.en] (0, 0) _ rfl ?_ Tryz.underlying156 rfl szFrag) rfl ⟨by have := HR.out; subst this; rfl, v1, ?_⟩
      · refine heap_alloc_prev ?_
        rw [Proofs.YtcpgklcimacngaaGreat.heap_setCell_same (Proofs.YtcpgklcimacngaaGreat.heap_setCell_same (h1.mod.at (heap_alloc_at _ _) (HN.out _ (by omega))) 0 _) 1 _]; rfl
      · rw [← HR.out]
        exact (((BNext.ahead ((Mod.refl _ w).alloc _) h1).put (p := ⟨w.heap.size, 0, none⟩) (by simp) hf _).put (p := ⟨w.heap.size, 1, none⟩) (by simp) hf _).alloc _
    · rw [if_pos hcl] at hR
      have HR := hid hR
      have c1 : (atB s pp.next != 41) = true := by simpa using hcl
      clear HC g3 hR hcl
      go_enter Tryz.func111, Tryz.ntmps111
      go_wp2_with (first
        | (go_at_call 78; refine (at_any _ _ _ (by unfold maxLen; omega)).mono ?_; rintro e w' ⟨rfl, hw⟩; rw [hw]; clear hw)
        | (go_at_call 93; refine HC'.out.mono ?_; rintro e w1 ⟨rfl, v1, h1⟩; have hz : w.heap.size < w1.heap.size := (by have := h1.mod.size; simp at this; omega); have k3 := h1.loc (heap_alloc_at _ _) (HN.out _ (by omega)); have k4 := frozenOf (h1.mod.at (heap_alloc_at _ _) (HN.out _ (by omega)))))
      have hf := h1.nf (k := w.heap.size) (by simp) (HN.out _ (by omega))
      refine bodyPost_ret (results_row2 rfl _ _ w.heap.size 156 #[.int .i64 0, .int .i64 0] (0, 0) _ rfl ?_ Tryz.underlying156 rfl szFrag) rfl ⟨by have := HR.out; subst this; rfl, v1, ?_⟩
      · refine heap_alloc_prev ?_
        rw [Proofs.YtcpgklcimacngaaGreat.heap_setCell_same (Proofs.YtcpgklcimacngaaGreat.heap_setCell_same (h1.mod.at (heap_alloc_at _ _) (HN.out _ (by omega))) 0 _) 1 _]; rfl
      · rw [← HR.out]
        exact (((BNext.ahead ((Mod.refl _ w).alloc _) h1).put (p := ⟨w.heap.size, 0, none⟩) (by simp) hf _).put (p := ⟨w.heap.size, 1, none⟩) (by simp) hf _).alloc _

theorem depth_ok (s : ByteArray) (hs : s.size ≤ 1000) : ∀ (k : Nat), k ≤ 6 →
    ConG 111 s (6 - (k : Int)) (gK s k) ∧ Con 93 s (6 - (k : Int)) (chK s k) := by
  have step : ∀ k : Nat, k ≤ 6 → ConG 111 s (6 - (k : Int)) (gK s k) → Con 93 s (6 - (k : Int)) (chK s k) := by
    intro k hk h
    have ga := good_atom' (good_gK s k)
    have gp := good_piece ga
    have gb := good_branch gp
    have a := readAtom_ok s (6 - (k : Int)) (gK s k) hs (by omega) (by omega) h
    have p := readPiece_ok s (6 - (k : Int)) _ hs (by omega) (by omega) ga a
    have b := readBranch_ok s (6 - (k : Int)) _ hs (by omega) (by omega) gp p
    exact readChoice_ok s (6 - (k : Int)) _ hs (by omega) (by omega) gb b
  intro k
  induction k with
  | zero =>
    intro _
    have g := readGroup_deep s (6 - ((0 : Nat) : Int)) (by simp) (by simp)
    exact ⟨g, step 0 (by omega) g⟩
  | succ k ih =>
    intro hk
    have h := (ih (by omega)).2
    have e : (6 : Int) - ((k + 1 : Nat) : Int) + 1 = 6 - (k : Int) := by omega
    have g : ConG 111 s (6 - ((k + 1 : Nat) : Int)) (gK s (k + 1)) :=
      readGroup_ok s (6 - ((k + 1 : Nat) : Int)) (chK s k) hs (by omega) (by omega) (good_chK s k) (by rw [e]; exact h)
    exact ⟨g, step (k + 1) hk g⟩

/-- The whole pattern's reading. -/
theorem readChoice_any (s : ByteArray) (hs : s.size ≤ 1000) : Con 93 s 0 (chK s 6) := by
  have := (depth_ok s hs 6 (Nat.le_refl _)).2
  simpa using this
end Go.Proofs.YtcpgklcimacngaaGreat
namespace Go.Proofs.YtcpgklcimacngaaGreat
open Go.RowKit
set_option linter.unusedVariables false
set_option linter.unusedSimpArgs false

/-- v is a slice of these nodes. -/
structure NodesAt (w : World) (v : Value) (ns : List Node) : Prop where
  own : w.ownsRow 0 151 7 v ns.length (ncells ns)
  wf : Nwf ns
theorem NodesAt.kept {S : Nat → Prop} {w w' : World} {v : Value} {ns : List Node} (h : NodesAt w v ns) (hm : Mod S w w') (hs : ∀ k, v.ownBlock = some k → ¬ S k) : NodesAt w' v ns :=
  ⟨ownsRow_other h.own (fun g hg => hm.block g (h.own.lt g hg).2 (hs g hg)), h.wf⟩
theorem szPat : (Tryz.prog.info? 83).map (·.size) = some 3 := by kernel_rfl
abbrev patV (v : Value) (a b : Int) : Value := .agg #[v, .int .i64 a, .int .i64 b]
def rRead (s : ByteArray) (i : Int) : PR := chK s 6 i []

theorem BAt_new (W : World) : BAt (W.alloc (.cells #[.slice none 0 0] 154 (0, 0))) W.heap.size (.slice none 0 0) [] :=
  ⟨heap_alloc_at _ _, World.ownsRow_nil _ _ _ _, fun _ h => by cases h⟩

theorem foot_nil {bb k : Nat} (h : foot bb (.slice none 0 0) k) : k = bb := by
  rcases h with h | h
  · exact h
  · simp [Value.ownBlock] at h
theorem fresh_read {w w1 : World} {A B : Obj} {v1 : Value} {ns : List Node} (h1 : BNext ((w.alloc A).alloc B) w1 (w.heap.size + 1) (.slice none 0 0) v1 ns) : Fresh w w1 :=
  Mod.trans' (T := foot (w.heap.size + 1) (.slice none 0 0)) (((Mod.refl _ w).alloc _).alloc _) h1.mod (fun i hi hf => by have := foot_nil hf; omega)

set_option maxHeartbeats 2000000 in
theorem read_bad (s : ByteArray) (i : Int) (w : World) (hs : s.size ≤ 1000) (h0 : 0 ≤ i) (h1 : i ≤ s.size) (hok : (rRead s i).ok = false) :
    Calls Tryz.prog 87 #[.string s, .int .i64 i] w fun e w' => e = .returned (.tuple #[patV (.slice none 0 0) 0 0, .int .i64 (rRead s i).next, .bool false]) ∧ Fresh w w' := by
  have HC := readChoice_any s hs i [] ((w.alloc (.cells #[.slice none 0 0, .int .i64 0, .int .i64 0] 83 (0, 0))).alloc (.cells #[.slice none 0 0] 154 (0, 0))) (w.heap.size + 1) (.slice none 0 0) h0 h1 (by simp; omega) (by simpa using BAt_new (w.alloc (.cells #[.slice none 0 0, .int .i64 0, .int .i64 0] 83 (0, 0))))
  have hG := good_chK s 6 i [] h0 h1
  unfold rRead at hok ⊢
  generalize hpp : chK s 6 i [] = pp at HC hG hok ⊢
  simp only [prRet] at HC
  obtain ⟨g1, g2, g3, g4⟩ := hG
  rw [hok] at HC
  have HC' := hid HC
  clear HC hpp g3 hok
  go_enter Tryz.func87, Tryz.ntmps87
  go_wp2_with (first
    | (go_at_call 93; refine HC'.out.mono ?_; rintro e w1 ⟨rfl, v1, h1⟩; have hz : w.heap.size < w1.heap.size := (by have := h1.mod.size; simp at this; omega); have hb := h1.mod.at (heap_alloc2_old _ _ _) (by rintro (h | h) <;> simp [Value.ownBlock] at h); have k3 := cellOf hb; have k4 := frozenOf hb))
  refine bodyPost_ret (results_row2 rfl _ _ w.heap.size 83 #[.slice none 0 0, .int .i64 0, .int .i64 0] (0, 0) _ rfl ?_ Tryz.underlying83 rfl szPat) rfl ⟨rfl, ?_⟩
  · refine heap_alloc_prev ?_
    rw [Proofs.YtcpgklcimacngaaGreat.heap_setCell_same (Proofs.YtcpgklcimacngaaGreat.heap_setCell_same (Proofs.YtcpgklcimacngaaGreat.heap_setCell_same hb 0 _) 1 _) 2 _]; rfl
  · exact ((((fresh_read h1).setCell (by simp) _).setCell (by simp) _).setCell (by simp) _).alloc _

set_option maxHeartbeats 2000000 in
theorem read_good (s : ByteArray) (i : Int) (w : World) (hs : s.size ≤ 1000) (h0 : 0 ≤ i) (h1 : i ≤ s.size) (hok : (rRead s i).ok = true) :
    Calls Tryz.prog 87 #[.string s, .int .i64 i] w fun e w' => ∃ v, e = .returned (.tuple #[patV v (rRead s i).st (rRead s i).en, .int .i64 (rRead s i).next, .bool true]) ∧ Fresh w w' ∧ NodesAt w' v (rRead s i).ns ∧ ∀ k, v.ownBlock = some k → w.heap.size ≤ k := by
  have HC := readChoice_any s hs i [] ((w.alloc (.cells #[.slice none 0 0, .int .i64 0, .int .i64 0] 83 (0, 0))).alloc (.cells #[.slice none 0 0] 154 (0, 0))) (w.heap.size + 1) (.slice none 0 0) h0 h1 (by simp; omega) (by simpa using BAt_new (w.alloc (.cells #[.slice none 0 0, .int .i64 0, .int .i64 0] 83 (0, 0))))
  have hG := good_chK s 6 i [] h0 h1
  unfold rRead at hok ⊢
  generalize hpp : chK s 6 i [] = pp at HC hG hok ⊢
  simp only [prRet] at HC
  obtain ⟨g1, g2, g3, g4⟩ := hG
  rw [hok] at HC
  have HC' := hid HC
  clear HC hpp g3 hok
  go_enter Tryz.func87, Tryz.ntmps87
  go_wp2_with (first
    | (go_at_call 93; refine HC'.out.mono ?_; rintro e w1 ⟨rfl, v1, h1⟩; have hz : w.heap.size < w1.heap.size := (by have := h1.mod.size; simp at this; omega); have hb := h1.mod.at (heap_alloc2_old _ _ _) (by rintro (h | h) <;> simp [Value.ownBlock] at h)))
  obtain ⟨ao, cap, hv⟩ := own_form h1.at'.own
  have HB := hid hb
  have H1 := hid h1
  have k1 := cellOf h1.at'.blk
  have hz1 : w.heap.size + 1 < w1.heap.size := by have := h1.mod.size; simp at this; omega
  have k3 := cellOf hb
  have k4 := frozenOf hb
  subst hv
  clear hb h1
  go_region
  all_goals
    go_wp2
    refine bodyPost_ret (results_row2 rfl _ _ w.heap.size 83 #[.slice ao pp.ns.length cap, .int .i64 pp.st, .int .i64 pp.en] (0, 0) _ rfl ?_ Tryz.underlying83 rfl szPat) rfl ⟨.slice ao pp.ns.length cap, rfl, ?_, ?_, ?_⟩
    · have q := Proofs.YtcpgklcimacngaaGreat.heap_setCell_same (Proofs.YtcpgklcimacngaaGreat.heap_setCell_same (Proofs.YtcpgklcimacngaaGreat.heap_setCell_same HB.out 0 (.slice ao pp.ns.length cap)) 1 (.int .i64 pp.st)) 2 (.int .i64 pp.en)
      exact heap_alloc_prev q
    · exact (((((fresh_read H1.out).setCell (by simp) _).setCell (by simp) _).setCell (by simp) _).alloc _).drew
    · have n1 : NodesAt w1 (.slice ao pp.ns.length cap) pp.ns := ⟨ownsRow_base H1.out.at'.own (Nat.zero_le _), H1.out.at'.wf⟩
      refine n1.kept (S := fun k => k = w.heap.size) ?_ (fun k hk e => by have := H1.out.at'.own_lt k hk; omega)
      exact ((((Mod.setCell (S := fun k => k = w.heap.size) (Mod.setCell (S := fun k => k = w.heap.size) (Mod.setCell (S := fun k => k = w.heap.size) (Mod.refl _ w1) (p := ⟨w.heap.size, 0, none⟩) (fun _ => rfl) _) (p := ⟨w.heap.size, 1, none⟩) (fun _ => rfl) _) (p := ⟨w.heap.size, 2, none⟩) (fun _ => rfl) _)).alloc _)).drew
    · intro k hk; have := H1.out.at'.own_lt k hk; omega
end Go.Proofs.YtcpgklcimacngaaGreat
namespace Go.Proofs.YtcpgklcimacngaaGreat
open Go.RowKit
set_option linter.unusedVariables false
set_option linter.unusedSimpArgs false

def i64s (ls : List Int) : Array Value := (ls.map (Value.int .i64)).toArray
def boolsOf (n : Nat) (l : List Nat) : Array Value := ((List.range n).map fun j => Value.bool (decide (j ∈ l))).toArray
theorem i64s_at (ls : List Int) (i : Nat) (h : i < ls.length) : (i64s ls)[i]? = some (.int .i64 (ls.getD i 0)) := by simp [i64s, h]
theorem boolsOf_at (n : Nat) (l : List Nat) (i : Nat) (h : i < n) : (boolsOf n l)[i]? = some (.bool (decide (i ∈ l))) := by simp [boolsOf, h]

/-- A crowd of nodes numbered below n: l are those in it, in the order in which they came. -/
structure CrAt (w : World) (cb lb ib n : Nat) (l : List Nat) : Prop where
  nodup : l.Nodup
  lt : ∀ x ∈ l, x < n
  blk : w.heap[cb]? = some (.cells #[.slice (some ⟨lb, 0, none⟩) n n, .int .i64 l.length, .slice (some ⟨ib, 0, none⟩) n n] 138 (0, 0))
  lst : ∃ ls : List Int, ls.length = n ∧ ls.take l.length = l.map Int.ofNat ∧ w.heap[lb]? = some (.cells (i64s ls) 3 (0, 0))
  ins : w.heap[ib]? = some (.cells (boolsOf n l) 4 (0, 0))
  d1 : cb ≠ lb
  d2 : cb ≠ ib
  d3 : lb ≠ ib
def cfoot (cb lb ib k : Nat) : Prop := k = cb ∨ k = lb ∨ k = ib
theorem CrAt.kept {S : Nat → Prop} {w w' : World} {cb lb ib n : Nat} {l : List Nat} (h : CrAt w cb lb ib n l) (hm : Mod S w w') (hs : ∀ k, cfoot cb lb ib k → ¬ S k) : CrAt w' cb lb ib n l := by
  obtain ⟨ls, h1, h2, h3⟩ := h.lst
  exact ⟨h.nodup, h.lt, hm.at h.blk (hs cb (.inl rfl)), ⟨ls, h1, h2, hm.at h3 (hs lb (.inr (.inl rfl)))⟩, hm.at h.ins (hs ib (.inr (.inr rfl))), h.d1, h.d2, h.d3⟩
theorem CrAt.foot_lt {w : World} {cb lb ib n : Nat} {l : List Nat} (h : CrAt w cb lb ib n l) {k : Nat} (hk : cfoot cb lb ib k) : k < w.heap.size := by
  obtain ⟨ls, h1, h2, h3⟩ := h.lst
  rcases hk with rfl | rfl | rfl
  · exact heap_lt h.blk
  · exact heap_lt h3
  · exact heap_lt h.ins
theorem nodup_len {n : Nat} : ∀ {l : List Nat}, l.Nodup → (∀ x ∈ l, x < n) → l.length ≤ n := by
  induction n with
  | zero =>
    intro l hd hl
    cases l with
    | nil => simp
    | cons a l => have := hl a (by simp); omega
  | succ n ih =>
    intro l hd hl
    by_cases hm : n ∈ l
    · have h1 := ih (hd.erase n) (fun x hx => by
        have := (hd.mem_erase_iff).1 hx
        have := hl x this.2
        omega)
      rw [List.length_erase_of_mem hm] at h1
      omega
    · have := ih hd (fun x hx => by
        have h2 := hl x hx
        have : x ≠ n := fun e => hm (e ▸ hx)
        omega)
      omega
theorem nodup_len_lt {n m : Nat} {l : List Nat} (hd : l.Nodup) (hl : ∀ x ∈ l, x < n) (hm : m < n) (hn : m ∉ l) : l.length < n := by
  have := nodup_len (n := n) (l := m :: l) (List.nodup_cons.2 ⟨hn, hd⟩) (by
    intro x hx
    rcases List.mem_cons.1 hx with rfl | hx
    · exact hm
    · exact hl x hx)
  simp at this
  omega

def enterF (n : Nat) (l : List Nat) (m : Int) : List Nat := if 0 ≤ m ∧ m < n ∧ m.toNat ∉ l then l ++ [m.toNat] else l
theorem enterF_nodup {n : Nat} {l : List Nat} (m : Int) (h : l.Nodup) : (enterF n l m).Nodup := by
  unfold enterF; split
  · rename_i h1; rw [List.nodup_append]; exact ⟨h, by simp, by intro a ha b hb; simp at hb; subst hb; intro e; subst e; exact h1.2.2 ha⟩
  · exact h
theorem enterF_lt {n : Nat} {l : List Nat} (m : Int) (h : ∀ x ∈ l, x < n) : ∀ x ∈ enterF n l m, x < n := by
  unfold enterF; split
  · rename_i h1; intro x hx; rcases List.mem_append.1 hx with hx | hx
    · exact h x hx
    · simp at hx; omega
  · exact h
theorem boolsOf_set (n : Nat) (l : List Nat) (m : Nat) : (boolsOf n l).setIfInBounds m (.bool true) = boolsOf n (l ++ [m]) := by
  unfold boolsOf
  apply Array.ext_getElem?
  intro i
  rw [Array.getElem?_setIfInBounds]
  by_cases h : m = i
  · subst h; by_cases h2 : m < n <;> simp [h2]
  · rw [if_neg h]
    by_cases h2 : i < n
    · have : ¬ i = m := fun e => h e.symm
      simp [h2, this]
    · simp [h2]
theorem take_set_next {ls : List Int} {l : List Nat} {m : Nat} (h : ls.take l.length = l.map Int.ofNat) (hlt : l.length < ls.length) : (ls.set l.length (m : Int)).take (l ++ [m]).length = (l ++ [m]).map Int.ofNat := by
  simp only [List.length_append, List.length_singleton, List.map_append, List.map_singleton]
  rw [List.take_add_one, List.take_set_of_le (Nat.le_refl _), h]
  simp [hlt]
theorem i64s_set (ls : List Int) (i : Nat) (v : Int) : (i64s ls).setIfInBounds i (.int .i64 v) = i64s (ls.set i v) := by simp [i64s, List.map_set]

/-- What entering leaves. -/
theorem CrAt.entered {w : World} {cb lb ib n : Nat} {l : List Nat} {m : Nat} (h : CrAt w cb lb ib n l) (hm : m < n) (hn : m ∉ l) :
    CrAt (((w.setCell ⟨ib, m, none⟩ (.bool true)).setCell ⟨lb, l.length, none⟩ (.int .i64 m)).setCell ⟨cb, 1, none⟩ (.int .i64 (l.length + 1))) cb lb ib n (l ++ [m]) := by
  obtain ⟨ls, h1, h2, h3⟩ := h.lst
  have hl := nodup_len_lt h.nodup h.lt hm hn
  refine ⟨?_, ?_, ?_, ⟨ls.set l.length m, by simpa using h1, take_set_next h2 (by omega), ?_⟩, ?_, h.d1, h.d2, h.d3⟩
  · have := enterF_nodup (n := n) m h.nodup; unfold enterF at this; rw [if_pos ⟨by omega, by omega, by simpa using hn⟩] at this; simpa using this
  · have := enterF_lt (n := n) m h.lt; unfold enterF at this; rw [if_pos ⟨by omega, by omega, by simpa using hn⟩] at this; simpa using this
  · rw [Proofs.YtcpgklcimacngaaGreat.heap_setCell_same (heap_setCell_prev (heap_setCell_prev h.blk (by simpa using h.d2)) (by simpa using h.d1)) 1 _]
    simp
  · refine heap_setCell_prev ?_ (by simpa using h.d1.symm)
    rw [Proofs.YtcpgklcimacngaaGreat.heap_setCell_same (heap_setCell_prev h3 (by simpa using h.d3)) _ _, i64s_set]
  · refine heap_setCell_prev (heap_setCell_prev ?_ (by simpa using h.d3.symm)) (by simpa using h.d2.symm)
    rw [Proofs.YtcpgklcimacngaaGreat.heap_setCell_same h.ins _ _, boolsOf_set]
theorem enterF_no {n : Nat} {l : List Nat} {m : Int} (h : ¬ (0 ≤ m ∧ m < n ∧ m.toNat ∉ l)) : enterF n l m = l := by unfold enterF; rw [if_neg h]
theorem enterF_yes {n : Nat} {l : List Nat} {m : Nat} (h1 : m < n) (h2 : m ∉ l) : enterF n l m = l ++ [m] := by
  unfold enterF; rw [if_pos ⟨by omega, by omega, by simpa using h2⟩]; simp
end Go.Proofs.YtcpgklcimacngaaGreat
