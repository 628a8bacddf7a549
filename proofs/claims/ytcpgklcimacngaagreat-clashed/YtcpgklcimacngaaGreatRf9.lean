import Derived.Test.YtcpgklcimacngaaGreatRf7
namespace Go.Proofs.YtcpgklcimacngaaGreat
open Go.RowKit
set_option linter.unusedVariables false
set_option linter.unusedSimpArgs false

/-- a production under way, in memory -/
structure LnM (w wr : World) (nm : ByteArray) (a : List ByteArray) (b : List Int) (vs vp : Value) : Prop where
  fresh : Fresh w wr
  res : wr.heap[w.heap.size]? = some (.cells (zlA false false ⟨#[]⟩ ⟨#[]⟩ (.slice none 0 0) (.slice none 0 0) 0) 64 (0, 0))
  loc : wr.heap[w.heap.size + 1]? = some (.cells (zlA false false nm ⟨#[]⟩ vs vp 0) 64 (0, 0))
  os : wr.ownsRow (w.heap.size + 2) 9 1 vs a.length (strs a)
  op : wr.ownsRow (w.heap.size + 2) 3 1 vp b.length (ints b)
  dis : ∀ k, vs.ownBlock = some k → vp.ownBlock = some k → False
section
variable {w wr W w1 : World} {nm : ByteArray} {a : List ByteArray} {b : List Int} {vs vp v' : Value}
theorem LnM.blk (h : LnM w wr nm a b vs vp) (hW : Fresh wr W) {v : Value} (hv : v = vs ∨ v = vp) (hg : W.grownBy w1 v.ownBlock) :
    w1.heap[w.heap.size]? = some (.cells (zlA false false ⟨#[]⟩ ⟨#[]⟩ (.slice none 0 0) (.slice none 0 0) 0) 64 (0, 0)) ∧ w1.heap[w.heap.size + 1]? = some (.cells (zlA false false nm ⟨#[]⟩ vs vp 0) 64 (0, 0)) := by
  have h1 := hW.at h.res (fun x => x)
  have h2 := hW.at h.loc (fun x => x)
  have hne : ∀ k, v.ownBlock = some k → w.heap.size + 2 ≤ k := by
    intro k hk
    rcases hv with rfl | rfl
    · exact (h.os.lt k hk).1
    · exact (h.op.lt k hk).1
  exact ⟨by rw [hg.block _ (heap_lt h1) (fun e => by have := hne _ e.symm; omega)]; exact h1, by rw [hg.block _ (heap_lt h2) (fun e => by have := hne _ e.symm; omega)]; exact h2⟩
theorem LnM.addS {x : ByteArray} (h : LnM w wr nm a b vs vp) (hW : Fresh wr W) (hown : w1.ownsRow (w.heap.size + 2) 9 1 v' (a.length + 1) (strs a ++ [.string x])) (hg : W.grownBy w1 vs.ownBlock)
    (hb : ∀ k, v'.ownBlock = some k → vs.ownBlock = some k ∨ W.heap.size ≤ k) : LnM w (w1.setCell ⟨w.heap.size + 1, 4, none⟩ v') nm (a ++ [x]) b v' vp := by
  obtain ⟨k1, k2⟩ := h.blk hW (.inl rfl) hg
  have hl := hown.lt
  refine ⟨?_, ?_, ?_, ?_, ?_, ?_⟩
  · exact ((h.fresh.trans hW).grown hg (fun k hk hlt => by have := h.os.lt k hk; omega)).setCell (fun q => by dsimp only at q; omega) _
  · exact heap_setCell_prev k1 (by simp)
  · rw [Proofs.YtcpgklcimacngaaGreat.heap_setCell_same k2]; rfl
  · rw [List.length_append, List.length_singleton]
    have e1 := List.map_append (f := Value.string) (l₁ := a) (l₂ := [x])
    rw [List.map_singleton] at e1
    show World.ownsRow _ _ _ _ _ _ (List.map _ _)
    rw [e1]
    exact ownsRow_other hown (fun g hg' => by rw [Proofs.YtcpgklcimacngaaGreat.heap_setCell_other _ (by have := hl g hg'; simp; omega)])
  · refine ownsRow_other h.op (fun g hg' => ?_)
    have l2 := h.op.lt g hg'
    rw [Proofs.YtcpgklcimacngaaGreat.heap_setCell_other _ (by simp; omega), hg.block g (by have := hW.size; omega) (fun e => h.dis g e.symm hg'), hW.block g l2.2 (fun x => x)]
  · intro k q1 q2
    rcases hb k q1 with q | q
    · exact h.dis k q q2
    · have := h.op.lt k q2; have := hW.size; omega
theorem LnM.addP {x : Int} (h : LnM w wr nm a b vs vp) (hW : Fresh wr W) (hown : w1.ownsRow (w.heap.size + 2) 3 1 v' (b.length + 1) (ints b ++ [.int .i64 x])) (hg : W.grownBy w1 vp.ownBlock)
    (hb : ∀ k, v'.ownBlock = some k → vp.ownBlock = some k ∨ W.heap.size ≤ k) : LnM w (w1.setCell ⟨w.heap.size + 1, 5, none⟩ v') nm a (b ++ [x]) vs v' := by
  obtain ⟨k1, k2⟩ := h.blk hW (.inr rfl) hg
  have hl := hown.lt
  refine ⟨?_, ?_, ?_, ?_, ?_, ?_⟩
  · exact ((h.fresh.trans hW).grown hg (fun k hk hlt => by have := h.op.lt k hk; omega)).setCell (fun q => by dsimp only at q; omega) _
  · exact heap_setCell_prev k1 (by simp)
  · rw [Proofs.YtcpgklcimacngaaGreat.heap_setCell_same k2]; rfl
  · refine ownsRow_other h.os (fun g hg' => ?_)
    have l2 := h.os.lt g hg'
    rw [Proofs.YtcpgklcimacngaaGreat.heap_setCell_other _ (by simp; omega), hg.block g (by have := hW.size; omega) (fun e => h.dis g hg' e.symm), hW.block g l2.2 (fun x => x)]
  · rw [List.length_append, List.length_singleton]
    have e1 := List.map_append (f := Value.int .i64) (l₁ := b) (l₂ := [x])
    rw [List.map_singleton] at e1
    show World.ownsRow _ _ _ _ _ _ (List.map _ _)
    rw [e1]
    exact ownsRow_other hown (fun g hg' => by rw [Proofs.YtcpgklcimacngaaGreat.heap_setCell_other _ (by have := hl g hg'; simp; omega)])
  · intro k q1 q2
    rcases hb k q2 with q | q
    · exact h.dis k q1 q
    · have := h.os.lt k q1; have := hW.size; omega
theorem LnM.ret {ok : Bool} {r : Option ZLn} (h : LnM w wr nm a b vs vp) (hr : r.isSome = ok) (hz : ∀ z, r = some z → z = ⟨false, false, nm, ⟨#[]⟩, a, b⟩) {e : Ending} {w' : World} (hf : w' = wr.setRow w.heap.size (zlA false false nm ⟨#[]⟩ vs vp 0)) (he : e = .returned (.tuple #[.agg (zlA false false nm ⟨#[]⟩ vs vp 0), .bool ok])) : ZRet w r e w' := by
  subst hf
  refine ⟨⟨⟨false, false, nm, ⟨#[]⟩, a, b⟩, vs, vp, 0⟩, by rw [hr]; exact he, ⟨?_, ?_⟩, h.fresh.setRow (by simp) _, fun z q => (hz z q).symm⟩
  · exact ownsRow_base (ownsRow_other h.os (fun g hg => setRow_other _ _ _ _ (by have := h.os.lt g hg; omega))) (by omega)
  · exact ownsRow_base (ownsRow_other h.op (fun g hg => setRow_other _ _ _ _ (by have := h.op.lt g hg; omega))) (by omega)
end
attribute [local go_sem ↓] apS_rule
set_option maxRecDepth 20000 in
set_option maxHeartbeats 2000000 in
theorem zline_prod (s : ByteArray) (w : World) (hs : s.size ≤ 70000) (hn : zLet s 0 = 0) (hok : 0 ≤ zSym s 0 ∧ atB s (zSym s 0) = 58) :
    Calls Tryz.prog 39 #[.string s] w fun e w' => ZRet w ((zProdL s (s.size + 5) (zSym s 0 + 1) [] []).map (fun l => ⟨false, false, s.extract 0 (zSym s 0).toNat, ⟨#[]⟩, l.1, l.2⟩)) e w' := by
  have ZL := hid (fun w => zletters_any s 0 w (by omega) (by omega))
  have ZY := hid (fun w => zsymbol_any s 0 w (by omega) (by omega))
  have ZS := hid (fun (i : Nat) (w : World) (hi : i ≤ s.size) => zsymbol_any s (i + 1) w (by omega) (by omega))
  have e0 : ((0 : Nat) : Int) = 0 := rfl
  rw [e0, hn] at ZL
  rw [e0] at ZL ZY
  clear e0
  have hbd := zSym_bd s (i := 0) (by omega)
  have BD := hid (fun (i : Nat) => zSym_bd s (i := ((i + 1 : Nat) : Int)) (by omega))
  obtain ⟨i0, hi0, hz0, hz1, hz2⟩ := infoStr'
  obtain ⟨i1, hi1, hy0, hy1, hy2⟩ := infoInt'
  have hz : ∀ o : Obj, ((w.alloc (.cells (zlA false false ⟨#[]⟩ ⟨#[]⟩ (.slice none 0 0) (.slice none 0 0) 0) 64 (0, 0))).alloc o).heap[w.heap.size]? = some (.cells (zlA false false ⟨#[]⟩ ⟨#[]⟩ (.slice none 0 0) (.slice none 0 0) 0) 64 (0, 0)) := fun o => heap_alloc2_old _ _ _
  have HZ := hid hz
  clear hz hn
  generalize zSym s 0 = y at ZY hbd hok
  obtain ⟨y0, y58⟩ := hok
  obtain ⟨j, rfl⟩ : ∃ j : Nat, y = j := ⟨y.toNat, by omega⟩
  have hj : j < s.size := by
    have := atB_lt (s := s) (i := (j : Int)) (by omega); omega
  have hb := atB_ix hj
  rw [hb] at y58
  have q1 : ((s[j].toNat : Int) != 58) = false := by simp [y58]
  have hbl : s[j].toNat < 256 := s[j].toNat_lt
  have k3 : ¬ (s.size : Int) ≤ (j : Int) := by omega
  have k4 : (j : Int) < (s.size : Int) := by omega
  have k5 : decide (s.size ≤ j) = false := by simpa using hj
  have k6 : decide ((j : Int) < 0) = false := by simp
  have ej : ((j : Int)).toNat = j := by omega
  rw [ej]
  generalize hnm : s.extract 0 j = nm
  have HNM := hid hnm
  generalize hR : zProdL s (s.size + 5) ((j : Int) + 1) [] [] = R
  have HR := hid hR
  clear hb hbd y58 hR hnm ej
  go_enter Tryz.func39, Tryz.ntmps39
  go_wp2_with (first
    | (go_at_call 60; refine (ZL.out _).mono ?_; rintro e w' ⟨rfl, hw⟩; rw [hw]; clear hw)
    | (go_at_call 62; refine (ZY.out _).mono ?_; rintro e w' ⟨rfl, hw⟩; rw [hw]; clear hw)
    | (refine wpList_store_new rfl 64 _ _ rfl (w.alloc (.cells (zlA false false ⟨#[]⟩ ⟨#[]⟩ (.slice none 0 0) (.slice none 0 0) 0) 64 (0, 0))) _ _ _ rfl rfl rfl szZL rfl (zl_one rfl rfl) ?_))
  go_loopw [6, 8] (fun x6 _ wr => ∃ (f i : Nat) (a : List ByteArray) (b : List Int) (vs vp : Value), x6 = .int .i64 i ∧ zProdL s f i a b = R ∧ s.size + 2 ≤ f + i ∧ i ≤ s.size ∧ a.length ≤ i ∧ b.length ≤ i ∧ LnM w wr nm a b vs vp)
      (fun x _ _ => 80000 - (intOf x).toNat)
  case atStart =>
    refine ⟨s.size + 5, j + 1, [], [], .slice none 0 0, .slice none 0 0, by go_num, HR.out, by omega, by omega, by simp, by simp, ?_⟩
    rw [HNM.out]
    exact ⟨((Mod.refl _ w).alloc _).alloc _, HZ.out _, heap_alloc2_new _ _ _, World.ownsRow_nil _ _ _ _, World.ownsRow_nil _ _ _ _, fun k q => by simp [Value.ownBlock] at q⟩
  case round =>
    obtain ⟨f, i, a, b, vs, vp, rfl, hR, hfu, hi, hal, hbl2, hM⟩ := hrel
    clear HR HNM HZ q1
    obtain ⟨f, rfl⟩ : ∃ g, f = g + 1 := ⟨f - 1, by omega⟩
    rw [zProdL_s] at hR
    have HM := hid hM
    obtain ⟨as_, cs_, hvs⟩ := own_form hM.os
    obtain ⟨ap_, cp_, hvp⟩ := own_form hM.op
    have kS1 := cellOf hM.loc 4
    have kS2 := frozenOf hM.loc 4
    have hsz := hM.fresh.size
    have hlt2 := heap_lt hM.loc
    clear hM
    subst hvs hvp
    simp at kS1
    by_cases hi2 : i < s.size
    · have hb := atB_ix hi2
      have hbl : s[i].toNat < 256 := s[i].toNat_lt
      have k4 : (i : Int) < (s.size : Int) := by omega
      rw [if_pos k4, hb] at hR
      clear hb
      by_cases c32 : (s[i].toNat : Int) = 32
      · rw [if_pos c32] at hR
        have q1 : ((s[i].toNat : Int) != 32) = false := by simp [c32]
        have ZX := hid (fun w => ZS.out i w hi)
        have bd := BD.out i
        have ei : ((i + 1 : Nat) : Int) = (i : Int) + 1 := by omega
        rw [ei] at ZX bd
        clear ei
        generalize zSym s ((i : Int) + 1) = y at ZX bd hR
        clear c32
        by_cases y0 : y < 0
        · rw [if_pos y0] at hR
          have HRR := hid hR
          clear hR bd
          go_wp2_with (first
            | (go_at_call 62; refine (ZX.out _).mono ?_; rintro e w' ⟨rfl, hw⟩; rw [hw]; clear hw)
            | (refine wpList_load_row rfl 64 _ rfl (w.heap.size + 1) rfl _ _ _ _ HM.out.loc Tryz.underlying64 rfl szZL ?_)
            | (refine wpList_store_row rfl 64 _ _ rfl w.heap.size _ rfl rfl _ _ HM.out.res szZL rfl (zl_one rfl rfl) ?_))
          refine bodyPost_ret (zres1 rfl _ _ w.heap.size 64 _ (0, 0) _ rfl (setRow_heap _ _ _ _ _ _ HM.out.res) Tryz.underlying64 rfl szZL) rfl ?_
          rw [← HRR.out]
          exact HM.out.ret (ok := false) rfl (fun z q => by cases q) rfl rfl
        · obtain ⟨n, rfl⟩ : ∃ n : Nat, y = n := ⟨y.toNat, by omega⟩
          rw [if_neg y0] at hR
          have e1 : ((i : Int) + 1).toNat = i + 1 := by omega
          have e2 : ((n : Int)).toNat = n := by omega
          rw [e1, e2] at hR
          have b1 : i + 1 < n := by omega
          have b2 : n ≤ s.size := by omega
          have HRR := hid hR
          clear hR bd e1 e2
          have b3 : (i : Int) + 1 ≤ (n : Int) := by omega
          have b4 : (n : Int) ≤ (s.size : Int) := by omega
          go_upto_region 18 with (first
            | (go_at_call 62; refine (ZX.out _).mono ?_; rintro e w' ⟨rfl, hw⟩; rw [hw]; clear hw))
          obtain ⟨v', w2, hrun, hown, hgrow, hblk⟩ := apS_mine (P := Tryz.prog) (wr.alloc (.cells #[.string (s.extract (i + 1) n)] 9)).drew (w.heap.size + 2) 58 58 9 i0 _ 1 16 Tryz.underlying58 hi0 hz0 hz1 hz2 rfl (by decide) (.slice as_ a.length cs_) a.length (strs a) (HM.out.os.alloc _) ⟨wr.heap.size, 0, none⟩ 1 1 [.string (s.extract (i + 1) n)] rfl (new_cells rfl) (by intro u hu; simp at hu; subst hu; rfl) (by unfold maxLen; omega) (by omega) (by simp [World.drew]; omega)
          obtain ⟨a', cap', hv'⟩ := own_form hown
          have hbk := HM.out.blk (((Mod.refl _ wr).alloc _).drew) (.inl rfl) hgrow
          have hc2 : w2.cell? ⟨w.heap.size + 1, 4, none⟩ = some (.slice as_ a.length cs_) := (cellOf hbk.2 4)
          have hf2 := frozenOf hbk.2 4
          have HO2 := hid hown
          have HG2 := hid hgrow
          clear hown hgrow hbk
          subst hv'
          go_region
          all_goals
            have M1 := HM.out.addS (x := s.extract (i + 1) n) (((Mod.refl _ wr).alloc _).drew) HO2.out HG2.out hblk
            generalize hWW : w2.setCell _ _ = W1 at M1 ⊢
            have HM1 := hid M1
            have k1 := cellOf M1.loc 5
            have k2 := frozenOf M1.loc 5
            have hlt3 := heap_lt M1.loc
            have hsz3 := M1.fresh.size
            clear hWW HO2 HG2 hblk hc2 hf2 hrun M1 HM kS1 kS2
            simp at k1
            go_wp2_with (first
              | (at_builtin; refine wpList_append_mine _ rfl _ _ 50 rfl (w.heap.size + 2) 3 i1 _ 1 8 Tryz.underlying50 hi1 hy0 hy1 hy2 rfl (by decide) (.slice ap_ b.length cp_) b.length (ints b) rfl (HM1.out.op.alloc _) ⟨W1.heap.size, 0, none⟩ 1 1 [.int .i64 ((i : Int) + 1)] rfl rfl (new_cells rfl) (by intro u hu; simp at hu; subst hu; rfl) (by unfold maxLen; omega) (by omega) (by simp; omega) ?_; intro v9 w4 hown hgrow hblk; obtain ⟨a9, c9, hv9⟩ := own_form hown; have hb9 := (HM1.out.blk ((Mod.refl _ W1).alloc _) (.inr rfl) hgrow).2; have k6 : w4.cell? ⟨w.heap.size + 1, 5, none⟩ = some (.slice ap_ b.length cp_) := cellOf hb9 5; have k7 := frozenOf hb9 5; have M2 := HM1.out.addP (x := (i : Int) + 1) ((Mod.refl _ W1).alloc _) hown hgrow (by simpa using hblk); have HM2 := hid M2; clear hown hgrow hblk M2 hb9; subst hv9))
            go_roundw
            case rel =>

              refine ⟨f, n, _, _, _, _, rfl, HRR.out, by omega, by omega, ?_, ?_, HM2.out⟩
              · simp; omega
              · simp; omega
            case measure => simp [intOf]; omega
      · rw [if_neg c32] at hR
        have q1 : ((s[i].toNat : Int) != 32) = true := by simpa using c32
        have HRR := hid hR
        clear hR c32
        go_wp2_with (first
          | (refine wpList_load_row rfl 64 _ rfl (w.heap.size + 1) rfl _ _ _ _ HM.out.loc Tryz.underlying64 rfl szZL ?_)
          | (refine wpList_store_row rfl 64 _ _ rfl w.heap.size _ rfl rfl _ _ HM.out.res szZL rfl (zl_one rfl rfl) ?_))
        refine bodyPost_ret (zres1 rfl _ _ w.heap.size 64 _ (0, 0) _ rfl (setRow_heap _ _ _ _ _ _ HM.out.res) Tryz.underlying64 rfl szZL) rfl ?_
        rw [← HRR.out]
        exact HM.out.ret (ok := false) rfl (fun z q => by cases q) rfl rfl
    · have k4 : ¬ (i : Int) < (s.size : Int) := by omega
      rw [if_neg k4] at hR
      have HRR := hid hR
      clear hR
      go_wp2_with (first
        | (refine wpList_load_row rfl 64 _ rfl (w.heap.size + 1) rfl _ _ _ _ HM.out.loc Tryz.underlying64 rfl szZL ?_)
        | (refine wpList_store_row rfl 64 _ _ rfl w.heap.size _ rfl rfl _ _ HM.out.res szZL rfl (zl_one rfl rfl) ?_))
      refine bodyPost_ret (zres1 rfl _ _ w.heap.size 64 _ (0, 0) _ rfl (setRow_heap _ _ _ _ _ _ HM.out.res) Tryz.underlying64 rfl szZL) rfl ?_
      rw [← HRR.out]
      exact HM.out.ret (ok := true) rfl (fun z q => by simpa using q.symm) rfl rfl

theorem zline_any (s : ByteArray) (w : World) (hs : s.size ≤ 70000) : Calls Tryz.prog 39 #[.string s] w fun e w' => ZRet w (zLine s) e w' := by
  unfold zLine
  by_cases c0 : 0 < zLet s 0
  · rw [if_pos c0]
    cases hok : zRuleOk s (zLet s 0)
    · refine (zline_norule s w hs _ rfl c0 hok).mono ?_
      rintro e w' ⟨rfl, hf⟩
      rw [if_neg (by simp)]
      exact ⟨⟨noZL, nilS, nilS, 0⟩, rfl, nil_at _ _ _ rfl rfl rfl rfl, hf, fun z q => by cases q⟩
    · refine (zline_rule s w hs _ rfl c0 hok).mono ?_
      rintro e w' ⟨rfl, hf⟩
      by_cases c1 : zpK s 6 ((zLet s 0 : Nat) + 1) = s.size
      · rw [if_pos ⟨rfl, c1⟩, c1]
        refine ⟨⟨⟨true, atB s (zLet s 0) == 126, s.extract 0 (zLet s 0), s.extract (zLet s 0 + 1) s.size, [], []⟩, nilS, nilS, 0⟩, ?_, nil_at _ _ _ rfl rfl rfl rfl, hf, fun z q => by simpa using q⟩
        simp [ZLV.cells]
      · rw [if_neg (fun q => c1 q.2)]
        refine ⟨⟨⟨true, atB s (zLet s 0) == 126, s.extract 0 (zLet s 0), s.extract (zLet s 0 + 1) s.size, [], []⟩, nilS, nilS, 0⟩, ?_, nil_at _ _ _ rfl rfl rfl rfl, hf, fun z q => by cases q⟩
        have : (zpK s 6 ((zLet s 0 : Nat) + 1) == (s.size : Int)) = false := by simpa using c1
        rw [this]
        simp [ZLV.cells]
  · rw [if_neg c0]
    by_cases c1 : 0 ≤ zSym s 0 ∧ atB s (zSym s 0) = 58
    · rw [if_pos c1]
      exact zline_prod s w hs (by omega) c1
    · rw [if_neg c1]
      refine (zline_nohead s w hs (by omega) c1).mono ?_
      rintro e w' ⟨rfl, hf⟩
      exact ⟨⟨noZL, nilS, nilS, 0⟩, rfl, nil_at _ _ _ rfl rfl rfl rfl, hf, fun z q => by cases q⟩
end Go.Proofs.YtcpgklcimacngaaGreat
namespace Go.Proofs.YtcpgklcimacngaaGreat
open Go.RowKit
set_option linter.unusedVariables false
set_option linter.unusedSimpArgs false

/-- the ways to go on -/
def ways : List ByteArray := [⟨#[]⟩, ⟨#[97]⟩, ⟨#[97, 61, 97]⟩, ⟨#[61, 97]⟩, ⟨#[58]⟩, ⟨#[93]⟩, ⟨#[97, 93]⟩, ⟨#[126, 93]⟩, ⟨#[126]⟩]
def closeN (t : ByteArray) : Nat → ByteArray
  | 0 => t
  | k + 1 => closeN t k ++ ⟨#[41]⟩
theorem closeN_size (t : ByteArray) : ∀ k, (closeN t k).size = t.size + k
  | 0 => rfl
  | k + 1 => by rw [closeN, ByteArray.size_append, closeN_size t k]; rfl
def goesF (s : ByteArray) : Bool := ways.any fun v => (List.range 7).any fun k => (zLine (closeN (s ++ v) k)).isSome
theorem ways_size : ∀ v ∈ ways, v.size ≤ 3 := by decide
theorem ways_at {j : Nat} (hj : j < 9) : (ways[j]'hj).size ≤ 3 := ways_size _ (List.getElem_mem _)

set_option maxRecDepth 20000 in
set_option maxHeartbeats 2000000 in
theorem goes_any (s : ByteArray) (w : World) (hs : s.size ≤ 1000) : Calls Tryz.prog 63 #[.string s] w fun e w' => e = .returned (.bool (goesF s)) ∧ Fresh w w' := by
  have ZL := hid (fun (t : ByteArray) (w : World) (h : t.size ≤ 70000) => zline_any t w h)
  go_enter Tryz.func63, Tryz.ntmps63
  go_wp2
  go_loopw [4] (fun x4 wr => ∃ i : Nat, x4 = .int .i64 i ∧ i ≤ 9 ∧ wr.heap[w.heap.size]? = some (.cells (strs ways).toArray 9 (0, 0)) ∧ Fresh w wr ∧ ∀ (j : Nat) (hj : j < 9), j < i → ∀ k : Nat, k < 7 → (zLine (closeN (s ++ ways[j]'hj) k)).isSome = false)
      (fun x _ => 10 - (intOf x).toNat)
  case atStart => exact ⟨0, rfl, by omega, heap_alloc_at _ _, (Mod.refl _ w).alloc _, fun j _ h => by omega⟩
  case round =>
    obtain ⟨i, rfl, hi, hblk, hfr, hall⟩ := hrel
    have HB := hid hblk
    have HF := hid hfr
    have HA := hid hall
    have hcell := fun o => cellOf hblk o
    clear hblk hfr hall
    by_cases hi9 : i < 9
    · have k1 : (i : Int) < 9 := by omega
      have hc : wr.cell? ⟨w.heap.size, i, none⟩ = some (.string (ways[i]'hi9)) := by
        rw [hcell i]
        have : i < (strs ways).length := by simp [ways]; omega
        rw [List.getElem?_toArray, List.getElem?_map, List.getElem?_eq_getElem (show i < ways.length from hi9)]; rfl
      have hv := ways_at hi9
      generalize hvv : ways[i]'hi9 = v at hc hv
      have HV := hid hvv
      clear hvv hcell
      generalize hw0 : wr = w0 at HB HF hc
      go_wp2
      go_loopw [5, 6] (fun x5 x6 wr => ∃ k : Nat, x6 = .int .i64 k ∧ k ≤ 7 ∧ x5 = .string (closeN (s ++ v) k) ∧ wr.heap[w.heap.size]? = some (.cells (strs ways).toArray 9 (0, 0)) ∧ Fresh w wr ∧ ∀ k' : Nat, k' < k → (zLine (closeN (s ++ v) k')).isSome = false)
          (fun _ x _ => 8 - (intOf x).toNat)
      case atStart => exact ⟨0, rfl, by omega, rfl, HB.out, HF.out, fun k' h => by omega⟩
      case round =>
        obtain ⟨k, rfl, hk, rfl, hblk, hfr, hno⟩ := hrel
        have HB := hid hblk
        have HF := hid hfr
        have HN := hid hno
        clear hblk hfr hno
        by_cases hk7 : k < 7
        · have k2 : (k : Int) ≤ 6 := by omega
          have hsz : (closeN (s ++ v) k).size ≤ 70000 := by rw [closeN_size, ByteArray.size_append]; omega
          have ZX := hid (fun w => ZL.out (closeN (s ++ v) k) w hsz)
          have HC : Hid (closeN (s ++ v) (k + 1) = closeN (s ++ v) k ++ ⟨#[41]⟩) := rfl
          have HG : Hid ((zLine (closeN (s ++ v) k)).isSome = true → goesF s = true) := fun h => by
            unfold goesF
            rw [List.any_eq_true]
            refine ⟨v, by rw [← HV.out]; exact List.getElem_mem _, ?_⟩
            rw [List.any_eq_true]
            exact ⟨k, by simpa using hk7, h⟩
          have HN2 : Hid ((zLine (closeN (s ++ v) k)).isSome = false → ∀ k' : Nat, k' < k + 1 → (zLine (closeN (s ++ v) k')).isSome = false) := fun h k' hk' => by
            by_cases q : k' = k
            · rw [q]; exact h
            · exact HN.out k' (by omega)
          generalize closeN (s ++ v) k = tk at ZX HC HG HN2 hsz
          generalize zLine tk = zt at ZX HG HN2
          cases hz : zt with
          | some z =>
            subst hz
            go_wp2_with (first
              | (go_at_call 39; refine (ZX.out _).mono ?_; rintro e w1 ⟨x, he, hA, hf1, hx⟩; rw [Option.isSome_some] at he; subst he; have HF1 := hid hf1; have HAT := hid hA; clear hf1 hA hx)
              | (refine wpList_store_new rfl 64 _ _ rfl w1 _ _ _ rfl rfl rfl szZL rfl HAT.out.one ?_))
            go_ret
            exact ⟨by rw [HG.out rfl]; rfl, (HF.out.trans HF1.out).alloc _⟩
          | none =>
            subst hz
            go_wp2_with (first
              | (go_at_call 39; refine (ZX.out _).mono ?_; rintro e w1 ⟨x, he, hA, hf1, hx⟩; rw [Option.isSome_none] at he; subst he; have HF1 := hid hf1; have HAT := hid hA; clear hf1 hA hx)
              | (refine wpList_store_new rfl 64 _ _ rfl w1 _ _ _ rfl rfl rfl szZL rfl HAT.out.one ?_))
            go_roundw
            case rel =>
              refine ⟨k + 1, by go_num, by omega, by rw [HC.out], ?_, (HF.out.trans HF1.out).alloc _, HN2.out rfl⟩
              have h1 := HF1.out.at HB.out (fun x => x)
              rw [heap_alloc_old' (heap_lt h1)]; exact h1
            case measure => simp [intOf]; omega
        · have k2 : ¬ (k : Int) ≤ 6 := by omega
          go_wp2
          go_roundw
          case rel =>
            refine ⟨i + 1, by go_num, by omega, HB.out, HF.out, fun j hj hji k' hk' => ?_⟩
            by_cases q : j = i
            · subst q; rw [HV.out]; exact HN.out k' (by omega)
            · exact HA.out j hj (by omega) k' hk'
          case measure => simp [intOf]; omega
    · have k1 : ¬ (i : Int) < 9 := by omega
      go_wp2
      go_ret
      refine ⟨ret_bool ?_, HF.out⟩
      symm
      cases hg : goesF s
      · rfl
      · exfalso
        unfold goesF at hg
        rw [List.any_eq_true] at hg
        obtain ⟨v, hv, hg⟩ := hg
        rw [List.any_eq_true] at hg
        obtain ⟨k, hk, hg⟩ := hg
        obtain ⟨j, hj, rfl⟩ := List.getElem_of_mem hv
        have h9 : j < 9 := hj
        have := HA.out j h9 (by omega) k (by simpa using hk)
        have q := this.symm.trans hg
        cases q

/-- the first byte that cannot stand -/
def standsL (s : ByteArray) (a n : Nat) : Nat → Nat → Nat
  | 0, k => k
  | f + 1, k => if k < n then (if goesF (s.extract a (k + 1)) = true then standsL s a n f (k + 1) else k) else n
def standsF (s : ByteArray) (a n : Nat) : Nat := standsL s a n (n + 1) a
theorem standsL_s (s : ByteArray) (a n f k : Nat) : standsL s a n (f + 1) k = if k < n then (if goesF (s.extract a (k + 1)) = true then standsL s a n f (k + 1) else k) else n := rfl
set_option maxRecDepth 20000 in
set_option maxHeartbeats 2000000 in
theorem stands_any (s : ByteArray) (a n : Nat) (w : World) (hs : s.size ≤ 1000) (ha : a ≤ n) (hn : n ≤ s.size) : Calls Tryz.prog 40 #[.string s, .int .i64 a, .int .i64 n] w fun e w' => e = .returned (.int .i64 (standsF s a n : Nat)) ∧ Fresh w w' := by
  generalize hV : standsF s a n = V
  have HV : Hid (standsL s a n (n + 1) a = V) := hV
  have GO := hid (fun (t : ByteArray) (w : World) (h : t.size ≤ 1000) => goes_any t w h)
  clear hV
  go_enter Tryz.func40, Tryz.ntmps40
  go_wp2
  go_loopw [7] (fun x7 wr => ∃ (k f : Nat), x7 = .int .i64 k ∧ a ≤ k ∧ k ≤ n ∧ n + 1 ≤ f + k ∧ standsL s a n f k = V ∧ Fresh w wr)
      (fun x _ => 2000 - (intOf x).toNat)
  case atStart => exact ⟨a, n + 1, rfl, by omega, ha, by omega, HV.out, Mod.refl _ _⟩
  case round =>
    obtain ⟨k, f, rfl, hak, hkn, hf, hrec, hfr⟩ := hrel
    obtain ⟨f, rfl⟩ : ∃ g, f = g + 1 := ⟨f - 1, by omega⟩
    rw [standsL_s] at hrec
    have HF := hid hfr
    clear HV hfr
    by_cases hk : k < n
    · rw [if_pos hk] at hrec
      have k1 : (k : Int) < (n : Int) := by omega
      have GX := hid (fun w => GO.out (s.extract a (k + 1)) w (by rw [ByteArray.size_extract]; omega))
      generalize goesF (s.extract a (k + 1)) = g at GX hrec
      have b1 : (a : Int) ≤ (k : Int) + 1 := by omega
      have b2 : (k : Int) + 1 ≤ (s.size : Int) := by omega
      cases g
      · rw [if_neg (by simp)] at hrec
        have HR := hid hrec
        clear hrec
        go_wp2_with (first
          | (go_at_call 63; refine (GX.out _).mono ?_; rintro e w1 ⟨rfl, hf1⟩))
        go_ret
        exact ⟨by rw [← HR.out]; rfl, HF.out.trans hf1⟩
      · rw [if_pos rfl] at hrec
        have HR := hid hrec
        clear hrec
        go_wp2_with (first
          | (go_at_call 63; refine (GX.out _).mono ?_; rintro e w1 ⟨rfl, hf1⟩))
        go_roundw
        case rel => exact ⟨k + 1, f, by go_num, by omega, by omega, by omega, HR.out, HF.out.trans hf1⟩
        case measure => simp [intOf]; omega
    · rw [if_neg hk] at hrec
      have k1 : ¬ (k : Int) < (n : Int) := by omega
      have HR := hid hrec
      clear hrec
      go_wp2
      go_ret
      exact ⟨by rw [← HR.out]; rfl, HF.out⟩
end Go.Proofs.YtcpgklcimacngaaGreat
