import Derived.Test.YtakkooidejdfkaaGreatKp3
import Derived.Deep.QuietTactic
import Derived.BigQuiet
namespace Go.Proofs.YtakkooidejdfkaaGreat
open Go.RowKit
set_option linter.unusedVariables false
set_option linter.unusedSimpArgs false

theorem infoInt : (Tryz.prog.info? 3).map (fun i => (i.zero, i.size, i.bytes)) = some (some (.int .i64 0), 1, 8) := by kernel_rfl
theorem infoInt' : ∃ i, Tryz.prog.info? 3 = some i ∧ i.zero = some (.int .i64 0) ∧ i.size = 1 ∧ i.bytes = 8 := by
  have h := infoInt
  cases hq : Tryz.prog.info? 3 with
  | none => simp [hq] at h
  | some i => simp [hq] at h; exact ⟨i, rfl, h.1, h.2.1, h.2.2⟩
theorem infoSs : (Tryz.prog.info? 38).map (fun i => (i.zero, i.size, i.bytes)) = some (some (.slice none 0 0), 1, 24) := by kernel_rfl
theorem infoSs' : ∃ i, Tryz.prog.info? 38 = some i ∧ i.zero = some (.slice none 0 0) ∧ i.size = 1 ∧ i.bytes = 24 := by
  have h := infoSs
  cases hq : Tryz.prog.info? 38 with
  | none => simp [hq] at h
  | some i => simp [hq] at h; exact ⟨i, rfl, h.1, h.2.1, h.2.2⟩
theorem infoIs : (Tryz.prog.info? 22).map (fun i => (i.zero, i.size, i.bytes)) = some (some (.slice none 0 0), 1, 24) := by kernel_rfl
theorem infoIs' : ∃ i, Tryz.prog.info? 22 = some i ∧ i.zero = some (.slice none 0 0) ∧ i.size = 1 ∧ i.bytes = 24 := by
  have h := infoIs
  cases hq : Tryz.prog.info? 22 with
  | none => simp [hq] at h
  | some i => simp [hq] at h; exact ⟨i, rfl, h.1, h.2.1, h.2.2⟩

theorem strsAt_own {w : World} {base : Nat} {e : TypeId} {v : Value} {n : Nat} {l : List ByteArray} (h : w.ownsRow base e 1 v n (strs l)) : StrsAt w v l := by
  have hn : n = l.length := by have := h.1; simp at this; omega
  subst hn
  rcases Joins.ownsRow_forms h with ⟨rfl, h0⟩ | ⟨g, cap, rfl⟩
  · exact ⟨none, 0, by rw [h0], fun j hj => by omega⟩
  · refine ⟨_, _, rfl, fun j hj => ⟨g, 0, rfl, ?_⟩⟩
    have := h.cells (g := g) rfl j (.string l[j]) (by simp [hj])
    rwa [Addr.add_mid] at this
/-- The words behind the first, as the cells of a slice. -/
theorem cells_own {w : World} {base : Nat} {e : TypeId} {v : Value} {n : Nat} {cs : List Value} {F : Nat → Prop} (h : w.ownsRow base e 1 v n cs) (hF : ∀ k, F k → k < base) : CellsAt w F v cs := by
  have hn : n = cs.length := by have := h.1; omega
  subst hn
  rcases Joins.ownsRow_forms h with ⟨rfl, h0⟩ | ⟨g, cap, rfl⟩
  · refine ⟨none, 0, by rw [h0], by omega, fun j u hj => ?_⟩
    have := (List.getElem?_eq_some_iff.1 hj).1; omega
  · have hle : cs.length ≤ cap := by
      rcases h.2 with ⟨h1, _⟩ | ⟨g', cap', cur, h1, _, _, h4, _⟩
      · cases h1
      · rw [Value.slice.injEq] at h1; omega
    refine ⟨_, _, rfl, hle, fun j u hj => ⟨g, 0, rfl, fun x => ?_, (h.lt g rfl).2, ?_⟩⟩
    · have := hF g x; have := (h.lt g rfl).1; omega
    · have := h.cells (g := g) rfl j u hj
      rwa [Addr.add_mid] at this
theorem cells_tail {w : World} {base g n cap : Nat} {e : TypeId} {c : Value} {cs : List Value} {F : Nat → Prop} (h : w.ownsRow base e 1 (.slice (some ⟨g, 0, none⟩) n cap) n (c :: cs)) (hc : cs.length + 1 ≤ cap) (hF : ∀ k, F k → k < base) :
    CellsAt w F (.slice (if cap = 1 then some ⟨g, 0, none⟩ else some ⟨g, 1, none⟩) cs.length (cap - 1)) cs := by
  refine ⟨_, _, rfl, by omega, fun j u hj => ?_⟩
  have hj' := (List.getElem?_eq_some_iff.1 hj).1
  rw [if_neg (by omega)]
  refine ⟨g, 1, rfl, fun x => ?_, (h.lt g rfl).2, ?_⟩
  · have := hF g x; have := (h.lt g rfl).1; omega
  · have := h.cells (g := g) rfl (j + 1) u (by simpa using hj)
    rw [Addr.add_mid] at this
    rw [Nat.add_comm 1 j]; simpa using this
theorem own_cons {w : World} {base : Nat} {e : TypeId} {v : Value} {m : Nat} {xs : List Value} (h : w.ownsRow base e 1 v (m + 1) xs) : ∃ g cap, v = .slice (some ⟨g, 0, none⟩) (m + 1) cap ∧ m + 1 ≤ cap := by
  rcases h.2 with ⟨_, h0⟩ | ⟨g, cap, _, hv, _, _, hc, _⟩
  · omega
  · exact ⟨g, cap, hv, hc⟩
theorem LOAt.own4 {w : World} {b : Nat} {x : LO} {v0 v1 v2 v3 v4 v5 : Value} {nv sv : List Value} (h : LOAt w b x v0 v1 v2 v3 v4 v5 nv sv) : w.ownsRow (b + 1) 38 1 v4 nv.length nv := h.at'.own 4 _ rfl
theorem LOAt.own5 {w : World} {b : Nat} {x : LO} {v0 v1 v2 v3 v4 v5 : Value} {nv sv : List Value} (h : LOAt w b x v0 v1 v2 v3 v4 v5 nv sv) : w.ownsRow (b + 1) 22 1 v5 sv.length sv := h.at'.own 5 _ rfl
theorem LOAt.foot_lt {w : World} {b : Nat} {x : LO} {v0 v1 v2 v3 v4 v5 : Value} {nv sv : List Value} (h : LOAt w b x v0 v1 v2 v3 v4 v5 nv sv) : ∀ k, footL b (rowsL x v0 v1 v2 v3 v4 v5 nv sv) k → k < w.heap.size := fun k hk => (h.at'.foot_lt hk).2
attribute [local go_sem ↓] apS_rule
set_option maxRecDepth 20000 in
set_option maxHeartbeats 4000000 in
theorem take_prod (w : World) (b : Nat) (x : LO) (s : ByteArray) (h : LOX w b x) (hs : s.size ≤ 900) (hn : x.heads.length ≤ 1000) (hn1 : x.head.length ≤ 1000) (hn2 : x.names.length ≤ 1000) (h0 : s.size ≠ 0) (h1 : ¬ (97 ≤ atB s 0 ∧ atB s 0 ≤ 122)) :
    Calls Tryz.prog 34 #[bptr b, .string s] w fun e w' => e = .returned (.tuple #[]) ∧ LOX w' b (takeF s x) ∧ UpB b w w' := by
  obtain ⟨i0, hi0, hz0, hz1, hz2⟩ := infoStr'
  obtain ⟨i1, hi1, hy0, hy1, hy2⟩ := infoInt'
  obtain ⟨i2, hi2, hx0, hx1, hx2⟩ := infoSs'
  have hle := upToF_le s 58 58
  have hT : takeF s x = { x with
      heads := if findF x.heads (s.extract 0 (upToF s 58 58)) < 0 then x.heads ++ [s.extract 0 (upToF s 58 58)] else x.heads
      head := x.head ++ [if findF x.heads (s.extract 0 (upToF s 58 58)) < 0 then (x.heads.length : Int) else findF x.heads (s.extract 0 (upToF s 58 58))]
      names := x.names ++ [(wordsF (s.extract (upToF s 58 58) s.size)).drop 1] } := by
    unfold takeF; rw [if_neg h0, if_neg h1]
  generalize hTT : takeF s x = T at hT ⊢
  clear hTT
  have hpos : 0 < s.size := by omega
  have UP := hid (fun w => upTo_any s 58 58 w (by omega))
  have WO := hid (fun w => words_any (s.extract (upToF s 58 58) s.size) w (by rw [ext_size]; omega))
  generalize upToF s 58 58 = n at hle UP hT WO
  rw [show atB s 0 = ((s[0].toNat : Nat) : Int) from atB_at s 0 hpos] at h1
  generalize wordsF (s.extract n s.size) = R at WO hT
  obtain ⟨v0, v1, v2, v3, v4, v5, nv, sv, h⟩ := h
  have FI := hid (fun w' (hf : Fresh w w') => find_any x.heads (s.extract 0 n) v2 w' (strsAt_own ((h.fresh hf).at'.own 2 _ rfl)) hn)
  obtain ⟨a2, c2, hv⟩ := own_form (h.at'.own 2 _ rfl)
  have hv' : v2 = .slice a2 x.heads.length c2 := by simpa using hv
  subst hv'
  generalize hfd : findF x.heads (s.extract 0 n) = fd at FI hT
  have hfd0 : -1 ≤ fd ∧ fd ≤ 1000 := by
    rw [← hfd]; unfold findF; split <;> omega
  clear hfd
  have k1 := h.cell 2
  have k2 := h.frozen 2
  simp at k1
  have hb := h.at'.lt
  have hnv : nv.length ≤ 1000 := by have := h.names.1; simp at this; omega
  obtain ⟨a5, c5, hv4⟩ := own_form h.own4
  subst hv4
  have H := hid h
  have hne := btl_empty h0
  have h1x : (s[0].toNat : Int) < 97 ∨ (97 ≤ (s[0].toNat : Int) ∧ 122 < (s[0].toNat : Int)) := by omega
  have HT := hid hT
  obtain ⟨hfd1, hfd2⟩ := hfd0
  clear h hv hT h1
  rcases h1x with h1x | ⟨h1x, h1y⟩
  all_goals
    go_enter Tryz.func34, Tryz.ntmps34
    go_wp2_with (go_at_call 33; refine (UP.out _).mono ?_; rintro e w' ⟨rfl, hw⟩; rw [hw]; clear hw)
    go_quiet (first | (go_at_call 35; refine Calls.quiet_of_same (FI.out _ ?_); exact ⟨rfl, rfl, rfl, Nat.le_refl _, fun _ _ _ => rfl⟩))
    have h := H.out.fresh (w' := w.drewN nq) ⟨rfl, rfl, rfl, Nat.le_refl _, fun _ _ _ => rfl⟩
    have HU0 : Hid (UpB b w (w.drewN nq)) := hid ⟨rfl, rfl, rfl, Nat.le_refl _, fun _ _ _ => rfl⟩
    generalize hWW : w.drewN nq = W0 at h HU0 ⊢
    clear hWW H FI k1 k2 hb
    by_cases hf : fd < 0
    · have hf1 : fd = -1 := by omega
      subst hf1
      have k1 := h.cell 2
      have k2 := h.frozen 2
      simp at k1
      have hb1 := h.at'.lt
      have H := hid h
      have HO : Hid (∀ o : Obj, (W0.alloc o).drew.ownsRow (b + 1) 9 1 (.slice a2 x.heads.length c2) x.heads.length (strs x.heads)) := fun o => by
        have this : (W0.alloc o).ownsRow (b + 1) 9 1 (.slice a2 x.heads.length c2) (strs x.heads).length (strs x.heads) := (H.out.at'.own 2 _ rfl).alloc o
        rw [List.length_map] at this
        exact this
      have HB : Hid (∀ (o : Obj) (w2 : World), (W0.alloc o).drew.grownBy w2 (Value.ownBlock (.slice a2 x.heads.length c2)) → w2.heap[b]? = some (.cells #[v0, v1, .slice a2 x.heads.length c2, v3, .slice a5 nv.length c5, v5] 43 (0, 0))) :=
        fun o w2 hg => H.out.blk_grown (((Mod.refl _ W0).alloc o).drew) (.inr (.inr (.inl rfl))) hg
      clear h
      go_wp2
      obtain ⟨v', w2, hrun, hown, hgrow, hblk⟩ := apS_mine (P := Tryz.prog) (W0.alloc (.cells #[.string (s.extract 0 n)] 9)).drew (b + 1) 38 38 9 i0 _ 1 16 Tryz.underlying38 hi0 hz0 hz1 hz2 rfl (by decide) (.slice a2 x.heads.length c2) x.heads.length (strs x.heads) (HO.out _) ⟨W0.heap.size, 0, none⟩ 1 1 [.string (s.extract 0 n)] rfl (new_cells rfl) (by intro u hu; simp at hu; subst hu; rfl) (by unfold maxLen; omega) (by omega) (by simp [World.drew]; omega)
      obtain ⟨a4, cap4, hv'⟩ := own_form hown
      have hc2 : w2.cell? ⟨b, 2, none⟩ = some (.slice a2 x.heads.length c2) := (cellOf (HB.out _ w2 hgrow) 2)
      have hf2 := frozenOf (HB.out _ w2 hgrow) 2
      have HO2 := hid hown
      have HG2 := hid hgrow
      clear hown hgrow
      subst hv'
      go_region
      all_goals
        obtain ⟨h, U1⟩ := H.out.add2 (s := s.extract 0 n) (((Mod.refl _ W0).alloc _).drew) HO2.out HG2.out hblk
        have HU1 := hid U1
        clear U1 HO2 HG2 hblk H HO HB k1 k2 hrun
        generalize hWW : w2.setCell _ _ = W1 at h HU1 ⊢
        clear hWW hc2 hf2
        -- the number of the head
        have HT2 : Hid (T = { { x with heads := x.heads ++ [s.extract 0 n] } with head := { x with heads := x.heads ++ [s.extract 0 n] }.head ++ [(x.heads.length : Int)], names := { x with heads := x.heads ++ [s.extract 0 n] }.names ++ [R.drop 1] }) := hid (by rw [HT.out]; simp)
        clear HT
        obtain ⟨a3, c3, hv⟩ := own_form (h.at'.own 3 _ rfl)
        have hv' : v3 = .slice a3 x.head.length c3 := by simpa using hv
        subst hv'
        have k1 := h.cell 3
        have k2 := h.frozen 3
        simp at k1
        have hb1 := h.at'.lt
        have H := hid h
        have HO : Hid (∀ o : Obj, (W1.alloc o).ownsRow (b + 1) 3 1 (.slice a3 x.head.length c3) x.head.length (ints x.head)) := fun o => by
          have this : (W1.alloc o).ownsRow (b + 1) 3 1 (.slice a3 x.head.length c3) (ints x.head).length (ints x.head) := (H.out.at'.own 3 _ rfl).alloc o
          rw [List.length_map] at this
          exact this
        have HB : Hid (∀ (o : Obj) (w2 : World), (W1.alloc o).grownBy w2 (Value.ownBlock (.slice a3 x.head.length c3)) → w2.heap[b]? = some (.cells #[v0, v1, .slice a4 (x.heads.length + 1) cap4, .slice a3 x.head.length c3, .slice a5 nv.length c5, v5] 43 (0, 0))) :=
          fun o w2 hg => H.out.blk_grown ((Mod.refl _ W1).alloc o) (.inr (.inr (.inr (.inl rfl)))) hg
        clear h hv
        go_wp2_with (first
          | (at_builtin; refine wpList_append_mine _ rfl _ _ 22 rfl (b + 1) 3 i1 _ 1 8 Tryz.underlying22 hi1 hy0 hy1 hy2 rfl (by decide) (.slice a3 x.head.length c3) x.head.length (ints x.head) rfl (HO.out _) ⟨W1.heap.size, 0, none⟩ 1 1 [.int .i64 (x.heads.length : Int)] rfl rfl (new_cells rfl) (by intro u hu; simp at hu; subst hu; rfl) (by unfold maxLen; omega) (by omega) (by simp; omega) ?_))
        intro v' w2 hown hgrow hblk
        obtain ⟨a', cap', hv'⟩ := own_form hown
        have hc2 : w2.cell? ⟨b, 3, none⟩ = some (.slice a3 x.head.length c3) := (cellOf (HB.out _ w2 hgrow) 3)
        have hf2 := frozenOf (HB.out _ w2 hgrow) 3
        obtain ⟨h, U2⟩ := H.out.add3 (s := (x.heads.length : Int)) ((Mod.refl _ W1).alloc _) hown hgrow (by simpa using hblk)
        have HU2 := hid U2
        have H := hid h
        clear hown hgrow hblk h U2 HO HB k1 k2
        subst hv'
        cases R with
        | nil =>
          go_wp2_with (first
            | (go_at_call 55; refine (WO.out _).mono ?_; rintro e w3 ⟨vv, rfl, hown3, hfr3⟩; obtain ⟨aw, cw, hvw⟩ := own_form hown3; have h3 := H.out.fresh hfr3; have k4 := h3.cell 4; have k5 := h3.frozen 4; have hb3 := h3.at'.lt; simp at k4; have HC := hid (cells_own hown3 H.out.foot_lt); have H3 := hid h3; have HU3 : Hid (UpB b _ w3) := hid (hfr3.mono (fun _ _ x => x.elim)); clear hown3 hfr3 h3; subst hvw)
            | (at_builtin; refine wpList_append_mine _ rfl _ _ 40 rfl (b + 1) 38 i2 _ 1 24 Tryz.underlying40 hi2 hx0 hx1 hx2 rfl (by decide) (.slice a5 nv.length c5) nv.length nv rfl (H3.out.own4.alloc _) ⟨w3.heap.size, 0, none⟩ 1 1 [.slice aw 0 cw] rfl rfl (new_cells rfl) (by intro u hu; simp at hu; subst hu; rfl) (by unfold maxLen; omega) (by omega) (by simp; omega) ?_; intro v9 w4 hown hgrow hblk; obtain ⟨a9, c9, hv9⟩ := own_form hown; have hb9 := H3.out.blk_grown ((Mod.refl _ w3).alloc _) (v := .slice a5 nv.length c5) (by simp) hgrow; have k6 : w4.cell? ⟨b, 4, none⟩ = some (.slice a5 nv.length c5) := cellOf hb9 4; have k7 := frozenOf hb9 4; have FIN := hid (H3.out.add4 (u := .slice aw 0 cw) (l := []) HC.out ((Mod.refl _ w3).alloc _) hown hgrow (by simpa using hblk)); clear hown hgrow hblk hb9; subst hv9))
          obtain ⟨L4, U4⟩ := FIN.out
          refine bodyPost_end (results_none rfl _ _ _) rfl ⟨rfl, ?_, Mod.trans HU0.out (Mod.trans HU1.out (Mod.trans HU2.out (Mod.trans HU3.out U4)))⟩
          rw [HT2.out]; exact ⟨_, _, _, _, _, _, _, _, L4⟩
        | cons r rs =>
          go_wp2_with (first
            | (go_at_call 55; refine (WO.out _).mono ?_; rintro e w3 ⟨vv, rfl, hown3, hfr3⟩; obtain ⟨gw, cw, hvw, hcw⟩ := own_cons hown3; have h3 := H.out.fresh hfr3; have k4 := h3.cell 4; have k5 := h3.frozen 4; have hb3 := h3.at'.lt; simp at k4; subst hvw; have HC := hid (cells_tail hown3 (by simpa using hcw) H.out.foot_lt); have H3 := hid h3; have HU3 : Hid (UpB b _ w3) := hid (hfr3.mono (fun _ _ x => x.elim)); clear hown3 hfr3 h3)
            | (at_builtin; refine wpList_append_mine _ rfl _ _ 40 rfl (b + 1) 38 i2 _ 1 24 Tryz.underlying40 hi2 hx0 hx1 hx2 rfl (by decide) (.slice a5 nv.length c5) nv.length nv rfl (H3.out.own4.alloc _) ⟨w3.heap.size, 0, none⟩ 1 1 [.slice (if cw = 1 then some ⟨gw, 0, none⟩ else some ⟨gw, 1, none⟩) rs.length (cw - 1)] rfl rfl (new_cells rfl) (by intro u hu; simp at hu; subst hu; rfl) (by unfold maxLen; omega) (by omega) (by simp; omega) ?_; intro v9 w4 hown hgrow hblk; obtain ⟨a9, c9, hv9⟩ := own_form hown; have hb9 := H3.out.blk_grown ((Mod.refl _ w3).alloc _) (v := .slice a5 nv.length c5) (by simp) hgrow; have k6 : w4.cell? ⟨b, 4, none⟩ = some (.slice a5 nv.length c5) := cellOf hb9 4; have k7 := frozenOf hb9 4; have FIN := hid (H3.out.add4 (u := .slice (if cw = 1 then some ⟨gw, 0, none⟩ else some ⟨gw, 1, none⟩) rs.length (cw - 1)) (l := rs) (by simpa using HC.out) ((Mod.refl _ w3).alloc _) hown hgrow (by simpa using hblk)); clear hown hgrow hblk hb9; subst hv9))
          all_goals
            obtain ⟨L4, U4⟩ := FIN.out
            refine bodyPost_end (results_none rfl _ _ _) rfl ⟨rfl, ?_, Mod.trans HU0.out (Mod.trans HU1.out (Mod.trans HU2.out (Mod.trans HU3.out U4)))⟩
            rw [HT2.out]; exact ⟨_, _, _, _, _, _, _, _, L4⟩
    · have HU1 : Hid (UpB b W0 W0) := hid (Mod.refl _ _)
      generalize hWW : W0 = W1 at h HU0 HU1 ⊢
      clear hWW
      have hfnn : 0 ≤ fd := by omega
      -- the number of the head
      have HT2 : Hid (T = { x with head := x.head ++ [fd], names := x.names ++ [R.drop 1] }) := hid (by rw [HT.out]; simp [hf])
      clear HT
      obtain ⟨a3, c3, hv⟩ := own_form (h.at'.own 3 _ rfl)
      have hv' : v3 = .slice a3 x.head.length c3 := by simpa using hv
      subst hv'
      have k1 := h.cell 3
      have k2 := h.frozen 3
      simp at k1
      have hb1 := h.at'.lt
      have H := hid h
      have HO : Hid (∀ o : Obj, (W1.alloc o).ownsRow (b + 1) 3 1 (.slice a3 x.head.length c3) x.head.length (ints x.head)) := fun o => by
        have this : (W1.alloc o).ownsRow (b + 1) 3 1 (.slice a3 x.head.length c3) (ints x.head).length (ints x.head) := (H.out.at'.own 3 _ rfl).alloc o
        rw [List.length_map] at this
        exact this
      have HB : Hid (∀ (o : Obj) (w2 : World), (W1.alloc o).grownBy w2 (Value.ownBlock (.slice a3 x.head.length c3)) → w2.heap[b]? = some (.cells #[v0, v1, .slice a2 x.heads.length c2, .slice a3 x.head.length c3, .slice a5 nv.length c5, v5] 43 (0, 0))) :=
        fun o w2 hg => H.out.blk_grown ((Mod.refl _ W1).alloc o) (.inr (.inr (.inr (.inl rfl)))) hg
      clear h hv
      go_wp2_with (first
        | (at_builtin; refine wpList_append_mine _ rfl _ _ 22 rfl (b + 1) 3 i1 _ 1 8 Tryz.underlying22 hi1 hy0 hy1 hy2 rfl (by decide) (.slice a3 x.head.length c3) x.head.length (ints x.head) rfl (HO.out _) ⟨W1.heap.size, 0, none⟩ 1 1 [.int .i64 fd] rfl rfl (new_cells rfl) (by intro u hu; simp at hu; subst hu; rfl) (by unfold maxLen; omega) (by omega) (by simp; omega) ?_))
      intro v' w2 hown hgrow hblk
      obtain ⟨a', cap', hv'⟩ := own_form hown
      have hc2 : w2.cell? ⟨b, 3, none⟩ = some (.slice a3 x.head.length c3) := (cellOf (HB.out _ w2 hgrow) 3)
      have hf2 := frozenOf (HB.out _ w2 hgrow) 3
      obtain ⟨h, U2⟩ := H.out.add3 (s := fd) ((Mod.refl _ W1).alloc _) hown hgrow (by simpa using hblk)
      have HU2 := hid U2
      have H := hid h
      clear hown hgrow hblk h U2 HO HB k1 k2
      subst hv'
      cases R with
      | nil =>
        go_wp2_with (first
          | (go_at_call 55; refine (WO.out _).mono ?_; rintro e w3 ⟨vv, rfl, hown3, hfr3⟩; obtain ⟨aw, cw, hvw⟩ := own_form hown3; have h3 := H.out.fresh hfr3; have k4 := h3.cell 4; have k5 := h3.frozen 4; have hb3 := h3.at'.lt; simp at k4; have HC := hid (cells_own hown3 H.out.foot_lt); have H3 := hid h3; have HU3 : Hid (UpB b _ w3) := hid (hfr3.mono (fun _ _ x => x.elim)); clear hown3 hfr3 h3; subst hvw)
          | (at_builtin; refine wpList_append_mine _ rfl _ _ 40 rfl (b + 1) 38 i2 _ 1 24 Tryz.underlying40 hi2 hx0 hx1 hx2 rfl (by decide) (.slice a5 nv.length c5) nv.length nv rfl (H3.out.own4.alloc _) ⟨w3.heap.size, 0, none⟩ 1 1 [.slice aw 0 cw] rfl rfl (new_cells rfl) (by intro u hu; simp at hu; subst hu; rfl) (by unfold maxLen; omega) (by omega) (by simp; omega) ?_; intro v9 w4 hown hgrow hblk; obtain ⟨a9, c9, hv9⟩ := own_form hown; have hb9 := H3.out.blk_grown ((Mod.refl _ w3).alloc _) (v := .slice a5 nv.length c5) (by simp) hgrow; have k6 : w4.cell? ⟨b, 4, none⟩ = some (.slice a5 nv.length c5) := cellOf hb9 4; have k7 := frozenOf hb9 4; have FIN := hid (H3.out.add4 (u := .slice aw 0 cw) (l := []) HC.out ((Mod.refl _ w3).alloc _) hown hgrow (by simpa using hblk)); clear hown hgrow hblk hb9; subst hv9))
        obtain ⟨L4, U4⟩ := FIN.out
        refine bodyPost_end (results_none rfl _ _ _) rfl ⟨rfl, ?_, Mod.trans HU0.out (Mod.trans HU1.out (Mod.trans HU2.out (Mod.trans HU3.out U4)))⟩
        rw [HT2.out]; exact ⟨_, _, _, _, _, _, _, _, L4⟩
      | cons r rs =>
        go_wp2_with (first
          | (go_at_call 55; refine (WO.out _).mono ?_; rintro e w3 ⟨vv, rfl, hown3, hfr3⟩; obtain ⟨gw, cw, hvw, hcw⟩ := own_cons hown3; have h3 := H.out.fresh hfr3; have k4 := h3.cell 4; have k5 := h3.frozen 4; have hb3 := h3.at'.lt; simp at k4; subst hvw; have HC := hid (cells_tail hown3 (by simpa using hcw) H.out.foot_lt); have H3 := hid h3; have HU3 : Hid (UpB b _ w3) := hid (hfr3.mono (fun _ _ x => x.elim)); clear hown3 hfr3 h3)
          | (at_builtin; refine wpList_append_mine _ rfl _ _ 40 rfl (b + 1) 38 i2 _ 1 24 Tryz.underlying40 hi2 hx0 hx1 hx2 rfl (by decide) (.slice a5 nv.length c5) nv.length nv rfl (H3.out.own4.alloc _) ⟨w3.heap.size, 0, none⟩ 1 1 [.slice (if cw = 1 then some ⟨gw, 0, none⟩ else some ⟨gw, 1, none⟩) rs.length (cw - 1)] rfl rfl (new_cells rfl) (by intro u hu; simp at hu; subst hu; rfl) (by unfold maxLen; omega) (by omega) (by simp; omega) ?_; intro v9 w4 hown hgrow hblk; obtain ⟨a9, c9, hv9⟩ := own_form hown; have hb9 := H3.out.blk_grown ((Mod.refl _ w3).alloc _) (v := .slice a5 nv.length c5) (by simp) hgrow; have k6 : w4.cell? ⟨b, 4, none⟩ = some (.slice a5 nv.length c5) := cellOf hb9 4; have k7 := frozenOf hb9 4; have FIN := hid (H3.out.add4 (u := .slice (if cw = 1 then some ⟨gw, 0, none⟩ else some ⟨gw, 1, none⟩) rs.length (cw - 1)) (l := rs) (by simpa using HC.out) ((Mod.refl _ w3).alloc _) hown hgrow (by simpa using hblk)); clear hown hgrow hblk hb9; subst hv9))
        all_goals
          obtain ⟨L4, U4⟩ := FIN.out
          refine bodyPost_end (results_none rfl _ _ _) rfl ⟨rfl, ?_, Mod.trans HU0.out (Mod.trans HU1.out (Mod.trans HU2.out (Mod.trans HU3.out U4)))⟩
          rw [HT2.out]; exact ⟨_, _, _, _, _, _, _, _, L4⟩
end Go.Proofs.YtakkooidejdfkaaGreat
namespace Go.Proofs.YtakkooidejdfkaaGreat
open Go.RowKit
set_option linter.unusedVariables false
set_option linter.unusedSimpArgs false

theorem wordsL_len (s0 : ByteArray) (f : Nat) : ∀ (k : Nat) (acc : List ByteArray), acc.length ≤ k → k ≤ s0.size → (wordsL s0 f k acc).length ≤ s0.size := by
  induction f with
  | zero => intro k acc h hk; simp [wordsL]; omega
  | succ f ih =>
    intro k acc h hk
    unfold wordsL
    have hle := upToF_le (s0.extract k s0.size) 32 32
    rw [ext_size] at hle
    split
    · split <;> split <;> refine ih _ _ ?_ (by omega) <;> (try simp only [List.length_append, List.length_singleton]) <;> omega
    · omega
theorem wordsF_len (s : ByteArray) : (wordsF s).length ≤ s.size := wordsL_len s _ 0 [] (by simp) (by omega)

structure LO.bd (x : LO) (k : Nat) : Prop where
  rules : x.rules.length ≤ k
  skip : x.skip.length ≤ k
  heads : x.heads.length ≤ k
  head : x.head.length ≤ k
  names : x.names.length ≤ k
  words : ∀ l ∈ x.names, l.length ≤ 1000
theorem LO.bd.mono {x : LO} {k m : Nat} (h : x.bd k) (hk : k ≤ m) : x.bd m :=
  ⟨Nat.le_trans h.rules hk, Nat.le_trans h.skip hk, Nat.le_trans h.heads hk, Nat.le_trans h.head hk, Nat.le_trans h.names hk, h.words⟩
theorem takeF_bd {x : LO} {k : Nat} (h : x.bd k) (s : ByteArray) (hs : s.size ≤ 900) : (takeF s x).bd (k + 1) := by
  obtain ⟨h1, h2, h3, h4, h5, h6⟩ := h
  unfold takeF
  split
  · exact ⟨by omega, by omega, by omega, by omega, by omega, h6⟩
  · split
    · exact ⟨by simp; omega, by simp; omega, by simp; omega, by simp; omega, by simp; omega, h6⟩
    · refine ⟨by simp; omega, by simp; omega, ?_, by simp; omega, by simp; omega, ?_⟩
      · simp only []; split <;> (try simp only [List.length_append, List.length_singleton]) <;> omega
      · intro l hl
        simp only [List.mem_append, List.mem_singleton] at hl
        rcases hl with hl | rfl
        · exact h6 l hl
        · have := wordsF_len (s.extract (upToF s 58 58) s.size)
          rw [ext_size] at this
          simp; omega

set_option maxRecDepth 20000 in
theorem take_none (w : World) (b : Nat) (x : LO) (s : ByteArray) (h : LOX w b x) (h0 : s.size = 0) :
    Calls Tryz.prog 34 #[bptr b, .string s] w fun e w' => e = .returned (.tuple #[]) ∧ LOX w' b (takeF s x) ∧ UpB b w w' := by
  have e1 : takeF s x = x := by unfold takeF; rw [if_pos h0]
  rw [e1]
  have H := hid h
  have hie : s.toList.isEmpty = true := by
    rw [btl]; have : s.size = s.data.size := rfl
    cases hq : s.data.toList with
    | nil => rfl
    | cons => have := congrArg List.length hq; simp at this; omega
  clear h e1
  go_enter Tryz.func34, Tryz.ntmps34
  go_wp2
  exact bodyPost_ret (results_none rfl _ _ _) rfl ⟨rfl, H.out, Mod.refl _ _⟩

theorem take_any (w : World) (b : Nat) (x : LO) (s : ByteArray) (h : LOX w b x) (hs : s.size ≤ 900) (hb : x.bd 1000) :
    Calls Tryz.prog 34 #[bptr b, .string s] w fun e w' => e = .returned (.tuple #[]) ∧ LOX w' b (takeF s x) ∧ UpB b w w' := by
  by_cases h0 : s.size = 0
  · exact take_none w b x s h h0
  · by_cases h1 : 97 ≤ atB s 0 ∧ atB s 0 ≤ 122
    · exact take_rule w b x s h hs hb.rules hb.skip h0 h1
    · exact take_prod w b x s h hs hb.heads hb.head hb.names h0 h1

def lineL (s0 : ByteArray) : Nat → Nat → LO → LO
  | 0, _, x => x
  | f + 1, k, x =>
    if k < s0.size then
      lineL s0 f (if k + upToF (s0.extract k s0.size) 10 10 < s0.size then k + upToF (s0.extract k s0.size) 10 10 + 1 else k + upToF (s0.extract k s0.size) 10 10)
        (takeF (s0.extract k (k + upToF (s0.extract k s0.size) 10 10)) x)
    else x
def zeroLO : LO := ⟨[], [], [], [], [], []⟩
def symOf (x : LO) (t : ByteArray) : Option Int :=
  if findF x.heads t < 0 ∧ findF x.rules t < 0 then none else some (if 0 ≤ findF x.heads t then -1 - findF x.heads t else findF x.rules t)
def ksyms (x : LO) : List ByteArray → List Int → Option (List Int)
  | [], acc => some acc
  | t :: l, acc => match symOf x t with
    | none => none
    | some t => ksyms x l (acc ++ [t])
def allS (x : LO) : List (List ByteArray) → List (List Int) → LO × Bool
  | [], acc => ({ x with syms := acc }, decide (0 < acc.length))
  | l :: ls, acc => match ksyms x l [] with
    | none => ({ x with syms := acc }, false)
    | some t => allS x ls (acc ++ [t])
def linesX (s : ByteArray) : LO := lineL s (s.size + 1) 0 zeroLO
def linesF (s : ByteArray) : LO × Bool := allS (linesX s) (linesX s).names []

theorem zero_at (w : World) : LOX (w.alloc (.cells #[.slice none 0 0, .slice none 0 0, .slice none 0 0, .slice none 0 0, .slice none 0 0, .slice none 0 0] 43)) w.heap.size zeroLO := by
  refine ⟨.slice none 0 0, .slice none 0 0, .slice none 0 0, .slice none 0 0, .slice none 0 0, .slice none 0 0, [], [], ⟨⟨heap_alloc_at _ _, ?_, ?_⟩, ListsAt.nil _ _, ListsAt.nil _ _⟩⟩
  · intro i r hr
    rcases i with _ | _ | _ | _ | _ | _ | i <;> simp [rowsL, zeroLO] at hr <;> subst hr <;> exact World.ownsRow_nil _ _ _ _
  · intro i j r r' k hi hj hk hk'
    exfalso
    rcases i with _ | _ | _ | _ | _ | _ | i <;> simp [rowsL, zeroLO] at hi <;> subst hi <;> simp [Value.ownBlock] at hk
theorem up_fresh {w w1 w2 : World} {b : Nat} (h : Fresh w w1) (hu : UpB b w1 w2) (hb : w.heap.size ≤ b) : Fresh w w2 :=
  h.trans' hu (fun i hi hs => by omega)
end Go.Proofs.YtakkooidejdfkaaGreat
