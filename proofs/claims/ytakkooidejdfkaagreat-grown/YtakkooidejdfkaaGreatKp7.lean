import Derived.Test.YtakkooidejdfkaaGreatKp5
namespace Go.Proofs.YtakkooidejdfkaaGreat
open Go.RowKit
set_option linter.unusedVariables false
set_option linter.unusedSimpArgs false

section
variable {w : World} {b : Nat} {x : LO} {v0 v1 v2 v3 v4 v5 : Value} {nv sv : List Value}
theorem LOAt.name (h : LOAt w b x v0 v1 v2 v3 v4 v5 nv sv) (i : Nat) (hi : i < x.names.length) :
    ∃ g4 c4 ai ci, v4 = .slice (some ⟨g4, 0, none⟩) nv.length c4 ∧ w.cell? ⟨g4, i, none⟩ = some (.slice ai (x.names[i]).length ci) ∧
      ∀ j (hj : j < (x.names[i]).length), ∃ gi oi, ai = some ⟨gi, oi, none⟩ ∧ w.cell? ⟨gi, oi + j, none⟩ = some (.string (x.names[i])[j]) := by
  have hl : nv.length = x.names.length := by have := h.names.1; simpa using this
  obtain ⟨g4, c4, hv⟩ := Joins.ownsRow_form h.own4 (by omega)
  have hc := h.names.2 i (nv[i]'(by omega)) (strs x.names[i]) (by simp [hl, hi]) (by simp [hi])
  obtain ⟨ai, ci, hvi, _, hcell⟩ := hc
  refine ⟨g4, c4, ai, ci, hv, ?_, ?_⟩
  · subst hv
    have := h.own4.cells (g := g4) rfl i (nv[i]'(by omega)) (by simp [hl, hi])
    rw [Addr.add_mid, Nat.zero_add, hvi] at this
    simpa using this
  · intro j hj
    obtain ⟨gi, oi, h1, _, _, h2⟩ := hcell j (.string (x.names[i])[j]) (by simp [hj])
    exact ⟨gi, oi, h1, h2⟩
theorem LOAt.str0 (h : LOAt w b x v0 v1 v2 v3 v4 v5 nv sv) : StrsAt w v0 x.rules := strsAt_own (h.at'.own 0 _ rfl)
theorem LOAt.str2 (h : LOAt w b x v0 v1 v2 v3 v4 v5 nv sv) : StrsAt w v2 x.heads := strsAt_own (h.at'.own 2 _ rfl)
theorem LOAt.nlen (h : LOAt w b x v0 v1 v2 v3 v4 v5 nv sv) : nv.length = x.names.length := by have := h.names.1; simpa using this
theorem LOAt.slen (h : LOAt w b x v0 v1 v2 v3 v4 v5 nv sv) : sv.length = x.syms.length := by have := h.syms.1; simpa using this
end
theorem fcell {a b : World} {p : Addr} {v : Value} (h : Fresh a b) (hc : a.cell? p = some v) : b.cell? p = some v := by
  have hl := World.block_lt_of_cell? a _ hc
  have := h.block p.block hl (fun x => x)
  unfold World.cell? at hc ⊢
  rw [this]; exact hc
theorem fdrewN (w : World) (n : Nat) : Fresh w (w.drewN n) := ⟨rfl, rfl, rfl, Nat.le_refl _, fun _ _ _ => rfl⟩
theorem findF_bd (l : List ByteArray) (t : ByteArray) (h : l.length ≤ 1000) : -1 ≤ findF l t ∧ findF l t ≤ 1000 := by unfold findF; split <;> omega
theorem drop_cons {α : Type _} {l : List α} {i : Nat} (h : i < l.length) : l.drop i = l[i] :: l.drop (i + 1) := by rw [List.drop_eq_getElem_cons h]

theorem takeF_syms (s : ByteArray) (x : LO) : (takeF s x).syms = x.syms := by unfold takeF; split; rfl; split <;> rfl
set_option maxRecDepth 20000 in
set_option maxHeartbeats 4000000 in
theorem lines_any (s0 : ByteArray) (w : World) (hs : s0.size ≤ 900) :
    Calls Tryz.prog 23 #[.string s0] w fun e w' => e = .returned (.tuple #[bptr w.heap.size, .bool (linesF s0).2]) ∧ LOX w' w.heap.size (linesF s0).1 ∧ Fresh w w' := by
  obtain ⟨i1, hi1, hy0, hy1, hy2⟩ := infoInt'
  obtain ⟨i2, hi2, hx0, hx1, hx2⟩ := infoIs'
  generalize hR : linesF s0 = R
  have HR : Hid (allS (linesX s0) (linesX s0).names [] = R) := hid hR
  generalize hX : linesX s0 = X at HR
  have HX : Hid (lineL s0 (s0.size + 1) 0 zeroLO = X) := hid hX
  clear hR hX
  obtain ⟨b, hb⟩ : ∃ b, b = w.heap.size := ⟨_, rfl⟩
  have HBB := hid hb
  have HZ := hid (zero_at w)
  go_enter Tryz.func23, Tryz.ntmps23
  go_wp2
  go_loopw [0, 5] (fun x0 x5 wr => ∃ (f k : Nat) (x : LO), x0 = .string (s0.extract k s0.size) ∧ lineL s0 f k x = X ∧ s0.size + 1 ≤ f + k ∧ k ≤ s0.size ∧ x.bd k ∧ x.syms = [] ∧ LOX wr b x ∧ Fresh w wr)
      (fun x _ _ => 1001 - (match x with | .string s => s0.size - s.size | _ => 0))
  case atStart =>
    refine ⟨_, 0, zeroLO, by rw [ext_all], HX.out, by omega, by omega, ⟨by simp [zeroLO], by simp [zeroLO], by simp [zeroLO], by simp [zeroLO], by simp [zeroLO], by simp [zeroLO]⟩, rfl, ?_, (Mod.refl _ w).alloc _⟩
    rw [HBB.out]; exact HZ.out
  case round =>
    obtain ⟨f, k, x, rfl, hR, hfu, hk, hbd, hsy, hlo, hfr⟩ := hrel
    obtain ⟨f, rfl⟩ : ∃ g, f = g + 1 := ⟨f - 1, by omega⟩
    unfold lineL at hR
    have hsz := ext_size s0 k
    have hle := upToF_le (s0.extract k s0.size) 10 10
    have UP := hid (fun w => upTo_any (s0.extract k s0.size) 10 10 w (by omega))
    have EX := hid (fun n m h => ext_ext s0 k n m hk h)
    have TK := hid (fun (s : ByteArray) (hs : s.size ≤ 900) => take_any wr b x s hlo hs (hbd.mono (by omega)))
    have TB := hid (fun (s : ByteArray) (hs : s.size ≤ 900) => takeF_bd hbd s hs)
    generalize hn : upToF (s0.extract k s0.size) 10 10 = n at hR hle UP
    clear hn
    obtain ⟨s, hse⟩ : ∃ s, s = s0.extract k s0.size := ⟨_, rfl⟩
    rw [← hse] at hsz hle UP EX
    simp only [← hse]
    have HSE := hid hse
    have HSZ := hid hsz
    have HLO := hid hlo
    have HFR := hid hfr
    have HSY := hid hsy
    have HBD := hid hbd
    clear hse hlo hfr hsy hbd
    by_cases hlt : k < s0.size
    · rw [if_pos hlt] at hR
      have hpos : (0 : Int) < (s.size : Int) := by omega
      clear hsz
      have hes : s.extract 0 n = s0.extract k (k + n) := by have := EX.out 0 n (by have := HSZ.out; omega); simpa using this
      have hez : (s.extract 0 n).size ≤ 900 := by rw [ByteArray.size_extract]; have := HSZ.out; omega
      have HES := hid hes
      have HEZ := hid hez
      clear hes hez
      by_cases hend : k + n < s0.size
      · rw [if_pos hend] at hR
        have hns : n < s.size := by have := HSZ.out; omega
        have HRR := hid hR
        clear hR
        subst hb
        go_wp2_with (first
          | (go_at_call 33; refine (UP.out _).mono ?_; rintro e w' ⟨rfl, hw⟩; rw [hw]; clear hw)
          | (go_at_call 34; refine (TK.out _ HEZ.out).mono ?_; rintro e w2 ⟨rfl, hlo2, hup2⟩; have HL2 := hid hlo2; have HF2 := hid (up_fresh HFR.out hup2 (by have := HBB.out; omega)); clear hlo2 hup2))
        go_roundw
        case rel =>
          have hq := HSZ.out
          refine ⟨f, k + n + 1, _, ?_, HRR.out, by omega, by omega, ?_, ?_, ?_, HF2.out⟩
          · have := EX.out (k + n + 1 - k) s.size (by omega)
            have e1 : k + (k + n + 1 - k) = k + n + 1 := by omega
            have e2 : k + s.size = s0.size := by omega
            rw [e1, e2] at this
            rw [← this]; congr 2; omega
          · rw [← HES.out]; exact (TB.out _ HEZ.out).mono (by omega)
          · rw [takeF_syms]; exact HSY.out
          · rw [← HES.out]; exact HL2.out
        case measure => have hq := HSZ.out; simp; omega
      · rw [if_neg hend] at hR
        have hns : n = s.size := by have := HSZ.out; omega
        have hns' : ¬ n < s.size := by omega
        have HRR := hid hR
        have HNS := hid hns
        have hnpos : 0 < n := by have := HSZ.out; omega
        clear hR hns
        subst hb
        go_wp2_with (first
          | (go_at_call 33; refine (UP.out _).mono ?_; rintro e w' ⟨rfl, hw⟩; rw [hw]; clear hw)
          | (go_at_call 34; refine (TK.out _ HEZ.out).mono ?_; rintro e w2 ⟨rfl, hlo2, hup2⟩; have HL2 := hid hlo2; have HF2 := hid (up_fresh HFR.out hup2 (by have := HBB.out; omega)); clear hlo2 hup2))
        go_roundw
        case rel =>
          have hq := HSZ.out
          refine ⟨f, k + n, _, ?_, HRR.out, by omega, by omega, ?_, ?_, ?_, HF2.out⟩
          · have := EX.out (k + n - k) s.size (by omega)
            have e1 : k + (k + n - k) = k + n := by omega
            have e2 : k + s.size = s0.size := by omega
            rw [e1, e2] at this
            rw [← this]; congr 2; omega
          · rw [← HES.out]; exact (TB.out _ HEZ.out).mono (by omega)
          · rw [takeF_syms]; exact HSY.out
          · rw [← HES.out]; exact HL2.out
        case measure => have hq := HSZ.out; simp; omega
    · rw [if_neg hlt] at hR
      subst hR
      have hz' : ¬ (0 : Int) < (s.size : Int) := by omega
      clear hsz EX TK TB HSE HSZ UP hle HX HZ
      have HB1 := hid (HBD.out.mono (show k ≤ 1000 by omega))
      clear HBD
      obtain ⟨wl, hwl⟩ : ∃ wl, wl = wr := ⟨_, rfl⟩
      subst hwl
      have HBQ : Hid (w.heap.size ≤ b) := hid (by omega)
      subst hb
      generalize hb0 : w.heap.size = b at *
      have HB0 := hid hb0
      clear hb0
      go_wp2
      go_loopw [6, 7, 8, 9, 10] (fun x6 x7 x8 x9 x10 wr => ∃ (i : Nat) (acc : List (List Int)) (v0 v1 v2 v3 v4 v5 : Value) (nv sv : List Value), x6 = .int .i64 i ∧ allS x (x.names.drop i) acc = R ∧ i ≤ x.names.length ∧ acc.length = i ∧ LOAt wr b { x with syms := acc } v0 v1 v2 v3 v4 v5 nv sv ∧ Fresh w wr)
        (fun y _ _ _ _ _ => 1001 - (intOf y).toNat)
      case atStart =>
        obtain ⟨v0, v1, v2, v3, v4, v5, nv, sv, hA⟩ := HLO.out
        refine ⟨0, [], v0, v1, v2, v3, v4, v5, nv, sv, rfl, HR.out, by omega, rfl, ?_, HFR.out⟩
        have e : { x with syms := ([] : List (List Int)) } = x := by have := HSY.out; cases x; simp at this; subst this; rfl
        rw [e]; exact hA
      case round =>
        obtain ⟨i, acc, v0, v1, v2, v3, v4, v5, nv, sv, rfl, hR, hi, hal, hA, hfr⟩ := hrel
        have hbn := HB1.out.names
        have HME := hid (meas (B := 1001) i (by omega))
        have hnl := hA.nlen
        have hsl := hA.slen
        simp only [] at hnl hsl
        have HSL := hid hsl
        have hsv : sv.length ≤ 1000 := by omega
        have HAL := hid hal
        clear hsl hal
        have HFr := hid hfr
        by_cases hlt : i < x.names.length
        · rw [drop_cons hlt] at hR
          unfold allS at hR
          have hl1 : (x.names[i]).length ≤ 1000 := HB1.out.words _ (List.getElem_mem hlt)
          obtain ⟨g4, c4, ai, ci, hv4, hc4, hcells⟩ := hA.name i hlt
          simp only [] at hc4 hcells
          generalize x.names[i] = l at hR hl1 hc4 hcells
          subst hv4
          have k4 := hA.cell 4
          simp at k4
          have HC := hid hcells
          have HA := hid hA
          have hiB : (i : Int) < (x.names.length : Int) := by omega
          have HHL := hid HB1.out.heads
          have HRL := hid HB1.out.rules
          have FH := hid (fun (W : World) (hf : Fresh wr W) (t : ByteArray) => find_any x.heads t v2 W (hA.fresh hf).str2 HHL.out)
          have FR := hid (fun (W : World) (hf : Fresh wr W) (t : ByteArray) => find_any x.rules t v0 W (hA.fresh hf).str0 HRL.out)
          generalize hS : ksyms x l [] = S at hR
          have HS := hid hS
          have HRR := hid hR
          clear hcells hA hS hR hfr
          obtain ⟨wo, hwo⟩ : ∃ wo, wo = wr := ⟨_, rfl⟩
          subst hwo
          go_wp2
          go_loopw [7, 8, 9, 10] (fun x7 x8 x9 x10 wi => ∃ (j : Nat) (acc2 : List Int), x8 = .int .i64 j ∧ wi.ownsRow wo.heap.size 3 1 x7 acc2.length (ints acc2) ∧ Fresh wo wi ∧ ksyms x (l.drop j) acc2 = S ∧ j ≤ l.length ∧ acc2.length ≤ j)
            (fun _ y _ _ _ => 1001 - (intOf y).toNat)
          case atStart => exact ⟨0, [], rfl, World.ownsRow_nil _ _ _ _, Mod.refl _ _, HS.out, by omega, by simp⟩
          case round =>
            obtain ⟨j, acc2, rfl, hown, hf1, hS, hj, hal2⟩ := hrel
            have HMJ := hid (meas (B := 1001) j (by omega))
            obtain ⟨a7, c7, hv7⟩ := own_form hown
            subst hv7
            have HO := hid hown
            have HF1 := hid hf1
            have h1 := HA.out.fresh hf1
            have q4 := fcell hf1 k4
            have qi := fcell hf1 hc4
            have q2 := h1.cell 2
            have q0 := h1.cell 0
            simp at q2 q0
            have H1 := hid h1
            clear hown h1
            by_cases hlj : j < l.length
            · obtain ⟨gi, oi, hai, hcj⟩ := HC.out j hlj
              subst hai
              have qj := fcell hf1 hcj
              have hj1 : (j : Int) < (l.length : Int) := by omega
              rw [drop_cons hlj] at hS
              unfold ksyms symOf at hS
              have FHt := hid (fun W hf => FH.out W hf l[j])
              have FRt := hid (fun W hf => FR.out W hf l[j])
              have bh := findF_bd x.heads l[j] HHL.out
              have br := findF_bd x.rules l[j] HRL.out
              generalize l[j] = t at hS FHt FRt bh br qj
              generalize findF x.heads t = fh at hS FHt bh
              generalize findF x.rules t = fr at hS FRt br
              obtain ⟨bh1, bh2⟩ := bh
              obtain ⟨br1, br2⟩ := br
              clear hcj
              by_cases hfh : fh < 0
              · by_cases hfr : fr < 0
                · rw [if_pos ⟨hfh, hfr⟩] at hS
                  simp only [] at hS
                  have e1 := HRR.out
                  rw [← hS] at e1
                  simp only [] at e1
                  have E1 := hid e1
                  clear hS e1
                  go_wp2
                  go_quiet (first | (go_at_call 35; refine Calls.quiet_of_same (FHt.out _ ?_); exact ⟨hf1.os, hf1.tape, hf1.output, hf1.size, hf1.block⟩))
                  have hf5 : Fresh wo (wr.drewN nq) := ⟨hf1.os, hf1.tape, hf1.output, hf1.size, hf1.block⟩
                  have HO5 : Hid ((wr.drewN nq).ownsRow wo.heap.size 3 1 (.slice a7 acc2.length c7) acc2.length (ints acc2)) := hid HO.out
                  have p4 := fcell (fdrewN wr nq) q4
                  have pi := fcell (fdrewN wr nq) qi
                  have pj := fcell (fdrewN wr nq) qj
                  have p0 := fcell (fdrewN wr nq) q0
                  have H5 := hid (H1.out.fresh (fdrewN wr nq))
                  generalize hWW : wr.drewN nq = W5 at hf5 HO5 p4 pi pj p0 H5 ⊢
                  clear hWW HO q4 qi qj q0 q2 H1 hf1 HF1 nq
                  go_wp2
                  go_quiet (first | (go_at_call 35; refine Calls.quiet_of_same (FRt.out _ ?_); exact ⟨hf5.os, hf5.tape, hf5.output, hf5.size, hf5.block⟩))
                  go_wp2
                  go_ret2
                  rw [← E1.out, HB0.out]
                  exact ⟨rfl, ⟨_, _, _, _, _, _, _, _, H5.out.fresh (fdrewN _ _)⟩, HFr.out.trans (hf5.trans (fdrewN _ _))⟩
                · rw [if_neg (by omega)] at hS
                  simp only [] at hS
                  rw [if_neg (by omega)] at hS
                  have HSS := hid hS
                  clear hS
                  have hfr0 : 0 ≤ fr := by omega
                  go_wp2
                  go_quiet (first | (go_at_call 35; refine Calls.quiet_of_same (FHt.out _ ?_); exact ⟨hf1.os, hf1.tape, hf1.output, hf1.size, hf1.block⟩))
                  have hf5 : Fresh wo (wr.drewN nq) := ⟨hf1.os, hf1.tape, hf1.output, hf1.size, hf1.block⟩
                  have HO5 : Hid ((wr.drewN nq).ownsRow wo.heap.size 3 1 (.slice a7 acc2.length c7) acc2.length (ints acc2)) := hid HO.out
                  have p4 := fcell (fdrewN wr nq) q4
                  have pi := fcell (fdrewN wr nq) qi
                  have pj := fcell (fdrewN wr nq) qj
                  have p0 := fcell (fdrewN wr nq) q0
                  have H5 := hid (H1.out.fresh (fdrewN wr nq))
                  generalize hWW : wr.drewN nq = W5 at hf5 HO5 p4 pi pj p0 H5 ⊢
                  clear hWW HO q4 qi qj q0 q2 H1 hf1 HF1 nq
                  go_wp2
                  go_quiet (first | (go_at_call 35; refine Calls.quiet_of_same (FRt.out _ ?_); exact ⟨hf5.os, hf5.tape, hf5.output, hf5.size, hf5.block⟩))
                  have HO2 : Hid ((W5.drewN nq).ownsRow wo.heap.size 3 1 (.slice a7 acc2.length c7) acc2.length (ints acc2)) := hid HO5.out
                  have HF2 : Hid (Fresh wo (W5.drewN nq)) := hid (hf5.trans (fdrewN _ _))
                  generalize hWW : W5.drewN nq = W2 at HO2 HF2 ⊢
                  clear hWW HO5 p0 p4 pi pj hf5
                  go_wp2_with (first
                    | (at_builtin; refine wpList_append_mine _ rfl _ _ 22 rfl wo.heap.size 3 i1 _ 1 8 Tryz.underlying22 hi1 hy0 hy1 hy2 rfl (by decide) (.slice a7 acc2.length c7) acc2.length (ints acc2) rfl (World.ownsRow.alloc HO2.out _) ⟨W2.heap.size, 0, none⟩ 1 1 [.int .i64 fr] rfl rfl (new_cells rfl) (by intro u hu; simp at hu; subst hu; rfl) (by unfold maxLen; omega) (by omega) (by have := HF2.out.size; simp; omega) ?_; intro v9 w4 hown hgrow hblk; have HO9 := hid hown; have HF9 := hid (Mod.grown (S := fun _ => False) (HF2.out.alloc _) hgrow (fun k hk hlt => by have := (HO2.out.lt k hk).1; omega)); clear hown hgrow hblk))
                  go_roundw
                  case rel =>
                    refine ⟨j + 1, acc2 ++ [fr], by go_num, ?_, HF9.out, HSS.out, by omega, by simp; omega⟩
                    rw [List.length_append, List.length_singleton, show ints (acc2 ++ [fr]) = ints acc2 ++ [.int .i64 fr] by simp]; exact HO9.out
                  case measure => exact HMJ.out
              · rw [if_neg (by omega)] at hS
                simp only [] at hS
                rw [if_pos (by omega)] at hS
                have HSS := hid hS
                clear hS
                have hfh0 : 0 ≤ fh := by omega
                go_wp2
                go_quiet (first | (go_at_call 35; refine Calls.quiet_of_same (FHt.out _ ?_); exact ⟨hf1.os, hf1.tape, hf1.output, hf1.size, hf1.block⟩))
                have hf5 : Fresh wo (wr.drewN nq) := ⟨hf1.os, hf1.tape, hf1.output, hf1.size, hf1.block⟩
                have HO5 : Hid ((wr.drewN nq).ownsRow wo.heap.size 3 1 (.slice a7 acc2.length c7) acc2.length (ints acc2)) := hid HO.out
                have p4 := fcell (fdrewN wr nq) q4
                have pi := fcell (fdrewN wr nq) qi
                have pj := fcell (fdrewN wr nq) qj
                have p0 := fcell (fdrewN wr nq) q0
                have H5 := hid (H1.out.fresh (fdrewN wr nq))
                generalize hWW : wr.drewN nq = W5 at hf5 HO5 p4 pi pj p0 H5 ⊢
                clear hWW HO q4 qi qj q0 q2 H1 hf1 HF1 nq
                go_wp2
                go_quiet (first | (go_at_call 35; refine Calls.quiet_of_same (FRt.out _ ?_); exact ⟨hf5.os, hf5.tape, hf5.output, hf5.size, hf5.block⟩))
                have HO2 : Hid ((W5.drewN nq).ownsRow wo.heap.size 3 1 (.slice a7 acc2.length c7) acc2.length (ints acc2)) := hid HO5.out
                have HF2 : Hid (Fresh wo (W5.drewN nq)) := hid (hf5.trans (fdrewN _ _))
                generalize hWW : W5.drewN nq = W2 at HO2 HF2 ⊢
                clear hWW HO5 p0 p4 pi pj hf5
                go_wp2_with (first
                  | (at_builtin; refine wpList_append_mine _ rfl _ _ 22 rfl wo.heap.size 3 i1 _ 1 8 Tryz.underlying22 hi1 hy0 hy1 hy2 rfl (by decide) (.slice a7 acc2.length c7) acc2.length (ints acc2) rfl (World.ownsRow.alloc HO2.out _) ⟨W2.heap.size, 0, none⟩ 1 1 [.int .i64 (-1 - fh)] rfl rfl (new_cells rfl) (by intro u hu; simp at hu; subst hu; rfl) (by unfold maxLen; omega) (by omega) (by have := HF2.out.size; simp; omega) ?_; intro v9 w4 hown hgrow hblk; have HO9 := hid hown; have HF9 := hid (Mod.grown (S := fun _ => False) (HF2.out.alloc _) hgrow (fun k hk hlt => by have := (HO2.out.lt k hk).1; omega)); clear hown hgrow hblk))
                go_roundw
                case rel =>
                  refine ⟨j + 1, acc2 ++ [(-1 - fh)], by go_num, ?_, HF9.out, HSS.out, by omega, by simp; omega⟩
                  rw [List.length_append, List.length_singleton, show ints (acc2 ++ [(-1 - fh)]) = ints acc2 ++ [.int .i64 (-1 - fh)] by simp]; exact HO9.out
                case measure => exact HMJ.out
            · rw [List.drop_eq_nil_of_le (by omega)] at hS
              unfold ksyms at hS
              have e1 := HRR.out
              rw [← hS] at e1
              simp only [] at e1
              have E1 := hid e1
              clear hS e1
              obtain ⟨a5, c5, hv5⟩ := own_form H1.out.own5
              subst hv5
              have q5 := H1.out.cell 5
              have z5 := H1.out.frozen 5
              have hb1 := H1.out.at'.lt
              simp at q5
              have HCV := hid (cells_own HO.out HA.out.foot_lt)
              go_wp2_with (first
                | (at_builtin; refine wpList_append_mine _ rfl _ _ 41 rfl (b + 1) 22 i2 _ 1 24 Tryz.underlying41 hi2 hx0 hx1 hx2 rfl (by decide) (.slice a5 sv.length c5) sv.length sv rfl (H1.out.own5.alloc _) ⟨wr.heap.size, 0, none⟩ 1 1 [.slice a7 acc2.length c7] rfl rfl (new_cells rfl) (by intro u hu; simp at hu; subst hu; rfl) (by unfold maxLen; omega) (by omega) (by simp; omega) ?_; intro v9 w4 hown hgrow hblk; obtain ⟨a9, c9, hv9⟩ := own_form hown; have hb9 := H1.out.blk_grown ((Mod.refl _ wr).alloc _) (v := .slice a5 sv.length c5) (by simp) hgrow; have k6 : w4.cell? ⟨b, 5, none⟩ = some (.slice a5 sv.length c5) := cellOf hb9 5; have k7 := frozenOf hb9 5; have FIN := hid (H1.out.add5 (u := .slice a7 acc2.length c7) (l := acc2) HCV.out ((Mod.refl _ wr).alloc _) hown hgrow (by simpa using hblk)); clear hown hgrow hblk hb9; subst hv9))
              go_roundw
              case rel =>
                obtain ⟨L5, U5⟩ := FIN.out
                exact ⟨i + 1, acc ++ [acc2], _, _, _, _, _, _, _, _, by go_num, E1.out, by omega, by have := HAL.out; simp; omega, L5, up_fresh (HFr.out.trans HF1.out) U5 (by have := HB0.out; omega)⟩
              case measure => exact HME.out
        · rw [List.drop_eq_nil_of_le (by omega)] at hR
          unfold allS at hR
          have HRR := hid hR
          have k4 := hA.cell 4
          have k5 := hA.cell 5
          obtain ⟨a4, c4, hv4⟩ := own_form hA.own4
          obtain ⟨a5, c5, hv5⟩ := own_form hA.own5
          subst hv4
          subst hv5
          simp at k4 k5
          have HA := hid hA
          clear hA hR
          go_wp2
          go_quiet (fail)
          go_wp2
          go_ret2
          rw [← HRR.out, HB0.out]
          rw [HSL.out]
          exact ⟨rfl, ⟨_, _, _, _, _, _, _, _, HA.out.fresh (fdrewN _ _)⟩, HFr.out.trans (fdrewN _ _)⟩
end Go.Proofs.YtakkooidejdfkaaGreat
