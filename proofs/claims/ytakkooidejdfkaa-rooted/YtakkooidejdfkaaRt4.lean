import Derived.Test.YtakkooidejdfkaaTwe
import Derived.Test.YtakkooidejdfkaaKc8
namespace Go.Proofs.Ytakkooidejdfkaa
open Go.RowKit
set_option linter.unusedVariables false
set_option linter.unusedSimpArgs false

theorem node_at (ps : List Pr) {st pre A B : List St} {y : Sy} (hst : st = pre ++ (A ++ B)) (hA : runS ps A [y] = some []) :
    ∃ s A', A = s :: A' ∧ (nodesF ps st)[pre.length]? = some (if s.leaf then ⟨-1, s.num, (leavesS pre).length, A.length⟩ else ⟨s.num, -1, (leavesS pre).length, A.length⟩) := by
  cases A with
  | nil => simp [runS] at hA
  | cons s A' =>
    refine ⟨s, A', rfl, ?_⟩
    have hsz := size_tree ps _ (s :: A') B y (0 + (leavesS pre).length) (Nat.le_refl _) hA
    have h1 : (sizesF ps (ndL st 0))[pre.length]? = some (s :: A').length := by
      have e : (sizesF ps (ndL st 0))[pre.length]? = ((sizesF ps (ndL st 0)).drop pre.length)[0]? := by rw [List.getElem?_drop]; rfl
      rw [e, sizesF_drop, hst, ndL_app, List.drop_left' (by rw [ndL_len])]
      exact hsz
    obtain ⟨x, hx1, hx2⟩ := nodesF_at ps st (by rw [hst]; simp) h1
    rw [hx2]
    have h2 : (ndL st 0)[pre.length]? = (ndL (s :: A' ++ B) (0 + (leavesS pre).length))[0]? := by
      have e : (ndL st 0)[pre.length]? = ((ndL st 0).drop pre.length)[0]? := by rw [List.getElem?_drop]; rfl
      rw [e, hst, ndL_app, List.drop_left' (by rw [ndL_len])]
    rw [h2] at hx1
    simp only [List.cons_append, ndL] at hx1
    split
    · rename_i hl
      rw [hl] at hx1
      simp only [if_true, List.getElem?_cons_zero, Option.some.injEq] at hx1
      rw [← hx1]; simp [setSz]
    · rename_i hl
      rw [if_neg hl] at hx1
      simp only [List.getElem?_cons_zero, Option.some.injEq] at hx1
      rw [← hx1]; simp [setSz]
theorem run_rule {ps : List Pr} {A : List St} {n : Int} (h : runS ps A [⟨false, n⟩] = some []) : A = [⟨true, n⟩] := by
  cases A with
  | nil => simp [runS] at h
  | cons s A' =>
    simp only [runS] at h
    split at h
    · rename_i hl
      split at h
      · rename_i hy
        have := runS_nil h
        subst this
        obtain ⟨sl, sn⟩ := s
        dsimp only at hl hy
        rw [hl, ← hy.2]
      · cases h
    · split at h
      · rename_i hy; simp at hy
      · cases h
/-- the keep's lines in memory, as far as a walk reads them -/
structure XV (w : World) (xb g3 c3 g5 c5 : Nat) (sv : Nat → Value) (ps : List Pr) : Prop where
  k3 : w.cell? ⟨xb, 3, none⟩ = some (.slice (some ⟨g3, 0, none⟩) ps.length c3)
  k5 : w.cell? ⟨xb, 5, none⟩ = some (.slice (some ⟨g5, 0, none⟩) ps.length c5)
  hd : ∀ p (h : p < ps.length), w.cell? ⟨g3, p, none⟩ = some (.int .i64 ps[p].head)
  sy : ∀ p (h : p < ps.length), w.cell? ⟨g5, p, none⟩ = some (sv p) ∧ IntAt w (sv p) (ps[p].syms.map sInt)
set_option maxRecDepth 20000 in
set_option maxHeartbeats 8000000 in
theorem wnode_any (w0 : World) (b xb g3 c3 g5 c5 : Nat) (sv : Nat → Value) (vn vk : Value) (ps : List Pr) (st : List St) (kinds : List Int)
    (SF : ∀ W, MB b w0 W → NdsAt W vn (nodesF ps st) ∧ IntAt W vk kinds ∧ XV W xb g3 c3 g5 c5 sv ps) (hstl : st.length ≤ 1000000000000) (hkl : kinds.length ≤ 1000) (hpl : ps.length ≤ 100) (hsl : ∀ p ∈ ps, p.syms.length ≤ 6)
    (hin : ∀ p ∈ ps, ∀ s ∈ p.syms, 0 ≤ s.num ∧ s.num ≤ 100) (hlv : leavesS st = kinds) :
    ∀ (n : Nat) (A B pre : List St) (X : Int) (w : World), A.length ≤ n → st = pre ++ (A ++ B) → runS ps A [⟨true, X⟩] = some [] → MB b w0 w → WkAt w b (bptr xb) vn vk pre.length (leavesS pre).length →
      Calls Try.prog 7 #[bptr b, .int .i64 X] w fun e w' => e = .returned (.bool true) ∧ WkAt w' b (bptr xb) vn vk (pre.length + A.length) ((leavesS pre).length + (leavesS A).length) ∧ MB b w w' := by
  intro n
  induction n with
  | zero =>
    intro A B pre X w hn hst hA
    have : A = [] := List.eq_nil_of_length_eq_zero (by omega)
    subst this
    simp [runS] at hA
  | succ n ih =>
    intro A B pre X w hn hst hA hM h
    obtain ⟨s, A', e, hN⟩ := node_at ps hst hA
    subst e
    simp only [runS] at hA
    cases hl : s.leaf
    · rw [hl] at hA hN
      simp only [Bool.false_eq_true, if_false] at hA hN
      split at hA
      · rename_i hy
        cases hp : ps[s.num.toNat]? with
        | none => rw [hp] at hA; cases hA
        | some p =>
          rw [hp] at hA
          simp only [List.append_nil] at hA
          split at hA
          · rename_i hh
            obtain ⟨c, hc⟩ : ∃ c : Nat, s.num = c := ⟨s.num.toNat, by omega⟩
            rw [hc, Int.toNat_natCast] at hp
            rw [hc] at hN
            have hcl := (List.getElem?_eq_some_iff.1 hp).1
            have hcp : ps[c] = p := (List.getElem?_eq_some_iff.1 hp).2
            have hNlen : (nodesF ps st).length = st.length := nodesF_len ps st
            have hil : pre.length < (nodesF ps st).length := by rw [hNlen, hst]; simp
            have hNv : (nodesF ps st)[pre.length] = ⟨c, -1, (leavesS pre).length, (s :: A').length⟩ := by
              rw [List.getElem?_eq_getElem hil, Option.some.injEq] at hN; exact hN
            have hXh : ps[c].head = X := by rw [hcp]; exact hh
            have hlA : (leavesS (s :: A')) = leavesS A' := by simp [leavesS, hl]
            have HSF := hid SF
            obtain ⟨hNd, hKi, hXV⟩ := SF w hM
            obtain ⟨aa, ca, hva⟩ := own_form hNd.own
            subst hva
            obtain ⟨g, c', hg⟩ := Joins.ownsRow_form hNd.own (by omega)
            rw [Value.slice.injEq] at hg
            obtain ⟨rfl, hgx, rfl⟩ := hg
            clear hgx
            have RNG : Hid (∀ m, (w.drewN m).rangeAt g (pre.length * 4) [.int .i64 c, .int .i64 (-1), .int .i64 (leavesS pre).length, .int .i64 (s :: A').length]) := fun m => by
              have := hNd.range pre.length hil
              rw [hNv] at this
              exact rangeAt_block this rfl
            have hgl := (hNd.own.lt g rfl).2
            have z1 := cellOf h 1
            have z3 := cellOf h 3
            simp at z1 z3
            have hNb : (nodesF ps st).length ≤ 1000000000000 := by omega
            have hi1 : ((pre.length : Nat) : Int) < ((nodesF ps st).length : Int) := by omega
            have b1 : decide (((nodesF ps st).length : Int) ≤ ((pre.length : Nat) : Int)) = false := by simp; omega
            have b1' : decide ((nodesF ps st).length ≤ pre.length) = false := by simp; omega
            have H := hid h
            have HM := hid hM
            have HST := hid hst
            have HIH := hid ih
            have HA := hid hA
            have HLV := hid hlv
            have HCP := hid hcp
            have HXH := hid hXh
            have HLA := hid hlA
            have hbl := heap_lt h
            generalize hSZ : (s :: A').length = SZ at RNG ⊢
            have HSZ := hid hSZ
            generalize hLP : (leavesS pre).length = lp at *
            have HLP := hid hLP
            generalize hPI : pre.length = pi at *
            have HPI := hid hPI
            clear h hM hst ih hA hlv hcp hXh hlA hNd hKi hXV hN hNv hNlen SF hSZ hLP hPI hp hh hil
            go_enter Try.func7, Try.ntmps7
            go_wp2_with fail
            go_quiet (fail)
            have HF1 : Hid (Fresh w (w.drewN nq)) := fdrewN' w nq
            have RG1 := hid (RNG.out nq)
            have y1 : (w.drewN nq).cell? ⟨b, 1, none⟩ = _ := z1
            have y3 : (w.drewN nq).cell? ⟨b, 3, none⟩ = _ := z3
            have hbl1 : b < (w.drewN nq).heap.size := hbl
            have hgl1 : g < (w.drewN nq).heap.size := hgl
            generalize w.drewN nq = W1 at HF1 RG1 y1 y3 hbl1 hgl1 ⊢
            clear z1 z3 RNG
            go_upto_region 5 with (first
              | (refine wpList_load_mid rfl 60 _ rfl g (pi * 4) rfl [.int .i64 c, .int .i64 (-1), .int .i64 lp, .int .i64 SZ] _ RG1.out Try.underlying60 rfl szNd ?_))
            have HF2 : Hid (Fresh w (W1.alloc (.cells #[.int .i64 c, .int .i64 (-1), .int .i64 lp, .int .i64 SZ] 60 (0, 0)))) := HF1.out.alloc _
            have HBX : Hid ((W1.alloc (.cells #[.int .i64 c, .int .i64 (-1), .int .i64 lp, .int .i64 SZ] 60 (0, 0))).heap[W1.heap.size]? = some (.cells #[.int .i64 c, .int .i64 (-1), .int .i64 lp, .int .i64 SZ] 60 (0, 0))) := heap_alloc_at _ _
            have hbp : b < W1.heap.size := hbl1
            generalize W1.alloc (.cells #[.int .i64 c, .int .i64 (-1), .int .i64 lp, .int .i64 SZ] 60 (0, 0)) = W2 at HF2 HBX ⊢
            generalize W1.heap.size = pb at HBX hbp ⊢
            have HM2 : Hid (MB b w W2) := HF2.out.mono (fun _ _ x => x.elim)
            obtain ⟨_, _, hXV⟩ := HSF.out W2 (Mod.trans HM.out HM2.out)
            have HK2 := hid (HF2.out.at H.out (fun x => x))
            have x0 := cellOf HBX.out 0
            have x1 := cellOf HBX.out 1
            have x2 := cellOf HBX.out 2
            have v0 := cellOf HK2.out 0
            have v4 := cellOf HK2.out 4
            simp at x0 x1 x2 v0 v4
            have k3 := hXV.k3
            have k5 := hXV.k5
            have hd := hXV.hd c hcl
            rw [HXH.out] at hd
            have hc1 : ((c : Nat) : Int) < (ps.length : Int) := by omega
            have d1 : decide (((c : Nat) : Int) < 0) = false := by simp
            have d2 : decide ((ps.length : Int) ≤ ((c : Nat) : Int)) = false := by simp; omega
            have d3 : decide (ps.length ≤ c) = false := by simp; omega
            clear y1 y3 hXV HF1 RG1 hbl1 hgl1
            go_quiet (fail)
            have HF3 : Hid (Fresh w (W2.drewN nq)) := HF2.out.trans (fdrewN' W2 nq)
            have HK3 : Hid ((W2.drewN nq).heap[b]? = some (.cells #[bptr xb, .slice (some ⟨g, 0, none⟩) (nodesF ps st).length ca, vk, .int .i64 pi, .int .i64 lp] 42 (0, 0))) := HK2.out
            have HB3 : Hid ((W2.drewN nq).heap[pb]? = some (.cells #[.int .i64 c, .int .i64 (-1), .int .i64 lp, .int .i64 SZ] 60 (0, 0))) := HBX.out
            generalize W2.drewN nq = W3 at HF3 HK3 HB3 ⊢
            have n3 := cellOf HK3.out 3
            simp at n3
            have m3 := frozenOf HK3.out 3
            have hpi : pi ≤ 1000000000000 := by omega
            clear x0 x1 x2 v0 v4 k3 k5 hd d1 d2 d3
            go_wp2
            have HK4 : Hid (WkAt (W3.setCell ⟨b, 3, none⟩ (.int .i64 ((pi : Int) + 1))) b (bptr xb) (.slice (some ⟨g, 0, none⟩) (nodesF ps st).length ca) vk (pi + 1) lp) := by
              unfold Hid WkAt
              rw [Proofs.Ytakkooidejdfkaa.heap_setCell_same HK3.out 3 _]
              simp
            have HB4 : Hid ((W3.setCell ⟨b, 3, none⟩ (.int .i64 ((pi : Int) + 1))).heap[pb]? = some (.cells #[.int .i64 c, .int .i64 (-1), .int .i64 lp, .int .i64 SZ] 60 (0, 0))) := heap_setCell_prev HB3.out (by simp; omega)
            have HM4 : Hid (MB b w (W3.setCell ⟨b, 3, none⟩ (.int .i64 ((pi : Int) + 1)))) := by
              have m0 : MB b w W3 := HF3.out.mono (fun _ _ x => x.elim)
              exact Mod.setCell m0 (p := ⟨b, 3, none⟩) (fun _ => rfl) _
            generalize W3.setCell ⟨b, 3, none⟩ (.int .i64 ((pi : Int) + 1)) = W4 at HK4 HB4 HM4 ⊢
            clear n3 m3
            go_loopw [7] (fun x7 wr => ∃ (m : Nat) (Am pre' : List St), x7 = .int .i64 m ∧ m ≤ p.syms.length ∧ st = pre' ++ (Am ++ B) ∧ runS ps Am (p.syms.drop m) = some [] ∧ pre'.length + Am.length = pi + SZ ∧ (leavesS pre').length + (leavesS Am).length = lp + (leavesS A').length ∧ Am.length ≤ n ∧
                WkAt wr b (bptr xb) (.slice (some ⟨g, 0, none⟩) (nodesF ps st).length ca) vk pre'.length (leavesS pre').length ∧ MB b w wr ∧ wr.heap[pb]? = some (.cells #[.int .i64 c, .int .i64 (-1), .int .i64 lp, .int .i64 SZ] 60 (0, 0)))
              (fun x _ => 10 - (intOf x).toNat)
            case atStart =>
              refine ⟨0, A', pre ++ [s], rfl, by omega, by rw [HST.out]; simp, by simpa using HA.out, ?_, ?_, by simpa using hn, ?_, HM4.out, HB4.out⟩
              · have h1 := HSZ.out; have h2 := HPI.out; simp at h1 ⊢; omega
              · rw [leavesS_app]; have h2 := HLP.out; simp [leavesS, hl] at h2 ⊢; omega
              · have e1 : (pre ++ [s]).length = pi + 1 := by have h2 := HPI.out; simp; omega
                have e2 : (leavesS (pre ++ [s])).length = lp := by rw [leavesS_app]; have h2 := HLP.out; simp [leavesS, hl] at h2 ⊢; omega
                rw [e1, e2]; exact HK4.out
            case round =>
              obtain ⟨m, Am, pre', rfl, hm, hst, hrun, hle, hlv2, hAn, hWk, hMb, hBx⟩ := hrel
              obtain ⟨_, _, hXV⟩ := HSF.out wr (Mod.trans HM.out hMb)
              obtain ⟨hsv, hIn⟩ := hXV.sy c hcl
              rw [HCP.out] at hIn
              obtain ⟨sa, scap, hsve, hsc, hscell⟩ := hIn
              rw [List.length_map] at hsve
              rw [hsve] at hsv
              have v0 := cellOf hWk 0
              have v3 := cellOf hWk 3
              have x0 := cellOf hBx 0
              have x3 := cellOf hBx 3
              simp at v0 v3 x0 x3
              have k5 := hXV.k5
              have hc1 : ((c : Nat) : Int) < (ps.length : Int) := by omega
              have hp6 : p.syms.length ≤ 6 := by rw [← HCP.out]; exact hsl ps[c] (by simp)
              have HWK := hid hWk
              have HMB := hid hMb
              have HBX5 := hid hBx
              have HRUN := hid hrun
              have HST5 := hid hst
              have HLE := hid hle
              have HLV5 := hid hlv2
              have hpl2 : pre'.length ≤ 1000000000000 := by have h1 := congrArg List.length hst; simp at h1; omega
              clear hXV hsve hWk hMb hBx hst hle hlv2
              by_cases hlt : m < p.syms.length
              · have hlt1 : ((m : Nat) : Int) < (p.syms.length : Int) := by omega
                obtain ⟨sg, so, rfl, hce⟩ := hscell m (by simpa using hlt)
                rw [List.getElem_map] at hce
                rw [List.drop_eq_getElem_cons hlt] at hrun
                have hyb : 0 ≤ p.syms[m].num ∧ p.syms[m].num ≤ 100 := by
                  have := hin ps[c] (by simp)
                  rw [HCP.out] at this
                  exact this p.syms[m] (by simp)
                obtain ⟨A1, A2, hA12, hr1, hr2⟩ := runS_split ps Am [p.syms[m]] (p.syms.drop (m + 1)) hrun
                have HR1 := hid hr1
                have HR2 := hid hr2
                have HA12 := hid hA12
                have HMM := hid (meas (B := 10) m (by omega))
                generalize p.syms[m] = y at hce hyb HR1
                obtain ⟨yh, yn⟩ := y
                dsimp only at hyb
                clear hrun hr1 hr2 hscell HRUN hA12
                have dm : decide (((m : Nat) : Int) < (p.syms.length : Int)) = true := by simpa using hlt
                have dm2 : decide (m < p.syms.length) = true := by simpa using hlt
                go_wp2_with fail
                go_quiet (fail)
                have HU1 : Hid (Fresh wr (wr.drewN nq)) := fdrewN' wr nq
                generalize wr.drewN nq = U1 at HU1 ⊢
                have v0' := fcell' HU1.out v0
                have x0' := fcell' HU1.out x0
                have k5' := fcell' HU1.out k5
                have hsv' := fcell' HU1.out hsv
                have hce' := fcell' HU1.out hce
                clear v0 x0 k5 hsv hce
                go_wp2_with fail
                go_quiet (fail)
                have HU2 : Hid (Fresh wr (U1.drewN nq)) := HU1.out.trans (fdrewN' U1 nq)
                generalize U1.drewN nq = U2 at HU2 ⊢
                have HWK2 := hid (HU2.out.at HWK.out (fun x => x))
                have HMB2 : Hid (MB b w U2) := Mod.trans HMB.out (HU2.out.mono (fun _ _ x => x.elim))
                have HBX2 := hid (HU2.out.at HBX5.out (fun x => x))
                have HST6 : Hid (st = pre' ++ (A1 ++ (A2 ++ B))) := by unfold Hid; rw [HST5.out, HA12.out]; simp
                have hA1n : A1.length ≤ n := by have := congrArg List.length HA12.out; simp at this; omega
                have hA2n : A2.length ≤ n := by have := congrArg List.length HA12.out; simp at this; omega
                have HLE2 : Hid ((pre' ++ A1).length + A2.length = pi + SZ) := by unfold Hid; have h1 := HLE.out; have h2 := congrArg List.length HA12.out; simp at h1 h2 ⊢; omega
                have HLV2 : Hid ((leavesS (pre' ++ A1)).length + (leavesS A2).length = lp + (leavesS A').length) := by
                  unfold Hid
                  have h1 := HLV5.out
                  rw [HA12.out, leavesS_app] at h1
                  rw [leavesS_app]
                  simp only [List.length_append] at h1 ⊢
                  omega
                clear v0' x0' k5' hsv' hce' v3 x3
                cases yh
                · have hA1 := run_rule HR1.out
                  have hsI : sInt ⟨false, yn⟩ = yn := rfl
                  rw [hsI]
                  have hyn := hyb.1
                  have LF : Hid (Calls Try.prog 15 #[bptr b, .int .i64 yn] U2 fun e w' => e = .returned (.bool true) ∧ WkAt w' b (bptr xb) (.slice (some ⟨g, 0, none⟩) (nodesF ps st).length ca) vk (pre' ++ A1).length (leavesS (pre' ++ A1)).length ∧ MB b U2 w') := by
                    obtain ⟨hNd, hKi, _⟩ := HSF.out U2 (Mod.trans HM.out HMB2.out)
                    obtain ⟨s1, A1', e1, hN1⟩ := node_at ps HST6.out HR1.out
                    rw [hA1] at e1 hN1
                    simp only [List.cons.injEq] at e1
                    obtain ⟨rfl, _⟩ := e1
                    have hil : pre'.length < (nodesF ps st).length := (List.getElem?_eq_some_iff.1 hN1).1
                    have hNv := (List.getElem?_eq_some_iff.1 hN1).2
                    have hkE : kinds = leavesS pre' ++ (yn :: leavesS (A2 ++ B)) := by
                      rw [← HLV.out, HST6.out, hA1, leavesS_app, leavesS_app]; rfl
                    have hjl : (leavesS pre').length < kinds.length := by rw [hkE]; simp
                    have hkv : kinds[(leavesS pre').length] = yn := by simp [hkE]
                    have hr := wleaf_any U2 b (bptr xb) _ vk pre'.length (leavesS pre').length (nodesF ps st) kinds yn HWK2.out hNd hKi hil hjl hNb hkl (by rw [hNv]; simp) hkv
                    have e1 : (pre' ++ A1).length = pre'.length + 1 := by rw [hA1]; simp
                    have e2 : (leavesS (pre' ++ A1)).length = (leavesS pre').length + 1 := by rw [hA1, leavesS_app]; simp [leavesS]
                    rw [e1, e2]
                    exact hr
                  clear hA1 hsI
                  go_wp2_with (first
                    | (go_at_call 15; refine LF.out.mono ?_; rintro e w6 ⟨rfl, hk6, hm6⟩; have HK6 := hid hk6; have HM6 := hid hm6; clear hk6 hm6))
                  go_roundw
                  case rel =>
                    refine ⟨m + 1, A2, pre' ++ A1, by go_num, by omega, by rw [HST6.out]; simp, HR2.out, HLE2.out, HLV2.out, hA2n, HK6.out, Mod.trans HMB2.out HM6.out, HM6.out.at HBX2.out (by omega)⟩
                  case measure => exact HMM.out
                · have hsI : sInt ⟨true, yn⟩ = -1 - yn := rfl
                  rw [hsI]
                  have hyn := hyb.1
                  have hyn2 := hyb.2
                  have hneg : (-1 : Int) - yn < 0 := by omega
                  have hsub : (-1 : Int) - (-1 - yn) = yn := by omega
                  have NDc : Hid (Calls Try.prog 7 #[bptr b, .int .i64 yn] U2 fun e w' => e = .returned (.bool true) ∧ WkAt w' b (bptr xb) (.slice (some ⟨g, 0, none⟩) (nodesF ps st).length ca) vk (pre' ++ A1).length (leavesS (pre' ++ A1)).length ∧ MB b U2 w') := by
                    have hr := HIH.out A1 (A2 ++ B) pre' yn U2 hA1n HST6.out HR1.out (Mod.trans HM.out HMB2.out) HWK2.out
                    rw [leavesS_app, List.length_append, List.length_append]
                    exact hr
                  clear hsI
                  go_wp2_with (first
                    | (go_at_call 7; refine NDc.out.mono ?_; rintro e w6 ⟨rfl, hk6, hm6⟩; have HK6 := hid hk6; have HM6 := hid hm6; clear hk6 hm6))
                  go_roundw
                  case rel =>
                    refine ⟨m + 1, A2, pre' ++ A1, by go_num, by omega, by rw [HST6.out]; simp, HR2.out, HLE2.out, HLV2.out, hA2n, HK6.out, Mod.trans HMB2.out HM6.out, HM6.out.at HBX2.out (by omega)⟩
                  case measure => exact HMM.out
              · have hme : m = p.syms.length := by omega
                have hAm : Am = [] := by
                  have h1 := HRUN.out
                  rw [hme, List.drop_length] at h1
                  exact runS_nil h1
                have hplE : pre'.length = pi + SZ := by have h1 := HLE.out; rw [hAm] at h1; simpa using h1
                have hlpE : (leavesS pre').length = lp + (leavesS A').length := by have h1 := HLV5.out; rw [hAm] at h1; simpa [leavesS] using h1
                have HLPE := hid hlpE
                have HPLE := hid hplE
                rw [hplE] at v3 hpl2
                have dm : decide (((m : Nat) : Int) < (p.syms.length : Int)) = false := by simp; omega
                have dm2 : decide (m < p.syms.length) = false := by simp; omega
                have HFIN : Hid ((SZ : Int) = ((pi + SZ : Nat) : Int) - (pi : Int)) := by unfold Hid; omega
                clear hme hAm hplE hlpE hscell hlt
                go_wp2_with fail
                go_quiet (fail)
                have HU1 : Hid (Fresh wr (wr.drewN nq)) := fdrewN' wr nq
                generalize wr.drewN nq = U1 at HU1 ⊢
                have v3' := fcell' HU1.out v3
                have x3' := fcell' HU1.out x3
                have hszb : SZ ≤ 1000000000000 := by omega
                have e1 : ((pi : Int) + (SZ : Int)) - (pi : Int) = (SZ : Int) := by omega
                have e2 : IntKind.i64.wrap (((pi : Int) + (SZ : Int)) - (pi : Int)) = (SZ : Int) := by rw [e1, IntKind.wrap_i64]; omega
                clear v0 x0 k5 hsv v3 x3
                go_wp2_with fail
                go_quiet (fail)
                have HU2 : Hid (Fresh wr (U1.drewN nq)) := HU1.out.trans (fdrewN' U1 nq)
                generalize U1.drewN nq = U2 at HU2 ⊢
                go_wp2
                go_ret
                refine ⟨by simp, ?_, Mod.trans HMB.out (HU2.out.mono (fun _ _ x => x.elim))⟩
                rw [HLA.out, ← HLPE.out, ← HPLE.out]
                exact HU2.out.at HWK.out (fun x => x)
          · cases hA
      · cases hA
    · rw [hl] at hA
      simp only [if_true] at hA
      split at hA
      · rename_i hy; simp at hy
      · cases hA
end Go.Proofs.Ytakkooidejdfkaa
