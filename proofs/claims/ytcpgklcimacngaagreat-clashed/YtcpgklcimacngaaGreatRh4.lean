import Derived.Test.YtcpgklcimacngaaGreatRh2
import Derived.Deep.QuietTactic
import Derived.BigQuiet
namespace Go.Proofs.YtcpgklcimacngaaGreat
open Go.RowKit
set_option linter.unusedVariables false
set_option linter.unusedSimpArgs false

def sortStep (X : SP) (x : ZLV) : SP :=
  if x.ln.rule = true then { X with rules := X.rules ++ [x] }
  else { X with
    prods := X.prods ++ [x]
    heads := if findF X.heads x.ln.name < 0 then X.heads ++ [x.ln.name] else X.heads
    head := X.head ++ [if findF X.heads x.ln.name < 0 then (X.heads.length : Int) else findF X.heads x.ln.name] }
def overZ (X : SP) (x : ZLV) : Bool := decide (8 < X.rules.length) || decide (20 < X.prods.length) || decide (8 < X.heads.length) || decide (6 < x.ln.syms.length)
def sortL (X : SP) : List ZLV → SP × Int
  | [] => (X, -1)
  | x :: l => if overZ (sortStep X x) x = true then (sortStep X x, x.pl) else sortL (sortStep X x) l
def noSP : SP := ⟨[], [], [], []⟩
def ldZ (v : Value) : Sem Value := Instr.loadAt 64 v
theorem ldZ_rule (v : Value) : Instr.loadAt 64 v = ldZ v := rfl
theorem ldZ_mid {w : World} {g o : Nat} {r k : Bool} {nm pt : ByteArray} {vs vp : Value} {a : Int} (hr : w.rangeAt g o (zlL r k nm pt vs vp a)) : (ldZ (.pointer (some ⟨g, o, none⟩))).run Tryz.prog w = .ok (.agg (zlA r k nm pt vs vp a)) w :=
  run_loadAt_mid w g o _ _ _ hr Tryz.underlying64 rfl szZL
structure SPbd (X : SP) : Prop where
  rules : X.rules.length ≤ 8
  prods : X.prods.length ≤ 20
  heads : X.heads.length ≤ 8
  head : X.head.length = X.prods.length
theorem sort_bd {X : SP} {x : ZLV} (h : SPbd X) (ho : overZ (sortStep X x) x = false) : SPbd (sortStep X x) := by
  unfold overZ at ho
  simp only [Bool.or_eq_false_iff, decide_eq_false_iff_not] at ho
  refine ⟨by omega, by omega, by omega, ?_⟩
  unfold sortStep
  split
  · exact h.head
  · have := h.head
    simp only [List.length_append, List.length_singleton]
    omega
def SPX (w : World) (b : Nat) (X : SP) (sv : List Value) : Prop := ∃ v0 v1 v2 v3 v4, SPAt w b X v0 v1 v2 v3 v4 sv
theorem fdrewZ (w : World) (n : Nat) : Fresh w (w.drewN n) := ⟨rfl, rfl, rfl, Nat.le_refl _, fun _ _ _ => rfl⟩
theorem upz_fresh {w w1 w2 : World} {b : Nat} (h : Fresh w w1) (hu : UpZ b w1 w2) (hb : w.heap.size ≤ b) : Fresh w w2 :=
  h.trans' hu (fun i hi hs => by omega)
attribute [local go_sem ↓] apS_rule ldZ_rule
set_option maxRecDepth 20000 in
set_option maxHeartbeats 4000000 in
theorem zsorted_any (w : World) (B0 : Nat) (v : Value) (xs : List ZLV) (hL : ZLinesAt B0 w v xs) (hn : xs.length ≤ 1000) :
    Calls Tryz.prog 17 #[v] w fun e w' => e = .returned (.tuple #[.pointer (some ⟨w.heap.size, 0, none⟩), .int .i64 (sortL noSP xs).2]) ∧ SPX w' w.heap.size (sortL noSP xs).1 [] ∧ Fresh w w' := by
  obtain ⟨iz, hiz, hq0, hq1, hq2⟩ := infoZL'
  obtain ⟨i0, hi0, hz0, hz1, hz2⟩ := infoStr'
  obtain ⟨i1, hi1, hy0, hy1, hy2⟩ := infoInt'
  have HL := hid (fun w' (hf : Fresh w w') => hL.kept hf (fun _ _ x => x))
  obtain ⟨ao, cap, hv⟩ := own_form hL.own
  subst hv
  generalize hR : sortL noSP xs = R
  have HR := hid hR
  clear hL hR
  go_enter Tryz.func17, Tryz.ntmps17
  go_wp2
  go_loopw [5, 6] (fun x5 _ wr => ∃ (i : Nat) (X : SP), x5 = .int .i64 i ∧ i ≤ xs.length ∧ sortL X (xs.drop i) = R ∧ SPbd X ∧ SPX wr w.heap.size X [] ∧ Fresh w wr)
      (fun x _ _ => 1001 - (intOf x).toNat)
  case atStart =>
    refine ⟨0, noSP, rfl, by omega, HR.out, ⟨by simp [noSP], by simp [noSP], by simp [noSP], by simp [noSP]⟩, ⟨.slice none 0 0, .slice none 0 0, .slice none 0 0, .slice none 0 0, .slice none 0 0, heap_alloc_at _ _, ?_, ?_⟩, (Mod.refl _ w).alloc _⟩
    · intro i r hr
      rcases i with _ | _ | _ | _ | _ | i <;> simp [rowsS, noSP] at hr <;> subst hr <;> exact World.ownsRow_nil _ _ _ _
    · intro i j r r' k hi hj hk hk'
      exfalso
      rcases i with _ | _ | _ | _ | _ | i <;> simp [rowsS, noSP] at hi <;> subst hi <;> simp [Value.ownBlock] at hk
  case round =>
    obtain ⟨i, X, rfl, hi, hrec, hbd, ⟨v0, v1, v2, v3, v4, hX⟩, hfr⟩ := hrel
    clear HR
    have HX := hid hX
    have HF := hid hfr
    have HLw := hid (HL.out wr hfr)
    have HBD := hid hbd
    obtain ⟨bd0, bd1, bd2, bdh⟩ := hbd
    have bd3 : X.head.length ≤ 20 := by omega
    clear bdh
    have hwb := hX.lt
    have hME : Hid (1001 - (intOf (.int .i64 ((i : Int) + 1))).toNat < 1001 - (intOf (.int .i64 (i : Int))).toNat) := by unfold Hid; simp [intOf]; omega
    by_cases hlt : i < xs.length
    · have hk1 : (i : Int) < (xs.length : Int) := by omega
      obtain ⟨g, cap', hv⟩ := Joins.ownsRow_form HLw.out.own (by omega)
      rw [Value.slice.injEq] at hv
      obtain ⟨rfl, _, rfl⟩ := hv
      have hgl := (HLw.out.own.lt g rfl).2
      rw [List.drop_eq_getElem_cons hlt] at hrec
      have hxA := HLw.out.each xs[i] (by simp)
      have hrg : wr.rangeAt g (i * 7) xs[i].cells := HLw.out.row.range i hlt
      have hcl := fun j hj => HLw.out.row.cell i j hlt hj
      generalize hx : xs[i] = x at hrec hxA hrg hcl
      obtain ⟨⟨xr, xk, xn, xp, xsy, xpl⟩, vs, vp, pl⟩ := x
      obtain ⟨so, sc, hvs⟩ := own_form hxA.syms
      obtain ⟨po, pc, hvp⟩ := own_form hxA.places
      dsimp only at hvs hvp
      subst hvs hvp
      have c0 := hcl 0 (by omega)
      have c2 := hcl 2 (by omega)
      have c4 := hcl 4 (by omega)
      have c6 := hcl 6 (by omega)
      simp [ZLV.cells] at c0 c2 c4 c6
      have lz : (ldZ (.pointer (some ⟨g, i * 7, none⟩))).run Tryz.prog wr.drew = .ok (.agg (zlA xr xk xn xp (.slice so xsy.length sc) (.slice po xpl.length pc) pl)) wr.drew := ldZ_mid hrg
      have HREC := hid hrec
      have k0 := SPAt.cell hX 0
      have k1 := SPAt.cell hX 1
      have k2 := SPAt.cell hX 2
      have k3 := SPAt.cell hX 3
      have f0 := SPAt.frozen hX 0
      have f1 := SPAt.frozen hX 1
      have f2 := SPAt.frozen hX 2
      have f3 := SPAt.frozen hX 3
      simp at k0 k1 k2 k3
      obtain ⟨a0, cp0, hv0⟩ := own_form (hX.own 0 _ rfl)
      obtain ⟨a1, cp1, hv1⟩ := own_form (hX.own 1 _ rfl)
      obtain ⟨a2, cp2, hv2⟩ := own_form (hX.own 2 _ rfl)
      obtain ⟨a3, cp3, hv3⟩ := own_form (hX.own 3 _ rfl)
      dsimp only at hv0 hv1 hv2 hv3
      subst hv0 hv1 hv2 hv3
      have HC : Hid (∀ W, Fresh w W → W.cell? ⟨g, i * 7 + 2, none⟩ = some (.string xn) ∧ W.cell? ⟨g, i * 7 + 4, none⟩ = some (.slice so xsy.length sc) ∧ W.cell? ⟨g, i * 7 + 6, none⟩ = some (.int .i64 pl)) := fun W hW => by
        have h := HL.out W hW
        have d2 := h.row.cell i 2 hlt (by omega)
        have d4 := h.row.cell i 4 hlt (by omega)
        have d6 := h.row.cell i 6 hlt (by omega)
        rw [hx] at d2 d4 d6
        exact ⟨d2, d4, d6⟩
      have hgw : g < w.heap.size := by
        have h := HL.out w (Mod.refl _ _)
        exact (h.own.lt g rfl).2
      clear hrec hxA hrg hcl hx hX hfr HL
      go_upto_if 19 with fail
      go_cut [6] (fun _ wx => SPX wx w.heap.size (sortStep X ⟨⟨xr, xk, xn, xp, xsy, xpl⟩, .slice so xsy.length sc, .slice po xpl.length pc, pl⟩) [] ∧ UpZ w.heap.size wr wx)
      case first =>
        cases xr
        · generalize hfd : findF X.heads xn = fd
          have FI : Hid (∀ W, (∃ X' v0 v1 v3 v4 sv, SPAt W w.heap.size X' v0 v1 (.slice a2 X.heads.length cp2) v3 v4 sv ∧ X'.heads = X.heads) → Calls Tryz.prog 41 #[.slice a2 X.heads.length cp2, .string xn] W fun e w' => e = .returned (.int .i64 fd) ∧ w' = W) := fun W ⟨X', v0, v1, v3, v4, sv, h, e⟩ => by
            have := h.own 2 _ rfl
            rw [e] at this
            rw [← hfd]
            exact zfind_any X.heads xn _ W (strsAt_own this) (by omega)
          have hfd0 : -1 ≤ fd ∧ fd ≤ 1000 := by
            rw [← hfd]; unfold findF; split <;> omega
          have HST : Hid (sortStep X ⟨⟨false, xk, xn, xp, xsy, xpl⟩, .slice so xsy.length sc, .slice po xpl.length pc, pl⟩ = ⟨X.rules, X.prods ++ [⟨⟨false, xk, xn, xp, xsy, xpl⟩, .slice so xsy.length sc, .slice po xpl.length pc, pl⟩], if fd < 0 then X.heads ++ [xn] else X.heads, X.head ++ [if fd < 0 then (X.heads.length : Int) else fd]⟩) := by
            unfold Hid sortStep
            rw [if_neg (by simp)]
            dsimp only
            rw [hfd]
          clear hfd
          obtain ⟨hfd1, hfd2⟩ := hfd0
          obtain ⟨v', w2, hrun, hown, hgrow, hblk⟩ := apS_mine (P := Tryz.prog) (wr.alloc (.cells (zlA false xk xn xp (.slice so xsy.length sc) (.slice po xpl.length pc) pl) 64)).drew (w.heap.size + 1) 52 52 64 iz _ 7 96 Tryz.underlying52 hiz hq0 hq1 hq2 rfl (by decide) (.slice a1 X.prods.length cp1) X.prods.length (flatC ZLV.cells X.prods) ((HX.out.own 1 _ rfl).alloc _) ⟨wr.heap.size, 0, none⟩ 1 1 (zlL false xk xn xp (.slice so xsy.length sc) (.slice po xpl.length pc) pl) rfl (new_cells rfl) (by intro u hu; exact (Array.all_eq_true_iff_forall_mem.1 (zl_one (r := false) (k := xk) (nm := xn) (pt := xp) (vs := .slice so xsy.length sc) (vp := .slice po xpl.length pc) (a := pl) rfl rfl)) u (by simpa using hu)) (by unfold maxLen; omega) (by omega) (by simp [World.drew]; omega)
          obtain ⟨a', cap', hv'⟩ := own_form hown
          have hbk := HX.out.blk_grown (((Mod.refl _ wr).alloc _).drew) (i := 1) rfl hgrow
          have hc2 : w2.cell? ⟨w.heap.size, 1, none⟩ = some (.slice a1 X.prods.length cp1) := cellOf hbk 1
          have hf2 := frozenOf hbk 1
          have HO2 := hid hown
          have HG2 := hid hgrow
          clear hown hgrow hbk
          subst hv'
          go_wp2_with fail
          go_region
          all_goals
            obtain ⟨h, U1⟩ := SPAt.add1 (x := ⟨⟨false, xk, xn, xp, xsy, xpl⟩, .slice so xsy.length sc, .slice po xpl.length pc, pl⟩) HX.out (((Mod.refl _ wr).alloc _).drew) HO2.out HG2.out hblk
            have HU1 := hid U1
            have hF1 := upz_fresh HF.out U1 (Nat.le_refl _)
            clear U1 HO2 HG2 hblk HX k0 k1 k2 k3 f0 f1 f2 f3 c0 c2 c4 c6 lz hrun
            generalize hWW : w2.setCell _ _ = W1 at h HU1 hF1 ⊢
            clear hWW hc2 hf2
            have k2 := SPAt.cell h 2
            simp at k2
            obtain ⟨c2, c4, c6⟩ := HC.out W1 hF1
            have hw1 := h.lt
            have H := hid h
            have HF1 := hid hF1
            clear h hF1
            go_wp2_with fail
            go_quiet (first | (go_at_call 41; refine Calls.quiet_of_same (FI.out _ ?_); exact ⟨_, _, _, _, _, _, H.out.fresh (fdrewZ _ _), rfl⟩))
            have h := H.out.fresh (fdrewZ W1 nq)
            have hF2 := HF1.out.trans (fdrewZ W1 nq)
            have hU2 := HU1.out.trans ((fdrewZ W1 nq).mono (T := fun k => w.heap.size ≤ k) (fun _ _ x => x.elim))
            generalize hWW : W1.drewN nq = W0 at h hF2 hU2 ⊢
            clear hWW H HF1 HU1 k2 hw1 c2 c4 c6 FI
            have HU := hid hU2
            have HF0 := hid hF2
            obtain ⟨c2, c4, c6⟩ := HC.out W0 hF2
            have H := hid h
            have hw0 := h.lt
            have k2 := SPAt.cell h 2
            have k3 := SPAt.cell h 3
            have f2 := SPAt.frozen h 2
            have f3 := SPAt.frozen h 3
            simp at k2 k3
            clear h hF2 hU2
            by_cases hf : fd < 0
            · have hf1 : fd = -1 := by omega
              have HST2 : Hid (sortStep X ⟨⟨false, xk, xn, xp, xsy, xpl⟩, .slice so xsy.length sc, .slice po xpl.length pc, pl⟩ = ⟨X.rules, X.prods ++ [⟨⟨false, xk, xn, xp, xsy, xpl⟩, .slice so xsy.length sc, .slice po xpl.length pc, pl⟩], X.heads ++ [xn], X.head ++ [(X.heads.length : Int)]⟩) := by
                unfold Hid; rw [HST.out, if_pos hf, if_pos hf]
              clear HST
              subst hf1
              obtain ⟨v9, w3, hrun, hown, hgrow, hblk⟩ := apS_mine (P := Tryz.prog) (W0.alloc (.cells #[.string xn] 9)).drew (w.heap.size + 1) 58 58 9 i0 _ 1 16 Tryz.underlying58 hi0 hz0 hz1 hz2 rfl (by decide) (.slice a2 X.heads.length cp2) X.heads.length (strs X.heads) ((H.out.own 2 _ rfl).alloc _) ⟨W0.heap.size, 0, none⟩ 1 1 [.string xn] rfl (new_cells rfl) (by intro u hu; simp at hu; subst hu; rfl) (by unfold maxLen; omega) (by omega) (by simp [World.drew]; omega)
              obtain ⟨a9, cap9, hv'⟩ := own_form hown
              have hbk := H.out.blk_grown (((Mod.refl _ W0).alloc _).drew) (i := 2) rfl hgrow
              have hc2 : w3.cell? ⟨w.heap.size, 2, none⟩ = some (.slice a2 X.heads.length cp2) := cellOf hbk 2
              have hf2 := frozenOf hbk 2
              have HO2 := hid hown
              have HG2 := hid hgrow
              clear hown hgrow hbk
              subst hv'
              go_wp2_with fail
              go_region
              all_goals
                obtain ⟨h, U1⟩ := SPAt.add2 (x := xn) H.out (((Mod.refl _ W0).alloc _).drew) HO2.out HG2.out hblk
                have HU1 := hid (HU.out.trans U1)
                clear U1 HO2 HG2 hblk H HU k2 k3 f2 f3 c2 c4 c6 hrun
                generalize hWW : w3.setCell _ _ = W5 at h HU1 ⊢
                clear hWW hc2 hf2
                have k3 := SPAt.cell h 3
                have f3 := SPAt.frozen h 3
                simp at k3
                have hw5 := h.lt
                have H := hid h
                clear h
                go_wp2_with (first
                  | (at_builtin; refine wpList_append_mine _ rfl _ _ 50 rfl (w.heap.size + 1) 3 i1 _ 1 8 Tryz.underlying50 hi1 hy0 hy1 hy2 rfl (by decide) (.slice a3 X.head.length cp3) X.head.length (ints X.head) rfl ((H.out.own 3 _ rfl).alloc _) ⟨W5.heap.size, 0, none⟩ 1 1 [.int .i64 (X.heads.length : Int)] rfl rfl (new_cells rfl) (by intro u hu; simp at hu; subst hu; rfl) (by unfold maxLen; omega) (by omega) (by simp; omega) ?_; intro v8 w6 hown hgrow hblk; obtain ⟨a8, c8, hv8⟩ := own_form hown; have hb8 := H.out.blk_grown ((Mod.refl _ W5).alloc _) (i := 3) rfl hgrow; have k6 : w6.cell? ⟨w.heap.size, 3, none⟩ = some (.slice a3 X.head.length cp3) := cellOf hb8 3; have k7 := frozenOf hb8 3; have FIN := hid (SPAt.add3 (x := (X.heads.length : Int)) H.out ((Mod.refl _ W5).alloc _) hown hgrow (by simpa using hblk)); clear hown hgrow hblk hb8; subst hv8))
                go_meet
                rw [HST2.out]
                exact ⟨⟨_, _, _, _, _, FIN.out.1⟩, HU1.out.trans FIN.out.2⟩
            · have hfnn : 0 ≤ fd := by omega
              have HST2 : Hid (sortStep X ⟨⟨false, xk, xn, xp, xsy, xpl⟩, .slice so xsy.length sc, .slice po xpl.length pc, pl⟩ = ⟨X.rules, X.prods ++ [⟨⟨false, xk, xn, xp, xsy, xpl⟩, .slice so xsy.length sc, .slice po xpl.length pc, pl⟩], X.heads, X.head ++ [fd]⟩) := by
                unfold Hid; rw [HST.out, if_neg hf, if_neg hf]
              clear HST
              go_wp2_with (first
                | (at_builtin; refine wpList_append_mine _ rfl _ _ 50 rfl (w.heap.size + 1) 3 i1 _ 1 8 Tryz.underlying50 hi1 hy0 hy1 hy2 rfl (by decide) (.slice a3 X.head.length cp3) X.head.length (ints X.head) rfl ((H.out.own 3 _ rfl).alloc _) ⟨W0.heap.size, 0, none⟩ 1 1 [.int .i64 fd] rfl rfl (new_cells rfl) (by intro u hu; simp at hu; subst hu; rfl) (by unfold maxLen; omega) (by omega) (by simp; omega) ?_; intro v8 w6 hown hgrow hblk; obtain ⟨a8, c8, hv8⟩ := own_form hown; have hb8 := H.out.blk_grown ((Mod.refl _ W0).alloc _) (i := 3) rfl hgrow; have k6 : w6.cell? ⟨w.heap.size, 3, none⟩ = some (.slice a3 X.head.length cp3) := cellOf hb8 3; have k7 := frozenOf hb8 3; have FIN := hid (SPAt.add3 (x := fd) H.out ((Mod.refl _ W0).alloc _) hown hgrow (by simpa using hblk)); clear hown hgrow hblk hb8; subst hv8))
              go_meet
              rw [HST2.out]
              exact ⟨⟨_, _, _, _, _, FIN.out.1⟩, HU.out.trans FIN.out.2⟩
        · obtain ⟨v', w2, hrun, hown, hgrow, hblk⟩ := apS_mine (P := Tryz.prog) (wr.alloc (.cells (zlA true xk xn xp (.slice so xsy.length sc) (.slice po xpl.length pc) pl) 64)).drew (w.heap.size + 1) 52 52 64 iz _ 7 96 Tryz.underlying52 hiz hq0 hq1 hq2 rfl (by decide) (.slice a0 X.rules.length cp0) X.rules.length (flatC ZLV.cells X.rules) ((HX.out.own 0 _ rfl).alloc _) ⟨wr.heap.size, 0, none⟩ 1 1 (zlL true xk xn xp (.slice so xsy.length sc) (.slice po xpl.length pc) pl) rfl (new_cells rfl) (by intro u hu; exact (Array.all_eq_true_iff_forall_mem.1 (zl_one (r := true) (k := xk) (nm := xn) (pt := xp) (vs := .slice so xsy.length sc) (vp := .slice po xpl.length pc) (a := pl) rfl rfl)) u (by simpa using hu)) (by unfold maxLen; omega) (by omega) (by simp [World.drew]; omega)
          obtain ⟨a', cap', hv'⟩ := own_form hown
          have hbk := HX.out.blk_grown (((Mod.refl _ wr).alloc _).drew) (i := 0) rfl hgrow
          have hc2 : w2.cell? ⟨w.heap.size, 0, none⟩ = some (.slice a0 X.rules.length cp0) := cellOf hbk 0
          have hf2 := frozenOf hbk 0
          have HO2 := hid hown
          have HG2 := hid hgrow
          clear hown hgrow hbk
          subst hv'
          go_wp2_with fail
          go_region
          all_goals
            go_wp2_with fail
            go_meet
            obtain ⟨q1, q2⟩ := SPAt.add0 (x := ⟨⟨true, xk, xn, xp, xsy, xpl⟩, .slice so xsy.length sc, .slice po xpl.length pc, pl⟩) HX.out (((Mod.refl _ wr).alloc _).drew) HO2.out HG2.out hblk
            exact ⟨⟨_, _, _, _, _, q1⟩, q2⟩
      case rest =>
        obtain ⟨⟨u0', u1', u2', u3', u4', h⟩, hU⟩ := hcut
        have hF2 := upz_fresh HF.out hU (Nat.le_refl _)
        have HF2 := hid hF2
        have hRE : Hid ((overZ (sortStep X ⟨⟨xr, xk, xn, xp, xsy, xpl⟩, .slice so xsy.length sc, .slice po xpl.length pc, pl⟩) ⟨⟨xr, xk, xn, xp, xsy, xpl⟩, .slice so xsy.length sc, .slice po xpl.length pc, pl⟩ = true → R = (sortStep X ⟨⟨xr, xk, xn, xp, xsy, xpl⟩, .slice so xsy.length sc, .slice po xpl.length pc, pl⟩, pl)) ∧ (overZ (sortStep X ⟨⟨xr, xk, xn, xp, xsy, xpl⟩, .slice so xsy.length sc, .slice po xpl.length pc, pl⟩) ⟨⟨xr, xk, xn, xp, xsy, xpl⟩, .slice so xsy.length sc, .slice po xpl.length pc, pl⟩ = false → SPbd (sortStep X ⟨⟨xr, xk, xn, xp, xsy, xpl⟩, .slice so xsy.length sc, .slice po xpl.length pc, pl⟩) ∧ sortL (sortStep X ⟨⟨xr, xk, xn, xp, xsy, xpl⟩, .slice so xsy.length sc, .slice po xpl.length pc, pl⟩) (xs.drop (i + 1)) = R)) := by
          refine ⟨fun q => ?_, fun q => ⟨sort_bd HBD.out q, ?_⟩⟩
          · have := HREC.out
            rw [sortL, if_pos q] at this; exact this.symm
          · have := HREC.out
            rw [sortL, if_neg (by rw [q]; simp)] at this; exact this
        clear HREC HBD bd0 bd1 bd2 bd3 HX k0 k1 k2 k3 f0 f1 f2 f3 c0 c2 c4 c6 lz hU
        generalize sortStep X ⟨⟨xr, xk, xn, xp, xsy, xpl⟩, .slice so xsy.length sc, .slice po xpl.length pc, pl⟩ = X2 at h hRE
        obtain ⟨c2, c4, c6⟩ := HC.out wc hF2
        have k0 := SPAt.cell h 0
        have k1 := SPAt.cell h 1
        have k2 := SPAt.cell h 2
        simp at k0 k1 k2
        obtain ⟨b0, cq0, hv0⟩ := own_form (h.own 0 _ rfl)
        obtain ⟨b1, cq1, hv1⟩ := own_form (h.own 1 _ rfl)
        obtain ⟨b2, cq2, hv2⟩ := own_form (h.own 2 _ rfl)
        dsimp only at hv0 hv1 hv2
        subst hv0 hv1 hv2
        have H := hid h
        have hwc := h.lt
        clear h hF2
        unfold overZ at hRE
        dsimp only at hRE
        -- the tests, one behind the other
        by_cases t0 : 8 < X2.rules.length
        · have i0' : (8 : Int) < (X2.rules.length : Int) := by omega
          have HR := hid (hRE.out.1 (by rw [decide_eq_true t0]; rfl))
          clear hRE
          go_wp2_with fail
          go_quiet (fail)
          go_wp2
          refine bodyPost_ret (results_tmp2 rfl _ _ _) rfl ⟨?_, ?_, HF2.out.trans (fdrewZ _ _)⟩
          · rw [HR.out]; rfl
          · rw [HR.out]; exact ⟨_, _, _, _, _, H.out.fresh (fdrewZ _ _)⟩
        · have i0' : ¬ (8 : Int) < (X2.rules.length : Int) := by omega
          have j0' : decide ((8 : Int) < (X2.rules.length : Int)) = false := by simpa using i0'
          by_cases t1 : 20 < X2.prods.length
          · have i1' : (20 : Int) < (X2.prods.length : Int) := by omega
            have HR := hid (hRE.out.1 (by rw [decide_eq_true t1]; simp))
            clear hRE
            go_wp2_with fail
            go_quiet (fail)
            go_wp2
            refine bodyPost_ret (results_tmp2 rfl _ _ _) rfl ⟨?_, ?_, HF2.out.trans (fdrewZ _ _)⟩
            · rw [HR.out]; rfl
            · rw [HR.out]; exact ⟨_, _, _, _, _, H.out.fresh (fdrewZ _ _)⟩
          · have i1' : ¬ (20 : Int) < (X2.prods.length : Int) := by omega
            by_cases t2 : 8 < X2.heads.length
            · have i2' : (8 : Int) < (X2.heads.length : Int) := by omega
              have HR := hid (hRE.out.1 (by rw [decide_eq_true t2]; simp))
              clear hRE
              go_wp2_with fail
              go_quiet (fail)
              go_wp2
              refine bodyPost_ret (results_tmp2 rfl _ _ _) rfl ⟨?_, ?_, HF2.out.trans (fdrewZ _ _)⟩
              · rw [HR.out]; rfl
              · rw [HR.out]; exact ⟨_, _, _, _, _, H.out.fresh (fdrewZ _ _)⟩
            · have i2' : ¬ (8 : Int) < (X2.heads.length : Int) := by omega
              by_cases t3 : 6 < xsy.length
              · have i3' : (6 : Int) < (xsy.length : Int) := by omega
                have HR := hid (hRE.out.1 (by rw [decide_eq_true t3]; simp))
                clear hRE
                go_wp2_with fail
                go_quiet (fail)
                go_wp2
                refine bodyPost_ret (results_tmp2 rfl _ _ _) rfl ⟨?_, ?_, HF2.out.trans (fdrewZ _ _)⟩
                · rw [HR.out]; rfl
                · rw [HR.out]; exact ⟨_, _, _, _, _, H.out.fresh (fdrewZ _ _)⟩
              · have i3' : ¬ (6 : Int) < (xsy.length : Int) := by omega
                have HR := hid (hRE.out.2 (by rw [decide_eq_false t0, decide_eq_false t1, decide_eq_false t2, decide_eq_false t3]; rfl))
                clear hRE
                go_wp2
                go_roundw
                case rel => exact ⟨i + 1, X2, by go_num, by omega, HR.out.2, HR.out.1, ⟨_, _, _, _, _, H.out⟩, HF2.out⟩
                case measure => exact hME.out
    · have hk1 : ¬ (i : Int) < (xs.length : Int) := by omega
      rw [List.drop_eq_nil_of_le (by omega)] at hrec
      have HREC := hid hrec
      clear hrec
      go_wp2
      refine bodyPost_ret (results_tmp2 rfl _ _ _) rfl ⟨?_, ?_, HF.out⟩
      · rw [← HREC.out]; rfl
      · rw [← HREC.out]; exact ⟨_, _, _, _, _, HX.out⟩
end Go.Proofs.YtcpgklcimacngaaGreat
