import Derived.Test.YtcaanpcediednaaRi5
import Derived.ChangeKeysEq
namespace Go.Proofs.Ytcaanpcediednaa
open Go.RowKit
set_option linter.unusedVariables false
set_option linter.unusedSimpArgs false

/-- the rules of both, side by side -/
structure RulesBy (lns : List Ln) (rs : List ZLV) : Prop where
  len : lns.length = rs.length
  at' : ∀ (k : Nat) (x : Ln) (z : ZLV), lns[k]? = some x → rs[k]? = some z → z.ln.skip = x.skip ∧ ∃ L, PatIs z.ln.pat L ∧ z.ln.pat.size ≤ 1000 ∧ ∀ t, ruleMatch x t = true ↔ L (bytesOf t)
def CutRet (R : List Tk × Int) (w : World) (e : Ending) (w' : World) : Prop :=
  ∃ v, e = .returned (.tuple #[v, .int .i64 R.2]) ∧ Fresh w w' ∧ w'.ownsRow w.heap.size 42 3 v R.1.length (flatC Tk.cells R.1)

theorem updN_one (gs : List Bool) (a r : Nat) (b : Int × Int) : updN gs a r b 1 = b := by
  unfold updN
  rw [if_neg (fun q => absurd q.1 (Nat.lt_irrefl _))]; rfl
theorem updN_s (gs : List Bool) (a r : Nat) (b : Int × Int) (n : Nat) : updN gs a r b (n + 1) = if 0 < n ∧ gs.getD n false = true ∧ (updN gs a r b n).2 < (a : Int) + n then ((r : Int), (a : Int) + n) else updN gs a r b n := rfl

set_option maxRecDepth 20000 in
set_option maxHeartbeats 4000000 in
theorem zcut_any (w : World) (b : Nat) (X : SP) (v0 v1 v2 v3 v4 : Value) (sv : List Value) (lns : List Ln) (t : ByteArray) (h : SPAt w b X v0 v1 v2 v3 v4 sv) (hR : RulesBy lns X.rules) (hn : X.rules.length ≤ 1000) (ht : t.size ≤ 200) :
    Calls Try.prog 11 #[.pointer (some ⟨b, 0, none⟩), .string t] w fun e w' => CutRet (zcutL lns t (t.size + 1) 0 []) w e w' := by
  obtain ⟨i0, hi0, hz0, hz1, hz2⟩ := infoTok'
  have HX := hid (fun w' (hf : Fresh w w') => h.fresh hf)
  have HR := hid hR
  have hbw := h.lt
  obtain ⟨a0, cp0, hv0⟩ := own_form (h.own 0 _ rfl)
  dsimp only at hv0
  subst hv0
  generalize hV : zcutL lns t (t.size + 1) 0 [] = V
  have HV := hid hV
  clear h hR hV
  go_enter Try.func11, Try.ntmps11
  go_wp2
  go_loopw [6, 7, 8, 9, 10, 11] (fun x6 x7 _ _ _ _ wr => ∃ (f a : Nat) (toks : List Tk), x7 = .int .i64 a ∧ a ≤ t.size ∧ t.size + 1 ≤ f + a ∧ toks.length ≤ a ∧ zcutL lns t f a toks = V ∧ wr.ownsRow w.heap.size 42 3 x6 toks.length (flatC Tk.cells toks) ∧ Fresh w wr)
      (fun _ x _ _ _ _ _ => 1001 - (intOf x).toNat)
  case atStart => exact ⟨t.size + 1, 0, [], rfl, by omega, by omega, by simp, HV.out, World.ownsRow_nil _ _ _ _, Mod.refl _ _⟩
  case round =>
    obtain ⟨f, a, toks, rfl, ha, hf, htl, hrec, hown, hfr⟩ := hrel
    obtain ⟨f, rfl⟩ : ∃ g, f = g + 1 := ⟨f - 1, by omega⟩
    rw [zcutL_s] at hrec
    obtain ⟨wo, hwo⟩ : ∃ wo, wo = wr := ⟨_, rfl⟩
    subst hwo
    have HO := hid hown
    have HF := hid hfr
    obtain ⟨ao, cap, hv⟩ := own_form hown
    subst hv
    have hsz := hfr.size
    clear HV hown
    by_cases hlt : a < t.size
    · have k1 : (a : Int) < (t.size : Int) := by omega
      rw [if_pos hlt] at hrec
      obtain ⟨b1, b2, b3, b4⟩ := best_le (lns := lns) (t := t) (i := a) ha
      generalize hbb : bestF lns t a = bb at hrec b1 b2 b3 b4
      have HBB : Hid (bestL lns t a (lns.length + 1) 0 (0, (a : Int)) = bb) := hbb
      have HRC := hid hrec
      clear hbb hrec hfr
      go_wp2_with (first
        | (refine wpList_store_new rfl 42 _ _ rfl wo _ _ _ rfl rfl rfl szTok rfl (all_oneCell_toArray (cs := [.int .i64 0, .int .i64 a, .int .i64 a]) (by intro v hv; simp at hv; rcases hv with rfl | rfl <;> rfl)) ?_))
      go_loopw [9, 10, 11] (fun x9 _ _ wr => ∃ (g r : Nat) (q : Int × Int), x9 = .int .i64 r ∧ r ≤ lns.length ∧ lns.length + 1 ≤ g + r ∧ (a : Int) ≤ q.2 ∧ q.2 ≤ t.size ∧ bestL lns t a g r q = bb ∧ wr.heap[wo.heap.size]? = some (.cells (tokArr q.1 a q.2) 42 (0, 0)) ∧ Fresh wo wr)
          (fun x _ _ _ => 1001 - (intOf x).toNat)
      case atStart => exact ⟨lns.length + 1, 0, (0, (a : Int)), rfl, by omega, by omega, by dsimp only; omega, by dsimp only; omega, HBB.out, heap_alloc_at _ _, (Mod.refl _ wo).alloc _⟩
      case round =>
        obtain ⟨g, r, q, rfl, hr, hg, hq1, hq2, hrec, hblk, hfr⟩ := hrel
        obtain ⟨g, rfl⟩ : ∃ k, g = k + 1 := ⟨g - 1, by omega⟩
        rw [bestL_s] at hrec
        obtain ⟨wp, hwp⟩ : ∃ wp, wp = wr := ⟨_, rfl⟩
        subst hwp
        have HB := hid hblk
        have HFP := hid hfr
        have HFW : Hid (Fresh w wp) := HF.out.trans hfr
        have hX := HX.out wp HFW.out
        have k0 := SPAt.cell hX 0
        simp at k0
        have hbp := hX.lt
        have hlen := HR.out.len
        have hwp2 := heap_lt hblk
        clear HBB
        by_cases hrl : r < lns.length
        · have hrl' : r < X.rules.length := by omega
          have k2 : (r : Int) < (X.rules.length : Int) := by omega
          rw [List.getElem?_eq_getElem hrl] at hrec
          dsimp only at hrec
          obtain ⟨y1, L, y2, y3, y4⟩ := HR.out.at' r _ _ (List.getElem?_eq_getElem hrl) (List.getElem?_eq_getElem hrl')
          have hRw := SPAt.rules hX
          obtain ⟨gg, cap', hv⟩ := Joins.ownsRow_form hRw.own (by omega)
          rw [Value.slice.injEq] at hv
          obtain ⟨rfl, _, rfl⟩ := hv
          have c3 := hRw.cell r 3 hrl' (by omega)
          have hgl := (hRw.own.lt gg rfl).2
          have hsz2 := part_size (s := t) (a := a) (e := t.size) (Nat.le_refl _)
          have LX := hid (fun W => zlengths_any X.rules[r].ln.pat (t.extract a t.size) L W y3 (by omega) y2)
          have HUP := hid (fun (gs : List Bool) (h1 : gs.length = (t.extract a t.size).size + 1) h2 => upd_is (r := r) (b := q) ha y4 h1 h2 hq1)
          generalize X.rules[r] = x at c3 LX y1 y2 y3
          obtain ⟨⟨xr, xk, xn, xp, xsy, xpl⟩, vs, vp, pl2⟩ := x
          simp [ZLV.cells] at c3
          dsimp only at LX
          have HRC2 := hid hrec
          have HSZ2 := hid hsz2
          clear y1 y2 y3 y4 hRw hX hlen hrec hsz2 hfr
          go_upto_region 8 with fail
          go_cut [10] (fun x10 wx => ∃ (g9 : Nat) (gs : List Bool), x10 = bsl g9 (t.size - a + 1) ∧ Fresh wp wx ∧ BSet wx g9 gs ∧ gs.length = (t.extract a t.size).size + 1 ∧ ∀ j, j ≤ (t.extract a t.size).size → (On gs j ↔ L (bytesK (t.extract a t.size) 0 j)))
          case first =>
            go_region_with (first
              | (go_at_call 22; refine (LX.out _).mono ?_; rintro e w1 ⟨g9, gs, rfl, q1, q2, q3, q4⟩; have HN := hid (And.intro q1 (And.intro q2 (And.intro q3 q4))); clear q1 q2 q3 q4))
            all_goals
              go_wp2_with fail
              go_meet
              exact ⟨g9, gs, rfl, (Mod.refl _ wp).drew.trans HN.out.1, HN.out.2⟩
          case rest =>
            obtain ⟨g9, gs, rfl, hfx, hbs, hgl2, hgo⟩ := hcut
            have HBC := hid (hfx.at HB.out (fun x => x))
            have hne : g9 ≠ wo.heap.size := by
              intro e
              have c := hbs.cell (j := 0) (by omega)
              rw [e, cellOf HBC.out 0] at c
              simp at c
            have hne2 : wo.heap.size ≠ g9 := fun e => hne e.symm
            have HUG := hid (HUP.out gs hgl2 hgo)
            rw [HSZ2.out] at hgl2
            have HGL := hid hgl2
            have HBS := hid hbs
            have HFX : Hid (Fresh wo wc) := HFP.out.trans hfx
            have hq9 := hbs.lt
            have hK9 := heap_lt HBC.out
            have lb := longF_bd lns[r].ns lns[r].st lns[r].en t a
            generalize longF lns[r].ns lns[r].st lns[r].en t a = far at HUG HRC2 lb
            clear HB HFP HFW hfx hbs hgl2 hgo LX HUP c3 k0 HSZ2
            obtain ⟨q1, q2⟩ := q
            dsimp only at hq1 hq2 HRC2 HUG HBC
            go_wp2_with fail
            go_loopw [11] (fun x11 wr => ∃ n : Nat, x11 = .int .i64 n ∧ 1 ≤ n ∧ n ≤ t.size - a + 1 ∧ wr.heap[wo.heap.size]? = some (.cells (tokArr (updN gs a r (q1, q2) n).1 a (updN gs a r (q1, q2) n).2) 42 (0, 0)) ∧ BSet wr g9 gs ∧ Fresh wo wr)
                (fun x _ => 1001 - (intOf x).toNat)
            case atStart => exact ⟨1, rfl, by omega, by omega, by rw [updN_one]; exact HBC.out, HBS.out, HFX.out⟩
            case round =>
              obtain ⟨n, rfl, hn1, hn2, hblk, hbs, hfr⟩ := hrel
              have HBC2 := hid hblk
              have HBS2 := hid hbs
              have HFR := hid hfr
              have hgB := hbs.lt
              have hKB := heap_lt hblk
              clear HBC HBS HFX
              by_cases hnl : n < t.size - a + 1
              · have k5 : (n : Int) < ((t.size - a + 1 : Nat) : Int) := by omega
                have k6 : (n : Int) < ((t.size - a : Nat) : Int) + 1 := by omega
                have c1 := hbs.cell (j := n) (by rw [HGL.out]; exact hnl)
                have c2 : wr.cell? ⟨wo.heap.size, 2, none⟩ = some (.int .i64 (updN gs a r (q1, q2) n).2) := cellOf hblk 2
                have HU := hid (updN_s gs a r (q1, q2) n)
                have hlen9 := HGL.out
                generalize updN gs a r (q1, q2) n = u at c2 HU HBC2
                obtain ⟨u1, u2⟩ := u
                dsimp only at c2 HU HBC2
                generalize gs.getD n false = gn at c1 HU
                clear hblk hbs hfr hlen9
                cases gn
                · have HU2 : Hid (updN gs a r (q1, q2) (n + 1) = (u1, u2)) := by unfold Hid; rw [HU.out, if_neg (fun q => by simp at q)]
                  clear HU
                  go_wp2
                  go_roundw
                  case rel => exact ⟨n + 1, by go_num, by omega, by omega, by rw [HU2.out]; exact HBC2.out, HBS2.out, HFR.out⟩
                  case measure => simp [intOf]; omega
                · by_cases hgt : u2 < (a : Int) + n
                  · have HU2 : Hid (updN gs a r (q1, q2) (n + 1) = ((r : Int), (a : Int) + n)) := by unfold Hid; rw [HU.out, if_pos ⟨by omega, rfl, hgt⟩]
                    clear HU
                    go_wp2_with (first
                      | (refine wpList_store_row rfl 42 _ _ rfl wo.heap.size (tokArr r a ((a : Int) + n)) rfl rfl _ _ HBC2.out szTok rfl (all_oneCell_toArray (cs := [.int .i64 r, .int .i64 a, .int .i64 ((a : Int) + n)]) (by intro v hv; simp at hv; rcases hv with rfl | rfl | rfl <;> rfl)) ?_))
                    go_roundw
                    case rel => exact ⟨n + 1, by go_num, by omega, by omega, by rw [HU2.out]; exact setRow_heap _ _ _ _ _ _ HBC2.out, heap_setRow_prev HBS2.out hne, HFR.out.setRow (fun q => absurd q (Nat.lt_irrefl _)) _⟩
                    case measure => simp [intOf]; omega
                  · have HU2 : Hid (updN gs a r (q1, q2) (n + 1) = (u1, u2)) := by unfold Hid; rw [HU.out, if_neg (fun q => hgt q.2.2)]
                    clear HU
                    go_wp2
                    go_roundw
                    case rel => exact ⟨n + 1, by go_num, by omega, by omega, by rw [HU2.out]; exact HBC2.out, HBS2.out, HFR.out⟩
                    case measure => simp [intOf]; omega
              · have k5 : ¬ (n : Int) < ((t.size - a + 1 : Nat) : Int) := by omega
                have k6 : ¬ (n : Int) < ((t.size - a : Nat) : Int) + 1 := by omega
                have hne9 : n = gs.length := by rw [HGL.out]; omega
                have HB9 : Hid (wr.heap[wo.heap.size]? = some (.cells (tokArr (if q2 < far then ((r : Int), far) else (q1, q2)).1 a (if q2 < far then ((r : Int), far) else (q1, q2)).2) 42 (0, 0))) := by
                  unfold Hid
                  rw [← HUG.out, ← hne9]; exact HBC2.out
                clear hne9 hblk HUG HBC2 hbs hfr
                go_wp2
                go_roundw
                case rel =>
                  refine ⟨g, r + 1, _, by go_num, by omega, by omega, ?_, ?_, HRC2.out, HB9.out, HFR.out⟩
                  · split <;> (try dsimp only) <;> omega
                  · split <;> (try dsimp only) <;> omega
                case measure => simp [intOf]; omega
        · have hrl' : ¬ (r : Int) < (X.rules.length : Int) := by omega
          rw [List.getElem?_eq_none (by omega)] at hrec
          dsimp only at hrec
          subst hrec
          have c2 : wp.cell? ⟨wo.heap.size, 2, none⟩ = some (.int .i64 q.2) := cellOf hblk 2
          obtain ⟨q1, q2⟩ := q
          dsimp only at hq1 hq2 c2 HRC HB b1 b2 b3 b4
          have HOP := hid (ownsRow_other (w' := wp) HO.out (fun g hg => hfr.block g (HO.out.lt g hg).2 (fun x => x)))
          clear hX hlen hblk hfr
          by_cases hqa : q2 ≤ (a : Int)
          · have hqe : q2 = (a : Int) := by omega
            have k5 : (q2 == (a : Int)) = true := by simp [hqe]
            have HRC2 : Hid (V = ([], (a : Int))) := by
              have := HRC.out
              rw [if_pos hqa] at this; exact this.symm
            clear hqe HRC
            go_wp2
            refine bodyPost_ret (results_tmp2 rfl _ _ _) rfl ⟨.slice none 0 0, by rw [HRC2.out]; rfl, HFW.out, by rw [HRC2.out]; exact World.ownsRow_nil _ _ _ _⟩
          · have k5 : (q2 == (a : Int)) = false := by simp; omega
            have HRC2 : Hid (zcutL lns t f q2.toNat (toks ++ [⟨q1, (a : Int), q2⟩]) = V) := by
              have := HRC.out
              rw [if_neg hqa] at this; exact this
            obtain ⟨m, rfl⟩ : ∃ m : Nat, q2 = m := ⟨q2.toNat, by omega⟩
            rw [Int.toNat_natCast] at HRC2
            clear HRC
            go_wp2_with (first
              | (refine wpList_load_row rfl 42 _ rfl wo.heap.size rfl _ (tokArr q1 a m) _ _ HB.out Try.underlying42 rfl szTok ?_)
              | (at_builtin; refine wpList_append_mine _ rfl _ _ 22 rfl w.heap.size 42 i0 _ 3 24 Try.underlying22 hi0 hz0 hz1 hz2 rfl (by decide) _ _ _ rfl (HOP.out.alloc _) ⟨wp.heap.size, 0, none⟩ 1 1 [.int .i64 q1, .int .i64 a, .int .i64 m] rfl rfl (new_cells rfl) (by intro u hu; simp at hu; rcases hu with rfl | rfl | rfl <;> rfl) (by unfold maxLen; omega) (by omega) (by have := HFW.out.size; simp; omega) ?_; intro v' w2 hown2 hgrow hblk; have c9 : w2.cell? ⟨wo.heap.size, 2, none⟩ = some (.int .i64 m) := (by have hh : w2.heap[wo.heap.size]? = some (.cells (tokArr q1 a m) 42 (0, 0)) := (by rw [hgrow.block _ (by simp; omega) (fun e => by have := (HO.out.lt _ e.symm).2; omega), heap_alloc_old' hwp2]; exact HB.out); exact cellOf hh 2); have fr2 : Fresh w w2 := Mod.grown (S := fun _ => False) (HFW.out.alloc _) hgrow (fun k hk hlt => by have := (HO.out.lt k hk).1; omega); have HO2 := hid hown2; have HF2 := hid fr2; clear hown2 hgrow hblk fr2))
            go_roundw
            case rel =>
              refine ⟨f, m, toks ++ [⟨q1, (a : Int), (m : Int)⟩], rfl, by omega, by omega, by simp; omega, HRC2.out, ?_, HF2.out⟩
              rw [flat_snoc, List.length_append, List.length_singleton]; exact HO2.out
            case measure => simp [intOf]; omega
    · have k1 : ¬ (a : Int) < (t.size : Int) := by omega
      rw [if_neg hlt] at hrec
      have HRC := hid hrec
      clear hrec
      go_wp2
      refine bodyPost_ret (results_tmp2 rfl _ _ _) rfl ⟨_, by rw [← HRC.out]; rfl, HF.out, by rw [← HRC.out]; exact HO.out⟩
end Go.Proofs.Ytcaanpcediednaa
namespace Go.Proofs.Ytcaanpcediednaa
open Go.RowKit
set_option linter.unusedVariables false
set_option linter.unusedSimpArgs false

theorem rangeAt_blockZ {w w' : World} {g o : Nat} {cs : List Value} (h : w.rangeAt g o cs) (hb : w'.heap[g]? = w.heap[g]?) : w'.rangeAt g o cs := fun j v hj => by
  have := h j v hj
  unfold World.cell? at this ⊢
  dsimp only at this ⊢
  rw [hb]; exact this
theorem zcutL_ok (lns : List Ln) (t : ByteArray) : ∀ (f i : Nat) (toks : List Tk), i ≤ t.size → toks.length ≤ i → (∀ k ∈ toks, 0 ≤ k.r ∧ k.r < lns.length) → (∀ k ∈ (zcutL lns t f i toks).1, 0 ≤ k.r ∧ k.r < lns.length) ∧ (zcutL lns t f i toks).1.length ≤ t.size ∧ -1 ≤ (zcutL lns t f i toks).2
  | 0, i, toks, hi, hl, h => by simp [zcutL]
  | f + 1, i, toks, hi, hl, h => by
    obtain ⟨b1, b2, b3, b4⟩ := best_le (lns := lns) hi
    rw [zcutL_s]
    split
    · split
      · refine ⟨fun k hk => by (cases hk), by simp, by dsimp only; omega⟩
      · rename_i c1 c2
        refine zcutL_ok lns t f _ _ (by omega) (by simp; omega) (fun k hk => ?_)
        rcases List.mem_append.1 hk with hk | hk
        · exact h k hk
        · simp at hk; subst hk; exact ⟨b3, b4 (by omega)⟩
    · exact ⟨h, by dsimp only; omega, by simp⟩

def ldKz (v : Value) : Sem Value := Instr.loadAt 42 v
theorem ldKz_rule (v : Value) : Instr.loadAt 42 v = ldKz v := rfl
theorem ldKz_mid {w : World} {g o : Nat} {p k a : Int} (hr : w.rangeAt g o [.int .i64 p, .int .i64 k, .int .i64 a]) : (ldKz (.pointer (some ⟨g, o, none⟩))).run Try.prog w = .ok (.agg (tokArr p k a)) w :=
  run_loadAt_mid w g o _ _ _ hr Try.underlying42 rfl szTok
theorem isAggIz (w : World) : (isAgg 3).run Try.prog w = .ok false w := by
  unfold isAgg; rw [Sem.run_bind, run_underlying Try.underlying3]; rfl
theorem partIz (xs : Array Value) (i : Nat) (v : Value) (h : xs[i]? = some v) (w : World) : (part 3 xs i).run Try.prog w = .ok v w := by
  simp [part, isAggIz, h]
theorem stoodToz : Try.prog.stoodInHeld 42 = false := by kernel_rfl
theorem guardToz : Try.prog.eqGuardType Try.prog.depth 42 = false := by kernel_rfl
theorem eqToz (d : Nat) (h t a : Int) (w : World) : (Op.equalIn (d + 4) 42 (.agg (tokArr h t a)) (.agg (tokArr h t a))).run Try.prog w = .ok true w := by
  rw [run_equalIn_struct w (d + 3) _ _ _ (by kernel_rfl) stoodToz]
  have hf : ((Try.prog.fieldsOf 42).toList.map fun f => (f.name, f.type, f.offset)) = [("Rule", 3, 0), ("From", 3, 1), ("To", 3, 2)] := by kernel_rfl
  generalize (Try.prog.fieldsOf 42).toList = fs at hf
  rcases fs with _ | ⟨f0, _ | ⟨f1, _ | ⟨f2, _ | ⟨f3, fs⟩⟩⟩⟩ <;> simp at hf
  obtain ⟨⟨n0, t0, o0⟩, ⟨n1, t1, o1⟩, ⟨n2, t2, o2⟩⟩ := hf
  simp only [Op.eqFields, n0, t0, o0, n1, t1, o1, n2, t2, o2]
  simp [partIz, run_equalIn_int w (d + 2) 3 .i64 _ _ _ Try.underlying3]

attribute [local go_sem ↓] ldKz_rule
set_option maxRecDepth 20000 in
set_option maxHeartbeats 2000000 in
theorem zsameTokens_any (w : World) (va vb : Value) (la : List Tk) (ha : ToksAt w va la) (hb : ToksAt w vb la) (hl : la.length ≤ 100000) :
    Calls Try.prog 6 #[va, vb] w fun e w' => e = .returned (.bool true) ∧ Fresh w w' := by
  obtain ⟨aa, ca, hva⟩ := own_form ha.own
  subst hva
  obtain ⟨ab, cb, hvb⟩ := own_form hb.own
  subst hvb
  have HA := hid ha
  have HB := hid hb
  clear ha hb
  go_enter Try.func6, Try.ntmps6
  go_wp2
  go_loopw [5] (fun x5 wr => ∃ (i : Nat), x5 = .int .i64 i ∧ i ≤ la.length ∧ ∃ m, wr = w.drewN m)
    (fun x _ => 100001 - (intOf x).toNat)
  case atStart => exact ⟨0, rfl, by omega, 0, rfl⟩
  case round =>
    obtain ⟨i, rfl, hi, m, hfr⟩ := hrel
    subst hfr
    have HFR : Hid (∀ m, Fresh w (w.drewN m)) := fun m => fdrewZ w m
    have HME := hid (meas (B := 100001) i (by omega))
    by_cases hlt : i < la.length
    · have hi1 : (i : Int) < (la.length : Int) := by omega
      obtain ⟨g, c', hg⟩ := Joins.ownsRow_form HA.out.own (by omega)
      rw [Value.slice.injEq] at hg
      obtain ⟨rfl, _, rfl⟩ := hg
      obtain ⟨g2, c2', hg2⟩ := Joins.ownsRow_form HB.out.own (by omega)
      rw [Value.slice.injEq] at hg2
      obtain ⟨rfl, _, rfl⟩ := hg2
      have r1 := HA.out.range i hlt
      have r2 := HB.out.range i hlt
      generalize la[i] = li at r1 r2
      obtain ⟨p, k, a⟩ := li
      have l1 : ∀ m, (ldKz (.pointer (some ⟨g, i * 3, none⟩))).run Try.prog (w.drewN m) = .ok (.agg (tokArr p k a)) (w.drewN m) := fun m => ldKz_mid (w := w.drewN m) (rangeAt_blockZ r1 rfl)
      have l2 : ∀ m, (ldKz (.pointer (some ⟨g2, i * 3, none⟩))).run Try.prog (w.drewN m) = .ok (.agg (tokArr p k a)) (w.drewN m) := fun m => ldKz_mid (w := w.drewN m) (rangeAt_blockZ r2 rfl)
      have q1 : ∀ w, (Op.equalIn 10000 42 (.agg (tokArr p k a)) (.agg (tokArr p k a))).run Try.prog w = .ok true w := fun w => eqToz 9996 p k a w
      have g1 := guardToz
      clear r1 r2
      go_wp2_with fail
      go_quiet (fail)
      go_wp2
      go_roundw
      case rel => exact ⟨i + 1, by go_num, by omega, _, rfl⟩
      case measure => exact HME.out
    · have hi2 : ¬ (i : Int) < (la.length : Int) := by omega
      go_wp2
      go_ret
      exact ⟨rfl, HFR.out _⟩

set_option maxRecDepth 20000 in
set_option maxHeartbeats 2000000 in
theorem zkept_any (w : World) (b B0 : Nat) (X : SP) (v0 v1 v2 v3 v4 v : Value) (sv : List Value) (lns : List Ln) (toks : List Tk) (h : SPAt w b X v0 v1 v2 v3 v4 sv) (hR : RulesBy lns X.rules) (hn : X.rules.length ≤ 1000) (ht : toks.length ≤ 1000)
    (hT : w.ownsRow B0 42 3 v toks.length (flatC Tk.cells toks)) (hok : ∀ k ∈ toks, 0 ≤ k.r ∧ k.r < lns.length) :
    Calls Try.prog 12 #[.pointer (some ⟨b, 0, none⟩), v] w fun e w' => ∃ v', e = .returned v' ∧ Fresh w w' ∧ ToksAt w' v' (toks.filter fun k => !skipB lns k.r) := by
  obtain ⟨i0, hi0, hz0, hz1, hz2⟩ := infoTok'
  have HX := hid (fun w' (hf : Fresh w w') => h.fresh hf)
  have HR := hid hR
  have hbw := h.lt
  obtain ⟨a0, cp0, hv0⟩ := own_form (h.own 0 _ rfl)
  dsimp only at hv0
  subst hv0
  obtain ⟨ao, cap, hv⟩ := own_form hT
  have HTA : Hid (∀ w', Fresh w w' → ToksAt w' v toks) := fun w' hf => ⟨ownsRow_base (ownsRow_other hT (fun g hg => hf.block g (hT.lt g hg).2 (fun x => x))) (Nat.zero_le _), fun x _ => rfl⟩
  have HOK := hid hok
  subst hv
  clear h hR hT hok
  go_enter Try.func12, Try.ntmps12
  go_wp2
  go_loopw [5, 6] (fun x5 x6 wr => ∃ (i : Nat), x6 = .int .i64 i ∧ i ≤ toks.length ∧ wr.ownsRow w.heap.size 42 3 x5 ((toks.take i).filter fun k => !skipB lns k.r).length (flatC Tk.cells ((toks.take i).filter fun k => !skipB lns k.r)) ∧ Fresh w wr)
      (fun _ x _ => 1001 - (intOf x).toNat)
  case atStart => exact ⟨0, rfl, by omega, World.ownsRow_nil _ _ _ _, Mod.refl _ _⟩
  case round =>
    obtain ⟨i, rfl, hi, hown, hfr⟩ := hrel
    have HO := hid hown
    have HF := hid hfr
    obtain ⟨ro, rc, hro⟩ := own_form hown
    subst hro
    have hX := HX.out wr hfr
    have k0 := SPAt.cell hX 0
    simp at k0
    have hbp := hX.lt
    have hME : Hid (1001 - (intOf (.int .i64 ((i : Int) + 1))).toNat < 1001 - (intOf (.int .i64 (i : Int))).toNat) := by unfold Hid; simp [intOf]; omega
    have hfl : ((toks.take i).filter fun k => !skipB lns k.r).length ≤ 1000 := by
      have := List.length_filter_le (fun k : Tk => !skipB lns k.r) (toks.take i)
      have := List.length_take_le i toks
      omega
    clear hown
    by_cases hlt : i < toks.length
    · have k1 : (i : Int) < (toks.length : Int) := by omega
      have hTa := HTA.out wr hfr
      obtain ⟨g, c', hg⟩ := Joins.ownsRow_form hTa.own (by omega)
      rw [Value.slice.injEq] at hg
      obtain ⟨rfl, _, rfl⟩ := hg
      have htk : (toks.take (i + 1)).filter (fun k => !skipB lns k.r) = ((toks.take i).filter fun k => !skipB lns k.r) ++ (if skipB lns toks[i].r = true then [] else [toks[i]]) := by
        rw [List.take_add_one, List.getElem?_eq_getElem hlt, List.filter_append]
        simp only [Option.toList_some, List.filter_cons, List.filter_nil]
        cases skipB lns toks[i].r <;> simp
      obtain ⟨o1, o2⟩ := HOK.out toks[i] (by simp)
      have t0 := hTa.cell i 0 hlt (by omega)
      have trg := hTa.range i hlt
      have htg := (hTa.own.lt g rfl).2
      generalize toks[i] = tk at htk o1 o2 t0 trg
      obtain ⟨tr, ta, tb⟩ := tk
      dsimp only at o1 o2 htk
      simp [Tk.cells] at t0
      obtain ⟨r, rfl⟩ : ∃ r : Nat, tr = r := ⟨tr.toNat, by omega⟩
      have hrl : r < lns.length := by omega
      have hrl' : r < X.rules.length := by have := HR.out.len; omega
      have k2 : (r : Int) < (X.rules.length : Int) := by omega
      have hRw := SPAt.rules hX
      obtain ⟨gg, cap', hv⟩ := Joins.ownsRow_form hRw.own (by omega)
      rw [Value.slice.injEq] at hv
      obtain ⟨rfl, _, rfl⟩ := hv
      have c1 := hRw.cell r 1 hrl' (by omega)
      have hgl := (hRw.own.lt gg rfl).2
      obtain ⟨y1, _⟩ := HR.out.at' r _ _ (List.getElem?_eq_getElem hrl) (List.getElem?_eq_getElem hrl')
      have hsk : skipB lns (r : Int) = X.rules[r].ln.skip := by
        unfold skipB
        rw [if_neg (by omega), Int.toNat_natCast, List.getElem?_eq_getElem hrl]
        exact y1.symm
      rw [hsk] at htk
      generalize X.rules[r] = x at c1 htk
      obtain ⟨⟨xr, xk, xn, xp, xsy, xpl⟩, vs, vp, pl2⟩ := x
      simp [ZLV.cells] at c1
      dsimp only at htk
      have HTK := hid htk
      have HRG := hid trg
      clear y1 hsk htk hRw hX hTa trg hfr
      cases xk
      · have HT2 : Hid ((toks.take (i + 1)).filter (fun k => !skipB lns k.r) = ((toks.take i).filter fun k => !skipB lns k.r) ++ [⟨(r : Int), ta, tb⟩]) := by
          unfold Hid; rw [HTK.out, if_neg (by simp)]
        clear HTK
        generalize (toks.take i).filter (fun k => !skipB lns k.r) = fl at HO HT2 hfl
        go_wp2_with fail
        go_quiet (fail)
        have HO3 : Hid ((wr.drewN nq).ownsRow w.heap.size 42 3 (.slice ro fl.length rc) fl.length (flatC Tk.cells fl)) := HO.out
        have HR3 : Hid ((wr.drewN nq).rangeAt g (i * 3) [.int .i64 r, .int .i64 ta, .int .i64 tb]) := rangeAt_blockZ HRG.out rfl
        have HF3 : Hid (Fresh w (wr.drewN nq)) := HF.out.trans (fdrewZ _ _)
        generalize hWW : wr.drewN nq = W3 at HO3 HR3 HF3 ⊢
        clear hWW HO HRG HF
        have hs3 := HF3.out.size
        go_wp2_with (first
          | (refine wpList_load_mid rfl 42 _ rfl g (i * 3) rfl [.int .i64 r, .int .i64 ta, .int .i64 tb] _ HR3.out Try.underlying42 rfl szTok ?_)
          | (at_builtin; refine wpList_append_mine _ rfl _ _ 22 rfl w.heap.size 42 i0 _ 3 24 Try.underlying22 hi0 hz0 hz1 hz2 rfl (by decide) _ _ _ rfl (HO3.out.alloc _) ⟨W3.heap.size, 0, none⟩ 1 1 [.int .i64 r, .int .i64 ta, .int .i64 tb] rfl rfl (new_cells rfl) (by intro u hu; simp at hu; rcases hu with rfl | rfl | rfl <;> rfl) (by unfold maxLen; omega) (by omega) (by simp; omega) ?_; intro v' w2 hown2 hgrow hblk; have fr2 : Fresh w w2 := Mod.grown (S := fun _ => False) (HF3.out.alloc _) hgrow (fun k hk hlt => by have := (HO3.out.lt k hk).1; omega); have HO2 := hid hown2; have HF2 := hid fr2; clear hown2 hgrow hblk fr2))
        go_roundw
        case rel =>
          refine ⟨i + 1, by go_num, by omega, ?_, HF2.out⟩
          rw [HT2.out, flat_snoc, List.length_append, List.length_singleton]; exact HO2.out
        case measure => exact hME.out
      · have HT2 : Hid ((toks.take (i + 1)).filter (fun k => !skipB lns k.r) = (toks.take i).filter (fun k => !skipB lns k.r)) := by
          unfold Hid; rw [HTK.out, if_pos rfl, List.append_nil]
        clear HTK
        generalize (toks.take i).filter (fun k => !skipB lns k.r) = fl at HO HT2 hfl
        go_wp2_with fail
        go_quiet (fail)
        go_wp2
        go_roundw
        case rel =>
          refine ⟨i + 1, by go_num, by omega, ?_, HF.out.trans (fdrewZ _ _)⟩
          rw [HT2.out]; exact HO.out
        case measure => exact hME.out
    · have k1 : ¬ (i : Int) < (toks.length : Int) := by omega
      have hte : toks.take i = toks := List.take_of_length_le (by omega)
      have HTE := hid hte
      clear hte hX
      generalize hfx : (toks.take i).filter (fun k => !skipB lns k.r) = fl at HO hfl
      have HFX := hid hfx
      clear hfx
      go_wp2
      go_ret
      refine ⟨_, rfl, HF.out, ?_⟩
      rw [HTE.out] at HFX
      rw [HFX.out]
      exact ⟨ownsRow_base HO.out (Nat.zero_le _), fun x _ => rfl⟩
end Go.Proofs.Ytcaanpcediednaa
