import Derived.Test.YtolpddkpfigidaaCk4
namespace Go.Proofs.Ytolpddkpfigidaa
open Go.RowKit
set_option linter.unusedVariables false
set_option linter.unusedSimpArgs false

abbrev lnList (p a b c d e f g k : Int) (sk : Bool) (vn : Value) (st en : Int) (vs : Value) : List Value := [.int .i64 p, .int .u8 a, .int .u8 b, .int .u8 c, .int .u8 d, .int .u8 e, .int .u8 f, .int .u8 g, .int .u8 k, .bool sk, vn, .int .i64 st, .int .i64 en, vs]

set_option maxRecDepth 20000 in
set_option maxHeartbeats 8000000 in
theorem rules_any (w : World) (v : Value) (xs : List LV) (hL : LinesAt w v xs) (hn : xs.length ≤ 1000) (hfb : ∀ x ∈ xs, FB x) :
    Calls Try.prog 57 #[v] w fun e w' => ∃ v', e = .returned v' ∧ LinesAt w' v' (xs.filter fun x => ruleB x.ln) ∧ Fresh w w' := by
  obtain ⟨ao, cap, hv⟩ := own_form hL.own
  subst hv
  have HL := hid hL
  have HFB := hid hfb
  obtain ⟨i0, hi0, hz0, hz1, hz2⟩ := infoLine'
  clear hL hfb
  go_enter Try.func57, Try.ntmps57
  go_wp2
  go_loopw [3, 7] (fun x3 x7 wr => ∃ (i : Nat), x7 = .int .i64 i ∧ i ≤ xs.length ∧ wr.ownsRow w.heap.size 94 14 x3 ((xs.take i).filter fun x => ruleB x.ln).length (flatC LV.cells ((xs.take i).filter fun x => ruleB x.ln)) ∧ Fresh w wr)
      (fun _ x _ => 1001 - (intOf x).toNat)
  case atStart => exact ⟨0, rfl, by omega, World.ownsRow_nil _ _ _ _, Mod.refl _ _⟩
  case round =>
    obtain ⟨i, rfl, hi, hown, hfr⟩ := hrel
    have HME := hid (meas (B := 1001) i (by omega))
    have hlen : ((xs.take i).filter fun x => ruleB x.ln).length ≤ 1000 := by
      have := List.length_filter_le (fun x : LV => ruleB x.ln) (xs.take i)
      have := List.length_take_le i xs
      omega
    have HTS : Hid (∀ hlt : i < xs.length, (xs.take (i + 1)).filter (fun x => ruleB x.ln) = (xs.take i).filter (fun x => ruleB x.ln) ++ (if ruleB xs[i].ln then [xs[i]] else [])) := by
      intro hlt
      rw [List.take_add_one, List.filter_append, List.getElem?_eq_getElem hlt]
      cases h : ruleB xs[i].ln <;> simp [List.filter_cons, h]
    have HTE : Hid (i = xs.length → (xs.take i) = xs) := fun h => by rw [h, List.take_length]
    generalize hy : (xs.take i).filter (fun x => ruleB x.ln) = ys at *
    have HY := hid hy
    have HO := hid hown
    have HOB := hid hown.lt
    obtain ⟨ro, rc, hro⟩ := own_form hown
    clear hown hy
    subst hro
    by_cases hlt : i < xs.length
    · obtain ⟨g, cap', hv'⟩ := Joins.ownsRow_form HL.out.own (by omega)
      rw [Value.slice.injEq] at hv'
      obtain ⟨rfl, _, rfl⟩ := hv'
      have HL1 := hid (HL.out.fresh hfr)
      have hrg := HL1.out.row.range i hlt
      have hA := HL1.out.each xs[i] (by simp)
      have hFB := HFB.out xs[i] (by simp)
      have HTSS := hid (HTS.out hlt)
      have hrgf := fun w1 (hf : Fresh wr w1) => (HL1.out.fresh hf).row.range i hlt
      generalize hX : xs[i] = x at *
      clear hX
      have RU0 := fun w => isRule_any x w hA.front hFB
      have hrb : Hid (ruleB x.ln = !headB x.ln.front) := rfl
      rw [← hrb.out] at RU0
      have HAo := hid hA.one
      obtain ⟨⟨⟨pp, ls⟩, sk, nsx, stx, enx, sy⟩, vn, vs⟩ := x
      obtain ⟨a1, a2, a3, a4, a5, a6, a7, a8, e8⟩ := eight hA.front
      dsimp only at e8
      subst e8
      obtain ⟨no, nc, hvn⟩ := own_form hA.nodes.own
      obtain ⟨so, sc, hvs⟩ := own_form hA.syms.own
      dsimp only at hvn hvs
      subst hvn
      subst hvs
      have RU := hid RU0
      have RG : Hid (wr.rangeAt g (i * 14) (lnList pp a1 a2 a3 a4 a5 a6 a7 a8 sk (.slice no nsx.length nc) stx enx (.slice so sy.length sc))) := hrg
      have RGF : Hid (∀ w1, Fresh wr w1 → w1.rangeAt g (i * 14) (lnList pp a1 a2 a3 a4 a5 a6 a7 a8 sk (.slice no nsx.length nc) stx enx (.slice so sy.length sc))) := hrgf
      have RU' : Hid (∀ w, Calls Try.prog 77 #[.agg (lnArr pp a1 a2 a3 a4 a5 a6 a7 a8 sk (.slice no nsx.length nc) stx enx (.slice so sy.length sc))] w fun e w' => e = .returned (.bool (ruleB ⟨⟨pp, [a1, a2, a3, a4, a5, a6, a7, a8]⟩, sk, nsx, stx, enx, sy⟩)) ∧ Fresh w w') := RU.out
      clear RU0 RU hrg hrgf hA hFB
      cases hr : ruleB ⟨⟨pp, [a1, a2, a3, a4, a5, a6, a7, a8]⟩, sk, nsx, stx, enx, sy⟩
      · rw [hr] at RU' HTSS
        simp only [Bool.false_eq_true, if_false, List.append_nil] at HTSS
        go_wp2_with (first
          | (go_at_call 77; refine (RU'.out _).mono ?_; rintro e w1 ⟨rfl, hf⟩)
          | (refine wpList_load_mid rfl 94 _ rfl g (i * 14) rfl (lnList pp a1 a2 a3 a4 a5 a6 a7 a8 sk (.slice no nsx.length nc) stx enx (.slice so sy.length sc)) _ RG.out Try.underlying94 rfl szLine ?_))
        go_roundw
        case rel =>
          refine ⟨i + 1, by go_num, by omega, ?_, hfr.trans hf⟩
          rw [HTSS.out]
          exact ownsRow_other HO.out (fun g hg => hf.block g (HOB.out g hg).2 (fun x => x))
        case measure => exact HME.out
      · rw [hr] at RU' HTSS
        simp only [if_true] at HTSS
        go_wp2_with (first
          | (go_at_call 77; refine (RU'.out _).mono ?_; rintro e w1 ⟨rfl, hf⟩; have hz : wr.heap.size ≤ w1.heap.size := hf.size; have HO1 := hid (ownsRow_other HO.out (fun g hg => hf.block g (HOB.out g hg).2 (fun x => x))))
          | (refine wpList_load_mid rfl 94 _ rfl g (i * 14) rfl (lnList pp a1 a2 a3 a4 a5 a6 a7 a8 sk (.slice no nsx.length nc) stx enx (.slice so sy.length sc)) _ RG.out Try.underlying94 rfl szLine ?_)
          | (refine wpList_load_mid rfl 94 _ rfl g (i * 14) rfl (lnList pp a1 a2 a3 a4 a5 a6 a7 a8 sk (.slice no nsx.length nc) stx enx (.slice so sy.length sc)) _ (RGF.out _ hf) Try.underlying94 rfl szLine ?_)
          | (at_builtin; refine wpList_append_mine _ rfl _ _ 78 rfl w.heap.size 94 i0 _ 14 88 Try.underlying78 hi0 hz0 hz1 hz2 rfl (by decide) _ _ _ rfl (HO1.out.alloc _) ⟨w1.heap.size, 0, none⟩ 1 1 (lnList pp a1 a2 a3 a4 a5 a6 a7 a8 sk (.slice no nsx.length nc) stx enx (.slice so sy.length sc)) rfl rfl ?c1 ?c2 ?c3 ?c4 ?c5 ?_))
        case c1 => exact new_cells rfl
        case c2 => intro u hu; exact (Array.all_eq_true_iff_forall_mem.1 HAo.out) u (by simpa [LV.cells, Wd.cells] using hu)
        case c3 => unfold maxLen; omega
        case c4 => omega
        case c5 => have := hfr.size; simp; omega
        intro v' w2 hown2 hgrow hblk
        have fr2 : Fresh w w2 := Mod.grown (S := fun _ => False) ((hfr.trans hf).alloc _) hgrow (fun k hk hlt => by have := (HOB.out k hk).1; omega)
        have HO2 := hid hown2
        clear hown2 hgrow hblk
        go_wp2
        go_roundw
        case rel =>
          refine ⟨i + 1, by go_num, by omega, ?_, fr2⟩
          rw [HTSS.out, flat_snoc, List.length_append, List.length_singleton]
          exact HO2.out
        case measure => exact HME.out
    · have hie : i = xs.length := by omega
      have hye := HTE.out hie
      go_wp2
      go_ret
      refine ⟨_, rfl, ⟨?_, ?_⟩, hfr⟩
      · rw [← hye, HY.out]; exact ownsRow_base HO.out (Nat.zero_le _)
      · intro x hx; exact (HL.out.each x (List.mem_filter.1 hx).1).fresh hfr
end Go.Proofs.Ytolpddkpfigidaa
