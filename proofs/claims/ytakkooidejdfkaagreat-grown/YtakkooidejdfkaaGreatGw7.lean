import Derived.Test.YtakkooidejdfkaaGreatGw4
import Derived.Test.YtakkooidejdfkaaGreatVi1
import Derived.Test.YtakkooidejdfkaaGreatTwe
import Derived.Test.YtakkooidejdfkaaGreatRows
import Derived.ProofKit
import Derived.OpenShut
import Derived.ShutString
import Derived.ChangeOld
import Derived.Below
namespace Go.Proofs.YtakkooidejdfkaaGreat
open Go.RowKit
set_option linter.unusedVariables false
set_option linter.unusedSimpArgs false

theorem runS_ext {ps : List Pr} : ∀ (A : List St) (ys r k : List Sy), runS ps A ys = some r → runS ps A (ys ++ k) = some (r ++ k)
  | [], ys, r, k, h => by cases h; rfl
  | s :: A, ys, r, k, h => by
    cases hs : s.leaf
    · obtain ⟨y, k', p, rfl, h1, h2, h3, h4, h5⟩ := runS_node hs h
      have := runS_ext A _ _ k h5
      simp only [List.cons_append, runS, hs, Bool.false_eq_true, if_false]
      rw [if_pos ⟨h1, h2⟩, h3]
      simp only []
      rw [if_pos h4, ← List.append_assoc]; exact this
    · obtain ⟨y, k', rfl, h1, h2, h3⟩ := runS_leaf hs h
      simp only [List.cons_append, runS, hs, if_true]
      rw [if_pos ⟨h1, h2⟩]; exact runS_ext A _ _ k h3
theorem runS_join {ps : List Pr} {A T : List St} {ys : List Sy} {y : Sy} (h1 : runS ps A ys = some []) (h2 : runS ps T [y] = some []) : runS ps (A ++ T) (ys ++ [y]) = some [] := by
  rw [runS_app, runS_ext A ys [] [y] h1]; exact h2
theorem runS_root {ps : List Pr} {A : List St} {c X : Nat} {p : Pr} (hp : ps[c]? = some p) (hh : p.head = X) (h : runS ps A p.syms = some []) : runS ps (⟨false, (c : Int)⟩ :: A) [⟨true, (X : Int)⟩] = some [] := by
  simp only [runS, Bool.false_eq_true, if_false]
  rw [if_pos ⟨trivial, by omega⟩, Int.toNat_natCast, hp]
  simp only []
  rw [if_pos hh, List.append_nil]; exact h
theorem leaves_len (A : List St) : (leavesS A).length ≤ A.length := by
  unfold leavesS
  rw [List.length_map]; exact List.length_filter_le _ _
def szGrown (h u u' l : Nat) : Prop := u ≤ u' ∧ u' ≤ 201 ∧ l ≤ bdN h + (u' - u) * 72559411 ∧ u' - u ≤ l
/-- how much room the trees below a production have -/
theorem grow_room {ps : List Pr} {R H : Nat} {hts : List Nat} (g : TG ps R H hts) {h c u u1 m n : Nat} {p : Pr} (hp : ps[c]? = some p) (hn : hiP hts p ≠ 0) (hX : h ≠ 0) (hm : (201 - u) * 10 + h ≤ m + 1) (hu : u ≤ 201) (hun : u ≤ n)
    (hroom : n + bdN h + (201 - u) * 72559411 ≤ 1000000000000) (hcase : (u1 = u ∧ hiC ps hts c ≤ h) ∨ (u1 = u + 1 ∧ n ≤ 200)) :
    ∃ β, (∀ s ∈ p.syms, s.isH = true → hts.getD s.num.toNat 0 ≠ 0 ∧ bdN (hts.getD s.num.toNat 0) ≤ β ∧ ∀ uj, u1 ≤ uj → uj ≤ 201 → (201 - uj) * 10 + hts.getD s.num.toNat 0 ≤ m) ∧ n + 1 + 6 * β + (201 - u1) * 72559411 ≤ 1000000000000 ∧
      (∀ u' l, u1 ≤ u' → u' ≤ 201 → l ≤ 6 * β + (u' - u1) * 72559411 → u' - u1 ≤ l → szGrown h u u' (l + 1)) ∧ u1 ≤ 201 ∧ u1 ≤ n + 1 ∧ 1 ≤ β := by
  have hc : hiC ps hts c = hiP hts p := by unfold hiC; rw [hp]
  have low := hiL_low hts p.syms 1 hn
  rcases hcase with ⟨rfl, hle⟩ | ⟨rfl, hle⟩
  · obtain ⟨h', rfl⟩ : ∃ k, h = k + 1 := ⟨h - 1, by omega⟩
    have hb : bdN (h' + 1) = 1 + 6 * bdN h' := rfl
    have h1 : 1 ≤ bdN h' := by have := bdN_le (Nat.zero_le h'); exact this
    refine ⟨bdN h', fun s hs hh => ?_, by omega, fun u' l a1 a2 a3 a4 => ?_, hu, by omega, h1⟩
    · obtain ⟨q1, q2⟩ := low s hs hh
      have q2 : hts.getD s.num.toNat 0 < hiP hts p := q2
      exact ⟨q1, bdN_le (by omega), fun uj b1 b2 => by omega⟩
    · refine ⟨a1, a2, ?_, by omega⟩
      rw [hb]; omega
  · have hb : bdN 9 = 12093235 := by decide
    refine ⟨bdN 9, fun s hs hh => ?_, by omega, fun u' l a1 a2 a3 a4 => ?_, by omega, by omega, by omega⟩
    · obtain ⟨q1, q2⟩ := low s hs hh
      have q3 := g.le s.num.toNat
      exact ⟨q1, bdN_le q3, fun uj b1 b2 => by omega⟩
    · refine ⟨by omega, a2, ?_, by omega⟩
      rw [hb] at a3
      omega
attribute [local go_sem ↓] apS_rule

set_option maxRecDepth 20000 in
set_option maxHeartbeats 16000000 in
theorem tgrow_any (w0 : World) (b B xb g3 c3 g5 c5 hb : Nat) (sv : Nat → Value) (ps : List Pr) (R H : Nat) (hts : List Nat) (vc : Value) (code : List Int)
    (g : TG ps R H hts) (SF : ∀ W, MT b B w0 W → TX W xb g3 c3 g5 c5 hb sv ps hts vc code) (hcr : ∀ z ∈ code, -9223372036854775808 ≤ z ∧ z ≤ 9223372036854775807) (hcl : code.length ≤ maxLen) (hB0 : B ≤ w0.heap.size) :
    ∀ (m X u : Nat) (w : World) (vn vk : Value) (NL : List Nd) (KL : List Int), (201 - u) * 10 + hts.getD X 0 ≤ m → hts.getD X 0 ≠ 0 → MT b B w0 w → TA w b B (bptr xb) vc (.slice (some ⟨hb, 0, none⟩) H H) u vn vk NL KL → u ≤ 201 → u ≤ NL.length → KL.length ≤ NL.length → NL.length + bdN (hts.getD X 0) + (201 - u) * 72559411 ≤ 1000000000000 →
      Calls Tryz.prog 8 #[bptr b, .int .i64 X] w fun e w' => e = .returned (.tuple #[]) ∧ ∃ (A : List St) (u' : Nat) (vn' vk' : Value), TA w' b B (bptr xb) vc (.slice (some ⟨hb, 0, none⟩) H H) u' vn' vk' (NL ++ nodesT ps A KL.length) (KL ++ leavesS A) ∧ MT b B w w' ∧ runS ps A [⟨true, X⟩] = some [] ∧ szGrown (hts.getD X 0) u u' A.length := by
  intro m
  induction m with
  | zero => intro X u w vn vk NL KL h1 h2; omega
  | succ m ih =>
    intro X u w vn vk NL KL hm hX hM hT hu huN hKN hroom
    have hTX := SF w hM
    obtain ⟨iN, hiN, nz0, nz1, nz2⟩ := infoNd'
    obtain ⟨i0, hi0, iz0, iz1, iz2⟩ := infoI'
    have HG := hid g
    have HSF := hid SF
    have HM := hid hM
    have HIH := hid ih
    have hwB : B ≤ w.heap.size := by have := hM.size; omega
    have hbd1 : 1 ≤ bdN (hts.getD X 0) := by cases hts.getD X 0 with
      | zero => decide
      | succ n => unfold bdN; omega
    have hNLb : NL.length ≤ 1000000000000 - 1 := by omega
    have CH := hid (tchoose_any w b B xb g3 c3 g5 c5 hb sv ps R H hts vc code u vn vk NL KL X g hT (fun W hW => SF W (Mod.trans hM hW)) hX hcr hu hcl (by omega) (by omega) hwB)
    have h9 := g.le X
    have HX := hid hX
    have HROOM := hid hroom
    have HMM := hid hm
    clear ih g SF hcr hM hT hTX hroom hm
    go_enter Tryz.func8, Tryz.ntmps8
    go_wp2_with (first
      | (go_at_call 19; refine CH.out.mono ?_; rintro e w1 ⟨c, u1, rfl, hMc, hT1, hM1, hcase⟩; have HT1 := hid hT1; have HM1 := hid hM1; obtain ⟨na, nc, hvn⟩ := own_form hT1.ns; subst hvn; obtain ⟨ka, kc, hvk⟩ := own_form hT1.ks; subst hvk; have z3 := hT1.cell 3; have z4 := hT1.cell 4; simp at z3 z4; have f3 := hT1.frozen 3; clear hT1 hM1))
    obtain ⟨p, hp, hph, hpn⟩ := hMc
    have hcl2 : c < ps.length := (List.getElem?_eq_some_iff.1 hp).1
    have hcp : ps[c] = p := (List.getElem?_eq_some_iff.1 hp).2
    obtain ⟨β, ROOM, hro2, RET, hu1, hu1n, hβ⟩ := grow_room HG.out hp hpn HX.out HMM.out hu huN HROOM.out hcase
    have HRO := hid ROOM
    have HRT := hid RET
    have HCP := hid hcp
    have HPP := hid hp
    have HPH := hid hph
    have HPI : Hid (∀ s ∈ p.syms, 0 ≤ s.num ∧ s.num ≤ 100 ∧ (s.isH = true → s.num < H)) := fun s hs => by
      have := HG.out.tab.sy p (List.mem_of_getElem? hp) s hs
      have h1 := HG.out.hR
      have h2 := HG.out.hH
      cases hh : s.isH
      · rw [hh] at this; simp only [Bool.false_eq_true, if_false] at this; exact ⟨this.1, by omega, fun e => by (cases e)⟩
      · rw [hh] at this; simp only [if_true] at this; exact ⟨this.1, by omega, fun _ => this.2⟩
    have hp6 : p.syms.length ≤ 6 := HG.out.s6 p (List.mem_of_getElem? hp)
    have hpl := HG.out.hpl
    have hc1 : (c : Int) < (ps.length : Int) := by omega
    have hw1B : B ≤ w1.heap.size := by have := HM1.out.size; omega
    have hbl1 := HT1.out.lt
    clear ROOM RET hcp hp hph hpn hcase CH HROOM HMM hu huN
    have FW : Hid (∀ o : Obj, Fresh w1 (w1.alloc o).drew) := fun o => ((Mod.refl _ w1).alloc o).drew
    obtain ⟨v', w2, hrun, hown, hgrow, hblk⟩ := apS_mine (P := Tryz.prog) (w1.alloc (.cells #[.int .i64 c, .int .i64 (-1), .int .i64 KL.length, .int .i64 0] 59)).drew B 26 26 59 iN _ 4 32 Tryz.underlying26 hiN nz0 nz1 nz2 rfl (by decide) (.slice na NL.length nc) NL.length (flatC Nd.cells NL) (ownsRow_other HT1.out.ns (fun g hg => (FW.out _).block g (HT1.out.ns.lt g hg).2 (fun x => x))) ⟨w1.heap.size, 0, none⟩ 1 1 [.int .i64 c, .int .i64 (-1), .int .i64 KL.length, .int .i64 0] rfl (new_cells rfl) (by intro u hu; simp at hu; rcases hu with rfl | rfl | rfl | rfl <;> rfl) (by unfold maxLen; omega) (by omega) (by simp [World.drew]; omega)
    have HB := HT1.out.grownN (FW.out _) hgrow
    have hc2 : w2.cell? ⟨b, 3, none⟩ = some (.slice na NL.length nc) := (cellOf HB 3)
    have hf2 := frozenOf HB 3
    have HO2 := hid hown
    have HG2 := hid hgrow
    have HBK := hid hblk
    obtain ⟨a', cap', hv'⟩ := own_form hown
    clear hown hgrow hblk HB
    subst hv'
    go_region
    all_goals
      obtain ⟨T3, U3⟩ := HT1.out.addN (x := ⟨c, -1, KL.length, 0⟩) (FW.out _) HO2.out HG2.out HBK.out
      generalize hWW : w2.setCell _ _ = W3 at T3 U3 ⊢
      have HT3 := hid T3
      have HU3 : Hid (MT b B w W3) := Mod.trans HM1.out U3
      clear T3 U3 hWW hc2 hf2 hrun z3 z4 f3
      go_wp2
      go_loopw [6, 7] (fun x6 _ wr => ∃ (j uj : Nat) (Aj : List St) (vnj vkj : Value), x6 = .int .i64 j ∧ j ≤ p.syms.length ∧ TA wr b B (bptr xb) vc (.slice (some ⟨hb, 0, none⟩) H H) uj vnj vkj (NL ++ ⟨c, -1, KL.length, 0⟩ :: nodesT ps Aj KL.length) (KL ++ leavesS Aj) ∧ MT b B w wr ∧ runS ps Aj (p.syms.take j) = some [] ∧ u1 ≤ uj ∧ uj ≤ 201 ∧ Aj.length ≤ j * β + (uj - u1) * 72559411 ∧ uj - u1 ≤ Aj.length)
          (fun x _ _ => 10 - (intOf x).toNat)
      case atStart => exact ⟨0, u1, [], _, _, rfl, by omega, by simpa [nodesT, ndL, sizesF, leavesS] using HT3.out, HU3.out, rfl, Nat.le_refl _, hu1, by simp, by simp⟩
      case round =>
        obtain ⟨j, uj, Aj, vnj, vkj, rfl, hj, hTj, hMj, hrj, hj1, hj2, hj3, hj4⟩ := hrel
        have hTX := HSF.out wr (Mod.trans HM.out hMj)
        obtain ⟨hsv, hIn⟩ := hTX.xv.sy c hcl2
        rw [HCP.out] at hIn
        obtain ⟨sa, scap, hsve, hsc, hscell⟩ := hIn
        rw [List.length_map] at hsve
        rw [hsve] at hsv
        have k5 := hTX.xv.k5
        have z0 := hTj.cell 0
        simp at z0
        have hjβ : j * β ≤ 6 * β := Nat.mul_le_mul_right β (by omega)
        have hNl : (NL ++ (⟨c, -1, KL.length, 0⟩ : Nd) :: nodesT ps Aj KL.length).length = NL.length + 1 + Aj.length := by simp [nodesT_len]; omega
        have hKl : (KL ++ leavesS Aj).length ≤ NL.length + Aj.length := by have := leaves_len Aj; simp; omega
        have HKL : Hid ((KL ++ leavesS Aj).length = KL.length + (leavesS Aj).length) := by unfold Hid; simp
        have HTJ := hid hTj
        have HMJ := hid hMj
        have HRJ := hid hrj
        have hbl3 := hTj.lt
        have hwrB : B ≤ wr.heap.size := by have := hMj.size; omega
        clear hTX hsve hTj hMj hrj
        by_cases hlt : j < p.syms.length
        · have hlt1 : (j : Int) < (p.syms.length : Int) := by omega
          obtain ⟨sg, so, rfl, hce⟩ := hscell j (by simpa using hlt)
          rw [List.getElem_map] at hce
          have hyb := HPI.out p.syms[j] (by simp)
          have HRM := hid (HRO.out p.syms[j] (by simp))
          have HTK : Hid (p.syms.take (j + 1) = p.syms.take j ++ [p.syms[j]]) := takeS hlt
          have hjs : (j + 1) * β = j * β + β := Nat.succ_mul j β
          have hjβ1 : (j + 1) * β ≤ 6 * β := Nat.mul_le_mul_right β (by omega)
          have HMM := hid (meas (B := 10) j (by omega))
          generalize p.syms[j] = y at hce hyb HRM HTK
          obtain ⟨yh, yn⟩ := y
          dsimp only at hyb
          obtain ⟨hy0, hy1, hy2⟩ := hyb
          clear hscell
          cases yh
          · have hsI : sInt ⟨false, yn⟩ = yn := rfl
            rw [hsI] at hce
            clear hsI hy2 HRM
            have HKE2 : Hid ((KL ++ leavesS Aj) ++ [yn] = KL ++ leavesS (Aj ++ [⟨true, yn⟩])) := by
              unfold Hid; rw [leavesS_app]; simp [leavesS]
            have HNE2 : Hid ((NL ++ (⟨c, -1, KL.length, 0⟩ : Nd) :: nodesT ps Aj KL.length) ++ [⟨-1, yn, (KL ++ leavesS Aj).length, 1⟩] = NL ++ ⟨c, -1, KL.length, 0⟩ :: nodesT ps (Aj ++ [⟨true, yn⟩]) KL.length) := by
              unfold Hid
              rw [nodesT_app ps KL.length HRJ.out, nodesT_leaf, HKL.out]
              simp
            generalize NL ++ (⟨c, -1, KL.length, 0⟩ : Nd) :: nodesT ps Aj KL.length = NLj at HTJ hNl HNE2
            generalize KL ++ leavesS Aj = KLj at HTJ hKl HKE2 HNE2
            have hNl2 : NLj.length + 1 ≤ 1000000000000 := by rw [hNl]; omega
            have hKl2 : KLj.length + 1 ≤ 1000000000000 := by omega
            clear hNl hKl
            obtain ⟨nja, njc, hvnj⟩ := own_form HTJ.out.ns
            subst hvnj
            obtain ⟨kja, kjc, hvkj⟩ := own_form HTJ.out.ks
            subst hvkj
            have z3 := HTJ.out.cell 3
            have z4 := HTJ.out.cell 4
            simp at z3 z4
            have FX : Hid (∀ o : Obj, Fresh wr (wr.alloc o).drew) := fun o => ((Mod.refl _ wr).alloc o).drew
            obtain ⟨v', w2, hrun, hown, hgrow, hblk⟩ := apS_mine (P := Tryz.prog) (wr.alloc (.cells #[.int .i64 (-1), .int .i64 yn, .int .i64 KLj.length, .int .i64 1] 59)).drew B 26 26 59 iN _ 4 32 Tryz.underlying26 hiN nz0 nz1 nz2 rfl (by decide) (.slice nja NLj.length njc) NLj.length (flatC Nd.cells NLj) (ownsRow_other HTJ.out.ns (fun g hg => (FX.out _).block g (HTJ.out.ns.lt g hg).2 (fun x => x))) ⟨wr.heap.size, 0, none⟩ 1 1 [.int .i64 (-1), .int .i64 yn, .int .i64 KLj.length, .int .i64 1] rfl (new_cells rfl) (by intro u hu; simp at hu; rcases hu with rfl | rfl | rfl | rfl <;> rfl) (by unfold maxLen; omega) (by omega) (by simp [World.drew]; omega)
            have HB := HTJ.out.grownN (FX.out _) hgrow
            have hc2 : w2.cell? ⟨b, 3, none⟩ = some (.slice nja NLj.length njc) := (cellOf HB 3)
            have hf2 := frozenOf HB 3
            have HO4 := hid hown
            have HG4 := hid hgrow
            have HBK4 := hid hblk
            obtain ⟨a4, cap4, hv4⟩ := own_form hown
            clear hown hgrow hblk HB
            subst hv4
            go_wp2_with fail
            go_region
            all_goals
              obtain ⟨T4, U4⟩ := HTJ.out.addN (x := ⟨-1, yn, KLj.length, 1⟩) (FX.out _) HO4.out HG4.out HBK4.out
              generalize hWW : w2.setCell _ _ = W4 at T4 U4 ⊢
              have HT4 := hid T4
              have HU4 : Hid (MT b B w W4) := Mod.trans HMJ.out U4
              have hW4B : B ≤ W4.heap.size := by have := U4.size; omega
              have y4 := T4.cell 4
              simp at y4
              have hbl4 := T4.lt
              clear T4 U4 hWW hc2 hf2 hrun z3 z4 z0 k5 hsv hce
              go_wp2_with (first
                | (at_builtin; refine wpList_append_mine _ rfl (.tmp 86) (.tmp 88) 22 rfl B 3 i0 _ 1 8 Tryz.underlying22 hi0 iz0 iz1 iz2 rfl (by decide) _ _ _ rfl (HT4.out.ks.alloc _) ⟨W4.heap.size, 0, none⟩ 1 1 [.int .i64 yn] rfl rfl (new_cells rfl) (by intro u hu; simp at hu; subst hu; rfl) (by unfold maxLen; omega) (by omega) (by simp; omega) ?_))
              intro v5 w5 hown hgrow hblk
              obtain ⟨a5, cap5, hv5⟩ := own_form hown
              subst hv5
              have G5 := HT4.out.grownK ((Mod.refl _ W4).alloc _) hgrow
              have f5 := frozenOf G5 4
              have g5' := cellOf G5 4
              simp at g5'
              obtain ⟨T6, U6⟩ := HT4.out.addK (x := yn) ((Mod.refl _ W4).alloc _) hown hgrow (fun j hj => by simpa using hblk j hj)
              generalize hWW : w5.setCell ⟨b, 4, none⟩ (.slice a5 (KLj.length + 1) cap5) = W6 at T6 U6
              have HT6 := hid T6
              have HU6 : Hid (MT b B w W6) := Mod.trans HU4.out U6
              clear hown hgrow hblk G5 T6 U6
              go_wp2
              go_roundw
              case rel =>
                refine ⟨j + 1, uj, Aj ++ [⟨true, yn⟩], .slice a4 (NLj.length + 1) cap4, .slice a5 (KLj.length + 1) cap5, by go_num, by omega, ?_, HU6.out, ?_, hj1, hj2, ?_, ?_⟩
                · rw [← HNE2.out, ← HKE2.out]; exact HT6.out
                · rw [HTK.out]; exact runS_join HRJ.out (by simp [runS])
                · rw [List.length_append, List.length_singleton]; omega
                · rw [List.length_append, List.length_singleton]; omega
              case measure => exact HMM.out
          · have hsI : sInt ⟨true, yn⟩ = -1 - yn := rfl
            rw [hsI] at hce
            obtain ⟨n, rfl⟩ : ∃ n : Nat, yn = n := ⟨yn.toNat, by omega⟩
            obtain ⟨hr1, hr2, hr3⟩ := HRM.out rfl
            dsimp only at hr1 hr2 hr3
            rw [Int.toNat_natCast] at hr1 hr2 hr3
            have hneg : (-1 : Int) - (n : Int) < 0 := by omega
            have hsub : (-1 : Int) - (-1 - (n : Int)) = (n : Int) := by omega
            have GR : Hid (Calls Tryz.prog 8 #[bptr b, .int .i64 n] wr fun e w' => e = .returned (.tuple #[]) ∧ ∃ (A : List St) (u' : Nat) (vn' vk' : Value), TA w' b B (bptr xb) vc (.slice (some ⟨hb, 0, none⟩) H H) u' vn' vk' ((NL ++ ⟨c, -1, KL.length, 0⟩ :: nodesT ps Aj KL.length) ++ nodesT ps A (KL ++ leavesS Aj).length) ((KL ++ leavesS Aj) ++ leavesS A) ∧ MT b B wr w' ∧ runS ps A [⟨true, n⟩] = some [] ∧ szGrown (hts.getD n 0) uj u' A.length) :=
              HIH.out n uj wr vnj vkj _ _ (hr3 uj hj1 hj2) hr1 (Mod.trans HM.out HMJ.out) HTJ.out hj2 (by rw [hNl]; omega) (by rw [hNl]; omega) (by rw [hNl]; omega)
            clear hsI hy2 HRM HIH
            go_wp2_with (first
              | (go_at_call 8; refine GR.out.mono ?_; rintro e w6 ⟨rfl, A6, u6, vn6, vk6, hT6, hM6, hr6, hs6⟩; have HT6 := hid hT6; have HM6 := hid hM6; have HR6 := hid hr6; have HS6 := hid hs6; clear hT6 hM6 hr6 hs6))
            go_roundw
            case rel =>
              obtain ⟨q1, q2, q3, q4⟩ := HS6.out
              refine ⟨j + 1, u6, Aj ++ A6, vn6, vk6, by go_num, by omega, ?_, Mod.trans HMJ.out HM6.out, ?_, by omega, q2, ?_, ?_⟩
              · have h := HT6.out
                rw [nodesT_app ps KL.length HRJ.out, leavesS_app]
                rw [HKL.out] at h
                simpa using h
              · rw [HTK.out]; exact runS_join HRJ.out HR6.out
              · rw [List.length_append]; omega
              · rw [List.length_append]; omega
            case measure => exact HMM.out
        · have hje : j = p.syms.length := by omega
          have hlt1 : ¬ (j : Int) < (p.syms.length : Int) := by omega
          have HRA : Hid (runS ps Aj p.syms = some []) := by
            have h := HRJ.out
            rw [hje, List.take_length] at h; exact h
          have HROOT : Hid (runS ps (⟨false, (c : Int)⟩ :: Aj) [⟨true, (X : Int)⟩] = some []) := runS_root HPP.out HPH.out HRA.out
          have HSZ : Hid (szGrown (hts.getD X 0) u uj (Aj.length + 1)) := HRT.out uj Aj.length hj1 hj2 (by omega) hj4
          have HND : Hid ((NL ++ (⟨c, -1, KL.length, 0⟩ : Nd) :: nodesT ps Aj KL.length).set NL.length (setSz ⟨c, -1, KL.length, 0⟩ ((Aj.length + 1 : Nat) : Nat)) = NL ++ nodesT ps (⟨false, (c : Int)⟩ :: Aj) KL.length) := by
            unfold Hid
            rw [nodesT_node ps KL.length HROOT.out]; simp [setSz]
          have HLV : Hid (KL ++ leavesS Aj = KL ++ leavesS (⟨false, (c : Int)⟩ :: Aj)) := by unfold Hid; simp [leavesS]
          have hget : ∀ h : NL.length < (NL ++ (⟨c, -1, KL.length, 0⟩ : Nd) :: nodesT ps Aj KL.length).length, (NL ++ (⟨c, -1, KL.length, 0⟩ : Nd) :: nodesT ps Aj KL.length)[NL.length] = ⟨c, -1, KL.length, 0⟩ := fun h => by simp
          generalize NL ++ (⟨c, -1, KL.length, 0⟩ : Nd) :: nodesT ps Aj KL.length = NLj at HTJ hNl HND hget
          obtain ⟨g, cap, hvg⟩ := Joins.ownsRow_form HTJ.out.ns (by rw [hNl]; omega)
          subst hvg
          have hil : NL.length < NLj.length := by rw [hNl]; omega
          obtain ⟨T7, U7⟩ := HTJ.out.size (i := NL.length) (z := Aj.length + 1) hil
          rw [hget hil, HND.out] at T7
          have hth := own_there Nd.cells_len HTJ.out.ns hil 3 (by omega)
          obtain ⟨vz, hz1⟩ := Option.isSome_iff_exists.1 hth.1
          have hz2 := hth.2
          have z3 := HTJ.out.cell 3
          simp at z3
          obtain ⟨Sz, hSz⟩ : ∃ Sz : Nat, Sz = Aj.length + 1 := ⟨_, rfl⟩
          rw [← hSz] at T7 U7 HSZ
          have hLn1 : (NLj.length : Int) - (NL.length : Int) = (Sz : Int) := by rw [hNl]; omega
          have hLn2 : (NL.length : Int) < (NLj.length : Int) := by rw [hNl]; omega
          have hLn3 : NLj.length ≤ 1000000000000 := by rw [hNl]; omega
          have hSz2 : Sz ≤ 1000000000000 := by omega
          have HT7 := hid T7
          have HU7 := hid U7
          have HSZE := hid hSz
          have hbg : b < g := by have h1 := (HTJ.out.ns.lt g rfl).1; have h2 := HTJ.out.lo; omega
          have hwr : IntKind.i64.wrap ((NLj.length : Int) - (NL.length : Int)) = (Sz : Int) := by rw [hLn1, IntKind.wrap_i64]; omega
          clear T7 U7 hth hil hget hNl hKl hSz hje hscell hlt hj3 hj4 HND HTJ hsc
          go_wp2_with fail
          go_region
          all_goals
            have HF8 : Hid (Fresh (wr.setCell ⟨g, NL.length * 4 + 3, none⟩ (.int .i64 (Sz : Nat))) (wr.setCell ⟨g, NL.length * 4 + 3, none⟩ (.int .i64 (Sz : Nat))).drew) := (Mod.refl _ _).drew
            go_wp2
            refine bodyPost_end (results_none rfl _ _ _) rfl ⟨rfl, ⟨false, (c : Int)⟩ :: Aj, uj, .slice (some ⟨g, 0, none⟩) NLj.length cap, vkj, ?_, ?_, HROOT.out, ?_⟩
            · rw [← HLV.out]; exact HT7.out.fresh HF8.out
            · exact Mod.trans HMJ.out (Mod.trans HU7.out (HF8.out.mono (fun _ _ x => x.elim)))
            · rw [List.length_cons, ← HSZE.out]; exact HSZ.out
end Go.Proofs.YtakkooidejdfkaaGreat
namespace Go.Proofs.YtakkooidejdfkaaGreat
open Go.RowKit
set_option linter.unusedVariables false
set_option linter.unusedSimpArgs false

theorem IntAt.nil (w : World) : IntAt w (.slice Option.none 0 0) [] := IntAt.none rfl rfl
theorem LOX.hds {w : World} {b : Nat} {x : LO} (h : LOX w b x) : ∃ a c, w.cell? ⟨b, 2, none⟩ = some (.slice a x.heads.length c) := by
  obtain ⟨v0, v1, v2, v3, v4, v5, nv, sv, h⟩ := h
  have o2 : w.ownsRow (b + 1) 9 1 v2 x.heads.length (strs x.heads) := by have := h.at'.own 2 _ rfl; simpa using this
  obtain ⟨a0, c0, e0⟩ := own_form o2
  subst e0
  exact ⟨a0, c0, by have := h.cell 2; simpa using this⟩
/-- no tree below the START: the empty string has none -/
theorem parse_none {s : ByteArray} (hc : (checkF s).1 = 0) (hcl : clashF s = []) (h : (allH (tabF s) (nH s) (nH s)).getD 0 0 = 0) : ∃ WL, parseF s [] = ⟨10, WL, 0, []⟩ := by
  have hT := tab_of hc hcl
  rw [parse_grow' hc hcl [] rfl (by simp)]
  have hn : hN (setsF s) 0 = false := by
    cases e : hN (setsF s) 0
    · rfl
    · have h1 := hT.g.leN 0 e
      have h2 := (NS_high hT.g.tab _ _ 0 (Nat.le_refl _) h1).1
      exact absurd h h2
  have hf : hF (setsF s) 0 (nR s) = false := by
    cases e : hF (setsF s) 0 (nR s)
    · rfl
    · have := hT.g.bF 0 (nR s) e
      exact absurd this (Nat.lt_irrefl _)
  have hw : (wanB (setsF s) (nR s) [⟨true, 0⟩]).getD (nR s) false = false := by
    have h1 : (wanB (setsF s) (nR s) [⟨true, 0⟩]).getD (nR s) false = wanT (hN (setsF s)) (hF (setsF s)) (nR s) [⟨true, 0⟩] (nR s) := wanB_at hT.ok hT.hR _ hT.start.2 _
    rw [h1]
    unfold wanT
    simp [begX, nulS, hn, hf]
  unfold growS grwF
  rw [if_neg (by rw [hw]; simp)]
  exact ⟨_, rfl⟩
theorem fresh_mt {w1 w2 W : World} {B : Nat} (h : Fresh w1 w2) (hM : MT w1.heap.size B w2 W) (hB : w1.heap.size ≤ B) : Fresh w1 W :=
  h.trans' hM (fun i hi hT => by rcases hT with hT | hT <;> omega)

set_option maxRecDepth 20000 in
set_option maxHeartbeats 4000000 in
theorem grown_bad (s : ByteArray) (vc : Value) (w : World) (hs : s.size ≤ maxLen) (hc : (checkF s).1 ≠ 0) :
    Calls Tryz.prog 3 #[.string s, vc] w fun e w' => e = .returned (.bool true) ∧ Fresh w w' := by
  have FB := hid (fun w => free_bad s w hs hc)
  clear hc
  go_enter Tryz.func3, Tryz.ntmps3
  go_wp2_with (first
    | (go_at_call 5; refine (FB.out _).mono ?_; rintro e w1 ⟨rfl, hf1⟩; have HF1 := hid hf1; clear hf1))
  go_ret
  exact ⟨rfl, HF1.out⟩

set_option maxRecDepth 20000 in
set_option maxHeartbeats 1000000 in
theorem grown_clash (s : ByteArray) (vc : Value) (w : World) (hs : s.size ≤ maxLen) (hc : (checkF s).1 = 0) (hcl : clashF s ≠ []) :
    Calls Tryz.prog 3 #[.string s, vc] w fun e w' => e = .returned (.bool true) ∧ Fresh w w' := by
  have FG := hid (fun w => free_good s w (check_zero hc))
  have hd : decide ((clashF s).length = 0) = false := by simpa using hcl
  rw [hd] at FG
  have PA := hid (fun (V : World) => parse_ret s [] _ V hs (IntAt.nil V) (by simp))
  have hp : (parseF s []).err = 8 := by
    unfold parseF
    rw [if_neg (by simp), if_neg (by simp [hc]), if_neg (by simp [kindsOk]), if_pos (by simpa using hcl)]
    rfl
  unfold PRet at PA
  rw [hp] at PA
  clear hc hcl hd hp
  go_enter Tryz.func3, Tryz.ntmps3
  go_wp2_with (first
    | (go_at_call 5; refine (FG.out _).mono ?_; rintro e w1 ⟨b, rfl, _, hf1⟩; have HF1 := hid hf1; clear hf1)
    | (go_at_call 6; refine (PA.out _).mono ?_; rintro e w2 ⟨na, nc, xa, xc, rfl, hf2, _⟩; have HF2 := hid (HF1.out.trans hf2); clear hf2))
  go_ret
  exact ⟨by simp, HF2.out.alloc _⟩

def trN (vx vc vh : Value) : Array Value := #[vx, vc, .int .i64 0, .slice none 0 0, .slice none 0 0, vh]
theorem heights_new (w1 : World) (xb g3 c3 g5 c5 : Nat) (sv : Nat → Value) (ps : List Pr) (R H : Nat) (vc : Value) (hT : TabOk ps R H) (hR : R ≤ 8) (hH : H ≤ 8) (hpl : ps.length ≤ 100) (hs6 : ∀ p ∈ ps, p.syms.length ≤ 6)
    (hxv : XV w1 xb g3 c3 g5 c5 sv ps) (h2 : ∃ a2 c2, w1.cell? ⟨xb, 2, none⟩ = some (.slice a2 H c2)) :
    Calls Tryz.prog 7 #[bptr w1.heap.size] (w1.alloc (.cells (trN (bptr xb) vc (.slice none 0 0)) 34 (0, 0))) fun e w' => e = .returned (.tuple #[]) ∧ ∃ hb, w1.heap.size < hb ∧
      w'.heap[w1.heap.size]? = some (.cells (trN (bptr xb) vc (.slice (some ⟨hb, 0, none⟩) H H)) 34 (0, 0)) ∧ HtAt w' hb (allH ps H H) ∧ Fresh w1 w' := by
  obtain ⟨a2, c2, h2⟩ := h2
  refine (heights_any (w1.alloc (.cells (trN (bptr xb) vc (.slice none 0 0)) 34 (0, 0))) w1.heap.size xb g3 c3 g5 c5 sv ps R H vc hT (heap_alloc_at _ _) (fun W hW => ⟨hxv.fresh (fresh_new hW), a2, c2, fcell' (fresh_new hW) h2⟩) hR hH hpl hs6).mono fun e w' ⟨h1, h2, h3, h4⟩ => ?_
  refine ⟨h1, _, ?_, h2, h3, fresh_new h4⟩
  simp
theorem grow_new (w1 w2 : World) (xb g3 c3 g5 c5 hb : Nat) (sv : Nat → Value) (ps : List Pr) (R H : Nat) (hts : List Nat) (vc : Value) (code : List Int) (g : TG ps R H hts) (hxv : XV w1 xb g3 c3 g5 c5 sv ps) (hco : IntAt w1 vc code)
    (hcr : ∀ z ∈ code, -9223372036854775808 ≤ z ∧ z ≤ 9223372036854775807) (hkm : code.length ≤ maxLen) (hhb : w1.heap.size < hb) (hf : Fresh w1 w2)
    (hblk : w2.heap[w1.heap.size]? = some (.cells (trN (bptr xb) vc (.slice (some ⟨hb, 0, none⟩) H H)) 34 (0, 0))) (hht : HtAt w2 hb hts) (h0 : hts.getD 0 0 ≠ 0) :
    Calls Tryz.prog 8 #[bptr w1.heap.size, .int .i64 0] w2 fun e w3 => e = .returned (.tuple #[]) ∧ ∃ (A : List St) (u' : Nat) (vn vk : Value), TA w3 w1.heap.size w2.heap.size (bptr xb) vc (.slice (some ⟨hb, 0, none⟩) H H) u' vn vk (nodesF ps A) (leavesS A) ∧ Fresh w1 w3 ∧ runS ps A [⟨true, 0⟩] = some [] ∧ A.length ≤ 100000000000 := by
  have hb1 := heap_lt hblk
  have hb2 := heap_lt hht
  have h9 := g.le 0
  have hbd : bdN (hts.getD 0 0) ≤ 12093235 := by
    have h1 := bdN_le h9
    have h2 : bdN 9 = 12093235 := by decide
    omega
  have ta : TA w2 w1.heap.size w2.heap.size (bptr xb) vc (.slice (some ⟨hb, 0, none⟩) H H) 0 (.slice none 0 0) (.slice none 0 0) [] [] :=
    ⟨hb1, hblk, World.ownsRow_nil _ _ _ _, World.ownsRow_nil _ _ _ _, fun j hj => by simp [Value.ownBlock] at hj⟩
  have key := tgrow_any w2 w1.heap.size w2.heap.size xb g3 c3 g5 c5 hb sv ps R H hts vc code g (fun W hW => by
    have hfW := fresh_mt hf hW (by omega)
    exact ⟨hxv.fresh hfW, hW.at hht (by omega), hco.fresh hfW⟩) hcr hkm (Nat.le_refl _) 3000 0 0 w2 _ _ [] [] (by omega) h0 (Mod.refl _ w2) ta (by omega) (by simp) (by simp) (by rw [List.length_nil]; omega)
  refine key.mono fun e w3 ⟨h1, A, u', vn, vk, h2, h3, h4, h5⟩ => ⟨h1, A, u', vn, vk, ?_, fresh_mt hf h3 (by omega), h4, ?_⟩
  · simpa [nodesT_zero] using h2
  · obtain ⟨_, q2, q3, _⟩ := h5
    omega

set_option maxRecDepth 20000 in
set_option maxHeartbeats 16000000 in
theorem grown_good (s : ByteArray) (code : List Int) (vc : Value) (w : World) (hs : s.size ≤ maxLen) (hk : IntAt w vc code) (hkm : code.length ≤ maxLen) (hcr : ∀ z ∈ code, -9223372036854775808 ≤ z ∧ z ≤ 9223372036854775807) (hc : (checkF s).1 = 0) (hcl : clashF s = []) :
    Calls Tryz.prog 3 #[.string s, vc] w fun e w' => e = .returned (.bool true) ∧ Fresh w w' := by
  have HK := hid hk
  obtain ⟨ka, kc, hvc, _, _⟩ := hk
  subst hvc
  have hc2 := check_zero hc
  have FG := hid (fun w => free_good s w hc2)
  have hd : decide ((clashF s).length = 0) = true := by simpa using hcl
  rw [hd] at FG
  have hT := tab_of hc hcl
  have hpl := tab_len hc
  have hs6 := tab_syms hc
  have hTG : TG (tabF s) (nR s) (nH s) (allH (tabF s) (nH s) (nH s)) := TG.of hT.g.tab hT.hR hT.hH (by omega) hs6
  have hHl : (linesF s).1.heads.length = nH s := (lines_table hc2).2.1
  have XVO : Hid (∀ w1 b, LOX w1 b (linesF s).1 → ∃ g3 c3 g5 c5 sv a2 c2, XV w1 b g3 c3 g5 c5 sv (tabF s) ∧ w1.cell? ⟨b, 2, none⟩ = some (.slice a2 (nH s) c2)) := fun w1 b hx => by
    obtain ⟨g3, c3, g5, c5, sv, h1⟩ := xv_of hc hx
    obtain ⟨a2, c2, h2⟩ := hx.hds
    rw [hHl] at h2
    exact ⟨g3, c3, g5, c5, sv, a2, c2, h1, h2⟩
  have PZ := hid (fun h => parse_none hc hcl h)
  have PAL := hid (fun (A : List St) (h : runS (tabF s) A [⟨true, 0⟩] = some []) (hl : (leavesS A).length ≤ 60) => parse_all hc hcl h hl)
  have PAN := hid (fun (V : World) => parse_ret s [] _ V hs (IntAt.nil V) (by simp))
  have PAA := hid (fun (l : List Int) (v : Value) (V : World) (h : IntAt V v l) (hm : l.length ≤ maxLen) => parse_any s l v V hs h hm)
  have PLO : Hid (∀ l : List Int, 60 < l.length → parseF s l = badG 1) := fun l hl => by unfold parseF; rw [if_pos hl]
  have HEI := hid (fun (w1 : World) (xb g3 c3 g5 c5 : Nat) (sv : Nat → Value) hxv h2 => heights_new w1 xb g3 c3 g5 c5 sv (tabF s) (nR s) (nH s) (.slice ka code.length kc) hT.g.tab hT.hR hT.hH (by omega) hs6 hxv h2)
  have GRO := hid (fun (w1 w2 : World) (xb g3 c3 g5 c5 hb : Nat) (sv : Nat → Value) hxv hco hhb hf hblk hht h0 => grow_new w1 w2 xb g3 c3 g5 c5 hb sv (tabF s) (nR s) (nH s) (allH (tabF s) (nH s) (nH s)) (.slice ka code.length kc) code hTG hxv hco hcr hkm hhb hf hblk hht h0)
  have hH0 : 0 < nH s := hT.h0
  have hH8 : nH s ≤ 8 := hT.hH
  have h9 := hTG.le 0
  have hlen : (allH (tabF s) (nH s) (nH s)).length = nH s := hTG.len
  unfold PRet at PAN
  unfold ParRet at PAA
  clear hc hc2 hcl hd hT hpl hs6 hTG hHl hcr
  generalize (linesF s).1 = LN at FG XVO
  generalize hps : tabF s = ps at *
  generalize nH s = H at *
  generalize allH ps H H = hts at *
  clear hps
  have hl0 : 0 < hts.length := by omega
  have hH1 : (0 : Int) < (H : Int) := by omega
  have HLE := hid hlen
  clear hlen
  by_cases hz : hts.getD 0 0 = 0
  · obtain ⟨WL, hpz⟩ := PZ.out hz
    rw [hpz] at PAN
    dsimp only at PAN
    have hN0 : (nodesF ps []).length = 0 := nodesF_len ps []
    rw [hN0] at PAN
    clear hpz hN0 PZ PAL PAA PLO GRO
    go_enter Tryz.func3, Tryz.ntmps3
    go_wp2_with (first
      | (go_at_call 5; refine (FG.out _).mono ?_; rintro e w1 ⟨xb, rfl, hx, hf1⟩; obtain ⟨g3, c3, g5, c5, sv, a2, c2, hxv, hc2⟩ := XVO.out w1 xb hx; have HXV := hid hxv; have HC2 := hid hc2; have HF1 := hid hf1; clear hx hf1 hxv hc2)
      | (go_at_call 7; go_loud (refine (HEI.out w1 xb g3 c3 g5 c5 sv HXV.out ⟨a2, c2, HC2.out⟩).mono ?_; rintro e w2 ⟨rfl, hb, hhb, hB2, hH2, hM2⟩; have z5 := cellOf hB2 5; have ch := hH2.cell hl0; rw [hz] at ch; simp [trN] at z5; have HM2 := hid (HF1.out.trans hM2); clear hB2 hH2 hM2))
      | (go_at_call 6; have stage := HM2.out; refine (PAN.out _).mono ?_; rintro e w4 ⟨na, nc, xa, xc, rfl, hf4, _⟩; have HF4 := hid (HM2.out.trans hf4); clear hf4))
    go_ret
    exact ⟨rfl, HF4.out.alloc _⟩
  · have HZ := hid hz
    obtain ⟨h00, hh00⟩ : ∃ h00, h00 = hts.getD 0 0 := ⟨_, rfl⟩
    rw [← hh00] at h9 hz
    have hz1 : ¬ ((h00 : Int) = 0) := by omega
    have hz2 : ((h00 : Int) == 0) = false := by simpa using hz
    have HH00 := hid hh00
    clear hh00
    clear PZ PAN
    go_enter Tryz.func3, Tryz.ntmps3
    go_upto_region 15 with (first
      | (go_at_call 5; refine (FG.out _).mono ?_; rintro e w1 ⟨xb, rfl, hx, hf1⟩; obtain ⟨g3, c3, g5, c5, sv, a2, c2, hxv, hc2⟩ := XVO.out w1 xb hx; have HXV := hid hxv; have HC2 := hid hc2; have HF1 := hid hf1; clear hx hf1 hxv hc2)
      | (go_at_call 7; refine (HEI.out w1 xb g3 c3 g5 c5 sv HXV.out ⟨a2, c2, HC2.out⟩).mono ?_; rintro e w2 ⟨rfl, hb, hhb, hB2, hH2, hM2⟩; have z5 := cellOf hB2 5; have ch := hH2.cell hl0; rw [← HH00.out] at ch; simp [trN] at z5; have HB2 := hid hB2; have HH2 := hid hH2; have HM2 := hid hM2; clear hB2 hH2 hM2)
      | (go_at_call 8; have stage := HB2.out; refine (GRO.out w1 w2 xb g3 c3 g5 c5 hb sv HXV.out (HK.out.fresh HF1.out) hhb HM2.out HB2.out HH2.out HZ.out).mono ?_; rintro e w3 ⟨rfl, A, u3, vn, vk, hT3, hF3, hr3, hl3⟩; have HT3 := hid hT3; have HF3 := hid (HF1.out.trans hF3); have HR3 := hid hr3; clear hT3 hF3 hr3))
    obtain ⟨na3, nc3, hvn⟩ := own_form HT3.out.ns
    subst hvn
    obtain ⟨ka3, kc3, hvk⟩ := own_form HT3.out.ks
    subst hvk
    have z3 := HT3.out.cell 3
    have z4 := HT3.out.cell 4
    simp at z3 z4
    have hlv := leaves_len A
    have hlv2 : (leavesS A).length ≤ 1000000000000 := by omega
    have PB := hid (PAA.out (leavesS A) _ w3 (IntOwn.at' HT3.out.ks) (by unfold maxLen; omega))
    have hNFl : (nodesF ps A).length ≤ 1000000000000 := by rw [nodesF_len]; omega
    have hb3 := HT3.out.lt
    by_cases hlong : 60 < (leavesS A).length
    · rw [PLO.out _ hlong] at PB
      have hlong1 : (60 : Int) < ((leavesS A).length : Int) := by omega
      generalize leavesS A = KL at PB z4 hlong1 hlv2 hlong
      generalize nodesF ps A = NF at z3 hNFl
      clear hlv
      go_wp2_with (first
        | (go_at_call 6; refine PB.out.mono ?_; rintro e w4 ⟨vn4, vw4, rfl, hf4, hN4, hW4⟩; obtain ⟨na4, nc4, hv4⟩ := own_form hN4; subst hv4; obtain ⟨wa4, wc4, hv4⟩ := own_form hW4; subst hv4; have HF4 := hid (HF3.out.trans hf4); have y4 := fcell' (hf4.alloc (.cells (parA (.slice na4 (nodesF ps (badG 1).st).length nc4) (.slice wa4 (badG 1).wanted.length wc4) (badG 1).place) 28 (0, 0))) z4; clear hf4 hN4 hW4))
      go_ret
      exact ⟨by first | rfl | simp [badG], HF4.out.alloc _⟩
    · rw [PAL.out A HR3.out (by omega)] at PB
      have hlong1 : ¬ (60 : Int) < ((leavesS A).length : Int) := by omega
      have HTN := hid HT3.out.ns
      generalize leavesS A = KL at PB z4 hlong1 hlv2 hlong
      generalize hNFe : nodesF ps A = NF at PB z3 hNFl HTN
      clear hlv hNFe
      dsimp only at PB
      go_upto_region 18 with (first
        | (go_at_call 6; refine PB.out.mono ?_; rintro e w4 ⟨vn4, vw4, rfl, hf4, hN4, hW4⟩; obtain ⟨na4, nc4, hv4⟩ := own_form hN4; subst hv4; obtain ⟨wa4, wc4, hv4⟩ := own_form hW4; subst hv4; have HF4 := hid (HF3.out.trans hf4); have HN4 := hid hN4; have HX4 := hid hf4; have y4 := fcell' (hf4.alloc (.cells (parA (.slice na4 NF.length nc4) (.slice wa4 0 wc4) 0) 28 (0, 0))) z4; have y3 := fcell' (hf4.alloc (.cells (parA (.slice na4 NF.length nc4) (.slice wa4 0 wc4) 0) 28 (0, 0))) z3; clear hf4 hN4 hW4))
      have SN : Hid (∀ W, Fresh w4 W → Calls Tryz.prog 9 #[.slice na4 NF.length nc4, .slice na3 NF.length nc3] W fun e w' => e = .returned (.bool true) ∧ Fresh W w') := fun W hW => by
        have ra : NdsAt W (.slice na4 NF.length nc4) NF := ⟨ownsRow_base (ownsRow_other HN4.out (fun g hg => hW.block g (HN4.out.lt g hg).2 (fun x => x))) (Nat.zero_le _), fun _ _ => rfl⟩
        have hX := HX4.out.trans hW
        have rb : NdsAt W (.slice na3 NF.length nc3) NF := ⟨ownsRow_base (ownsRow_other HTN.out (fun g hg => hX.block g (HTN.out.lt g hg).2 (fun x => x))) (Nat.zero_le _), fun _ _ => rfl⟩
        have h := sameNodes_any W _ _ NF NF ra rb (by omega) (by omega) (.inl rfl)
        simpa using h
      have HP5 : Hid ((w4.alloc (.cells (parA (.slice na4 NF.length nc4) (.slice wa4 0 wc4) 0) 28 (0, 0))).heap[w4.heap.size]? = some (.cells (parA (.slice na4 NF.length nc4) (.slice wa4 0 wc4) 0) 28 (0, 0))) := heap_alloc_at _ _
      have HF5 : Hid (Fresh w4 (w4.alloc (.cells (parA (.slice na4 NF.length nc4) (.slice wa4 0 wc4) 0) 28 (0, 0)))) := (Mod.refl _ w4).alloc _
      generalize w4.alloc (.cells (parA (.slice na4 NF.length nc4) (.slice wa4 0 wc4) 0) 28 (0, 0)) = w5 at HP5 HF5 y3 y4 ⊢
      have x0 := cellOf HP5.out 0
      simp [parA] at x0
      go_cut [15] (fun s15 wx => s15 = .bool true ∧ Fresh w5 wx)
      case first =>
        go_region_with (first
          | (go_at_call 9; refine (SN.out _ (by first | exact HF5.out.drew | exact HF5.out)).mono ?_; rintro e w7 ⟨rfl, hf7⟩))
        all_goals
          go_wp2_with fail
          go_meet
          exact ⟨rfl, by first | exact ((Mod.refl _ w5).drew).trans hf7 | exact hf7⟩
      case rest =>
        obtain ⟨rfl, hfx⟩ := hcut
        have HFX : Hid (Fresh w wc) := HF4.out.trans (HF5.out.trans hfx)
        have hP := hfx.at HP5.out (fun x => x)
        have x1 := cellOf hP 1
        have x2 := cellOf hP 2
        simp [parA] at x1 x2
        clear hfx hP x0 y3 y4
        go_wp2
        go_ret
        exact ⟨rfl, HFX.out⟩
end Go.Proofs.YtakkooidejdfkaaGreat
namespace Go.Proofs.YtakkooidejdfkaaGreat
open Go.ChangeShapes Go.WideShapes Go.ChangeAt Go.RowKit
open Go.ChangeMaps (open_string shut_string)
set_option linter.unusedVariables false
set_option linter.unusedSimpArgs false

theorem Tryz.own : ownKnob Tryz.prog.godebug = none := by kernel_rfl
theorem Tryz.laidOut : laidOutB Tryz.prog = true := by kernel_rfl

theorem grown_any (s : ByteArray) (code : List Int) (vc : Value) (w : World) (hs : s.size ≤ maxLen) (hk : IntAt w vc code) (hm : code.length ≤ maxLen) (hcr : ∀ z ∈ code, -9223372036854775808 ≤ z ∧ z ≤ 9223372036854775807) :
    Calls Tryz.prog 3 #[.string s, vc] w fun e w' => e = .returned (.bool true) ∧ Fresh w w' := by
  by_cases hc : (checkF s).1 = 0
  · by_cases hcl : clashF s = []
    · exact grown_good s code vc w hs hk hm hcr hc hcl
    · exact grown_clash s vc w hs hc hcl
  · exact grown_bad s vc w hs hc

set_option maxRecDepth 100000 in
theorem grown_lifted (os : Os) (started : os.Started) (H : Type) (enc : TypeId × Value → H) :
    ReturnsInHanded {} Tryz.checked os 3 .any (Rows.grownSpec.pre6 enc Tryz.prog Tryz.f3 Rows.grownRow.domain false) (Rows.grownSpec.post enc Tryz.prog Tryz.f3 false true false false) := by
  refine returnsInHanded_of_change (C := Tryz.checked) Tryz.own started (by kernel_rfl) Tryz.func3
    (ChangeSpec.witness6 (enc := enc) (C := Tryz.checked) false ⟨#[], #[.string ByteArray.empty, .slice none 0 0], []⟩ 8 (by kernel_rfl) (by kernel_rfl) (by kernel_rfl) (by kernel_rfl)) ?_
  intro W base args ds gs before hval0 hW hcnd _
  have hval : ∀ (j : Nat) t v, Tryz.f3.params[j]? = some t → args[j]? = some v → Value.okWide Tryz.prog W .any base t v := hval0
  have hW' := hW
  obtain ⟨p, q, hA0, hV, rfl, hfz, hnd⟩ := hW
  have hA : DataW.TrodAll enc Tryz.prog W 0 (fun _ => true) true Tryz.f3.params.toList args.toList ds p := hA0
  rw [Tryz.params3] at hA hval
  obtain ⟨v0, v1, d0, d1, p0, p1, rfl, rfl, rfl, h0, h1⟩ := trodAll_two hA
  obtain ⟨rfl, rfl⟩ := trodVars_none hV
  obtain ⟨s, rfl, rfl, rfl, ws⟩ := open_string Tryz.underlying9 (hval 0 9 v0 rfl rfl) h0
  obtain ⟨a1, len1, cap1, rfl⟩ := okWide_slice Tryz.underlying22 (hval 1 22 v1 rfl rfl)
  have k1 := h1
  have lt1 : ∀ x ∈ p1, x.block < W.heap.size := by obtain ⟨m, hm⟩ := k1; exact DataW.trod_lt m _ _ _ hm
  obtain ⟨kinds, hk, hm, hcr⟩ : ∃ kinds, IntAt W (.slice a1 len1 cap1) kinds ∧ kinds.length ≤ maxLen ∧ ∀ z ∈ kinds, -9223372036854775808 ≤ z ∧ z ≤ 9223372036854775807 := by
    obtain ⟨fuel, hf⟩ := h1
    rcases open_ints Tryz.underlying22 Tryz.underlying3 (by kernel_rfl) hf with ⟨hcs, _⟩ | ⟨x, l, c, zs, hcs, _, hl, hm, hz, _, hcell, hwz⟩
    · simp [Value.cells] at hcs
      obtain ⟨rfl, rfl, rfl⟩ := hcs
      exact ⟨[], ⟨none, 0, rfl, Nat.le_refl _, fun j hj => absurd hj (by simp)⟩, by simp, fun z hz => by (cases hz)⟩
    · simp [Value.cells] at hcs
      obtain ⟨rfl, rfl, rfl⟩ := hcs
      have hz' : zs.length = cap1 := by simpa using hz
      have hzl : (zs.take len1).length = len1 := by rw [List.length_take]; omega
      refine ⟨zs.take len1, ⟨some x, cap1, by rw [hzl], by rw [hzl]; exact hl, fun j hj => ?_⟩, by rw [hzl]; omega, fun z hz => ?_⟩
      · obtain ⟨b, off, rfl, hc⟩ := ints_at hcell (by omega)
        have hj2 : j < zs.length := by omega
        refine ⟨b, off, rfl, ?_⟩
        have := hc j hj2
        rw [List.getElem_take]
        simpa [List.getD, hj2] using this
      · have := hwz z (List.mem_of_mem_take hz)
        exact bounds_i64 this
  clear hA0 hval0
  simp only [List.append_nil] at hW'
  refine (grown_any s kinds _ W ws hk hm hcr).mono fun e W' ⟨he, hF⟩ => ?_
  subst he
  have hB := hF.below
  refine ⟨_, rfl, _, _, _, [], p1, [], hW', ?_, ?_, ?_, hB.frame _, fun h => by cases h⟩
  · exact trodAll_mk1 (shut_bool Tryz.underlying4 true)
  · exact trodAll_mk2 (shut_string Tryz.underlying9 ws) (Below.trod Tryz.laidOut (by kernel_rfl) (of_decide_eq_true (by kernel_rfl)) k1 hB lt1)
  · trivial

theorem grown_holds : Rows.GrownSaid :=
  OpenClaim.holds_of_wide 3 Tryz.f3 rfl rfl rfl rfl rfl rfl rfl ⟨rfl, rfl, rfl, rfl, rfl⟩ rfl rfl rfl rfl rfl (by kernel_rfl) Tryz.func3 (by kernel_rfl)
    (of_decide_eq_true (by kernel_rfl)) (by unfold Func.isWrapper; first | (rw [if_pos (by decide +kernel)]; kernel_rfl) | (rw [if_neg (by decide +kernel)]; exact ⟨rfl, rfl⟩))
    (fun os started H enc _ => grown_lifted os started H enc)
#print axioms grown_holds
end Go.Proofs.YtakkooidejdfkaaGreat
