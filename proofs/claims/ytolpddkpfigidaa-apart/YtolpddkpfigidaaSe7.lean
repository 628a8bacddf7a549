import Derived.Test.YtolpddkpfigidaaSe6
namespace Go.Proofs.Ytolpddkpfigidaa
open Go.RowKit
set_option linter.unusedVariables false
set_option linter.unusedSimpArgs false

def fruB (hs : List Hd) (s : Sy) : Bool := !s.isH || (getH hs s.num).fru
def allFru (hs : List Hd) (l : List Sy) : Bool := l.all (fruB hs)

set_option maxRecDepth 20000 in
set_option maxHeartbeats 4000000 in
theorem allFru_any (w : World) (b : Nat) (R H : Int) (vp vh : Value) (ps : List PV) (hs : List Hd) (B : Nat) (vs : Value) (syms : List Sy) (h : FA w b R H vp vh ps hs) (hB : B ≤ w.heap.size) (hsy : SymAt w B vs syms) :
    Calls Try.prog 122 #[bptr b, vs] w fun e w' => e = .returned (.bool (allFru hs syms)) ∧ Fresh w w' := by
  have HF := hid h
  have HOK := hid h.ok
  obtain ⟨ao, cap, hv, hc1, hc2, hcells⟩ := hsy
  subst hv
  unfold maxLen at hc2
  have HC := hid hcells
  generalize hR : allFru hs syms = RES
  have HR := hid hR
  clear hcells hR h
  go_enter Try.func122, Try.ntmps122
  go_wp2
  go_loopw [6, 7, 10] (fun x6 x7 x10 wr => ∃ (i : Nat), x10 = .int .i64 i ∧ i ≤ syms.length ∧ allFru hs (syms.drop i) = RES ∧ Fresh w wr)
      (fun _ _ x _ => syms.length + 1 - (intOf x).toNat)
  case atStart => exact ⟨0, rfl, by omega, HR.out, Mod.refl _ w⟩
  case round =>
    obtain ⟨i, rfl, hi, hres, hfr⟩ := hrel
    have HME := hid (meas (B := syms.length + 1) i (by omega))
    have HFR := hid hfr
    by_cases hlt : i < syms.length
    · rw [List.drop_eq_getElem_cons hlt] at hres
      obtain ⟨g, o, rfl, hgB, hrg⟩ := HC.out i hlt
      have RG : Hid (wr.rangeAt g (o + i * 2) [.bool syms[i].isH, .int .i64 syms[i].num]) := rangeAt_block hrg (hfr.block g (by omega) (fun x => x))
      unfold allFru at hres
      rw [List.all_cons] at hres
      unfold fruB at hres
      generalize syms[i].isH = sh at hres RG
      generalize syms[i].num = sn at hres RG
      have hi1 : (i : Int) < (syms.length : Int) := by omega
      clear hrg hfr
      cases sh
      · simp only [Bool.not_false, Bool.true_or, Bool.true_and] at hres
        have HRES := hid hres
        clear hres
        go_wp2_with (first
          | (refine wpList_load_mid rfl 193 _ rfl g (o + i * 2) rfl [.bool false, .int .i64 sn] _ RG.out Try.underlying193 rfl szSy ?_))
        go_roundw
        case rel => exact ⟨i + 1, by go_num, by omega, HRES.out, HFR.out.alloc _⟩
        case measure => exact HME.out
      · simp only [Bool.not_true, Bool.false_or] at hres
        have HOH := hid (getH_ok HOK.out sn)
        have GA := hid (fun w (h : FA w b R H vp vh ps hs) => get_any w b R H vp vh ps hs sn h)
        generalize getH hs sn = hd at hres HOH GA
        have HF2 := hid ((HF.out.fresh HFR.out).fresh ((Mod.refl _ wr).alloc (.cells #[.bool true, .int .i64 sn] 193 (0, 0))))
        cases hn : hd.fru
        · rw [hn, Bool.false_and] at hres
          have HRES := hid hres
          clear hres
          go_wp2_with (first
            | (refine wpList_load_mid rfl 193 _ rfl g (o + i * 2) rfl [.bool true, .int .i64 sn] _ RG.out Try.underlying193 rfl szSy ?_)
            | (go_at_call 94; refine (GA.out _ HF2.out).mono ?_; rintro e w1 ⟨rfl, hf1⟩; have kk : (w1.alloc (.cells (hdA hd) 154 (0, 0))).cell? ⟨w1.heap.size, 2, none⟩ = some (.bool hd.fru) := (by rw [cellOf (heap_alloc_at w1 _) 2]; exact hd_at2 hd); rw [hn] at kk)
            | (refine wpList_store_new rfl 154 _ _ rfl w1 _ (hdA hd) _ rfl rfl rfl (szHdOf HOH.out) (sameSize rfl (hd_size HOH.out)) (hd_one _) ?_))
          go_ret
          exact ⟨ret_bool HRES.out, Mod.trans (HFR.out.alloc _) hf1 |>.alloc _⟩
        · rw [hn, Bool.true_and] at hres
          have HRES := hid hres
          clear hres
          go_wp2_with (first
            | (refine wpList_load_mid rfl 193 _ rfl g (o + i * 2) rfl [.bool true, .int .i64 sn] _ RG.out Try.underlying193 rfl szSy ?_)
            | (go_at_call 94; refine (GA.out _ HF2.out).mono ?_; rintro e w1 ⟨rfl, hf1⟩; have kk : (w1.alloc (.cells (hdA hd) 154 (0, 0))).cell? ⟨w1.heap.size, 2, none⟩ = some (.bool hd.fru) := (by rw [cellOf (heap_alloc_at w1 _) 2]; exact hd_at2 hd); rw [hn] at kk)
            | (refine wpList_store_new rfl 154 _ _ rfl w1 _ (hdA hd) _ rfl rfl rfl (szHdOf HOH.out) (sameSize rfl (hd_size HOH.out)) (hd_one _) ?_))
          go_roundw
          case rel => exact ⟨i + 1, by go_num, by omega, HRES.out, Mod.trans (HFR.out.alloc _) hf1 |>.alloc _⟩
          case measure => exact HME.out
    · have hie : i = syms.length := by omega
      rw [hie, List.drop_length] at hres
      have HRES := hid hres
      have hi2 : ¬ (i : Int) < (syms.length : Int) := by omega
      clear hres hfr
      go_wp2
      go_ret
      exact ⟨by rw [← HRES.out]; rfl, HFR.out⟩

/-- the productions by themselves -/
def prsOf (ps : List PV) : List Pr := ps.map PV.pr
def growB1 (hs : List Hd) (p : Pr) : List Hd × Bool :=
  let h := getH hs p.head
  let r := begF hs p.syms zero9
  let h' : Hd := { h with nul := h.nul || r.2, fi := orL h.fi r.1 }
  (putF hs p.head h', putB hs p.head h')
def growBL : List Pr → List Hd → Bool → List Hd × Bool
  | [], hs, g => (hs, g)
  | p :: l, hs, g => growBL l (growB1 hs p).1 (g || (growB1 hs p).2)
def growF1 (hs : List Hd) (p : Pr) : List Hd × Bool :=
  let h := getH hs p.head
  let h' : Hd := { h with fru := h.fru || allFru hs p.syms }
  (putF hs p.head h', putB hs p.head h')
def growFL : List Pr → List Hd → Bool → List Hd × Bool
  | [], hs, g => (hs, g)
  | p :: l, hs, g => growFL l (growF1 hs p).1 (g || (growF1 hs p).2)
theorem putF_ok {hs : List Hd} (h : ∀ x ∈ hs, x.ok) (n : Int) {y : Hd} (hy : y.ok) : ∀ x ∈ putF hs n y, x.ok := by
  intro x hx
  unfold putF at hx
  split at hx
  · rcases List.mem_or_eq_of_mem_set hx with h1 | h1
    · exact h x h1
    · rw [h1]; exact hy
  · exact h x hx
theorem putF_len (hs : List Hd) (n : Int) (y : Hd) : (putF hs n y).length = hs.length := by unfold putF; split <;> simp

theorem szPV : (Try.prog.info? 178).map (·.size) = some 2 := by kernel_rfl
variable {w w' : World} {b : Nat} {R H : Int} {vp vh : Value} {ps : List PV} {hs : List Hd}
theorem FA.size (h : FA w b R H vp vh ps hs) : b < w.heap.size := heap_lt h.blk
theorem FA.kept (h : FA w b R H vp vh ps hs) {S : Nat → Prop} (hm : Mod S w w') (hS : ∀ k, S k → w.heap.size ≤ k) : FA w' b R H vp vh ps hs :=
  h.fresh ⟨hm.os, hm.tape, hm.output, hm.size, fun k hk _ => hm.block k hk (fun x => by have := hS k x; omega)⟩
end Go.Proofs.Ytolpddkpfigidaa
