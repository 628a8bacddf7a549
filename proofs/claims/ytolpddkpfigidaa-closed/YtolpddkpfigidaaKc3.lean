import Derived.Test.YtolpddkpfigidaaKc1
namespace Go.Proofs.Ytolpddkpfigidaa
open Go.RowKit
set_option linter.unusedVariables false
set_option linter.unusedSimpArgs false

def setAll (out : List Bool) (l : List Int) : List Bool := l.foldl (fun o k => o.set k.toNat true) out
theorem setAll_len : ∀ (l : List Int) (out : List Bool), (setAll out l).length = out.length
  | [], _ => rfl
  | k :: l, out => by unfold setAll; rw [List.foldl_cons]; have := setAll_len l (out.set k.toNat true); unfold setAll at this; rw [this]; simp
def hdAt (svs : List SV) (s : Int) : Hd := match svs[(-1 - s).toNat]? with
  | some x => x.hd
  | none => zeroHd
/-- with which rules what these symbols derive begins, by the sets; do they derive the empty string -/
def kaF (svs : List SV) : List Int → List Bool → List Bool × Bool
  | [], out => (out, true)
  | s :: l, out => if 0 ≤ s then (out.set s.toNat true, false) else
      if (hdAt svs s).nul = false then (setAll out (listT (hdAt svs s).fi), false) else kaF svs l (setAll out (listT (hdAt svs s).fi))
theorem kaF_len (svs : List SV) : ∀ (l : List Int) (out : List Bool), (kaF svs l out).1.length = out.length
  | [], _ => rfl
  | s :: l, out => by
    unfold kaF
    split
    · simp
    · split
      · rw [setAll_len]
      · rw [kaF_len svs l, setAll_len]
/-- a symbol that there is -/
def SymOk (nR nH : Nat) (s : Int) : Prop := s ≤ nR ∧ -(nH : Int) ≤ s
theorem made_tk (n : Nat) : madeCells #[.bool false] n = tkA (List.replicate n false) := by
  unfold madeCells tkA bls
  apply Array.ext_getElem?
  intro i
  by_cases h : i < n <;> simp [h, Nat.mod_one]

theorem szSet5 : (Try.prog.info? 64).map (·.size) = some 5 := by kernel_rfl
theorem KV.range {K : KP} {w : World} {nR : Nat} {head : List Int} {syms : List (List Int)} {svs : List SV} (h : KV K w nR head syms svs) (k : Nat) (hk : k < svs.length) : w.rangeAt K.gl (k * 5) svs[k].cells := fun j v hj => by
  rw [h.st k hk j (by have := (List.getElem?_eq_some_iff.1 hj).1; simpa [SV.cells] using this)]; exact hj

set_option maxRecDepth 20000 in
set_option maxHeartbeats 8000000 in
theorem kahead_any (K : KP) (w : World) (nR : Nat) (head : List Int) (syms : List (List Int)) (svs : List SV) (h : KV K w nR head syms svs) (hn : svs.length ≤ 1000) (hR : nR ≤ 1000)
    (hr : ∀ s ∈ svs, Rises (listT s.hd.fi) nR) (v : Value) (l : List Int) (hv : IntAt w v l) (hl : l.length ≤ 1000) (hok : ∀ s ∈ l, SymOk nR svs.length s) :
    Calls Try.prog 31 #[bptr K.b, K.vl svs.length, v] w fun e w' =>
      e = .returned (.tuple #[.slice (some ⟨w.heap.size, 0, none⟩) (nR + 1) (nR + 1), .bool (kaF svs l (List.replicate (nR + 1) false)).2]) ∧ Fresh w w' ∧ w'.heap[w.heap.size]? = some (.cells (tkA (kaF svs l (List.replicate (nR + 1) false)).1) 4 (0, 0)) := by
  have HK := hid h
  have HR := hid hr
  have HOK := hid hok
  have k0 := h.k0
  have h2 := fun w => run_make_row' (P := Try.prog) 47 4 (.bool false) 1 Try.underlying47 (by kernel_rfl) rfl .i64 .i64 (nR + 1) (by omega) (by omega) w
  simp only [Int.natCast_add, Int.cast_ofNat_Int] at h2
  generalize hRES : kaF svs l (List.replicate (nR + 1) false) = RES
  have HRES0 := hid hRES
  obtain ⟨ao, cap, rfl, hvc, hcell⟩ := hv
  have HC := hid hcell
  clear h hr hok hRES hcell
  obtain ⟨b, a0, c0, a2, c2, g3, c3, g5, c5, gl, cl, sv⟩ := K
  dsimp only at k0
  dsimp only [KP.vl]
  go_enter Try.func31, Try.ntmps31
  go_wp2
  go_loopw [9, 10, 11] (fun x9 _ _ wr => ∃ (i : Nat) (out : List Bool), x9 = .int .i64 i ∧ i ≤ l.length ∧ out.length = nR + 1 ∧ kaF svs (l.drop i) out = RES ∧ Fresh w wr ∧ wr.heap[w.heap.size]? = some (.cells (tkA out) 4 (0, 0)))
      (fun x _ _ _ => 1001 - (intOf x).toNat)
  case atStart =>
    refine ⟨0, List.replicate (nR + 1) false, rfl, by omega, by simp, HRES0.out, (Mod.refl _ w).alloc _, ?_⟩
    rw [← made_tk]; exact heap_alloc_at _ _
  case round =>
    obtain ⟨i, out, rfl, hi, hol, hres, hfr, hb⟩ := hrel
    obtain ⟨wo, hwo⟩ : ∃ wo, wo = wr := ⟨_, rfl⟩
    subst hwo
    have HME := hid (meas (B := 1001) i (by omega))
    have HFR := hid hfr
    have HB := hid hb
    have HOL := hid hol
    have hblt := heap_lt hb
    clear hb
    by_cases hlt : i < l.length
    · have hi1 : (i : Int) < (l.length : Int) := by omega
      rw [List.drop_eq_getElem_cons hlt] at hres
      obtain ⟨g, o, rfl, hcl⟩ := HC.out i hlt
      have c1 := fcell' hfr hcl
      obtain ⟨so1, so2⟩ := HOK.out l[i] (by simp)
      unfold kaF at hres
      generalize l[i] = s at hres c1 so1 so2
      clear hcl hol
      by_cases hs : 0 ≤ s
      · rw [if_pos hs] at hres
        obtain ⟨n, rfl⟩ : ∃ n : Nat, s = n := ⟨s.toNat, by omega⟩
        rw [Int.toNat_natCast] at hres
        have HRES := hid hres
        have hn1 : n < nR + 1 := by omega
        have hn2 : (n : Int) < (nR : Int) + 1 := by omega
        have c2 : wo.cell? ⟨w.heap.size, n, none⟩ = some (.bool (out.getD n false)) := by rw [cellOf HB.out, tk_atD (by rw [HOL.out]; exact hn1)]
        have z2 := frozenOf HB.out n
        generalize out.getD n false = ov at c2
        clear hres
        go_wp2
        go_ret2
        refine ⟨by rw [← HRES.out]; rfl, HFR.out.setCell (by simp) _, ?_⟩
        rw [Proofs.Ytolpddkpfigidaa.heap_setCell_same HB.out, tk_set, ← HRES.out]
      · rw [if_neg hs] at hres
        obtain ⟨k, hk⟩ : ∃ k : Nat, -1 - s = k := ⟨(-1 - s).toNat, by omega⟩
        have hkl : k < svs.length := by omega
        have hks : s = -1 - (k : Int) := by omega
        have hhd : hdAt svs s = svs[k].hd := by unfold hdAt; rw [hk]; simp [hkl]
        rw [hhd] at hres
        have RS := hid ((HK.out.fresh HFR.out).range k hkl)
        obtain ⟨l1, l2⟩ := HK.out.ls svs[k] (by simp)
        have hRi := HR.out svs[k] (by simp)
        have hl9 := listT_len svs[k].hd.fi
        generalize svs[k] = sx at hres RS l1 l2 hRi hl9
        obtain ⟨⟨hnul, hrch, hfru, hfi, hfo⟩, v1, v2⟩ := sx
        dsimp only at hres l1 l2 hRi hl9
        generalize listT hfi = fl at hres l1 hRi hl9
        obtain ⟨x1, y1, e1, hy1, hc1⟩ := l1
        obtain ⟨x2, y2, e2, _, _⟩ := l2
        generalize (listT hfo).length = n2 at e2
        subst e1
        subst e2
        have HC1 := hid hc1
        have HRI := hid hRi
        have RS' : Hid (wo.rangeAt gl (k * 5) [.bool hnul, .slice x1 fl.length y1, .slice x2 n2 y2, .bool hrch, .bool hfru]) := RS.out
        have HO2 : Hid ((setAll out fl).length = nR + 1) := by unfold Hid; rw [setAll_len]; exact HOL.out
        generalize hOUT : setAll out fl = OUT at hres HO2
        have HOUT := hid hOUT
        have HRES := hid hres
        have hkn : (k : Int) < (svs.length : Int) := by omega
        have hk0 : (0 : Int) ≤ (k : Int) := by omega
        have hsb : -2000 ≤ s := by omega
        have hs' : s < 0 := by omega
        clear hres hc1 hRi hOUT RS hhd hs hks
        go_wp2_with (first
          | (refine wpList_load_mid rfl 64 _ rfl gl (k * 5) rfl [.bool hnul, .slice x1 fl.length y1, .slice x2 n2 y2, .bool hrch, .bool hfru] _ RS'.out Try.underlying64 rfl szSet5 ?_))
        go_loopw [11] (fun x11 wr => ∃ (j : Nat) (o1 : List Bool), x11 = .int .i64 j ∧ j ≤ fl.length ∧ o1.length = nR + 1 ∧ setAll o1 (fl.drop j) = OUT ∧ Fresh w wr ∧ wr.heap[w.heap.size]? = some (.cells (tkA o1) 4 (0, 0)) ∧ wr.heap[wo.heap.size]? = some (.cells #[.bool hnul, .slice x1 fl.length y1, .slice x2 n2 y2, .bool hrch, .bool hfru] 64 (0, 0)))
            (fun x _ => 1001 - (intOf x).toNat)
        case atStart => exact ⟨0, out, rfl, by omega, HOL.out, HOUT.out, HFR.out.alloc _, heap_alloc_prev HB.out, heap_alloc_at _ _⟩
        case round =>
          obtain ⟨j, o1, rfl, hj, ho1, hset, hfj, hbj, hbx⟩ := hrel
          have HMJ := hid (meas (B := 1001) j (by omega))
          have HFJ := hid hfj
          have HBJ := hid hbj
          have HBX := hid hbx
          have q0 := cellOf hbx 0
          have q1 := cellOf hbx 1
          simp at q0 q1
          clear hbj hbx
          by_cases hlj : j < fl.length
          · have hj1 : (j : Int) < (fl.length : Int) := by omega
            rw [List.drop_eq_getElem_cons hlj] at hset
            obtain ⟨gf, of, rfl, hcf⟩ := HC1.out j hlj
            have c5 := fcell' hfj hcf
            obtain ⟨r1, r2, _⟩ := HRI.out j hlj
            unfold setAll at hset
            rw [List.foldl_cons] at hset
            generalize fl[j] = fv at hset c5 r1 r2
            obtain ⟨n, rfl⟩ : ∃ n : Nat, fv = n := ⟨fv.toNat, by omega⟩
            rw [Int.toNat_natCast] at hset
            have HSET := hid hset
            have hn1 : n < nR + 1 := by omega
            have hn2 : (n : Int) < (nR : Int) + 1 := by omega
            have c6 : wr.cell? ⟨w.heap.size, n, none⟩ = some (.bool (o1.getD n false)) := by rw [cellOf HBJ.out, tk_atD (by rw [ho1]; exact hn1)]
            have z6 := frozenOf HBJ.out n
            generalize o1.getD n false = ov at c6
            have HO1 : Hid ((o1.set n true).length = nR + 1) := by unfold Hid; simpa using ho1
            clear hset hcf hfj ho1
            go_wp2
            go_roundw
            case rel =>
              refine ⟨j + 1, o1.set n true, by go_num, by omega, HO1.out, HSET.out, HFJ.out.setCell (by simp) _, ?_, heap_setCell_prev HBX.out (by dsimp only; omega)⟩
              rw [Proofs.Ytolpddkpfigidaa.heap_setCell_same HBJ.out, tk_set]
            case measure => exact HMJ.out
          · have hje : j = fl.length := by omega
            have hj2 : ¬ (j : Int) < (fl.length : Int) := by omega
            rw [hje, List.drop_length] at hset
            have hset2 : o1 = OUT := hset
            subst hset2
            clear hset hfj ho1
            cases hnul
            · rw [if_pos rfl] at HRES
              go_wp2
              go_ret2
              refine ⟨by rw [← HRES.out]; rfl, HFJ.out, ?_⟩
              rw [← HRES.out]; exact HBJ.out
            · rw [if_neg (by simp)] at HRES
              go_wp2
              go_roundw
              case rel => exact ⟨i + 1, o1, by go_num, by omega, HO2.out, HRES.out, HFJ.out, HBJ.out⟩
              case measure => exact HME.out
    · have hie : i = l.length := by omega
      have hi2 : ¬ (i : Int) < (l.length : Int) := by omega
      rw [hie, List.drop_length] at hres
      have hres2 : (out, true) = RES := hres
      have HRES := hid hres2
      clear hres hres2 hfr hol
      go_wp2
      go_ret2
      refine ⟨by rw [← HRES.out]; rfl, HFR.out, ?_⟩
      rw [← HRES.out]; exact HB.out
end Go.Proofs.Ytolpddkpfigidaa
