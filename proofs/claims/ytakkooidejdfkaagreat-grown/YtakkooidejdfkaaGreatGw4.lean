import Derived.Test.YtakkooidejdfkaaGreatVi1
namespace Go.Proofs.YtakkooidejdfkaaGreat
open Go.RowKit
set_option linter.unusedVariables false
set_option linter.unusedSimpArgs false

/-- the heights in memory -/
def HtAt (w : World) (hb : Nat) (hts : List Nat) : Prop := w.heap[hb]? = some (.cells (i64s (hts.map Int.ofNat)) 3 (0, 0))
theorem HtAt.cell {w : World} {hb : Nat} {hts : List Nat} (h : HtAt w hb hts) {i : Nat} (hi : i < hts.length) : w.cell? ⟨hb, i, none⟩ = some (.int .i64 (hts.getD i 0 : Nat)) := by
  rw [cellOf h i]
  simp [i64s, hi]
theorem HtAt.set {w : World} {hb : Nat} {hts : List Nat} (h : HtAt w hb hts) (i v : Nat) : HtAt (w.setCell ⟨hb, i, none⟩ (.int .i64 (v : Nat))) hb (hts.set i v) := by
  unfold HtAt
  rw [Proofs.YtakkooidejdfkaaGreat.heap_setCell_same h i _]
  congr 2
  simp [i64s, List.map_set, Array.setIfInBounds]
  intro hle
  rw [List.set_eq_of_length_le (by simpa using hle)]

set_option maxRecDepth 20000 in
set_option maxHeartbeats 2000000 in
theorem high_any (w : World) (b xb g3 c3 g5 c5 hb : Nat) (sv : Nat → Value) (ps : List Pr) (hts : List Nat) (p : Nat)
    (h0 : w.cell? ⟨b, 0, none⟩ = some (bptr xb)) (h5 : w.cell? ⟨b, 5, none⟩ = some (.slice (some ⟨hb, 0, none⟩) hts.length hts.length)) (hx : XV w xb g3 c3 g5 c5 sv ps) (hh : HtAt w hb hts) (hp : p < ps.length) (hpl : ps.length ≤ 100)
    (hs6 : ps[p].syms.length ≤ 6) (hin : ∀ s ∈ ps[p].syms, 0 ≤ s.num ∧ s.num ≤ 100 ∧ (s.isH = true → s.num < hts.length)) (hbd : ∀ X, hts.getD X 0 ≤ 100) (hhl : hts.length ≤ 100) :
    Calls Tryz.prog 18 #[bptr b, .int .i64 p] w fun e w' => e = .returned (.int .i64 (hiP hts ps[p] : Nat)) ∧ w' = w := by
  obtain ⟨hsv, hIn⟩ := hx.sy p hp
  obtain ⟨sa, scap, hsve, hsc, hscell⟩ := hIn
  rw [List.length_map] at hsve
  rw [hsve] at hsv
  have k5 := hx.k5
  have hc1 : (p : Int) < (ps.length : Int) := by omega
  have HH := hid hh
  have HSC := hid hscell
  have HIN := hid hin
  have HB := hid hbd
  unfold hiP
  generalize ps[p].syms = sy at hsv HSC HIN hs6 ⊢
  generalize hV : hiL hts sy 1 = V
  have HV : Hid (hiL hts (sy.drop 0) 1 = V) := by unfold Hid; rw [← hV]; rfl
  clear hV hscell hin hbd hh hsve hsc hx
  go_enter Tryz.func18, Tryz.ntmps18
  go_wp2
  go_loopw [5, 6, 7, 8] (fun x5 x6 _ _ wr => ∃ (h j : Nat), x5 = .int .i64 h ∧ x6 = .int .i64 j ∧ j ≤ sy.length ∧ h ≤ 1000 ∧ hiL hts (sy.drop j) h = V ∧ wr = w)
      (fun _ x _ _ _ => 10 - (intOf x).toNat)
  case atStart => exact ⟨1, 0, rfl, rfl, by omega, by omega, HV.out, rfl⟩
  case round =>
    obtain ⟨h, j, rfl, rfl, hj, hh1, hrec, rfl⟩ := hrel
    have HME := hid (meas (B := 10) j (by omega))
    by_cases hlt : j < sy.length
    · have hlt1 : (j : Int) < (sy.length : Int) := by omega
      obtain ⟨sg, so, rfl, hce⟩ := HSC.out j (by simpa using hlt)
      rw [List.getElem_map] at hce
      rw [List.drop_eq_getElem_cons hlt] at hrec
      have hyb := HIN.out sy[j] (by simp)
      generalize sy[j] = y at hce hrec hyb
      obtain ⟨yh, yn⟩ := y
      dsimp only at hyb
      obtain ⟨hy0, hy1, hy2⟩ := hyb
      unfold hiL at hrec
      cases yh
      · rw [if_pos rfl] at hrec
        have HRC := hid hrec
        have hsI : sInt ⟨false, yn⟩ = yn := rfl
        rw [hsI] at hce
        clear hrec hsI hy2
        go_wp2
        go_roundw
        case rel => exact ⟨h, j + 1, rfl, by go_num, by omega, hh1, HRC.out, by first | rfl | trivial⟩
        case measure => exact HME.out
      · rw [if_neg (by simp)] at hrec
        have hsI : sInt ⟨true, yn⟩ = -1 - yn := rfl
        rw [hsI] at hce
        obtain ⟨n, rfl⟩ : ∃ n : Nat, yn = n := ⟨yn.toNat, by omega⟩
        dsimp only at hrec
        rw [Int.toNat_natCast] at hrec
        have hneg : (-1 : Int) - (n : Int) < 0 := by omega
        have hneg' : ¬ (0 ≤ (-1 : Int) - (n : Int)) := by omega
        have hsub : (-1 : Int) - (-1 - (n : Int)) = (n : Int) := by omega
        have hnl : n < hts.length := by have := hy2 rfl; omega
        have hn1 : (n : Int) < (hts.length : Int) := by omega
        have ch := HH.out.cell hnl
        have hk := HB.out n
        generalize hts.getD n 0 = k at ch hrec hk
        clear hsI hy2
        by_cases hk0 : k = 0
        · rw [if_pos hk0] at hrec
          subst hk0
          have HRC := hid hrec
          clear hrec
          go_wp2
          go_ret
          exact ⟨by rw [← HRC.out]; rfl, rfl⟩
        · rw [if_neg hk0] at hrec
          have HRC := hid hrec
          have hk1 : ¬ ((k : Int) = 0) := by omega
          have hk2 : ((k : Int) == 0) = false := by simpa using hk0
          clear hrec
          by_cases hkh : h < k + 1
          · have HRC2 : Hid (hiL hts (sy.drop (j + 1)) (k + 1) = V) := by have := HRC.out; rw [if_pos hkh] at this; exact this
            have hkh1 : (h : Int) < (k : Int) + 1 := by omega
            clear HRC
            go_wp2
            go_roundw
            case rel => exact ⟨k + 1, j + 1, by go_num, by go_num, by omega, by omega, HRC2.out, by first | rfl | trivial⟩
            case measure => exact HME.out
          · have HRC2 : Hid (hiL hts (sy.drop (j + 1)) h = V) := by have := HRC.out; rw [if_neg hkh] at this; exact this
            have hkh1 : ¬ (h : Int) < (k : Int) + 1 := by omega
            clear HRC
            go_wp2
            go_roundw
            case rel => exact ⟨h, j + 1, rfl, by go_num, by omega, by omega, HRC2.out, by first | rfl | trivial⟩
            case measure => exact HME.out
    · have hj2 : j = sy.length := by omega
      have hlt1 : ¬ (j : Int) < (sy.length : Int) := by omega
      have HE : Hid (h = V) := by unfold Hid; rw [hj2, List.drop_length] at hrec; exact hrec
      clear hrec hj2
      go_wp2
      go_ret
      exact ⟨by rw [← HE.out]; rfl, rfl⟩

def pickF (c : Int) (n : Nat) : Nat := (if c < 0 then (-(c + 1)).toNat else c.toNat) % n
theorem pickF_lt (c : Int) {n : Nat} (h : 0 < n) : pickF c n < n := Nat.mod_lt _ h
set_option maxRecDepth 20000 in
set_option maxHeartbeats 2000000 in
theorem pick_any (w : World) (c : Int) (n : Nat) (hc : -9223372036854775808 ≤ c ∧ c ≤ 9223372036854775807) (hn : 0 < n) (hn2 : n ≤ 1000) :
    Calls Tryz.prog 32 #[.int .i64 c, .int .i64 n] w fun e w' => e = .returned (.int .i64 (pickF c n : Nat)) ∧ w' = w := by
  have hn0 : ¬ ((n : Int) = 0) := by omega
  have hn1 : ((n : Int) == 0) = false := by simpa using hn0
  obtain ⟨hc1, hc2⟩ := hc
  by_cases h : c < 0
  · have hw1 : IntKind.i64.wrap (c + 1) = c + 1 := by rw [IntKind.wrap_i64]; omega
    have hw2 : IntKind.i64.wrap (-(c + 1)) = -(c + 1) := by rw [IntKind.wrap_i64]; omega
    obtain ⟨d, hd⟩ : ∃ d : Nat, -(c + 1) = d := ⟨(-(c + 1)).toNat, by omega⟩
    go_enter Tryz.func32, Tryz.ntmps32
    go_wp2
    go_ret
    exact ⟨by unfold pickF; rw [if_pos h, hd]; simp, rfl⟩
  · obtain ⟨d, rfl⟩ : ∃ d : Nat, c = d := ⟨c.toNat, by omega⟩
    go_enter Tryz.func32, Tryz.ntmps32
    go_wp2
    go_ret
    exact ⟨by unfold pickF; rw [if_neg (by omega)]; simp, rfl⟩
end Go.Proofs.YtakkooidejdfkaaGreat
namespace Go.Proofs.YtakkooidejdfkaaGreat
open Go.RowKit
set_option linter.unusedVariables false
set_option linter.unusedSimpArgs false

def trA (vx vc : Value) (u : Nat) (vn vk vh : Value) : Array Value := #[vx, vc, .int .i64 u, vn, vk, vh]
theorem foldl_takeS {α β : Type} (f : β → α → β) (x : β) {l : List α} {i : Nat} (h : i < l.length) : (l.take (i + 1)).foldl f x = f ((l.take i).foldl f x) l[i] := by
  rw [takeS h, List.foldl_append]; rfl

set_option maxRecDepth 20000 in
set_option maxHeartbeats 4000000 in
theorem heights_any (w : World) (b xb g3 c3 g5 c5 : Nat) (sv : Nat → Value) (ps : List Pr) (R H : Nat) (vc : Value) (hT : TabOk ps R H)
    (hb : w.heap[b]? = some (.cells (trA (bptr xb) vc 0 (.slice none 0 0) (.slice none 0 0) (.slice none 0 0)) 34 (0, 0)))
    (SF : ∀ W, MB b w W → XV W xb g3 c3 g5 c5 sv ps ∧ ∃ a2 c2, W.cell? ⟨xb, 2, none⟩ = some (.slice a2 H c2)) (hR : R ≤ 8) (hH : H ≤ 8) (hpl : ps.length ≤ 100) (hs6 : ∀ p ∈ ps, p.syms.length ≤ 6) :
    Calls Tryz.prog 7 #[bptr b] w fun e w' => e = .returned (.tuple #[]) ∧ w'.heap[b]? = some (.cells (trA (bptr xb) vc 0 (.slice none 0 0) (.slice none 0 0) (.slice (some ⟨w.heap.size, 0, none⟩) H H)) 34 (0, 0)) ∧ HtAt w' w.heap.size (allH ps H H) ∧ MB b w w' := by
  obtain ⟨i0, hi0, iz0, iz1, iz2⟩ := infoI'
  have mk : ∀ w : World, (Instr.makeSlice 22 (.int .i64 H) (.int .i64 H)).run Tryz.prog w = .ok (.slice (some ⟨w.heap.size, 0, none⟩) H H) (w.alloc (.cells (i64s (List.replicate H 0)) 3)) := fun w => by
    have h := run_make (P := Tryz.prog) w 22 3 i0 _ Tryz.underlying22 hi0 iz0 .i64 .i64 (H : Int) (H : Int) (by omega) (Int.le_refl _) (by rw [iz2]; omega) (by omega)
    rw [iz1, Int.toNat_natCast, Nat.mul_one] at h
    rw [← made_int]
    exact h
  obtain ⟨_, a2, c2, hx2⟩ := SF w (Mod.refl _ w)
  have z0 := cellOf hb 0
  have f5 := frozenOf hb 5
  have z5 := cellOf hb 5
  simp [trA] at z0 z5
  have hbl := heap_lt hb
  have HSF := hid SF
  have HT := hid hT
  have HS6 := hid hs6
  have HBB := hid hb
  have q5 : (w.alloc (.cells (i64s (List.replicate H 0)) 3 (0, 0))).frozen? ⟨b, 5, none⟩ = false := frozenOf (((Mod.refl (fun _ => False) w).alloc _).at hb (fun x => x)) 5
  have q6 : (w.alloc (.cells (i64s (List.replicate H 0)) 3 (0, 0))).cell? ⟨b, 5, none⟩ = some (.slice none 0 0) := by rw [cellOf (((Mod.refl (fun _ => False) w).alloc _).at hb (fun x => x)) 5]; simp [trA]
  clear SF hT hs6 hb
  go_enter Tryz.func7, Tryz.ntmps7
  go_wp2
  have HB1 : Hid (((w.setCell ⟨b, 5, none⟩ (.slice (some ⟨w.heap.size, 0, none⟩) H H)).alloc (.cells (i64s (List.replicate H 0)) 3 (0, 0))).heap[b]? = some (.cells (trA (bptr xb) vc 0 (.slice none 0 0) (.slice none 0 0) (.slice (some ⟨w.heap.size, 0, none⟩) H H)) 34 (0, 0))) := by
    refine heap_alloc_prev ?_
    rw [Proofs.YtakkooidejdfkaaGreat.heap_setCell_same HBB.out 5 _]; rfl
  have HH1 : Hid (HtAt ((w.setCell ⟨b, 5, none⟩ (.slice (some ⟨w.heap.size, 0, none⟩) H H)).alloc (.cells (i64s (List.replicate H 0)) 3 (0, 0))) w.heap.size (allH ps H 0)) := by
    have h1 := heap_alloc_at (w.setCell ⟨b, 5, none⟩ (.slice (some ⟨w.heap.size, 0, none⟩) H H)) (.cells (i64s (List.replicate H 0)) 3 (0, 0))
    rw [Proofs.YtakkooidejdfkaaGreat.heap_setCell_size] at h1
    unfold Hid HtAt
    rw [h1]
    simp [allH]
  have HM1 : Hid (MB b w ((w.setCell ⟨b, 5, none⟩ (.slice (some ⟨w.heap.size, 0, none⟩) H H)).alloc (.cells (i64s (List.replicate H 0)) 3 (0, 0)))) := Mod.alloc (Mod.setCell (Mod.refl (fun k => k = b) w) (p := ⟨b, 5, none⟩) (fun _ => rfl) _) _
  generalize (w.setCell ⟨b, 5, none⟩ (.slice (some ⟨w.heap.size, 0, none⟩) H H)).alloc (.cells (i64s (List.replicate H 0)) 3 (0, 0)) = W1 at HB1 HH1 HM1
  clear mk z0 f5 z5 q5 q6 hx2
  generalize hhb : w.heap.size = hb at *
  have HHB := hid hhb
  clear hhb
  go_loopw [2, 3, 4] (fun x2 _ _ wr => ∃ (r : Nat), x2 = .int .i64 ((r : Int) + 1) ∧ r ≤ H ∧ wr.heap[b]? = some (.cells (trA (bptr xb) vc 0 (.slice none 0 0) (.slice none 0 0) (.slice (some ⟨hb, 0, none⟩) H H)) 34 (0, 0)) ∧ HtAt wr hb (allH ps H r) ∧ MB b w wr)
      (fun x _ _ _ => 20 - (intOf x).toNat)
  case atStart => exact ⟨0, rfl, by omega, HB1.out, HH1.out, HM1.out⟩
  case round =>
    clear HB1 HH1 HM1
    obtain ⟨r, rfl, hr, hB, hH2, hM⟩ := hrel
    obtain ⟨_, a2, c2, hx2⟩ := HSF.out wr hM
    have z0 := cellOf hB 0
    simp [trA] at z0
    have HB2 := hid hB
    have HH2 := hid hH2
    have HM2 := hid hM
    have HME : Hid (20 - (r + 1 + 1) < 20 - (r + 1)) := by unfold Hid; omega
    clear hB hH2 hM
    by_cases hrl : r + 1 ≤ H
    · have hrl1 : (r : Int) + 1 ≤ (H : Int) := by omega
      go_wp2
      go_loopw [3, 4] (fun x3 _ wr => ∃ (i : Nat), x3 = .int .i64 i ∧ i ≤ ps.length ∧ wr.heap[b]? = some (.cells (trA (bptr xb) vc 0 (.slice none 0 0) (.slice none 0 0) (.slice (some ⟨hb, 0, none⟩) H H)) 34 (0, 0)) ∧ HtAt wr hb ((ps.take i).foldl (stepH (r + 1)) (allH ps H r)) ∧ MB b w wr)
          (fun x _ _ => 1001 - (intOf x).toNat)
      case atStart => exact ⟨0, rfl, by omega, HB2.out, HH2.out, HM2.out⟩
      case round =>
        clear z0 hx2 HB2 HH2 HM2
        obtain ⟨i, rfl, hi, hB, hH2, hM⟩ := hrel
        obtain ⟨hXV, _⟩ := HSF.out wr hM
        have z0 := cellOf hB 0
        have z5 := cellOf hB 5
        simp [trA] at z0 z5
        have k5 := hXV.k5
        have HB3 := hid hB
        have HH3 := hid hH2
        have HM3 := hid hM
        have HMI := hid (meas (B := 1001) i (by omega))
        by_cases hlt : i < ps.length
        · have hlt1 : (i : Int) < (ps.length : Int) := by omega
          have hI := HtI.fold HT.out (ps.take i) _ [] (fun p hp => List.mem_of_mem_take hp) (allH_ok HT.out r)
          have hlen := hI.len
          have hle := hI.le
          have k3 := hXV.k3
          have hd := hXV.hd i hlt
          have hpd := HT.out.hd ps[i] (by simp)
          obtain ⟨X, hX⟩ : ∃ X : Nat, ps[i].head = X := ⟨ps[i].head.toNat, by omega⟩
          rw [hX] at hd
          have hXH : X < H := by omega
          have hXH1 : (X : Int) < (H : Int) := by omega
          have HFS : Hid ((ps.take (i + 1)).foldl (stepH (r + 1)) (allH ps H r) = stepH (r + 1) ((ps.take i).foldl (stepH (r + 1)) (allH ps H r)) ps[i]) := foldl_takeS _ _ hlt
          generalize (ps.take i).foldl (stepH (r + 1)) (allH ps H r) = hts at hI hlen hle HH3 HFS hH2
          have HG : Hid (Calls Tryz.prog 18 #[bptr b, .int .i64 i] wr fun e w' => e = .returned (.int .i64 (hiP hts ps[i] : Nat)) ∧ w' = wr) :=
            high_any wr b xb g3 c3 g5 c5 hb sv ps hts i z0 (by rw [hlen]; exact z5) hXV hH2 hlt hpl (HS6.out _ (by simp)) (fun s hs => by
              have := HT.out.sy ps[i] (by simp) s hs
              cases hh : s.isH
              · rw [hh] at this; simp only [Bool.false_eq_true, if_false] at this; exact ⟨this.1, by omega, fun e => by (cases e)⟩
              · rw [hh] at this; simp only [if_true] at this; exact ⟨this.1, by omega, fun _ => by omega⟩) (fun X => by have := hle X; omega) (by omega)
          have ch := hH2.cell (i := X) (by omega)
          have hset := hH2.set X (r + 1)
          have HSE : Hid (stepH (r + 1) hts ps[i] = if hiP hts ps[i] = r + 1 ∧ hts.getD X 0 = 0 then hts.set X (r + 1) else hts) := by
            unfold Hid stepH
            rw [hX, Int.toNat_natCast]
          have hk9 : hiP hts ps[i] ≤ 100 := by
            have := (hiL_le hts (n := 10) ps[i].syms 1 (by omega) (by omega))
            by_cases e : hiP hts ps[i] = 0
            · omega
            · have := (this (fun s hs hh => ⟨(hiL_low hts ps[i].syms 1 e s hs hh).1, by have := hle s.num.toNat; omega⟩)).2
              unfold hiP; omega
          generalize hiP hts ps[i] = k at HG HSE hk9
          have hl0 : hts.getD X 0 ≤ 100 := by have := hle X; omega
          generalize hts.getD X 0 = h0 at ch HSE hl0
          have fz := frozenOf hH2 X
          clear hI hlen hle hXV hH2 hB hM
          by_cases hk : k = r + 1
          · have hk1 : ((k : Int) == (r : Int) + 1) = true := by simp [hk]
            by_cases h00 : h0 = 0
            · rw [if_pos ⟨hk, h00⟩] at HSE
              subst h00
              have HST := hid hset
              clear hset
              go_wp2_with (first
                | (go_at_call 18; refine HG.out.mono ?_; rintro e w' ⟨rfl, hw⟩; rw [hw]; clear hw))
              go_quiet (fail)
              have HU1 : Hid (Fresh wr (wr.drewN nq)) := fdrewN' wr nq
              have HBU := hid (HU1.out.at HB3.out (fun x => x))
              have HHU : Hid (HtAt (wr.drewN nq) hb hts) := HU1.out.at HH3.out (fun x => x)
              have z0' := fcell' HU1.out z0
              have z5' := fcell' HU1.out z5
              have k3' := fcell' HU1.out k3
              have hd' := fcell' HU1.out hd
              have ch' := fcell' HU1.out ch
              have fz' := frozenOf HHU.out X
              have HM4 : Hid (MB b w (wr.drewN nq)) := Mod.trans HM3.out (HU1.out.mono (fun _ _ x => x.elim))
              generalize wr.drewN nq = U1 at HU1 HBU HHU z0' z5' k3' hd' ch' fz' HM4 ⊢
              clear z0 z5 k3 hd ch fz k5
              go_wp2_with fail
              go_region
              all_goals
                have HF1 : Hid (HtAt (U1.setCell ⟨hb, X, none⟩ (.int .i64 ((r : Int) + 1))).drew hb (hts.set X (r + 1))) := by
                  have h := HHU.out.set X (r + 1)
                  have e : (((r + 1 : Nat)) : Int) = (r : Int) + 1 := by omega
                  rw [e] at h; exact h
                have HF2 : Hid ((U1.setCell ⟨hb, X, none⟩ (.int .i64 ((r : Int) + 1))).drew.heap[b]? = some (.cells (trA (bptr xb) vc 0 (.slice none 0 0) (.slice none 0 0) (.slice (some ⟨hb, 0, none⟩) H H)) 34 (0, 0))) := heap_setCell_prev HBU.out (by simp; omega)
                have HF3 : Hid (MB b w (U1.setCell ⟨hb, X, none⟩ (.int .i64 ((r : Int) + 1))).drew) := (Mod.setCell HM4.out (p := ⟨hb, X, none⟩) (fun h => by have := HHB.out; simp at h; omega) _).drew
                generalize (U1.setCell ⟨hb, X, none⟩ (.int .i64 ((r : Int) + 1))).drew = U2 at HF1 HF2 HF3 ⊢
                go_wp2
                go_roundw
                case rel => exact ⟨i + 1, by go_num, by omega, HF2.out, by rw [HFS.out, HSE.out]; exact HF1.out, HF3.out⟩
                case measure => exact HMI.out
            · rw [if_neg (fun e => h00 e.2)] at HSE
              clear hset
              have h01 : ((h0 : Int) == 0) = false := by simpa using h00
              go_wp2_with (first
                | (go_at_call 18; refine HG.out.mono ?_; rintro e w' ⟨rfl, hw⟩; rw [hw]; clear hw))
              go_quiet (fail)
              have HU1 : Hid (Fresh wr (wr.drewN nq)) := fdrewN' wr nq
              generalize wr.drewN nq = U1 at HU1 ⊢
              go_wp2
              go_roundw
              case rel => exact ⟨i + 1, by go_num, by omega, HU1.out.at HB3.out (fun x => x), by rw [HFS.out, HSE.out]; exact HU1.out.at HH3.out (fun x => x), Mod.trans HM3.out (HU1.out.mono (fun _ _ x => x.elim))⟩
              case measure => exact HMI.out
          · rw [if_neg (fun e => hk e.1)] at HSE
            clear hset
            have hk1 : ((k : Int) == ((r + 1 : Nat) : Int)) = false := by simp; omega
            have hk2 : ((k : Int) == (r : Int) + 1) = false := by simp; omega
            go_wp2_with (first
              | (go_at_call 18; refine HG.out.mono ?_; rintro e w' ⟨rfl, hw⟩; rw [hw]; clear hw))
            go_quiet (fail)
            have HU1 : Hid (Fresh wr (wr.drewN nq)) := fdrewN' wr nq
            generalize wr.drewN nq = U1 at HU1 ⊢
            go_wp2
            go_roundw
            case rel => exact ⟨i + 1, by go_num, by omega, HU1.out.at HB3.out (fun x => x), by rw [HFS.out, HSE.out]; exact HU1.out.at HH3.out (fun x => x), Mod.trans HM3.out (HU1.out.mono (fun _ _ x => x.elim))⟩
            case measure => exact HMI.out
        · have hie : i = ps.length := by omega
          have hlt1 : ¬ (i : Int) < (ps.length : Int) := by omega
          have HEN : Hid (HtAt wr hb (allH ps H (r + 1))) := by
            have h := HH3.out
            rw [hie, List.take_length] at h
            exact h
          clear hie hH2 hB hM
          go_wp2
          go_roundw
          case rel => exact ⟨r + 1, by go_num, by omega, HB3.out, HEN.out, HM3.out⟩
          case measure => simp [intOf]; omega
    · have hre : r = H := by omega
      have hrl1 : ¬ ((r + 1 : Nat) : Int) ≤ (H : Int) := by omega
      have hrl2 : ¬ (r : Int) + 1 ≤ (H : Int) := by omega
      subst hre
      go_wp2
      refine bodyPost_end (results_none rfl _ _ _) rfl ⟨rfl, ?_, ?_, HM2.out⟩
      · rw [HHB.out]; exact HB2.out
      · rw [HHB.out]; exact HH2.out
end Go.Proofs.YtakkooidejdfkaaGreat
namespace Go.Proofs.YtakkooidejdfkaaGreat
open Go.RowKit
set_option linter.unusedVariables false
set_option linter.unusedSimpArgs false

/-- this production is one of the head's, and has a height -/
def Mc (ps : List Pr) (hts : List Nat) (X c : Nat) : Prop := ∃ p, ps[c]? = some p ∧ p.head = X ∧ hiP hts p ≠ 0
def hiC (ps : List Pr) (hts : List Nat) (c : Nat) : Nat := match ps[c]? with
  | some p => hiP hts p
  | none => 0
theorem hiC_at {ps : List Pr} {hts : List Nat} {c : Nat} (h : c < ps.length) : hiC ps hts c = hiP hts ps[c] := by unfold hiC; rw [List.getElem?_eq_getElem h]
structure ChI (ps : List Pr) (hts : List Nat) (X i : Nat) (al : List Int) (lo : Int) : Prop where
  all : ∀ a ∈ al, ∃ c : Nat, a = c ∧ Mc ps hts X c
  low : (lo = -1 ∧ al = [] ∧ ∀ j, j < i → ¬ Mc ps hts X j) ∨ ∃ c : Nat, lo = c ∧ Mc ps hts X c ∧ al ≠ [] ∧ ∀ j, j < i → Mc ps hts X j → hiC ps hts c ≤ hiC ps hts j
  len : al.length ≤ i
section
variable {ps : List Pr} {hts : List Nat} {X i : Nat} {al : List Int} {lo : Int}
theorem ChI.start : ChI ps hts X 0 [] (-1) := ⟨fun a h => by (cases h), .inl ⟨rfl, rfl, fun j h => by omega⟩, Nat.le_refl _⟩
theorem ChI.skip (h : ChI ps hts X i al lo) (hn : ¬ Mc ps hts X i) : ChI ps hts X (i + 1) al lo := by
  refine ⟨h.all, ?_, by have := h.len; omega⟩
  rcases h.low with ⟨h1, h2, h3⟩ | ⟨c, h1, h2, h3, h4⟩
  · refine .inl ⟨h1, h2, fun j hj => ?_⟩
    by_cases e : j = i
    · rw [e]; exact hn
    · exact h3 j (by omega)
  · refine .inr ⟨c, h1, h2, h3, fun j hj hm => ?_⟩
    by_cases e : j = i
    · rw [e] at hm; exact absurd hm hn
    · exact h4 j (by omega) hm
theorem ChI.first (h : ChI ps hts X i al (-1)) (hm : Mc ps hts X i) : ChI ps hts X (i + 1) (al ++ [(i : Int)]) i := by
  refine ⟨fun a ha => ?_, ?_, by have := h.len; simp; omega⟩
  · rcases List.mem_append.1 ha with ha | ha
    · exact h.all a ha
    · exact ⟨i, by simpa using ha, hm⟩
  · refine .inr ⟨i, rfl, hm, by simp, fun j hj hm2 => ?_⟩
    rcases h.low with ⟨_, _, h3⟩ | ⟨c, h1, _⟩
    · by_cases e : j = i
      · rw [e]; exact Nat.le_refl _
      · exact absurd hm2 (h3 j (by omega))
    · omega
theorem ChI.lower {c : Nat} (h : ChI ps hts X i al c) (hm : Mc ps hts X i) (hlt : hiC ps hts i < hiC ps hts c) : ChI ps hts X (i + 1) (al ++ [(i : Int)]) i := by
  refine ⟨fun a ha => ?_, ?_, by have := h.len; simp; omega⟩
  · rcases List.mem_append.1 ha with ha | ha
    · exact h.all a ha
    · exact ⟨i, by simpa using ha, hm⟩
  · refine .inr ⟨i, rfl, hm, by simp, fun j hj hm2 => ?_⟩
    rcases h.low with ⟨h1, _⟩ | ⟨c', h1, _, _, h4⟩
    · omega
    · by_cases e : j = i
      · rw [e]; exact Nat.le_refl _
      · have := h4 j (by omega) hm2
        have hc : c = c' := by omega
        rw [← hc] at this; omega
theorem ChI.stay {c : Nat} (h : ChI ps hts X i al c) (hm : Mc ps hts X i) (hlt : ¬ hiC ps hts i < hiC ps hts c) : ChI ps hts X (i + 1) (al ++ [(i : Int)]) c := by
  refine ⟨fun a ha => ?_, ?_, by have := h.len; simp; omega⟩
  · rcases List.mem_append.1 ha with ha | ha
    · exact h.all a ha
    · exact ⟨i, by simpa using ha, hm⟩
  · rcases h.low with ⟨h1, _⟩ | ⟨c', h1, h2, _, h4⟩
    · omega
    · have hc : c = c' := by omega
      subst hc
      refine .inr ⟨c, rfl, h2, by simp, fun j hj hm2 => ?_⟩
      by_cases e : j = i
      · rw [e]; omega
      · exact h4 j (by omega) hm2
end
/-- what the lines and the heights are, as far as a tree that grows reads them -/
structure TX (w : World) (xb g3 c3 g5 c5 hb : Nat) (sv : Nat → Value) (ps : List Pr) (hts : List Nat) (vc : Value) (code : List Int) : Prop where
  xv : XV w xb g3 c3 g5 c5 sv ps
  ht : HtAt w hb hts
  co : IntAt w vc code
/-- what is true of a table and its heights -/
structure TG (ps : List Pr) (R H : Nat) (hts : List Nat) : Prop where
  tab : TabOk ps R H
  hR : R ≤ 8
  hH : H ≤ 8
  hpl : ps.length ≤ 100
  s6 : ∀ p ∈ ps, p.syms.length ≤ 6
  len : hts.length = H
  le : ∀ X, hts.getD X 0 ≤ 9
  from_ : ∀ X, hts.getD X 0 ≠ 0 → ∃ p ∈ ps, p.head.toNat = X ∧ hiP hts p = hts.getD X 0
theorem TG.of {ps : List Pr} {R H : Nat} (hT : TabOk ps R H) (hR : R ≤ 8) (hH : H ≤ 8) (hpl : ps.length ≤ 100) (s6 : ∀ p ∈ ps, p.syms.length ≤ 6) : TG ps R H (allH ps H H) := by
  have h := allH_ok hT H
  exact ⟨hT, hR, hH, hpl, s6, h.len, fun X => by have := h.le X; omega, h.from_⟩
theorem TG.high {ps : List Pr} {R H : Nat} {hts : List Nat} (g : TG ps R H hts) {w : World} {b xb g3 c3 g5 c5 hb p : Nat} {sv : Nat → Value} (h0 : w.cell? ⟨b, 0, none⟩ = some (bptr xb)) (h5 : w.cell? ⟨b, 5, none⟩ = some (.slice (some ⟨hb, 0, none⟩) H H)) (hx : XV w xb g3 c3 g5 c5 sv ps) (hh : HtAt w hb hts) (hp : p < ps.length) :
    Calls Tryz.prog 18 #[bptr b, .int .i64 p] w fun e w' => e = .returned (.int .i64 (hiC ps hts p : Nat)) ∧ w' = w := by
  rw [hiC_at hp]
  exact high_any w b xb g3 c3 g5 c5 hb sv ps hts p h0 (by rw [g.len]; exact h5) hx hh hp g.hpl (g.s6 _ (by simp)) (fun s hs => by
    have := g.tab.sy ps[p] (by simp) s hs
    have h1 := g.hR
    have h2 := g.hH
    have h3 := g.len
    cases hh : s.isH
    · rw [hh] at this; simp only [Bool.false_eq_true, if_false] at this; exact ⟨this.1, by omega, fun e => by (cases e)⟩
    · rw [hh] at this; simp only [if_true] at this; exact ⟨this.1, by omega, fun _ => by omega⟩) (fun X => by have := g.le X; omega) (by have h2 := g.hH; have h3 := g.len; omega)
theorem TG.hiC_le {ps : List Pr} {R H : Nat} {hts : List Nat} (g : TG ps R H hts) {c : Nat} (hc : c < ps.length) : hiC ps hts c ≤ 10 := by
  rw [hiC_at hc]
  by_cases e : hiP hts ps[c] = 0
  · omega
  · have := hiL_le hts (n := 10) ps[c].syms 1 (by omega) (by omega) (fun s hs hh => ⟨(hiL_low hts ps[c].syms 1 e s hs hh).1, by have := g.le s.num.toNat; omega⟩)
    exact this.2
theorem TG.any {ps : List Pr} {R H : Nat} {hts : List Nat} (g : TG ps R H hts) {X : Nat} (h : hts.getD X 0 ≠ 0) : ∃ c, c < ps.length ∧ Mc ps hts X c ∧ hiC ps hts c = hts.getD X 0 := by
  obtain ⟨p, hp, h1, h2⟩ := g.from_ X h
  obtain ⟨c, hc⟩ := List.getElem?_of_mem hp
  have h3 := g.tab.hd p hp
  exact ⟨c, (List.getElem?_eq_some_iff.1 hc).1, ⟨p, hc, by omega, by omega⟩, by unfold hiC; rw [hc]; exact h2⟩

set_option maxRecDepth 20000 in
set_option maxHeartbeats 8000000 in
theorem tchoose_any (w : World) (b B xb g3 c3 g5 c5 hb : Nat) (sv : Nat → Value) (ps : List Pr) (R H : Nat) (hts : List Nat) (vc : Value) (code : List Int) (u : Nat) (vn vk : Value) (NL : List Nd) (KL : List Int) (X : Nat)
    (g : TG ps R H hts) (ht : TA w b B (bptr xb) vc (.slice (some ⟨hb, 0, none⟩) H H) u vn vk NL KL) (SF : ∀ W, MT b B w W → TX W xb g3 c3 g5 c5 hb sv ps hts vc code) (hX : hts.getD X 0 ≠ 0) (hcr : ∀ z ∈ code, -9223372036854775808 ≤ z ∧ z ≤ 9223372036854775807)
    (hu : u ≤ 201) (hcl : code.length ≤ maxLen) (hNL : NL.length ≤ 1000000000000) (hKL : KL.length ≤ 1000000000000) (hBw : B ≤ w.heap.size) :
    Calls Tryz.prog 19 #[bptr b, .int .i64 X] w fun e w' => ∃ c u' : Nat, e = .returned (.int .i64 c) ∧ Mc ps hts X c ∧ TA w' b B (bptr xb) vc (.slice (some ⟨hb, 0, none⟩) H H) u' vn vk NL KL ∧ MT b B w w' ∧ ((u' = u ∧ hiC ps hts c ≤ hts.getD X 0) ∨ (u' = u + 1 ∧ NL.length ≤ 200)) := by
  obtain ⟨c0, hc0, hm0, hh0⟩ := g.any hX
  obtain ⟨i0, hi0, iz0, iz1, iz2⟩ := infoI'
  obtain ⟨ca, cc, hvc, hcc, _⟩ := (SF w (Mod.refl _ w)).co
  subst hvc
  obtain ⟨na, nc, hvn⟩ := own_form ht.ns
  subst hvn
  obtain ⟨ka, kc, hvk⟩ := own_form ht.ks
  subst hvk
  have HG := hid g
  have HTA := hid ht
  have HSF := hid SF
  have HCR := hid hcr
  have hpl := g.hpl
  have hbl := ht.lt
  have HM0 := hid hm0
  have HH0 := hid hh0
  unfold maxLen at hcl
  clear g ht SF hcr hm0 hh0
  go_enter Tryz.func19, Tryz.ntmps19
  go_wp2
  go_loopw [5, 6, 7, 8] (fun x5 x6 x7 _ wr => ∃ (i : Nat) (al : List Int) (lo : Int), x7 = .int .i64 i ∧ x6 = .int .i64 lo ∧ i ≤ ps.length ∧ IntOwn wr w.heap.size x5 al ∧ Fresh w wr ∧ ChI ps hts X i al lo)
      (fun _ _ x _ _ => 1001 - (intOf x).toNat)
  case atStart => exact ⟨0, [], -1, rfl, rfl, by omega, World.ownsRow_nil _ _ _ _, Mod.refl _ w, ChI.start⟩
  case round =>
    obtain ⟨i, al, lo, rfl, rfl, hi, hown, hfr, hch⟩ := hrel
    obtain ⟨aa, ac, hx5⟩ := own_form hown
    subst hx5
    have HFR := hid hfr
    have HOW := hid hown
    have HCH := hid hch
    have HTW := hid (HTA.out.fresh hfr)
    have hTX := HSF.out wr (hfr.mono (fun _ _ x => x.elim))
    have z0 := HTW.out.cell 0
    have z5 := HTW.out.cell 5
    simp at z0 z5
    have k5 := hTX.xv.k5
    have hal := hch.len
    have hwl := hfr.size
    have HMI := hid (meas (B := 1001) i (by omega))
    by_cases hlt : i < ps.length
    · have hlt1 : (i : Int) < (ps.length : Int) := by omega
      have k3 := hTX.xv.k3
      have hd := hTX.xv.hd i hlt
      have HG1 : Hid (∀ W, Fresh w W → ∀ p, p < ps.length → Calls Tryz.prog 18 #[bptr b, .int .i64 p] W fun e w' => e = .returned (.int .i64 (hiC ps hts p : Nat)) ∧ w' = W) := fun W hW p hp => by
        have h1 := HTA.out.fresh hW
        have q0 := h1.cell 0
        have q5 := h1.cell 5
        simp at q0 q5
        exact HG.out.high q0 q5 (HSF.out W (hW.mono (fun _ _ x => x.elim))).xv (HSF.out W (hW.mono (fun _ _ x => x.elim))).ht hp
      have hk9 := HG.out.hiC_le hlt
      have HHI := hid (HG1.out wr hfr i hlt)
      have HMC : Hid (ps[i].head = X → hiC ps hts i ≠ 0 → Mc ps hts X i) := fun e1 e2 => ⟨ps[i], List.getElem?_eq_getElem hlt, e1, by rw [hiC_at hlt] at e2; exact e2⟩
      have HNM : Hid (¬ (ps[i].head = X ∧ hiC ps hts i ≠ 0) → ¬ Mc ps hts X i) := fun hn ⟨p, e1, e2, e3⟩ => hn (by
        have : ps[i] = p := (List.getElem?_eq_some_iff.1 e1).2
        rw [this, hiC_at hlt, this]; exact ⟨e2, e3⟩)
      generalize hkk : hiC ps hts i = k at hk9 HHI HMC HNM
      have HKK := hid hkk
      clear hkk
      generalize ps[i].head = Y at hd HMC HNM
      clear hown hfr hch hTX
      by_cases hY : Y = X
      · subst hY
        by_cases hk0 : k = 0
        · subst hk0
          have HNX := hid (HNM.out (fun e => e.2 rfl))
          go_wp2_with (first
            | (go_at_call 18; refine HHI.out.mono ?_; rintro e w' ⟨rfl, hw⟩; rw [hw]; clear hw))
          go_roundw
          case rel => exact ⟨i + 1, al, lo, by go_num, rfl, by omega, HOW.out, HFR.out, HCH.out.skip HNX.out⟩
          case measure => exact HMI.out
        · have hk1 : 0 < (k : Int) := by omega
          have hMc := HMC.out rfl hk0
          have HMc := hid hMc
          have hlow0 : lo = -1 ∨ ∃ c : Nat, lo = c ∧ Mc ps hts X c := by
            rcases HCH.out.low with ⟨h1, _⟩ | ⟨c, h1, h2, _⟩
            · exact .inl h1
            · exact .inr ⟨c, h1, h2⟩
          rcases hlow0 with rfl | ⟨c, rfl, hcM⟩
          · go_wp2_with (first
              | (at_builtin; refine wpList_append_mine _ rfl (.tmp 40) (.tmp 42) 22 rfl w.heap.size 3 i0 _ 1 8 Tryz.underlying22 hi0 iz0 iz1 iz2 rfl (by decide) _ _ _ rfl (HOW.out.alloc _) ⟨wr.heap.size, 0, none⟩ 1 1 [.int .i64 i] rfl rfl (new_cells rfl) (by intro u hu; simp at hu; subst hu; rfl) (by unfold maxLen; omega) (by omega) (by simp; omega) ?_)
              | (go_at_call 18; refine HHI.out.mono ?_; rintro e w' ⟨rfl, hw⟩; rw [hw]; clear hw))
            intro v' w2 hown hgrow hblk
            have HO2 : Hid (IntOwn w2 w.heap.size v' (al ++ [(i : Int)])) := by
              unfold Hid IntOwn
              rw [List.length_append]
              simpa [nums] using hown
            have HF2 : Hid (Fresh w w2) := (HFR.out.alloc _).grown hgrow (fun k hk hlt => by have := (HOW.out.lt k hk).1; omega)
            clear hown hgrow hblk
            go_wp2
            go_roundw
            case rel => exact ⟨i + 1, al ++ [(i : Int)], i, by go_num, rfl, by omega, HO2.out, HF2.out, HCH.out.first HMc.out⟩
            case measure => exact HMI.out
          · have hcl' : c < ps.length := by obtain ⟨p, e1, _⟩ := hcM; exact (List.getElem?_eq_some_iff.1 e1).1
            have hc9 := HG.out.hiC_le hcl'
            have hc0' : ¬ ((c : Int) < 0) := by omega
            have HHC : Hid (∀ W, Fresh w W → Calls Tryz.prog 18 #[bptr b, .int .i64 c] W fun e w' => e = .returned (.int .i64 (hiC ps hts c : Nat)) ∧ w' = W) := fun W hW => HG1.out W hW c hcl'
            have HLO : Hid (hiC ps hts i < hiC ps hts c → ChI ps hts X (i + 1) (al ++ [(i : Int)]) i) := fun e => HCH.out.lower HMc.out e
            have HST : Hid (¬ hiC ps hts i < hiC ps hts c → ChI ps hts X (i + 1) (al ++ [(i : Int)]) c) := fun e => HCH.out.stay HMc.out e
            rw [HKK.out] at HLO HST
            generalize hiC ps hts c = kc at hc9 HHC HLO HST
            clear hcM
            go_wp2_with (first
              | (at_builtin; refine wpList_append_mine _ rfl (.tmp 40) (.tmp 42) 22 rfl w.heap.size 3 i0 _ 1 8 Tryz.underlying22 hi0 iz0 iz1 iz2 rfl (by decide) _ _ _ rfl (HOW.out.alloc _) ⟨wr.heap.size, 0, none⟩ 1 1 [.int .i64 i] rfl rfl (new_cells rfl) (by intro u hu; simp at hu; subst hu; rfl) (by unfold maxLen; omega) (by omega) (by simp; omega) ?_)
              | (go_at_call 18; refine HHI.out.mono ?_; rintro e w' ⟨rfl, hw⟩; rw [hw]; clear hw))
            intro v' w2 hown hgrow hblk
            have HO2 : Hid (IntOwn w2 w.heap.size v' (al ++ [(i : Int)])) := by
              unfold Hid IntOwn
              rw [List.length_append]
              simpa [nums] using hown
            have HF2 : Hid (Fresh w w2) := (HFR.out.alloc _).grown hgrow (fun k hk hlt => by have := (HOW.out.lt k hk).1; omega)
            clear hown hgrow hblk
            by_cases hlow : k < kc
            · have hlow1 : (k : Int) < (kc : Int) := by omega
              go_wp2_with (first
                | (go_at_call 18; refine (HHC.out w2 HF2.out).mono ?_; rintro e w' ⟨rfl, hw⟩; rw [hw]; clear hw))
              go_roundw
              case rel => exact ⟨i + 1, al ++ [(i : Int)], i, by go_num, rfl, by omega, HO2.out, HF2.out, HLO.out hlow⟩
              case measure => exact HMI.out
            · have hlow1 : ¬ (k : Int) < (kc : Int) := by omega
              go_wp2_with (first
                | (go_at_call 18; refine (HHC.out w2 HF2.out).mono ?_; rintro e w' ⟨rfl, hw⟩; rw [hw]; clear hw))
              go_roundw
              case rel => exact ⟨i + 1, al ++ [(i : Int)], c, by go_num, rfl, by omega, HO2.out, HF2.out, HST.out hlow⟩
              case measure => exact HMI.out
      · have HNX := hid (HNM.out (fun e => hY e.1))
        have hY1 : (Y == (X : Int)) = false := by simpa using hY
        go_wp2_with (first
          | (go_at_call 18; refine HHI.out.mono ?_; rintro e w' ⟨rfl, hw⟩; rw [hw]; clear hw))
        go_roundw
        case rel => exact ⟨i + 1, al, lo, by go_num, rfl, by omega, HOW.out, HFR.out, HCH.out.skip HNX.out⟩
        case measure => exact HMI.out
    · have hie : i = ps.length := by omega
      have hlt1 : ¬ (i : Int) < (ps.length : Int) := by omega
      rcases hch.low with ⟨_, _, h3⟩ | ⟨c, rfl, hcM, hne, h4⟩
      · exact absurd HM0.out (h3 c0 (by omega))
      · have HLE : Hid (hiC ps hts c ≤ hts.getD X 0) := by unfold Hid; rw [← HH0.out]; exact h4 c0 (by omega) HM0.out
        have HCM := hid hcM
        have hne : 0 < al.length := List.length_pos_iff.2 hne
        have z1 := HTW.out.cell 1
        have z2 := HTW.out.cell 2
        have z3 := HTW.out.cell 3
        have z4 := HTW.out.cell 4
        have f2 := HTW.out.frozen 2
        simp at z1 z2 z3 z4
        have al1 := hid hch.all
        clear hown hfr hch hTX h4 hcM z5 hie
        by_cases d0 : code.length = 0
        · have e0 : ((code.length : Int) == 0) = true := by simp [d0]
          have e0' : (code.length == 0) = true := by simp [d0]
          go_wp2_with fail
          go_quiet (fail)
          have HU1 : Hid (Fresh wr (wr.drewN nq)) := fdrewN' wr nq
          generalize wr.drewN nq = U1 at HU1 ⊢
          go_wp2
          go_ret
          exact ⟨c, u, rfl, HCM.out, HTW.out.fresh HU1.out, (HFR.out.trans HU1.out).mono (fun _ _ x => x.elim), .inl ⟨rfl, HLE.out⟩⟩
        · have e0 : ((code.length : Int) == 0) = false := by simpa using d0
          have e0' : (code.length == 0) = false := by simpa using d0
          by_cases d1 : code.length ≤ u
          · have e1 : decide ((code.length : Int) ≤ (u : Int)) = true := by simpa using d1
            have e1' : decide (code.length ≤ u) = true := by simpa using d1
            go_wp2_with fail
            go_quiet (fail)
            have HU1 : Hid (Fresh wr (wr.drewN nq)) := fdrewN' wr nq
            generalize wr.drewN nq = U1 at HU1 ⊢
            go_wp2
            go_ret
            exact ⟨c, u, rfl, HCM.out, HTW.out.fresh HU1.out, (HFR.out.trans HU1.out).mono (fun _ _ x => x.elim), .inl ⟨rfl, HLE.out⟩⟩
          · have e1 : decide ((code.length : Int) ≤ (u : Int)) = false := by simpa using d1
            have e1' : decide (code.length ≤ u) = false := by simpa using d1
            by_cases d2 : 20 < KL.length
            · have e2 : decide ((20 : Int) < (KL.length : Int)) = true := by simp; omega
              have e2' : decide (20 < KL.length) = true := by simpa using d2
              go_wp2_with fail
              go_quiet (fail)
              have HU1 : Hid (Fresh wr (wr.drewN nq)) := fdrewN' wr nq
              generalize wr.drewN nq = U1 at HU1 ⊢
              go_wp2
              go_ret
              exact ⟨c, u, rfl, HCM.out, HTW.out.fresh HU1.out, (HFR.out.trans HU1.out).mono (fun _ _ x => x.elim), .inl ⟨rfl, HLE.out⟩⟩
            · have e2 : decide ((20 : Int) < (KL.length : Int)) = false := by simp; omega
              have e2' : decide (20 < KL.length) = false := by simpa using d2
              by_cases d3 : 200 < NL.length
              · have e3 : decide ((200 : Int) < (NL.length : Int)) = true := by simp; omega
                have e3' : decide (200 < NL.length) = true := by simpa using d3
                go_wp2_with fail
                go_quiet (fail)
                have HU1 : Hid (Fresh wr (wr.drewN nq)) := fdrewN' wr nq
                generalize wr.drewN nq = U1 at HU1 ⊢
                go_wp2
                go_ret
                exact ⟨c, u, rfl, HCM.out, HTW.out.fresh HU1.out, (HFR.out.trans HU1.out).mono (fun _ _ x => x.elim), .inl ⟨rfl, HLE.out⟩⟩
              · have e3 : decide ((200 : Int) < (NL.length : Int)) = false := by simp; omega
                have e3' : decide (200 < NL.length) = false := by simpa using d3
                have hd3 : NL.length ≤ 200 := by omega
                have hu1 : u < code.length := by omega
                have HZ := hid (HCR.out code[u] (by simp))
                go_wp2_with fail
                go_quiet (fail)
                have HU1 : Hid (Fresh wr (wr.drewN nq)) := fdrewN' wr nq
                generalize wr.drewN nq = U1 at HU1 ⊢
                have y2 := fcell' HU1.out z2
                have HTU := hid (HTW.out.fresh HU1.out)
                have g2 := HTU.out.frozen 2
                have hub := HTU.out.lt
                clear z1 z2 z3 z4 f2 e0 e0' e1 e1' e2 e2' e3 e3'
                have hup : (((u + 1 : Nat) : Nat) : Int) = (u : Int) + 1 := by omega
                go_wp2_with fail
                obtain ⟨hT2, hM2⟩ := HTU.out.used (u' := u + 1)
                rw [hup] at hT2 hM2
                have HOA : Hid (IntOwn (U1.setCell ⟨b, 2, none⟩ (.int .i64 ((u : Int) + 1))) w.heap.size (.slice aa al.length ac) al) := by
                  refine ownsRow_other HOW.out (fun g hg => ?_)
                  have hl := HOW.out.lt g hg
                  rw [Proofs.YtakkooidejdfkaaGreat.heap_setCell_other _ (by simp; omega)]
                  exact HU1.out.block g hl.2 (fun x => x)
                generalize U1.setCell ⟨b, 2, none⟩ (.int .i64 ((u : Int) + 1)) = W2 at hT2 hM2 HOA ⊢
                have HT2 := hid hT2
                have HM2 : Hid (MT b B w W2) := Mod.trans ((HFR.out.trans HU1.out).mono (fun _ _ x => x.elim)) hM2
                obtain ⟨ca', cc', hve, _, hcell⟩ := (HSF.out W2 HM2.out).co
                rw [Value.slice.injEq] at hve
                obtain ⟨rfl, _, rfl⟩ := hve
                obtain ⟨zg, zo, rfl, cz⟩ := hcell u hu1
                generalize code[u] = z at cz HZ
                have x1 := hT2.cell 1
                have x2 := hT2.cell 2
                simp at x1 x2
                have hsub : ((u : Int) + 1) - 1 = (u : Int) := by omega
                have hu2 : (u : Int) < (code.length : Int) := by omega
                obtain ⟨aa', ac', hve2, _, hcell2⟩ := IntOwn.at' HOA.out
                rw [Value.slice.injEq] at hve2
                obtain ⟨rfl, _, rfl⟩ := hve2
                have hpk := pickF_lt z hne
                obtain ⟨ag, ao, rfl, cp⟩ := hcell2 (pickF z al.length) hpk
                obtain ⟨c', hc', hMc'⟩ := al1.out al[pickF z al.length] (by simp)
                rw [hc'] at cp
                have HMC' := hid hMc'
                have PK : Hid (∀ W, Calls Tryz.prog 32 #[.int .i64 z, .int .i64 al.length] W fun e w' => e = .returned (.int .i64 (pickF z al.length : Nat)) ∧ w' = W) := fun W => pick_any W z al.length HZ.out hne (by omega)
                have hp1 : ((pickF z al.length : Nat) : Int) < (al.length : Int) := by omega
                clear hc' hcell hcell2 hMc' hT2 hM2
                generalize pickF z al.length = mm at hpk cp PK hp1
                go_quiet (first
                  | (go_at_call 32; refine Calls.quiet_of_same (PK.out _)))
                have HU3 : Hid (Fresh W2 (W2.drewN nq)) := fdrewN' W2 nq
                generalize W2.drewN nq = U3 at HU3 ⊢
                go_wp2
                go_ret
                exact ⟨c', rfl, HMC'.out, u + 1, HT2.out.fresh HU3.out, Mod.trans HM2.out (HU3.out.mono (fun _ _ x => x.elim)), .inr (by first | exact ⟨rfl, hd3⟩ | rfl)⟩
end Go.Proofs.YtakkooidejdfkaaGreat
