import Derived.Test.YtcdedekgdiooiaaGreatRbb
import Derived.BigRegion
namespace Go.Proofs.YtcdedekgdiooiaaGreat
open Go.RowKit
set_option linter.unusedVariables false
set_option linter.unusedSimpArgs false
section
variable {ps : List Pr} {R H : Nat}
theorem nx_lt (hT : TabOk ps R H) {X : Int} {t : Nat} (h : Nx ps R (NS ps H) (fun X t => FS ps (NS ps H) t H X) X t) : t < R + 1 := by
  rcases h with ⟨_, rfl⟩ | ⟨p, hp, a, s, b, e, _, _, hb⟩
  · omega
  · have := beg_lt hT (l := b) (fun s hs => hT.sy p hp s (by rw [e]; simp [hs])) hb
    omega
theorem fo_lt (hT : TabOk ps R H) {X : Int} {t : Nat} (h : Fo ps R (NS ps H) (fun X t => FS ps (NS ps H) t H X) X t) : t < R + 1 := by
  rcases h with h | ⟨k, _, h⟩
  · exact nx_lt hT h
  · exact nx_lt hT h
structure SetIs (R H : Nat) (q : List Q1) (h : Nat) (hd : Hd) : Prop where
  n : (derF (bs R) false q H).getD h false = hd.nul
  f : risF (fiF R H (derF (bs R) false q H) q [bs R + (h : Int)]) = listT hd.fi
  o : risF (foF R H (derF (bs R) false q H) q h) = listT hd.fo
  r : (rchF R H q).getD h false = hd.rch
  u : (derF (bs R) true q H).getD h false = hd.fru
theorem null_is (hT : TabOk ps R H) : NullIs ps H (derF (bs R) false (codesOf R ps) H) := ⟨(derF_null hT).1, (derF_null hT).2⟩
theorem set_is (hT : TabOk ps R H) (hR : R ≤ 8) {h : Nat} (hh : h < H) : SetIs R H (codesOf R ps) h (getH (allF ps (initH R H)) h) := by
  have hS := sets_are hT hR (by omega : 0 < H)
  have hn := null_is hT
  refine ⟨?_, ?_, ?_, ?_, ?_⟩
  · rw [hn.at' h hh]; exact (hS.n h).symm
  · have e : [bs R + (h : Int)] = ([⟨true, h⟩] : List Sy).map (codeS R) := by simp [codeS, bs]
    have hv : ∀ s ∈ ([⟨true, h⟩] : List Sy), 0 ≤ s.num ∧ s.num < (if s.isH then (H : Int) else R) := by
      intro s hs
      rw [List.mem_singleton] at hs
      subst hs
      simp only [if_true]
      omega
    have f := fi_is hT hn hv
    rw [e]
    refine risF_listT (fun t => ?_) (by rw [f.1]; omega)
    rw [f.2 t]
    have := hS.f h t
    unfold hF at this
    rw [this]
    simp [begX]
  · have f := fo_is hT hn h
    refine risF_listT (fun t => ?_) (by rw [f.1]; omega)
    have ho := hS.o h t
    unfold hO at ho
    rw [Bool.eq_iff_iff, ho]
    by_cases ht : t < R + 1
    · exact f.2 t ht
    · constructor
      · intro q
        rw [List.getD_eq_getElem?_getD, List.getElem?_eq_none (by rw [f.1]; omega)] at q
        cases q
      · intro q
        exact absurd (fo_lt hT q) ht
  · rw [Bool.eq_iff_iff, hS.r h]
    obtain ⟨r1, r2⟩ := re_is (ps := ps) hT
    have hl : ((reF R H (codesOf R ps)).getD 0 []).length = H := r1.row 0 (by omega)
    unfold rchF
    rw [getD_set _ _ _ _ _ (by rw [hl]; omega)]
    by_cases e : h = 0
    · rw [if_pos e]
      exact ⟨fun _ => .inl (by omega), fun _ => rfl⟩
    · rw [if_neg e]
      have := r2 0 h
      unfold atM at this
      rw [this]
      exact ⟨fun q => .inr q, fun q => q.resolve_left (by omega)⟩
  · rw [show (derF (bs R) true (codesOf R ps) H).getD h false = US ps H h from (derF_fru hT).2 h hh, Bool.eq_iff_iff, hS.u h]
    exact ⟨fun q => ⟨H, q⟩, fun ⟨n, q⟩ => US_end hT n h (by omega) (by omega) q⟩
theorem rchF_len (hT : TabOk ps R H) (hH : 0 < H) : (rchF R H (codesOf R ps)).length = H := by
  obtain ⟨r1, r2⟩ := re_is (ps := ps) hT
  unfold rchF
  rw [List.length_set]
  exact r1.row 0 hH
end
end Go.Proofs.YtcdedekgdiooiaaGreat
namespace Go.Proofs.YtcdedekgdiooiaaGreat
open Go.RowKit
set_option linter.unusedVariables false
set_option linter.unusedSimpArgs false

theorem tab_ok {s : ByteArray} (hc : checkF s = (0, 0)) : TabOk (tableOf (rLines s).1) (frontsOf (rLines s).1).length (headsOf (rLines s).1).length ∧ (frontsOf (rLines s).1).length ≤ 8 := by
  obtain ⟨c1, c2, c3, c4, c5⟩ := check_parts hc
  have hI := linesInv hc
  have hI2 := linesInv2 hc
  exact ⟨tabOk c3 hI.places hI2.mem, rules_le (fun y hy => (hI.places y hy).1) c5⟩
/-- what the reference reads of a right specification -/
def ReadN (s : ByteArray) (w : World) (e : Ending) (w' : World) : Prop :=
  ∃ (b : Nat) (pl : Int), e = .returned (.tuple #[.pointer (some ⟨b, 0, none⟩), .int .i64 0, .int .i64 pl]) ∧ SpecN w' b (frontsOf (rLines s).1).length (headsOf (rLines s).1).length (codesOf (frontsOf (rLines s).1).length (tableOf (rLines s).1)) ∧ Fresh w w'
theorem zread_n (s : ByteArray) (w : World) (hs : s.size ≤ maxLen) (hc : checkF s = (0, 0)) : Calls Tryz.prog 12 #[.string s] w fun e w' => ReadN s w e w' := by
  refine (zread_any s w hs).mono ?_
  rintro e w' ⟨p, pl, rfl, hf, _, _, h⟩
  obtain ⟨b, xs, _, rfl, hX, hO⟩ := h (by rw [hc])
  refine ⟨b, pl, by rw [hc], spec_n hX (spec_tab hc hO), hf⟩
/-- what is said of the numbers -/
structure NumOk (R H : Nat) (q : List Q1) : Prop where
  qk : QOk R H q
  n : (derF (bs R) false q H).length = H
  u : (derF (bs R) true q H).length = H
  r : (rchF R H q).length = H
  sl : Sq (R + 1 + H) (ldF R H (derF (bs R) false q H) q)
  sa : Sq H (laF R H (derF (bs R) false q H) q)
  se : Sq H (reF R H q)
  pos : 0 < H
theorem num_ok {s : ByteArray} (hc : checkF s = (0, 0)) : NumOk (frontsOf (rLines s).1).length (headsOf (rLines s).1).length (codesOf (frontsOf (rLines s).1).length (tableOf (rLines s).1)) := by
  obtain ⟨hT, hR⟩ := tab_ok hc
  have hQ := q_ok hc hT hR
  have hp : 0 < (headsOf (rLines s).1).length := by
    have := hQ.hd _ (List.getElem_mem hQ.pos)
    omega
  exact ⟨hQ, (derF_null hT).1, (derF_fru hT).1, rchF_len hT hp, (ld_is hT (null_is hT)).1, (la_is hT (null_is hT)).1, (re_is hT).1, hp⟩
theorem one_int (w : World) (c : Int) : IntAt (w.alloc (.cells #[.int .i64 c] 3)) (.slice (some ⟨w.heap.size, 0, none⟩) 1 1) [c] := by
  refine ⟨_, 1, rfl, Nat.le_refl _, fun j hj => ⟨w.heap.size, 0, rfl, ?_⟩⟩
  have : j = 0 := by simp at hj; omega
  subst this
  exact cellOf (heap_alloc_at _ _) 0
attribute [local go_sem ↓] apS_rule
set_option maxRecDepth 20000 in
set_option maxHeartbeats 8000000 in
theorem zsets_walk (s : ByteArray) (w : World) (R H : Nat) (q : List Q1) (SF : List Hd) (hK : NumOk R H q) (hSF : SF.length = H) (SI : ∀ (h : Nat) (hh : h < SF.length), SetIs R H q h SF[h])
    (RD : ∀ w, Calls Tryz.prog 12 #[.string s] w fun e w' => ∃ (b : Nat) (pl : Int), e = .returned (.tuple #[.pointer (some ⟨b, 0, none⟩), .int .i64 0, .int .i64 pl]) ∧ SpecN w' b R H q ∧ Fresh w w') :
    Calls Tryz.prog 5 #[.string s] w fun e w' => ∃ v svs, e = .returned (.tuple #[v, .int .i64 0]) ∧ svs.map SV.hd = SF ∧ SRel w w' w.heap.size v svs := by
  obtain ⟨i0, hi0, iz0, iz1, iz2⟩ := infoSet'
  have RDH := hid RD
  have AL := hid (fun (W : World) (b : Nat) (hS : SpecN W b R H q) => all_any W b R H q hS hK.qk hK.n)
  have RE := hid (fun (W : World) (b : Nat) (hS : SpecN W b R H q) => reached_any W b R H q hS hK.qk hK.se)
  have DE := hid (fun (W : World) (b : Nat) (hS : SpecN W b R H q) => derived_any W b R H q true hS hK.qk)
  have HK := hid hK
  have HSF := hid hSF
  have HSI := hid SI
  have r8 := hK.qk.r8
  have h8 := hK.qk.h8
  clear RD hK hSF SI
  go_enter Tryz.func5, Tryz.ntmps5
  go_wp2_with (first
    | (go_at_call 12; refine (RDH.out _).mono ?_; rintro e w1 ⟨b, pl, rfl, hS1, hf1⟩; have HS1 := hid hS1; have HF1 := hid hf1; clear hS1 hf1)
    | (go_at_call 13; refine (AL.out _ b HS1.out).mono ?_; rintro e w2 ⟨ab, gn, vL, gL, rfl, hA2, hf2⟩; have HA2 := hid hA2; have HF2 := hid hf2; have HS2 := hid (HS1.out.fresh hf2); clear hA2 hf2)
    | (go_at_call 14; refine (RE.out _ b HS2.out).mono ?_; rintro e w3 ⟨gr, rfl, hgr, hBr, hf3⟩; have HBR := hid hBr; have HF3 := hid hf3; have HS3 := hid (HS2.out.fresh hf3); clear hgr hBr hf3)
    | (go_at_call 15; refine (DE.out _ b HS3.out).mono ?_; rintro e w4 ⟨gf, hgf, rfl, hBf, hf4⟩; have HBF := hid hBf; have HF4 := hid hf4; have HS4 := hid (HS3.out.fresh hf4); clear hgf hBf hf4))
  have HA4 := hid ((HA2.out.fresh HF3.out).fresh HF4.out)
  have HBR4 := hid (HBR.out.fresh HF4.out)
  have HFW := hid (((HF1.out.trans HF2.out).trans HF3.out).trans HF4.out)
  clear HS1 HS2 HS3 HA2 HBR HF1 HF2 HF3 HF4 RDH AL RE DE
  have FI := hid (fun (W : World) (v : Value) (l : List Int) (hW : Fresh w4 W) (hv : IntAt W v l) (hl : l.length ≤ 6) (hc : ∀ c ∈ l, 0 ≤ c ∧ c < (R : Int) + 1 + H) => first_any W _ ab b R H q gn vL gL v l (HA4.out.fresh hW) (HS4.out.fresh hW) HK.out.qk HK.out.n HK.out.sl hv hl hc)
  have FO := hid (fun (W : World) (h : Nat) (hW : Fresh w4 W) (hh : h < H) => follow_any W _ ab b R H q gn vL gL h (HA4.out.fresh hW) (HS4.out.fresh hW) HK.out.qk HK.out.n HK.out.sl HK.out.sa hh)
  have RI := hid (fun (W : World) (g : Nat) (l : List Bool) (hB : BSet W g l) (hl : l.length = R + 1) => rising_any W g (R + 1) l hB hl (by omega))
  have p1 := cellOf HA4.out.o 1
  simp at p1
  have HN4 := hid HA4.out.n
  have hS4 := HS4.out
  obtain ⟨a0, c0, a1, c1, a2, c2, v3, v4, sv, hN⟩ := hS4
  have k0 := hN.k0
  have k2 := hN.k2
  have BA := hid (fun (W : World) (hW : Fresh w4 W) => base_any W b R a0 c0 (fcell' hW k0) (by omega))
  have FL := hid (fun l => fiF_len R H (derF (bs R) false q H) q l)
  have OL := hid (fun l => foF_len R H (derF (bs R) false q H) q l)
  generalize hq1 : R + 1 = R1 at FI FO RI FL OL
  clear HA4 HS4 hN hq1 k0
  have hzz : w.heap.size ≤ w4.heap.size := HFW.out.size
  go_loopw [10, 11, 12, 13] (fun x10 x11 _ _ wr => ∃ (i : Nat) (svs : List SV), x11 = .int .i64 i ∧ i ≤ H ∧ svs.length ≤ i ∧ svs.map SV.hd = SF.take i ∧ SRel w wr w4.heap.size x10 svs ∧ Fresh w4 wr)
      (fun _ x _ _ _ => 1001 - (intOf x).toNat)
  case atStart => exact ⟨0, [], rfl, by omega, by simp, by simp, ⟨World.ownsRow_nil _ _ _ _, by simp, by simp, HFW.out, by simp, List.Pairwise.nil⟩, Mod.refl _ _⟩
  case round =>
    obtain ⟨i, svs, rfl, hi, hsl, hmap, hS, hfr⟩ := hrel
    have HME := hid (meas (B := 1001) i (by omega))
    have HS := hid hS
    have HFR := hid hfr
    have HMAP := hid hmap
    have kk2 := fcell' hfr k2
    obtain ⟨ro, rc, hro⟩ := own_form hS.own
    subst hro
    clear hS hmap
    by_cases hlt : i < H
    · have hi1 : (i : Int) < (H : Int) := by omega
      have hlS : i < SF.length := by rw [HSF.out]; exact hlt
      have si := HSI.out i hlS
      have HTS := hid (takeS hlS)
      generalize SF[i] = hd at si HTS
      have wr1 : IntKind.i64.wrap (bs R + (i : Int)) = bs R + i := by rw [IntKind.wrap_i64]; unfold bs; omega
      have F1 := hid (fun (W : World) (hW : Fresh w4 W) => FI.out (W.alloc (.cells #[.int .i64 (bs R + i)] 3)) _ [bs R + i] (hW.alloc _) (one_int W _) (by simp) (fun c hc => by rw [List.mem_singleton] at hc; subst hc; unfold bs; omega))
      have O1 := hid (fun (W : World) (hW : Fresh w4 W) => FO.out W i hW hlt)
      have R1' := hid (fun (W : World) (g : Nat) (hB : BSet W g (fiF R H (derF (bs R) false q H) q [bs R + (i : Int)])) => RI.out W g _ hB (FL.out _))
      have R2' := hid (fun (W : World) (g : Nat) (hB : BSet W g (foF R H (derF (bs R) false q H) q i)) => RI.out W g _ hB (OL.out _))
      rw [si.f] at R1'
      rw [si.o] at R2'
      have sn := si.n
      have su := si.u
      have sr := si.r
      have cn := fun (W : World) (hW : Fresh w4 W) => (HN4.out.fresh hW).cell (j := i) (by rw [HK.out.n]; exact hlt)
      have cr := fun (W : World) (hW : Fresh w4 W) => (HBR4.out.fresh hW).cell (j := i) (by rw [HK.out.r]; exact hlt)
      have cu := fun (W : World) (hW : Fresh w4 W) => (HBF.out.fresh hW).cell (j := i) (by rw [HK.out.u]; exact hlt)
      rw [sn] at cn
      rw [sr] at cr
      rw [su] at cu
      have CN := hid cn
      have CR := hid cr
      have CU := hid cu
      clear si sn su sr cn cr cu hfr
      go_upto_region 13 with (first
        | (go_at_call 16; refine (R2'.out _ _ HB8.out).mono ?_; rintro e w9 ⟨v2, rfl, ho2, hf9⟩; obtain ⟨a2x, c2x, hv2⟩ := own_form ho2; subst hv2; have HO2 := hid ho2; have HF9 := hid hf9; clear ho2 hf9)
        | (go_at_call 19; refine (O1.out _ HF7w.out).mono ?_; rintro e w8 ⟨g8, rfl, hg8, hB8, hf8⟩; have HB8 := hid hB8; have HF8 := hid hf8; clear hg8 hB8 hf8)
        | (go_at_call 16; refine (R1'.out _ _ HB6.out).mono ?_; rintro e w7 ⟨v1, rfl, ho1, hf7⟩; obtain ⟨a1x, c1x, hv1⟩ := own_form ho1; subst hv1; have HO1 := hid ho1; have HF7w := hid (HF6.out.trans hf7); have HF7 := hid hf7; clear ho1 hf7)
        | (go_at_call 17; refine (F1.out _ HFR.out).mono ?_; rintro e w6 ⟨g6, rfl, hg6, hB6, hf6⟩; have HB6 := hid hB6; have HF6 := hid ((HFR.out.alloc _).trans hf6); have HF6r := hid (((Mod.refl (fun _ => False) wr).alloc _).trans hf6); clear hg6 hB6 hf6)
        | (go_at_call 18; refine (BA.out _ HFR.out).mono ?_; rintro e w' ⟨rfl, hw⟩; rw [hw]; clear hw))
      have hF49 := HF7w.out.trans (HF8.out.trans HF9.out)
      have hFr9 : Fresh wr w9 := (HF6r.out.trans HF7.out).trans (HF8.out.trans HF9.out)
      have x1 := CN.out w9 hF49
      have x2 := CR.out w9 hF49
      have x3 := CU.out w9 hF49
      have x4 := fcell' hF49 p1
      have HFN := hid hFr9
      have h12 : Hid (∀ k, (Value.slice a1x (listT hd.fi).length c1x).ownBlock = some k → (Value.slice a2x (listT hd.fo).length c2x).ownBlock ≠ some k) := hid (fun k q1 q2 => by
        have h1 := (HO1.out.lt k q1).2
        have h2 := (HO2.out.lt k q2).1
        have h3 := HF8.out.size
        omega)
      have HOA : Hid (IntOwn w9 wr.heap.size (.slice a1x (listT hd.fi).length c1x) (listT hd.fi)) := hid (ownsRow_base (ownsRow_other HO1.out (fun g hg => (HF8.out.trans HF9.out).block g (HO1.out.lt g hg).2 (fun x => x))) HF6r.out.size)
      have HOB : Hid (IntOwn w9 wr.heap.size (.slice a2x (listT hd.fo).length c2x) (listT hd.fo)) := hid (ownsRow_base HO2.out (by have h1 := HF6r.out.size; have h2 := HF7.out.size; have h3 := HF8.out.size; omega))
      have HO9 := hid (ownsRow_other HS.out.own (fun g hg => hFr9.block g (HS.out.own.lt g hg).2 (fun x => x)))
      have hsz9 := hF49.size
      clear HO1 HO2 HF7w HF7 HF8 HF9 HF6 HF6r HB6 HB8 hF49 hFr9 CN CR CU F1 O1 R1' R2' wr1
      generalize hnul : hd.nul = b1 at x1
      generalize hrch : hd.rch = b2 at x2
      generalize hfru : hd.fru = b3 at x3
      have HE := hid (And.intro hnul (And.intro hrch hfru))
      clear hnul hrch hfru
      obtain ⟨v', w2, hrun, hown, hgrow, hblk⟩ := apS_mine (P := Tryz.prog) (w9.alloc (.cells #[.bool b1, .slice a1x (listT hd.fi).length c1x, .slice a2x (listT hd.fo).length c2x, .bool b2, .bool b3] 32)).drew w4.heap.size 23 23 32 i0 _ 5 64 Tryz.underlying23 hi0 iz0 iz1 iz2 rfl (by decide) (.slice ro svs.length rc) svs.length (flatC SV.cells svs) (HO9.out.alloc _) ⟨w9.heap.size, 0, none⟩ 1 1 [.bool b1, .slice a1x (listT hd.fi).length c1x, .slice a2x (listT hd.fo).length c2x, .bool b2, .bool b3] rfl (new_cells rfl) (by intro u hu; simp at hu; rcases hu with rfl | rfl | rfl | rfl | rfl <;> rfl) (by unfold maxLen; omega) (by omega) (by simp [World.drew]; omega)
      have hFd : Fresh wr (w9.alloc (.cells #[.bool b1, .slice a1x (listT hd.fi).length c1x, .slice a2x (listT hd.fo).length c2x, .bool b2, .bool b3] 32)).drew := (HFN.out.alloc _).drew
      have HSN : Hid (SRel w w2 w4.heap.size v' (svs ++ [⟨hd, .slice a1x (listT hd.fi).length c1x, .slice a2x (listT hd.fo).length c2x⟩])) := hid (by
        obtain ⟨rfl, rfl, rfl⟩ := HE.out
        exact HS.out.next (s := ⟨hd, .slice a1x (listT hd.fi).length c1x, .slice a2x (listT hd.fo).length c2x⟩) hzz hFd (HOA.out.alloc _) (HOB.out.alloc _) hown hgrow (fun k hk => (hblk k hk).imp id (fun h => by simpa using h)) h12.out)
      have HF5 : Hid (Fresh w4 w2) := hid (Mod.grown (S := fun _ => False) (HFR.out.trans hFd) hgrow (fun k hk hlt => by have := (HS.out.own.lt k hk).1; omega))
      obtain ⟨a', cap', hv'⟩ := own_form hown
      clear hown hgrow hblk hFd
      subst hv'
      go_region
      all_goals
        go_wp2
        go_roundw
        case rel =>
          refine ⟨i + 1, _, by go_num, by omega, by simp; omega, ?_, HSN.out, HF5.out⟩
          rw [HTS.out, List.map_append, HMAP.out]; rfl
        case measure => exact HME.out
    · have hie : i = H := by omega
      have hi2 : ¬ (i : Int) < (H : Int) := by omega
      go_wp2
      go_ret2
      have e1 : svs.map SV.hd = SF := by rw [HMAP.out, hie, ← HSF.out, List.take_length]
      have e2 : SRel w wr w.heap.size (.slice ro svs.length rc) svs := ⟨ownsRow_base HS.out.own hzz, HS.out.each, HS.out.dis, HS.out.fresh, HS.out.low, HS.out.sep⟩
      first
        | exact ⟨_, _, rfl, e1, e2⟩
        | exact ⟨_, rfl, _, e1, e2⟩
theorem zsets_good (s : ByteArray) (w : World) (hs : s.size ≤ maxLen) (hc : (checkF s).1 = 0) :
    Calls Tryz.prog 5 #[.string s] w fun e w' => SetsRet s w e w' := by
  have hc' := check_zero hc
  obtain ⟨hT, hR⟩ := tab_ok hc'
  have hal : (setsF s).length = (headsOf (rLines s).1).length := by
    have := (allF_ok hT hR).len
    exact this
  refine zsets_walk s w _ _ _ (setsF s) (num_ok hc') hal (fun h hh => ?_) (fun w => zread_n s w hs hc')
  have := set_is hT hR (h := h) (by rw [← hal]; exact hh)
  unfold getH at this
  rw [if_pos (by omega), Int.toNat_natCast] at this
  have e : (allF (tableOf (rLines s).1) (initH ((frontsOf (rLines s).1).length : Nat) (headsOf (rLines s).1).length))[h]? = some (setsF s)[h] := List.getElem?_eq_getElem hh
  rw [e] at this
  exact this
set_option maxRecDepth 20000 in
set_option maxHeartbeats 2000000 in
theorem zsets_bad (s : ByteArray) (w : World) (hs : s.size ≤ maxLen) (hc : (checkF s).1 ≠ 0) :
    Calls Tryz.prog 5 #[.string s] w fun e w' => e = .returned (.tuple #[.slice none 0 0, .int .i64 (checkF s).1]) ∧ Fresh w w' := by
  have RD := hid (zread_any s w hs)
  have c0 : ((checkF s).1 != 0) = true := by simpa using hc
  clear hc
  go_enter Tryz.func5, Tryz.ntmps5
  go_wp2_with (first
    | (go_at_call 12; refine (RD.out).mono ?_; rintro e w1 ⟨p, pl, rfl, hf1, _, _, _⟩; have HF1 := hid hf1; clear hf1))
  go_ret2
  exact ⟨rfl, HF1.out⟩
end Go.Proofs.YtcdedekgdiooiaaGreat
namespace Go.Proofs.YtcdedekgdiooiaaGreat
open Go.RowKit
set_option linter.unusedVariables false
set_option linter.unusedSimpArgs false

section
variable {P : Program} (w : World)
theorem mid_keep {l news : List Value} {x : Value} {N o : Nat} (hfit : N + news.length ≤ l.length) (hx : ∀ u ∈ news, u = x) (ho : l[o]? = some x) : (l.take N ++ news ++ l.drop (N + news.length))[o]? = some x := by
  have hol : o < l.length := by
    rcases Nat.lt_or_ge o l.length with h | h
    · exact h
    · rw [List.getElem?_eq_none h] at ho; cases ho
  have ht : (l.take N).length = N := by rw [List.length_take]; omega
  by_cases h1 : o < N
  · rw [List.append_assoc, List.getElem?_append_left (by omega), List.getElem?_take, if_pos h1]; exact ho
  · by_cases h2 : o < N + news.length
    · rw [List.getElem?_append_left (by rw [List.length_append]; omega), List.getElem?_append_right (by omega), ht]
      have hm : o - N < news.length := by omega
      rw [List.getElem?_eq_getElem hm, hx _ (List.getElem_mem hm)]
    · rw [List.getElem?_append_right (by rw [List.length_append]; omega), List.length_append, ht, List.getElem?_drop]
      rw [show N + news.length + (o - (N + news.length)) = o by omega]; exact ho
/-- an append of what is x: what was x stays so -/
theorem run_append_keep (base : Nat) (t ty e : TypeId) (i : TypeInfo) (z : Value) (size bytes : Nat) (ht : P.underlying t = some (.slice e)) (hi : P.info? e = some i) (hz : i.zero = some z)
    (hsize : i.size = size) (hby : i.bytes = bytes) (hzs : z.cells.size = size) (hsz : 0 < size)
    (v : Value) (n : Nat) (xs : List Value) (hown : w.ownsRow base e size v n xs)
    (a : Addr) (m c : Nat) (news : List Value) (hl : news.length = m * size) (hnews : ∀ j u, news[j]? = some u → w.cell? (a.add j) = some u) (h1 : ∀ u ∈ news, u.oneCell' = true)
    (h63 : n + m ≤ maxLen) (hbytes : (n + m) * bytes ≤ 140737488355328) (hbase : base ≤ w.heap.size) (x : Value) (hx : ∀ u ∈ news, u = x) :
    ∃ v' w', (Builtin.append_ #[t, t] ty #[v, .slice (some a) m c]).run P w = .ok v' w' ∧ w'.ownsRow base e size v' (n + m) (xs ++ news) ∧ w.grownBy w' v.ownBlock ∧
      (∀ k, v'.ownBlock = some k → v.ownBlock = some k ∨ w.heap.size ≤ k) ∧ (∀ b o, w.cell? ⟨b, o, none⟩ = some x → w'.cell? ⟨b, o, none⟩ = some x) ∧ w'.ownsRow base e size v n xs := by
  have old : ∀ w' : World, w.grownBy w' none → ∀ b o, w.cell? ⟨b, o, none⟩ = some x → w'.cell? ⟨b, o, none⟩ = some x := fun w' hg b o hc => by
    have hb : b < w.heap.size := by
      rcases Nat.lt_or_ge b w.heap.size with h | h
      · exact h
      · simp [World.cell?, Array.getElem?_eq_none h] at hc
    rw [World.cell?_of_block (hg.block b hb (by simp))]; exact hc
  rcases hown.2 with ⟨rfl, rfl⟩ | ⟨g, cap, cur, rfl, hbg, hg, hnc, hcm, hcs, htake⟩
  · have hx0 : xs = [] := List.eq_nil_of_length_eq_zero (by simpa using hown.1)
    subst hx0
    obtain ⟨v', w', hr, h2, h3, _⟩ := run_append_own (P := P) w w.heap.size t ty e i z size bytes ht hi hz hsize hby hzs hsz _ 0 [] (World.ownsRow_nil w _ e size) a m c news hl hnews h1 h63 hbytes (Nat.le_refl _)
    exact ⟨v', w', hr, ownsRow_base h2 hbase, h3, fun k hk => .inr (h2.lt k hk).1, old w' h3, World.ownsRow_nil _ _ _ _⟩
  · by_cases hroom : n + m ≤ cap
    · obtain ⟨v', w', hr, h2, h3, _⟩ := run_append_own (P := P) w base t ty e i z size bytes ht hi hz hsize hby hzs hsz _ n xs hown a m c news hl hnews h1 h63 hbytes hbase
      subst hsize
      have hfit : n * i.size + news.length ≤ cur.size := by rw [hl, hcs, ← Nat.add_mul]; exact Nat.mul_le_mul_right _ hroom
      have hr' := run_append_room (P := P) w t ty e i ht hi g n cap cur hg a m c news hl hnews h1 hroom hfit
      rw [hr] at hr'
      injection hr' with e1 e2
      have hh : (w.setRow g (cur.toList.take (n * i.size) ++ news ++ cur.toList.drop (n * i.size + news.length)).toArray).heap[g]? = some (.cells (cur.toList.take (n * i.size) ++ news ++ cur.toList.drop (n * i.size + news.length)).toArray e (0, 0)) := setRow_heap _ _ _ _ _ _ hg
      rw [← e2] at hh
      refine ⟨v', w', hr, h2, h3, fun k hk => by rw [e1] at hk; exact .inl hk, fun b o hc => ?_, ?_⟩
      · by_cases hb : b = g
        · subst hb
          have q : cur[o]? = some x := by rw [← cellOf hg o]; exact hc
          rw [cellOf hh o]
          rw [List.getElem?_toArray]
          exact mid_keep (by simpa using hfit) hx (by simpa using q)
        · have hbl : b < w.heap.size := by
            rcases Nat.lt_or_ge b w.heap.size with h | h
            · exact h
            · simp [World.cell?, Array.getElem?_eq_none h] at hc
          rw [World.cell?_of_block (h3.block b hbl (by simp [Value.ownBlock]; exact hb))]; exact hc
      · refine ⟨hown.1, .inr ⟨g, cap, _, rfl, hbg, hh, hnc, hcm, ?_, ?_⟩⟩
        · simp only [List.size_toArray, List.length_append, List.length_take, List.length_drop, Array.length_toList]
          omega
        · rw [List.append_assoc, List.take_append_of_le_length (by rw [List.length_take, Array.length_toList]; omega), List.take_take, Nat.min_self]
          exact htake
    · have holds : ∀ j u, xs[j]? = some u → w.cell? ((⟨g, 0, none⟩ : Addr).add j) = some u := hown.cells (g := g) rfl
      obtain ⟨v', w', hr, h2, h3⟩ := run_append_arg_grows (P := P) w t ty e i z size bytes ht hi hz hsize hby hzs hsz ⟨g, 0, none⟩ n cap xs hown.1 holds a m c news hl hnews (by omega) h63 hbytes
      exact ⟨v', w', hr, ownsRow_base h2 hbase, grownBy_mono h3 _, fun k hk => .inr (h2.lt k hk).1, old w' h3, ownsRow_other hown (fun k hk => h3.block k (hown.lt k hk).2 (by simp))⟩
theorem wpList_append_run {ops : Array Oper} {rest : List Oper} {o : Oper} {a : Act} {Q : Exit → Act → World → Prop} (hgd : o.guard = none) (s x : Operand) (t : TypeId)
    (ho : o.op = .call { callee := .builtin .append, args := #[s, x], argTypes := #[t, t] }) (v xv : Value) (hs : a.eval s = v) (hx : a.eval x = xv) (v' : Value) (w' : World)
    (hr : (Builtin.append_ #[t, t] o.type #[v, xv]).run P w = .ok v' w') (h : wpList P ops Q rest (a.put o.dst v') w') : wpList P ops Q (o :: rest) a w :=
  wpList_plain hgd fun _ hK => by
    unfold Oper.wp execOp
    simp only [ho, resolve, invoke, builtin, Sem.run_bind, Sem.run_pure, Result.andThen_ok, List.map_toArray, List.map_cons, List.map_nil, hs, hx, hr]
    exact hK _ _ h
end
theorem results_row0 {P : Program} {fn : Func} {p : Tmp} {ty : TypeId} (h : fn.results = #[.cell p ty]) (tmps : Array Value) (w : World) (g : Nat) (t : TypeId) (cs : Array Value) (fr : Nat × Nat) (d : TypeDesc)
    (hp : tmps.getD p undef = .pointer (some ⟨g, 0, none⟩)) (hg : w.heap[g]? = some (.cells cs t fr))
    (hu : P.underlying ty = some d) (hd : (match d with | .struct _ | .array _ _ => true | _ => false) = true) (hi : (P.info? ty).map (·.size) = some cs.size) :
    (results fn tmps).run P w = .ok (.agg cs) w := by
  have hp' : tmps[p]?.getD undef = .pointer (some ⟨g, 0, none⟩) := by simpa using hp
  simp [results, h, hp', asAddr, run_loadVar_row w g t ty cs fr d hg hu hd hi]
/-- a list full of a mark -/
abbrev MarkAt (w : World) (v : Value) (n : Nat) (mk : Int) : Prop := IntAt w v (List.replicate n mk)
theorem MarkAt.keep {w w' : World} {v : Value} {n : Nat} {mk : Int} (h : MarkAt w v n mk) (hk : ∀ b o, w.cell? ⟨b, o, none⟩ = some (.int .i64 mk) → w'.cell? ⟨b, o, none⟩ = some (.int .i64 mk)) : MarkAt w' v n mk := by
  obtain ⟨ao, cap, h1, h2, h3⟩ := h
  refine ⟨ao, cap, h1, h2, fun j hj => ?_⟩
  obtain ⟨g, o, h4, h5⟩ := h3 j hj
  rw [List.getElem_replicate] at h5 ⊢
  exact ⟨g, o, h4, hk _ _ h5⟩
theorem MarkAt.of {w : World} {base : Nat} {v : Value} {n : Nat} {mk : Int} (h : w.ownsRow base 3 1 v n (nums (List.replicate n mk))) : MarkAt w v n mk := by
  have : IntOwn w base v (List.replicate n mk) := by unfold IntOwn; rw [List.length_replicate]; exact h
  exact IntOwn.at' this
/-- a list is read still where its block has not changed -/
theorem IntAt.kept {w w' : World} {v : Value} {l : List Int} (h : IntAt w v l) (hk : ∀ k, v.ownBlock = some k → k < w.heap.size → w'.heap[k]? = w.heap[k]?) : IntAt w' v l := by
  obtain ⟨ao, cap, h1, h2, h3⟩ := h
  refine ⟨ao, cap, h1, h2, fun j hj => ?_⟩
  obtain ⟨g, o, h4, h5⟩ := h3 j hj
  refine ⟨g, o, h4, ?_⟩
  have hb : g < w.heap.size := by
    rcases Nat.lt_or_ge g w.heap.size with h | h
    · exact h
    · simp [World.cell?, Array.getElem?_eq_none h] at h5
  rw [World.cell?_of_block (hk g (by rw [h1, h4]; rfl) hb)]; exact h5
theorem marks_set {l : List Int} {i : Nat} {mk : Int} (hi : i < l.length) : (List.replicate i mk ++ l.drop i).set i mk = List.replicate (i + 1) mk ++ l.drop (i + 1) := by
  rw [List.set_append_right _ _ (by simp), List.length_replicate, Nat.sub_self, List.drop_eq_getElem_cons hi, List.set_cons_zero, List.replicate_succ', List.append_assoc]
  rfl
set_option maxRecDepth 20000 in
set_option maxHeartbeats 2000000 in
theorem lsame_true (w : World) (va vb : Value) (l : List Int) (ha : IntAt w va l) (hb : IntAt w vb l) (hl : l.length ≤ 1000) :
    Calls Tryz.prog 7 #[va, vb] w fun e w' => e = .returned (.bool true) ∧ ∃ m, w' = w.drewN m := by
  obtain ⟨aa, ca, rfl, hca, cella⟩ := ha
  obtain ⟨ab, cb, rfl, hcb, cellb⟩ := hb
  have CA := hid cella
  have CB := hid cellb
  clear cella cellb
  go_enter Tryz.func7, Tryz.ntmps7
  go_wp2
  go_loopw [5] (fun x5 wr => ∃ (i m : Nat), x5 = .int .i64 i ∧ wr = w.drewN m ∧ i ≤ l.length) (fun x _ => 1001 - (intOf x).toNat)
  case atStart => exact ⟨0, 0, rfl, rfl, by omega⟩
  case round =>
    obtain ⟨i, m, rfl, rfl, hi⟩ := hrel
    have HME := hid (meas (B := 1001) i (by omega))
    by_cases hlt : i < l.length
    · have k1 : (i : Int) < (l.length : Int) := by omega
      obtain ⟨g, o, rfl, hc1⟩ := CA.out i hlt
      obtain ⟨g2, o2, rfl, hc2⟩ := CB.out i hlt
      have u1 := fcell' (fdrewR w m) hc1
      have u2 := fcell' (fdrewR w m) hc2
      generalize l[i] = c at u1 u2
      generalize hW : w.drewN m = wr at u1 u2 ⊢
      have HW := hid hW
      clear hW hc1 hc2
      go_wp2
      go_quiet (fail)
      go_wp2
      go_roundw
      case rel => exact ⟨i + 1, m + nq, by go_num, by rw [← HW.out, World.drewN_drewN], by omega⟩
      case measure => exact HME.out
    · have k1 : ¬ (i : Int) < (l.length : Int) := by omega
      go_wp2
      go_ret
      exact ⟨rfl, m, rfl⟩
set_option maxRecDepth 20000 in
set_option maxHeartbeats 2000000 in
theorem full_true (w : World) (v : Value) (n : Nat) (mk : Int) (h : MarkAt w v n mk) (hn : n ≤ 1000) :
    Calls Tryz.prog 20 #[v, .int .i64 mk] w fun e w' => e = .returned (.bool true) ∧ w' = w := by
  obtain ⟨ao, cap, rfl, hc, cell⟩ := h
  have CC := hid cell
  rw [List.length_replicate] at hc ⊢
  have CD : Hid (∀ j, j < n → ∃ g o, ao = some ⟨g, o, none⟩ ∧ w.cell? ⟨g, o + j, none⟩ = some (.int .i64 mk)) := hid (fun j hj => by
    obtain ⟨g, o, h1, h2⟩ := CC.out j (by rw [List.length_replicate]; exact hj)
    rw [List.getElem_replicate] at h2
    exact ⟨g, o, h1, h2⟩)
  clear cell CC
  go_enter Tryz.func20, Tryz.ntmps20
  go_wp2
  go_loopw [5] (fun x5 wr => ∃ (i : Nat), x5 = .int .i64 i ∧ wr = w ∧ i ≤ n) (fun x _ => 1001 - (intOf x).toNat)
  case atStart => exact ⟨0, rfl, rfl, by omega⟩
  case round =>
    obtain ⟨i, rfl, rfl, hi⟩ := hrel
    have HME := hid (meas (B := 1001) i (by omega))
    by_cases hlt : i < n
    · have k1 : (i : Int) < (n : Int) := by omega
      obtain ⟨g, o, rfl, hc1⟩ := CD.out i hlt
      go_wp2
      go_roundw
      case rel => exact ⟨i + 1, by go_num, by first | rfl | trivial, by omega⟩
      case measure => exact HME.out
    · have k1 : ¬ (i : Int) < (n : Int) := by omega
      go_wp2
      go_ret
      exact ⟨rfl, rfl⟩
end Go.Proofs.YtcdedekgdiooiaaGreat
