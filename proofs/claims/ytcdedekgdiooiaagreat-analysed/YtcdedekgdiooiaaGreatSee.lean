import Derived.Test.YtcdedekgdiooiaaGreatPd7
import Derived.Test.YtcdedekgdiooiaaGreatSea
namespace Go.Proofs.YtcdedekgdiooiaaGreat
open Go.RowKit
set_option linter.unusedVariables false
set_option linter.unusedSimpArgs false

structure SV where
  hd : Hd
  v1 : Value
  v2 : Value
def SV.cells (s : SV) : List Value := [.bool s.hd.nul, s.v1, s.v2, .bool s.hd.rch, .bool s.hd.fru]
abbrev IntOwn (w : World) (base : Nat) (v : Value) (l : List Int) : Prop := w.ownsRow base 3 1 v l.length (nums l)
def ownBs (svs : List SV) : List (Option Nat) := svs.flatMap (fun s => [s.v1.ownBlock, s.v2.ownBlock])
structure SRel (w wr : World) (B : Nat) (v : Value) (svs : List SV) : Prop where
  own : wr.ownsRow B 32 5 v svs.length (flatC SV.cells svs)
  each : ∀ s ∈ svs, IntOwn wr 0 s.v1 (listT s.hd.fi) ∧ IntOwn wr 0 s.v2 (listT s.hd.fo)
  dis : ∀ s ∈ svs, ∀ k, v.ownBlock = some k → s.v1.ownBlock ≠ some k ∧ s.v2.ownBlock ≠ some k
  fresh : Fresh w wr
  low : ∀ s ∈ svs, (∀ k, s.v1.ownBlock = some k → w.heap.size ≤ k) ∧ (∀ k, s.v2.ownBlock = some k → w.heap.size ≤ k)
  sep : (ownBs svs).Pairwise (fun a b => ∀ k, a = some k → b ≠ some k)
theorem SRel.fresh' {w wr w1 : World} {B : Nat} {v : Value} {svs : List SV} (h : SRel w wr B v svs) (hf : Fresh wr w1) : SRel w w1 B v svs :=
  ⟨ownsRow_other h.own (fun g hg => hf.block g (h.own.lt g hg).2 (fun x => x)), fun p hp => ⟨ownsRow_other (h.each p hp).1 (fun g hg => hf.block g ((h.each p hp).1.lt g hg).2 (fun x => x)), ownsRow_other (h.each p hp).2 (fun g hg => hf.block g ((h.each p hp).2.lt g hg).2 (fun x => x))⟩, h.dis, h.fresh.trans hf, h.low, h.sep⟩
theorem SRel.next {w wr W w2 : World} {B : Nat} {v v' : Value} {svs : List SV} {s : SV} (hB : w.heap.size ≤ B) (h : SRel w wr B v svs) (hf : Fresh wr W) (h1 : IntOwn W wr.heap.size s.v1 (listT s.hd.fi)) (h2 : IntOwn W wr.heap.size s.v2 (listT s.hd.fo))
    (hown : w2.ownsRow B 32 5 v' (svs.length + 1) (flatC SV.cells svs ++ s.cells)) (hg : W.grownBy w2 v.ownBlock)
    (hblk : ∀ k, v'.ownBlock = some k → v.ownBlock = some k ∨ W.heap.size ≤ k) (h12 : ∀ k, s.v1.ownBlock = some k → s.v2.ownBlock ≠ some k) : SRel w w2 B v' (svs ++ [s]) := by
  have hW := h.fresh' hf
  have hvlt : ∀ k, v.ownBlock = some k → k < wr.heap.size := fun k hk => (h.own.lt k hk).2
  have hvge : ∀ k, v.ownBlock = some k → w.heap.size ≤ k := fun k hk => Nat.le_trans hB (h.own.lt k hk).1
  have hp1 : ∀ k, v.ownBlock = some k → s.v1.ownBlock ≠ some k := fun k hk e => by
    have q1 := (h1.lt k e).1; have q2 := hvlt k hk; omega
  have hp2 : ∀ k, v.ownBlock = some k → s.v2.ownBlock ≠ some k := fun k hk e => by
    have q1 := (h2.lt k e).1; have q2 := hvlt k hk; omega
  refine ⟨?_, ?_, ?_, ?_, ?_, ?_⟩
  · rw [flat_snoc, List.length_append, List.length_singleton]; exact hown
  · intro q hq
    simp only [List.mem_append, List.mem_singleton] at hq
    rcases hq with hq | rfl
    · obtain ⟨a, b⟩ := hW.each q hq
      exact ⟨ownsRow_other a (fun g hgq => hg.block g (a.lt g hgq).2 (fun e => (h.dis q hq g e.symm).1 hgq)), ownsRow_other b (fun g hgq => hg.block g (b.lt g hgq).2 (fun e => (h.dis q hq g e.symm).2 hgq))⟩
    · exact ⟨ownsRow_base (ownsRow_other h1 (fun g hgq => hg.block g (h1.lt g hgq).2 (fun e => hp1 g e.symm hgq))) (Nat.zero_le _), ownsRow_base (ownsRow_other h2 (fun g hgq => hg.block g (h2.lt g hgq).2 (fun e => hp2 g e.symm hgq))) (Nat.zero_le _)⟩
  · intro q hq k hk
    simp only [List.mem_append, List.mem_singleton] at hq
    rcases hblk k hk with q1 | q1
    · rcases hq with hq | rfl
      · exact h.dis q hq k q1
      · exact ⟨hp1 k q1, hp2 k q1⟩
    · rcases hq with hq | rfl
      · exact ⟨fun e => by have := ((hW.each q hq).1.lt k e).2; omega, fun e => by have := ((hW.each q hq).2.lt k e).2; omega⟩
      · exact ⟨fun e => by have := (h1.lt k e).2; omega, fun e => by have := (h2.lt k e).2; omega⟩
  · exact Mod.grown (S := fun _ => False) hW.fresh hg (fun k hk hlt => by have := hvge k hk; omega)
  · intro q hq
    simp only [List.mem_append, List.mem_singleton] at hq
    rcases hq with hq | rfl
    · exact h.low q hq
    · have hsz := h.fresh.size
      exact ⟨fun k hk => by have := (h1.lt k hk).1; omega, fun k hk => by have := (h2.lt k hk).1; omega⟩
  · unfold ownBs
    rw [List.flatMap_append]
    refine List.pairwise_append.mpr ⟨h.sep, ?_, ?_⟩
    · simp only [List.flatMap_cons, List.flatMap_nil, List.append_nil, List.pairwise_cons, List.mem_singleton, forall_eq, List.not_mem_nil, false_implies, implies_true, List.Pairwise.nil, and_true]
      exact h12
    · intro a ha b hb k hk
      rw [List.mem_flatMap] at ha hb
      obtain ⟨q, hq, ha⟩ := ha
      obtain ⟨q', hq', hb⟩ := hb
      rw [List.mem_singleton] at hq'
      subst hq'
      simp only [List.mem_cons, List.not_mem_nil, or_false] at ha hb
      have hlt : k < wr.heap.size := by
        rcases ha with rfl | rfl
        · exact ((h.each q hq).1.lt k hk).2
        · exact ((h.each q hq).2.lt k hk).2
      rcases hb with rfl | rfl
      · exact fun e => by have := (h1.lt k e).1; omega
      · exact fun e => by have := (h2.lt k e).1; omega

theorem infoSet : (Tryz.prog.info? 32).map (fun i => (i.zero, i.size, i.bytes)) = some (some (.agg #[.bool false, .slice none 0 0, .slice none 0 0, .bool false, .bool false]), 5, 64) := by kernel_rfl
theorem infoSet' : ∃ i, Tryz.prog.info? 32 = some i ∧ i.zero = some (.agg #[.bool false, .slice none 0 0, .slice none 0 0, .bool false, .bool false]) ∧ i.size = 5 ∧ i.bytes = 64 := by
  have h := infoSet
  cases hq : Tryz.prog.info? 32 with
  | none => simp [hq] at h
  | some i => simp [hq] at h; exact ⟨i, rfl, h.1, h.2.1, h.2.2⟩

set_option maxRecDepth 20000 in
set_option maxHeartbeats 8000000 in
theorem Find_any (w : World) (R H : Nat) (vp : Value) (ps : List PV) (hp : PrsAt w w.heap.size vp ps) (hps : ps.length ≤ 1000) (hH : H ≤ 1000) (hR : R ≤ 1000) :
    Calls Tryz.prog 11 #[.agg #[.int .i64 R, .int .i64 H, vp]] w fun e w' => ∃ v svs, e = .returned v ∧ svs.map SV.hd = allF (prsOf ps) (initH R H) ∧ SRel w w' w.heap.size v svs := by
  obtain ⟨i0, hi0, iz0, iz1, iz2⟩ := infoSet'
  obtain ⟨pa, pc, hvp⟩ := own_form hp.row.own
  subst hvp
  have FI := hid (find_any' (w.alloc (.cells #[.int .i64 R, .int .i64 H, .slice pa ps.length pc] 41 (0, 0))) R H (.slice pa ps.length pc) ps ((hp.kept (Nat.le_refl _) ((Mod.refl (fun _ => False) w).alloc _) (fun _ _ x => x)).up (by simp)) hps hH hR)
  have hal : (allF (prsOf ps) (initH R H)).length ≤ 1000 := by
    have a0 : ∀ x ∈ initH R H, x.ok := by
      clear hH FI
      induction H with
      | zero => simp [initH]
      | succ n ih => intro x hx; simp only [initH, List.mem_append, List.mem_singleton] at hx; rcases hx with hx | rfl; exact ih x hx; exact headI_ok _ _
    have e1 := fixG_end (stepB_grows (prsOf ps)) (I := fun _ => True) (fun _ _ _ => trivial) a0 trivial
    have e2 := fixG_end (stepS_grows (prsOf ps)) (I := fun _ => True) (fun _ _ _ => trivial) e1.2.1 trivial
    have e3 := fixG_end (stepR_grows (prsOf ps)) (I := fun _ => True) (fun _ _ _ => trivial) e2.2.1 trivial
    have e4 := fixG_end (stepU_grows (prsOf ps)) (I := fun _ => True) (fun _ _ _ => trivial) e3.2.1 trivial
    unfold allF
    rw [e4.2.2.1, e3.2.2.1, e2.2.2.1, e1.2.2.1, initH_len]; exact hH
  generalize allF (prsOf ps) (initH R H) = AL at FI hal
  clear hp
  go_enter Tryz.func11, Tryz.ntmps11
  go_wp2_with (first
    | (go_at_call 23; refine FI.out.mono ?_; rintro e w1 ⟨b, vh, rfl, hf1, hF1⟩; have k3 := hF1.cell 3; simp at k3; obtain ⟨ha, hc, hvh⟩ := own_form hF1.own; subst hvh))
  have HF1 := hid hF1
  have HFW1 : Hid (Fresh w w1) := Mod.trans ((Mod.refl _ w).alloc _) hf1
  have hzz : w.heap.size ≤ w1.heap.size := HFW1.out.size
  clear hF1 hf1 k3
  go_loopw [4, 6, 7, 8, 16] (fun x4 _ _ _ x16 wr => ∃ (i : Nat) (svs : List SV), x16 = .int .i64 i ∧ i ≤ AL.length ∧ svs.length ≤ i ∧ svs.map SV.hd = AL.take i ∧ SRel w wr w1.heap.size x4 svs ∧ Fresh w1 wr)
      (fun _ _ _ _ x _ => 1001 - (intOf x).toNat)
  case atStart => exact ⟨0, [], rfl, by omega, by simp, by simp, ⟨World.ownsRow_nil _ _ _ _, by simp, by simp, HFW1.out, by simp, List.Pairwise.nil⟩, Mod.refl _ _⟩
  case round =>
    obtain ⟨i, svs, rfl, hi, hsl, hmap, hS, hfr⟩ := hrel
    have HME := hid (meas (B := 1001) i (by omega))
    have HS := hid hS
    have HFR := hid hfr
    have HMAP := hid hmap
    obtain ⟨ro, rc, hro⟩ := own_form hS.own
    subst hro
    clear hS hmap
    by_cases hlt : i < AL.length
    · have hi1 : (i : Int) < (AL.length : Int) := by omega
      have hFr := HF1.out.fresh hfr
      obtain ⟨gh, hc', hv'⟩ := Joins.ownsRow_form hFr.own (by omega)
      rw [Value.slice.injEq] at hv'
      obtain ⟨rfl, _, rfl⟩ := hv'
      have RG := hid (hFr.row.range i hlt)
      have HOK := hid (hFr.ok AL[i] (by simp))
      have HTS := hid (takeS hlt)
      generalize hX : AL[i] = hd at RG HOK HTS
      have T1 := hid (fun w => tlist_any w hd.fi HOK.out.fi)
      have T2 := hid (fun w => tlist_any w hd.fo HOK.out.fo)
      clear hFr hfr hX
      go_wp2_with (first
        | (at_builtin; refine wpList_append_mine _ rfl _ _ 23 rfl w1.heap.size 32 i0 _ 5 64 Tryz.underlying23 hi0 iz0 iz1 iz2 rfl (by decide) _ _ _ rfl (HO1.out.alloc _) ⟨w3.heap.size, 0, none⟩ 1 1 [.bool hd.nul, .slice a1 (listT hd.fi).length c1, .slice a2 (listT hd.fo).length c2, .bool hd.rch, .bool hd.fru] rfl rfl (new_cells rfl) (by intro u hu; simp at hu; rcases hu with rfl | rfl | rfl | rfl | rfl <;> rfl) (by unfold maxLen; omega) (by omega) (by have h3 := HFR.out.size; have h4 := hfz.out.size; simp; omega) ?_)
        | (go_at_call 24; have stage := hf2.size; refine (T2.out _).mono ?_; rintro e w3 ⟨v2, rfl, hf3, ho2⟩; obtain ⟨a2, c2, hv2⟩ := own_form ho2; subst hv2; have HO2 := hid ho2; have hfz : Hid (Fresh wr w3) := Mod.trans (Mod.trans ((Mod.refl _ wr).alloc _) hf2) hf3; have hb3 := hid (hf3.at hb2.out (fun x => x)); have q0 := cellOf hb3.out 0; have q1 := cellOf hb3.out 1; have q2 := cellOf hb3.out 2; rw [hd_at0] at q0; rw [hd_at1] at q1; rw [hd_at2] at q2; have HO1 := hid (ownsRow_other HS.out.own (fun g hg => hfz.out.block g (HS.out.own.lt g hg).2 (fun x => x))))
        | (refine wpList_load_mid rfl 76 _ rfl wr.heap.size 12 rfl (bls hd.fo) _ (hdRangeFo HOK.out hb2.out) Tryz.underlying76 rfl (szTokL HOK.out.fo) ?_)
        | (go_at_call 24; refine (T1.out _).mono ?_; rintro e w2 ⟨v1, rfl, hf2, ho1⟩; obtain ⟨a1, c1, hv1⟩ := own_form ho1; subst hv1; have HO1a := hid ho1; have hb2 := hid (hf2.at (heap_alloc_at wr _) (fun x => x)))
        | (refine wpList_load_mid rfl 76 _ rfl wr.heap.size 3 rfl (bls hd.fi) _ (hdRangeFi HOK.out (heap_alloc_at _ _)) Tryz.underlying76 rfl (szTokL HOK.out.fi) ?_)
        | (refine wpList_store_new rfl 78 _ _ rfl wr _ (hdA hd) _ rfl rfl rfl (szHdOf HOK.out) (sameSize rfl (hd_size HOK.out)) (hd_one _) ?_)
        | (refine wpList_load_mid rfl 78 _ rfl gh (i * 21) rfl hd.cells _ RG.out Tryz.underlying78 rfl (szHdL HOK.out) ?_))
      intro v' w5 hown2 hgrow hblk
      have HSN := hid (HS.out.next (s := ⟨hd, .slice a1 (listT hd.fi).length c1, .slice a2 (listT hd.fo).length c2⟩) hzz (hfz.out.alloc _) (ownsRow_base ((ownsRow_other HO1a.out (fun g hg => hf3.block g (HO1a.out.lt g hg).2 (fun x => x))).alloc _) (by simp)) (ownsRow_base (HO2.out.alloc _) (by have := hf2.size; simp at this; omega)) hown2 hgrow (fun k hk => (hblk k hk).imp id (fun h => by simpa using h)) (fun k h1 h2 => by have q1 := (HO1a.out.lt k h1).2; have q2 := (HO2.out.lt k h2).1; omega))
      have HF5 : Hid (Fresh w1 w5) := Mod.grown (S := fun _ => False) (HFR.out.trans (hfz.out.alloc _)) hgrow (fun k hk hlt => by have := (HS.out.own.lt k hk).1; omega)
      clear hown2 hgrow hblk
      go_wp2
      go_roundw
      case rel =>
        refine ⟨i + 1, _, by go_num, by omega, by simp; omega, ?_, HSN.out, HF5.out⟩
        rw [HTS.out, List.map_append, HMAP.out]; rfl
      case measure => exact HME.out
    · have hie : i = AL.length := by omega
      have hi2 : ¬ (i : Int) < (AL.length : Int) := by omega
      go_wp2
      go_ret
      have e1 : svs.map SV.hd = AL := by rw [HMAP.out, hie, List.take_length]
      have e2 : SRel w wr w.heap.size (.slice ro svs.length rc) svs := ⟨ownsRow_base HS.out.own hzz, HS.out.each, HS.out.dis, HS.out.fresh, HS.out.low, HS.out.sep⟩
      first
        | exact ⟨_, _, rfl, e1, e2⟩
        | exact ⟨_, rfl, _, e1, e2⟩
end Go.Proofs.YtcdedekgdiooiaaGreat
namespace Go.Proofs.YtcdedekgdiooiaaGreat
open Go.RowKit
set_option linter.unusedVariables false
set_option linter.unusedSimpArgs false

def setsF (s : ByteArray) : List Hd := allF (tableOf (rLines s).1) (initH ((frontsOf (rLines s).1).length : Nat) (headsOf (rLines s).1).length)
theorem headsL_le : ∀ (l : List Ln) (acc : List Wd), (headsL l acc).length ≤ acc.length + l.length
  | [], acc => by simp [headsL]
  | x :: l, acc => by
    unfold headsL
    have h1 := headsL_le l acc
    have h2 := headsL_le l (acc ++ [x.front])
    simp only [List.length_append, List.length_cons, List.length_nil] at h1 h2 ⊢
    split
    · omega
    · split <;> omega
theorem tab_sizes {s : ByteArray} (h : (checkF s).1 = 0) : (frontsOf (rLines s).1).length ≤ 800 ∧ (headsOf (rLines s).1).length ≤ 800 ∧ (tableOf (rLines s).1).length ≤ 800 := by
  have hsz := check_sz h
  have hle := (rLines_ok s).1
  have h1 := headsL_le (rLines s).1 []
  have h2 := List.length_filter_le ruleB (rLines s).1
  have h3 := List.length_filter_le (fun x => !ruleB x) (rLines s).1
  unfold frontsOf headsOf tableOf prodsOf
  simp only [List.length_map, List.length_nil] at *
  omega

def SetsRet (s : ByteArray) (w : World) (e : Ending) (w' : World) : Prop :=
  ∃ v svs, e = .returned (.tuple #[v, .int .i64 0]) ∧ svs.map SV.hd = setsF s ∧ SRel w w' w.heap.size v svs

set_option maxRecDepth 20000 in
set_option maxHeartbeats 4000000 in
theorem sets_good (s : ByteArray) (w : World) (hs : s.size ≤ maxLen) (hc : (checkF s).1 = 0) :
    Calls Tryz.prog 4 #[.string s] w fun e w' => SetsRet s w e w' := by
  have TB := hid (fun w => table_good s w hs hc)
  obtain ⟨z1, z2, z3⟩ := tab_sizes hc
  have HZ : Hid (∀ pvs : List PV, pvs.map PV.pr = tableOf (rLines s).1 → pvs.length ≤ 1000) := fun pvs h => by
    have : pvs.length = (tableOf (rLines s).1).length := by rw [← h]; simp
    omega
  have HSF : Hid (∀ pvs : List PV, pvs.map PV.pr = tableOf (rLines s).1 → allF (prsOf pvs) (initH ((frontsOf (rLines s).1).length : Nat) (headsOf (rLines s).1).length) = setsF s) := fun pvs h => by
    unfold prsOf; rw [h]; rfl
  unfold SetsRet
  unfold TableRet at TB
  generalize (frontsOf (rLines s).1).length = R at TB z1 HSF
  generalize (headsOf (rLines s).1).length = H at TB z2 HSF
  generalize setsF s = SF at HSF
  generalize tableOf (rLines s).1 = TAB at TB HZ HSF
  clear hc z3
  go_enter Tryz.func4, Tryz.ntmps4
  go_wp2_with (first
    | (go_at_call 11; refine (Find_any _ R H _ pvs (HPU.out _) (HZ.out pvs hmap) (by omega) (by omega)).mono ?_; rintro e w2 ⟨v, svs, rfl, hsv, hS⟩)
    | (go_at_call 10; refine (TB.out _).mono ?_; rintro e w1 ⟨vp, pvs, rfl, hf1, hmap, hprs⟩; obtain ⟨ra, rc, hvp⟩ := own_form hprs.row.own; subst hvp; have HPU : Hid (∀ o : Obj, PrsAt (w1.alloc o) (w1.alloc o).heap.size (.slice ra pvs.length rc) pvs) := fun o => (hprs.kept (Nat.le_refl _) ((Mod.refl (fun _ => False) w1).alloc o) (fun _ _ x => x)).up (by simp)))
  go_ret2
  have hfw : Fresh w (w1.alloc (.cells #[.int .i64 R, .int .i64 H, .slice ra pvs.length rc] 41 (0, 0))) := hf1.alloc _
  have e2 : SRel w w2 w.heap.size v svs := ⟨ownsRow_base hS.own hfw.size, hS.each, hS.dis, hfw.trans hS.fresh, fun s hs => ⟨fun k hk => Nat.le_trans hfw.size ((hS.low s hs).1 k hk), fun k hk => Nat.le_trans hfw.size ((hS.low s hs).2 k hk)⟩, hS.sep⟩
  have e1 := hsv.trans (HSF.out pvs hmap)
  first
    | exact ⟨_, _, rfl, e1, e2⟩
    | exact ⟨_, rfl, _, e1, e2⟩

set_option maxRecDepth 20000 in
set_option maxHeartbeats 4000000 in
theorem sets_bad (s : ByteArray) (w : World) (hs : s.size ≤ maxLen) (hc : (checkF s).1 ≠ 0) :
    Calls Tryz.prog 4 #[.string s] w fun e w' => e = .returned (.tuple #[.slice none 0 0, .int .i64 (checkF s).1]) ∧ Fresh w w' := by
  have TB := hid (fun w => table_bad s w hs hc)
  have c0 : ((checkF s).1 != 0) = true := by simpa using hc
  clear hc
  go_enter Tryz.func4, Tryz.ntmps4
  go_wp2_with (first
    | (go_at_call 10; refine (TB.out _).mono ?_; rintro e w1 ⟨rfl, hf1⟩))
  go_ret2
  exact ⟨rfl, hf1.alloc _⟩
end Go.Proofs.YtcdedekgdiooiaaGreat
namespace Go.Proofs.YtcdedekgdiooiaaGreat
open Go.RowKit
set_option linter.unusedVariables false
set_option linter.unusedSimpArgs false

end Go.Proofs.YtcdedekgdiooiaaGreat
namespace Go.Proofs.YtcdedekgdiooiaaGreat
open Go.RowKit
set_option linter.unusedVariables false
set_option linter.unusedSimpArgs false

def ldT (v : Value) : Sem Value := Instr.loadAt 76 v
theorem ldT_rule (v : Value) : Instr.loadAt 76 v = ldT v := rfl
/-- the productions of a head, ahead of which a token stands -/
def ovL (n t : Int) : List (Pr × List Bool) → Nat → List Int
  | [], _ => []
  | p :: l, i => if p.1.head = n ∧ hasT p.2 t = true then (i : Int) :: ovL n t l (i + 1) else ovL n t l (i + 1)
attribute [local go_sem ↓] ldT_rule
end Go.Proofs.YtcdedekgdiooiaaGreat
namespace Go.Proofs.YtcdedekgdiooiaaGreat
open Go.RowKit
set_option linter.unusedVariables false
set_option linter.unusedSimpArgs false

structure Cl where
  h : Int
  t : Int
  a : Int
  b : Int
def pairL (n t : Int) : List Int → List Cl
  | [] => []
  | f :: r => (r.map fun s => ⟨n, t, f, s⟩) ++ pairL n t r
def clT (z : List (Pr × List Bool)) (n R : Nat) : Nat → Nat → List Cl
  | 0, _ => []
  | f + 1, t => if t ≤ R then pairL n t (ovL n t z 0) ++ clT z n R f (t + 1) else []
def clN (z : List (Pr × List Bool)) (R H : Nat) : Nat → Nat → List Cl
  | 0, _ => []
  | f + 1, n => if n < H then clT z n R (R + 2) 0 ++ clN z R H f (n + 1) else []
theorem intOwn_cell {w : World} {base : Nat} {g n cap : Nat} {l : List Int} (h : IntOwn w base (.slice (some ⟨g, 0, none⟩) n cap) l) (i : Nat) (hi : i < l.length) : w.cell? ⟨g, i, none⟩ = some (.int .i64 l[i]) := by
  have := h.cells (g := g) rfl i (.int .i64 l[i]) (by simp [hi])
  rwa [Addr.add_mid, Nat.zero_add] at this

end Go.Proofs.YtcdedekgdiooiaaGreat
namespace Go.Proofs.YtcdedekgdiooiaaGreat
open Go.RowKit
set_option linter.unusedVariables false
set_option linter.unusedSimpArgs false

theorem getH_put (hs : List Hd) (n m : Int) (x : Hd) : getH (putF hs n x) m = if m = n ∧ 0 ≤ n ∧ n < hs.length then x else getH hs m := by
  unfold getH putF
  by_cases hn : 0 ≤ n
  · rw [if_pos hn]
    by_cases hm : 0 ≤ m
    · rw [if_pos hm, if_pos hm, List.getElem?_set]
      by_cases e : n.toNat = m.toNat
      · have e2 : m = n := by omega
        subst e2
        rw [if_pos e]
        by_cases hl : m.toNat < hs.length
        · rw [if_pos hl, if_pos ⟨rfl, hn, by omega⟩]; rfl
        · rw [if_neg hl, if_neg (by omega), List.getElem?_eq_none (by omega)]
      · rw [if_neg e, if_neg (by omega)]
    · rw [if_neg hm, if_neg hm, if_neg (by omega)]
  · rw [if_neg hn, if_neg (show ¬ (m = n ∧ 0 ≤ n ∧ n < hs.length) from fun h => hn h.2.1)]
theorem putB_false {hs : List Hd} {n : Int} {x : Hd} (h : putB hs n x = false) (h0 : 0 ≤ n) (hl : n < hs.length) : getH hs n = x := by
  unfold putB at h
  unfold getH
  rw [if_pos h0] at h ⊢
  rw [List.getElem?_eq_getElem (by omega)] at h ⊢
  exact hdEq_iff.1 (by simpa using h)

theorem growBL_same : ∀ (l : List Pr) (hs : List Hd) (g : Bool), (∀ x ∈ hs, x.ok) → (growBL l hs g).2 = false → ∀ p ∈ l, (growB1 hs p).2 = false
  | [], _, _, _, _, p, hp => by cases hp
  | q :: l, hs, g, hok, h, p, hp => by
    have h1 := growB1_grows hok q g
    have h2 := growBL_grows l h1.ok (g || (growB1 hs q).2)
    have h3 := (h2.same h).1
    simp only [Bool.or_eq_false_iff] at h3
    have h4 := (h1.same (by simpa using h3)).2
    simp only [List.mem_cons] at hp
    rcases hp with rfl | hp
    · exact h3.2
    · have h5 : (growBL l (growB1 hs q).1 (g || (growB1 hs q).2)).2 = false := h
      dsimp only at h4
      rw [h4] at h5
      exact growBL_same l hs _ hok h5 p hp
theorem growFL_same : ∀ (l : List Pr) (hs : List Hd) (g : Bool), (∀ x ∈ hs, x.ok) → (growFL l hs g).2 = false → ∀ p ∈ l, (growF1 hs p).2 = false
  | [], _, _, _, _, p, hp => by cases hp
  | q :: l, hs, g, hok, h, p, hp => by
    have h1 := growF1_grows hok q g
    have h2 := growFL_grows l h1.ok (g || (growF1 hs q).2)
    have h3 := (h2.same h).1
    simp only [Bool.or_eq_false_iff] at h3
    have h4 := (h1.same (by simpa using h3)).2
    simp only [List.mem_cons] at hp
    rcases hp with rfl | hp
    · exact h3.2
    · have h5 : (growFL l (growF1 hs q).1 (g || (growF1 hs q).2)).2 = false := h
      dsimp only at h4
      rw [h4] at h5
      exact growFL_same l hs _ hok h5 p hp
/-- every head of a list of symbols, with what stands behind it -/
theorem growSS_same (ph : Int) : ∀ (l : List Sy) (hs : List Hd) (g : Bool), (∀ x ∈ hs, x.ok) → (growSS ph l hs g).2 = false → ∀ (a : List Sy) (s : Sy) (b : List Sy), l = a ++ s :: b → s.isH = true → putB hs s.num (growS1 hs ph s.num b) = false
  | [], _, _, _, _, a, s, b, e, _ => by cases a <;> cases e
  | q :: l, hs, g, hok, h, a, s, b, e, hs1 => by
    unfold growSS at h
    cases hq : q.isH
    · rw [if_pos hq] at h
      cases a with
      | nil => simp only [List.nil_append, List.cons.injEq] at e; obtain ⟨rfl, _⟩ := e; rw [hq] at hs1; cases hs1
      | cons c a => simp only [List.cons_append, List.cons.injEq] at e; exact growSS_same ph l hs g hok h a s b e.2 hs1
    · rw [if_neg (by simp [hq])] at h
      have h1 : Grows hs (putF hs q.num (growS1 hs ph q.num l), g || putB hs q.num (growS1 hs ph q.num l)) g := by
        refine Grows.put hok ?_ ?_ g
        · exact ⟨(getH_ok hok q.num).fi, orL_len (getH_ok hok q.num).fo (folB_len hok _ _)⟩
        · exact le_fo (getH_ok hok _) (folB_len hok _ _)
      have h2 := growSS_grows ph l h1.ok (g || putB hs q.num (growS1 hs ph q.num l))
      have h3 := (h2.same h).1
      have h4 := (h1.same h3).2
      simp only [Bool.or_eq_false_iff] at h3
      cases a with
      | nil => simp only [List.nil_append, List.cons.injEq] at e; obtain ⟨rfl, rfl⟩ := e; exact h3.2
      | cons c a =>
        simp only [List.cons_append, List.cons.injEq] at e
        dsimp only at h4
        rw [h4] at h
        exact growSS_same ph l hs _ hok h a s b e.2 hs1
theorem growSL_same : ∀ (l : List Pr) (hs : List Hd) (g : Bool), (∀ x ∈ hs, x.ok) → (growSL l hs g).2 = false → ∀ p ∈ l, (growSS p.head p.syms hs false).2 = false
  | [], _, _, _, _, p, hp => by cases hp
  | q :: l, hs, g, hok, h, p, hp => by
    have h1 := growSS_grows q.head q.syms hok g
    have h2 := growSL_grows l h1.ok (growSS q.head q.syms hs g).2
    have h3 := (h2.same h).1
    have h4 := h1.same h3
    simp only [List.mem_cons] at hp
    rcases hp with rfl | hp
    · have h6 := h3; rw [h4.1] at h6; exact h6
    · have h5 : (growSL l (growSS q.head q.syms hs g).1 (growSS q.head q.syms hs g).2).2 = false := h
      rw [h4.2] at h5
      exact growSL_same l hs _ hok h5 p hp
theorem growRS_same : ∀ (l : List Sy) (hs : List Hd) (g : Bool), (∀ x ∈ hs, x.ok) → (growRS l hs g).2 = false → ∀ s ∈ l, s.isH = true → putB hs s.num { getH hs s.num with rch := true } = false
  | [], _, _, _, _, s, hs, _ => by cases hs
  | q :: l, hs, g, hok, h, s, hm, hs1 => by
    unfold growRS at h
    simp only [List.mem_cons] at hm
    cases hq : q.isH
    · rw [if_pos hq] at h
      rcases hm with rfl | hm
      · rw [hq] at hs1; cases hs1
      · exact growRS_same l hs g hok h s hm hs1
    · rw [if_neg (by simp [hq])] at h
      have h1 : Grows hs (putF hs q.num { getH hs q.num with rch := true }, g || putB hs q.num { getH hs q.num with rch := true }) g := by
        refine Grows.put hok ?_ ?_ g
        · exact ⟨(getH_ok hok q.num).fi, (getH_ok hok q.num).fo⟩
        · exact le_rch _
      have h2 := growRS_grows l h1.ok (g || putB hs q.num { getH hs q.num with rch := true })
      have h3 := (h2.same h).1
      have h4 := (h1.same h3).2
      simp only [Bool.or_eq_false_iff] at h3
      rcases hm with rfl | hm
      · exact h3.2
      · dsimp only at h4
        rw [h4] at h
        exact growRS_same l hs _ hok h s hm hs1
theorem growRL_same : ∀ (l : List Pr) (hs : List Hd) (g : Bool), (∀ x ∈ hs, x.ok) → (growRL l hs g).2 = false → ∀ p ∈ l, (getH hs p.head).rch = true → (growRS p.syms hs false).2 = false
  | [], _, _, _, _, p, hp, _ => by cases hp
  | q :: l, hs, g, hok, h, p, hp, hr => by
    unfold growRL at h
    simp only [List.mem_cons] at hp
    cases hq : (getH hs q.head).rch
    · rw [if_pos hq] at h
      rcases hp with rfl | hp
      · rw [hq] at hr; cases hr
      · exact growRL_same l hs g hok h p hp hr
    · rw [if_neg (by simp [hq])] at h
      have h1 := growRS_grows q.syms hok g
      have h2 := growRL_grows l h1.ok (growRS q.syms hs g).2
      have h3 := (h2.same h).1
      have h4 := h1.same h3
      rcases hp with rfl | hp
      · have h6 := h3; rw [h4.1] at h6; exact h6
      · rw [h4.2] at h
        exact growRL_same l hs _ hok h p hp hr

/-- what does not change: a field, of every head -/
def Keeps {α : Type} (f : Hd → α) (hs hs' : List Hd) : Prop := ∀ n, f (getH hs' n) = f (getH hs n)
theorem Keeps.refl {α : Type} (f : Hd → α) (hs : List Hd) : Keeps f hs hs := fun _ => rfl
theorem Keeps.trans {α : Type} {f : Hd → α} {a b c : List Hd} (h : Keeps f a b) (k : Keeps f b c) : Keeps f a c := fun n => (k n).trans (h n)
theorem Keeps.put {α : Type} {f : Hd → α} {hs : List Hd} {n : Int} {x : Hd} (h : f x = f (getH hs n)) : Keeps f hs (putF hs n x) := fun m => by
  rw [getH_put]
  split
  · rename_i e; rw [e.1]; exact h
  · rfl
theorem growBL_keeps {α : Type} {f : Hd → α} (hf : ∀ (h : Hd) (b : Bool) (l : List Bool), f { h with nul := b, fi := l } = f h) : ∀ (l : List Pr) (hs : List Hd) (g : Bool), Keeps f hs (growBL l hs g).1
  | [], hs, _ => Keeps.refl f hs
  | p :: l, hs, g => Keeps.trans (Keeps.put (hf _ _ _)) (growBL_keeps hf l _ _)
theorem growFL_keeps {α : Type} {f : Hd → α} (hf : ∀ (h : Hd) (b : Bool), f { h with fru := b } = f h) : ∀ (l : List Pr) (hs : List Hd) (g : Bool), Keeps f hs (growFL l hs g).1
  | [], hs, _ => Keeps.refl f hs
  | p :: l, hs, g => Keeps.trans (Keeps.put (hf _ _)) (growFL_keeps hf l _ _)
theorem growSS_keeps {α : Type} {f : Hd → α} (hf : ∀ (h : Hd) (l : List Bool), f { h with fo := l } = f h) (ph : Int) : ∀ (l : List Sy) (hs : List Hd) (g : Bool), Keeps f hs (growSS ph l hs g).1
  | [], hs, _ => Keeps.refl f hs
  | s :: l, hs, g => by
    unfold growSS
    split
    · exact growSS_keeps hf ph l hs g
    · exact Keeps.trans (Keeps.put (hf _ _)) (growSS_keeps hf ph l _ _)
theorem growSL_keeps {α : Type} {f : Hd → α} (hf : ∀ (h : Hd) (l : List Bool), f { h with fo := l } = f h) : ∀ (l : List Pr) (hs : List Hd) (g : Bool), Keeps f hs (growSL l hs g).1
  | [], hs, _ => Keeps.refl f hs
  | p :: l, hs, g => Keeps.trans (growSS_keeps hf p.head p.syms hs g) (growSL_keeps hf l _ _)
theorem growRS_keeps {α : Type} {f : Hd → α} (hf : ∀ (h : Hd) (b : Bool), f { h with rch := b } = f h) : ∀ (l : List Sy) (hs : List Hd) (g : Bool), Keeps f hs (growRS l hs g).1
  | [], hs, _ => Keeps.refl f hs
  | s :: l, hs, g => by
    unfold growRS
    split
    · exact growRS_keeps hf l hs g
    · exact Keeps.trans (Keeps.put (hf _ _)) (growRS_keeps hf l _ _)
theorem growRL_keeps {α : Type} {f : Hd → α} (hf : ∀ (h : Hd) (b : Bool), f { h with rch := b } = f h) : ∀ (l : List Pr) (hs : List Hd) (g : Bool), Keeps f hs (growRL l hs g).1
  | [], hs, _ => Keeps.refl f hs
  | p :: l, hs, g => by
    unfold growRL
    split
    · exact growRL_keeps hf l hs g
    · exact Keeps.trans (growRS_keeps hf p.syms hs g) (growRL_keeps hf l _ _)

theorem begF_congr {hs hs' : List Hd} (h1 : Keeps Hd.nul hs hs') (h2 : Keeps Hd.fi hs hs') : ∀ (l : List Sy) (acc : List Bool), begF hs' l acc = begF hs l acc
  | [], _ => rfl
  | s :: l, acc => by
    unfold begF
    rw [h1 s.num, h2 s.num, begF_congr h1 h2 l]
end Go.Proofs.YtcdedekgdiooiaaGreat
