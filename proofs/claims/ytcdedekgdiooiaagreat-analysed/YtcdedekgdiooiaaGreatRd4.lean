import Derived.Test.YtcdedekgdiooiaaGreatRd2
import Derived.Test.YtcdedekgdiooiaaGreatRi4
import Derived.Test.YtcdedekgdiooiaaGreatRows
import Derived.ProofKit
namespace Go.Proofs.YtcdedekgdiooiaaGreat
open Go.RowKit
set_option linter.unusedVariables false
set_option linter.unusedSimpArgs false

theorem infoOwn : (Tryz.prog.info? 35).map (fun i => (i.zero, i.size, i.bytes)) = some (some (.agg #[.slice none 0 0, .slice none 0 0, .slice none 0 0, .slice none 0 0, .int .i64 0]), 5, 104) := by kernel_rfl
theorem infoOwn' : ∃ i, Tryz.prog.info? 35 = some i ∧ i.zero = some (.agg #[.slice none 0 0, .slice none 0 0, .slice none 0 0, .slice none 0 0, .int .i64 0]) ∧ i.size = 5 ∧ i.bytes = 104 := by
  have h := infoOwn
  cases hq : Tryz.prog.info? 35 with
  | none => simp [hq] at h
  | some i => simp [hq] at h; exact ⟨i, rfl, h.1, h.2.1, h.2.2⟩
theorem mem_lists {svs : List SV} {x : Value × List Int} (h : x ∈ listsOf svs) : ∃ s ∈ svs, x = (s.v1, listT s.hd.fi) ∨ x = (s.v2, listT s.hd.fo) := by
  unfold listsOf at h
  rw [List.mem_flatMap] at h
  obtain ⟨s, hs, h⟩ := h
  simp only [List.mem_cons, List.not_mem_nil, or_false] at h
  exact ⟨s, hs, h⟩
theorem mem_ownBs {svs : List SV} {k : Nat} (h : some k ∈ ownBs svs) : ∃ s ∈ svs, s.v1.ownBlock = some k ∨ s.v2.ownBlock = some k := by
  unfold ownBs at h
  rw [List.mem_flatMap] at h
  obtain ⟨s, hs, h⟩ := h
  simp only [List.mem_cons, List.not_mem_nil, or_false] at h
  exact ⟨s, hs, h.imp Eq.symm Eq.symm⟩
theorem SRel.bnd {w w1 : World} {B : Nat} {v : Value} {svs : List SV} (h : SRel w w1 B v svs) {k : Nat} (hk : some k ∈ ownBs svs) : k < w1.heap.size := by
  obtain ⟨s, hs, e⟩ := mem_ownBs hk
  rcases e with e | e
  · exact ((h.each s hs).1.lt k e).2
  · exact ((h.each s hs).2.lt k e).2
theorem SRel.lowB {w w1 : World} {B : Nat} {v : Value} {svs : List SV} (h : SRel w w1 B v svs) {k : Nat} (hk : some k ∈ ownBs svs) : w.heap.size ≤ k := by
  obtain ⟨s, hs, e⟩ := mem_ownBs hk
  rcases e with e | e
  · exact (h.low s hs).1 k e
  · exact (h.low s hs).2 k e
theorem SRel.disB {w w1 : World} {B : Nat} {v : Value} {svs : List SV} (h : SRel w w1 B v svs) {k : Nat} (hk : v.ownBlock = some k) : ¬ some k ∈ ownBs svs := fun q => by
  obtain ⟨s, hs, e⟩ := mem_ownBs q
  have := h.dis s hs k hk
  rcases e with e | e
  · exact this.1 e
  · exact this.2 e
theorem SRel.start {w w1 w2 : World} {B : Nat} {v : Value} {svs : List SV} (h : SRel w w1 B v svs) (hf : Fresh w1 w2) : LST w2 svs w2 (.slice none 0 0) [] 0 := by
  refine ⟨World.ownsRow_nil _ _ _ _, by simp, Mod.refl _ _, fun j x _ hx => ?_⟩
  obtain ⟨s, hs, e⟩ := mem_lists (List.mem_of_getElem? hx)
  have q := h.each s hs
  rcases e with rfl | rfl
  · exact ownsRow_other q.1 (fun g hg => hf.block g (q.1.lt g hg).2 (fun x => x))
  · exact ownsRow_other q.2 (fun g hg => hf.block g (q.2.lt g hg).2 (fun x => x))
def sfB (s : ByteArray) : List Hd := if (checkF s).1 = 0 then setsF s else []
def SetB (s : ByteArray) (w : World) (e : Ending) (w' : World) : Prop := ∃ v svs, e = .returned (.tuple #[v, .int .i64 (checkF s).1]) ∧ svs.map SV.hd = sfB s ∧ SRel w w' w.heap.size v svs
theorem SRel.nil {w w' : World} (hf : Fresh w w') : SRel w w' w.heap.size (.slice none 0 0) [] := ⟨World.ownsRow_nil _ _ _ _, by simp, by simp, hf, by simp, List.Pairwise.nil⟩
theorem sets_both (s : ByteArray) (w : World) (hs : s.size ≤ maxLen) : Calls Tryz.prog 4 #[.string s] w fun e w' => SetB s w e w' := by
  by_cases hc : (checkF s).1 = 0
  · refine (sets_good s w hs hc).mono ?_
    rintro e w' ⟨v, svs, h1, h2, h3⟩
    exact ⟨v, svs, by rw [hc]; exact h1, by unfold sfB; rw [if_pos hc]; exact h2, h3⟩
  · refine (sets_bad s w hs hc).mono ?_
    rintro e w' ⟨h1, h2⟩
    exact ⟨_, [], h1, by unfold sfB; rw [if_neg hc]; rfl, SRel.nil h2⟩
theorem zsets_both (s : ByteArray) (w : World) (hs : s.size ≤ maxLen) : Calls Tryz.prog 5 #[.string s] w fun e w' => SetB s w e w' := by
  by_cases hc : (checkF s).1 = 0
  · refine (zsets_good s w hs hc).mono ?_
    rintro e w' ⟨v, svs, h1, h2, h3⟩
    exact ⟨v, svs, by rw [hc]; exact h1, by unfold sfB; rw [if_pos hc]; exact h2, h3⟩
  · refine (zsets_bad s w hs hc).mono ?_
    rintro e w' ⟨h1, h2⟩
    exact ⟨_, [], h1, by unfold sfB; rw [if_neg hc]; rfl, SRel.nil h2⟩
theorem sfB_le (s : ByteArray) : (sfB s).length ≤ 800 := by
  unfold sfB
  split
  · rename_i hc
    have hc' := check_zero hc
    obtain ⟨hT, hR⟩ := tab_ok hc'
    have := (allF_ok hT hR).len
    have e : (setsF s).length = (headsOf (rLines s).1).length := this
    have := (tab_sizes hc).2.1
    omega
  · simp
theorem set_one (b1 b2 b3 : Bool) (a1 a2 : Option Addr) (n1 n2 c1 c2 : Nat) : (#[.bool b1, .slice a1 n1 c1, .slice a2 n2 c2, .bool b2, .bool b3] : Array Value).all (·.oneCell') = true :=
  all_oneCell_toArray (cs := [.bool b1, .slice a1 n1 c1, .slice a2 n2 c2, .bool b2, .bool b3]) (by intro v hv; simp only [List.mem_cons, List.not_mem_nil, or_false] at hv; rcases hv with rfl | rfl | rfl | rfl | rfl <;> rfl)
set_option maxRecDepth 20000 in
set_option maxHeartbeats 4000000 in
theorem analysed_any (s : ByteArray) (w : World) (hs : s.size ≤ maxLen) :
    Calls Tryz.prog 3 #[.string s] w fun e w' => e = .returned (.bool true) ∧ Fresh w w' := by
  obtain ⟨iO, hiO, oz0, oz1, oz2⟩ := infoOwn'
  have A := hid (fun w => sets_both s w hs)
  have Bq := hid (fun w => zsets_both s w hs)
  have NU := hid (fun e w => num_any e w)
  have h8 := sfB_le s
  unfold SetB at A Bq
  generalize sfB s = SF at A Bq h8
  generalize (checkF s).1 = cc at A Bq
  generalize hNn : SF.length = N at h8
  have HNN := hid hNn
  clear hNn
  go_enter Tryz.func3, Tryz.ntmps3
  go_wp2_with (first
    | (go_at_call 4; refine (A.out _).mono ?_; rintro e w1 ⟨vl, svs, rfl, hmap1, hS1⟩; have hl1 : svs.length = N := (by rw [← HNN.out, ← hmap1, List.length_map]); obtain ⟨la, lc, hvl⟩ := own_form hS1.own; rw [hl1] at hvl; subst hvl; have HS1 := hid hS1; have HM1 := hid hmap1; have HL1 := hid hl1; clear hmap1 hS1 hl1)
    | (go_at_call 5; refine (Bq.out _).mono ?_; rintro e w2 ⟨vm, sms, rfl, hmap2, hS2⟩; have hl2 : sms.length = N := (by rw [← HNN.out, ← hmap2, List.length_map]); obtain ⟨ma, mc, hvm⟩ := own_form hS2.own; rw [hl2] at hvm; subst hvm; have HS2 := hid hS2; have HM2 := hid hmap2; have HL2 := hid hl2; clear hmap2 hS2 hl2)
    | (go_at_call 6; refine (NU.out _ _).mono ?_; rintro e w' ⟨rfl, hw⟩; rw [hw]; clear hw))
  have HF12 := hid HS2.out.fresh
  have HST := hid (HS1.out.start HS2.out.fresh)
  have SEP := hid HS1.out.sep
  have BND : Hid (∀ k, some k ∈ ownBs svs → k < w2.heap.size) := hid (fun k hk => Nat.lt_of_lt_of_le (HS1.out.bnd hk) HS2.out.fresh.size)
  have RL : Hid (∀ W, Mod (fun k => some k ∈ ownBs svs) w2 W → RowAt SV.cells 5 32 W (.slice la N lc) svs) := hid (fun W hW => (RowAt.fresh ⟨ownsRow_base HS1.out.own (Nat.zero_le _), fun x _ => rfl⟩ HS2.out.fresh).kept hW (fun b hb => HS1.out.disB hb))
  have NM : Hid (∀ k, w1.heap.size ≤ k → ¬ some k ∈ ownBs svs) := hid (fun k hk q => by have := HS1.out.bnd q; omega)
  have RM : Hid (∀ W, Mod (fun k => some k ∈ ownBs svs) w2 W → RowAt SV.cells 5 32 W (.slice ma N mc) sms) := hid (fun W hW => RowAt.kept ⟨ownsRow_base HS2.out.own (Nat.zero_le _), fun x _ => rfl⟩ hW (fun b hb => NM.out b (HS2.out.own.lt b hb).1))
  have LM : Hid (∀ W, Mod (fun k => some k ∈ ownBs svs) w2 W → ∀ t ∈ sms, IntAt W t.v1 (listT t.hd.fi) ∧ IntAt W t.v2 (listT t.hd.fo)) := hid (fun W hW t ht => by
    have q := HS2.out.each t ht
    have l := HS2.out.low t ht
    exact ⟨IntOwn.at' (ownsRow_other q.1 (fun g hg => hW.block g (q.1.lt g hg).2 (NM.out g (l.1 g hg)))), IntOwn.at' (ownsRow_other q.2 (fun g hg => hW.block g (q.2.lt g hg).2 (NM.out g (l.2 g hg))))⟩)
  have FIN : Hid (∀ W, Mod (fun k => some k ∈ ownBs svs) w2 W → Fresh w W) := hid (fun W hW => (HS1.out.fresh.trans HS2.out.fresh).trans' hW (fun k hk q => by have := HS1.out.lowB q; omega))
  have MAPS : Hid (∀ (i : Nat) (h1 : i < svs.length) (h2 : i < sms.length), svs[i].hd = sms[i].hd) := hid (fun i h1 h2 => by
    have e : svs.map SV.hd = sms.map SV.hd := HM1.out.trans HM2.out.symm
    have := congrArg (fun l => l[i]?) e
    simpa [h1, h2] using this)
  clear HS1 HS2 HM1 HM2 NM A Bq NU
  go_loopw [3, 8, 9, 10, 11, 12] (fun x3 x8 _ _ _ _ wr => ∃ (i : Nat) (os : List OW), x8 = .int .i64 i ∧ i ≤ N ∧ os.length = 2 * i ∧ LST w2 svs wr x3 os (2 * i))
      (fun _ x _ _ _ _ _ => 1001 - (intOf x).toNat)
  case atStart => exact ⟨0, [], rfl, by omega, rfl, HST.out⟩
  case round =>
    obtain ⟨i, os, rfl, hi, hol, hT⟩ := hrel
    have HME := hid (meas (B := 1001) i (by omega))
    obtain ⟨ra, rc, hrv⟩ := own_form hT.own
    subst hrv
    have HOL := hid hol
    have hob : os.length ≤ 2000 := by omega
    have HT := hid hT
    clear hol HST
    by_cases hlt : i < N
    · have k1 : (i : Int) < (N : Int) := by omega
      have hi1 : i < svs.length := by rw [HL1.out]; exact hlt
      have hi2 : i < sms.length := by rw [HL2.out]; exact hlt
      have hrl := RL.out wr hT.mod
      have hrm := RM.out wr hT.mod
      have hrm' := hrm
      obtain ⟨gl, lc', hv⟩ := Joins.ownsRow_form hrl.own (by omega)
      rw [Value.slice.injEq] at hv
      obtain ⟨rfl, hx, rfl⟩ := hv
      clear hx
      obtain ⟨gm, mc', hv⟩ := Joins.ownsRow_form hrm.own (by omega)
      rw [Value.slice.injEq] at hv
      obtain ⟨rfl, hx, rfl⟩ := hv
      clear hx
      have RG1 := hid (hrl.range i hi1)
      have RG2 := hid (fun (o : Obj) => (hrm.fresh ((Mod.refl (fun _ => False) wr).alloc o)).range i hi2)
      obtain ⟨la1, la2⟩ := lists_at svs i hi1
      have hlm := fun W hW => LM.out W hW sms[i] (by simp)
      have hmp := MAPS.out i hi1 hi2
      generalize hsv : svs[i] = sv at RG1 la1 la2 hmp
      generalize hsm : sms[i] = sm at RG2 hlm hmp
      obtain ⟨hd, v1, v2⟩ := sv
      obtain ⟨hd', m1, m2⟩ := sm
      dsimp only at la1 la2 hmp hlm
      subst hmp
      have o1 := hT.rest (2 * i) _ (Nat.le_refl _) la1
      have o2 := hT.rest (2 * i + 1) _ (by omega) la2
      dsimp only at o1 o2
      obtain ⟨a1, c1, hv⟩ := own_form o1
      subst hv
      obtain ⟨a2, c2, hv⟩ := own_form o2
      subst hv
      obtain ⟨b1, d1, hv, _, _⟩ := (hlm wr hT.mod).1
      subst hv
      obtain ⟨b2, d2, hv, _, _⟩ := (hlm wr hT.mod).2
      subst hv
      have HLM := hid hlm
      have LA1 := hid la1
      have LA2 := hid la2
      have f9 := listT_le hd.fi
      have g9 := listT_le hd.fo
      have HO1 := hid o1
      have wrA : IntKind.i64.wrap (2 * (i : Int)) = 2 * (i : Int) := by rw [IntKind.wrap_i64]; omega
      have wrB : IntKind.i64.wrap (-77 - 2 * (i : Int)) = -77 - 2 * (i : Int) := by rw [IntKind.wrap_i64]; omega
      have wrC : IntKind.i64.wrap (-77 - 2 * (i : Int) - 1) = -77 - 2 * (i : Int) - 1 := by rw [IntKind.wrap_i64]; omega
      have hb1 : Hid (∀ k, (Value.slice a1 (listT hd.fi).length c1).ownBlock = some k → k < w2.heap.size) := hid (fun k hk => BND.out k (by
        have : (ownBs svs)[2 * i]? = some (Value.slice a1 (listT hd.fi).length c1).ownBlock := by rw [ownBs_lists, List.getElem?_map, la1]; rfl
        rw [hk] at this
        exact List.mem_of_getElem? this))
      have hb2 : Hid (∀ k, (Value.slice a2 (listT hd.fo).length c2).ownBlock = some k → k < w2.heap.size) := hid (fun k hk => BND.out k (by
        have : (ownBs svs)[2 * i + 1]? = some (Value.slice a2 (listT hd.fo).length c2).ownBlock := by rw [ownBs_lists, List.getElem?_map, la2]; rfl
        rw [hk] at this
        exact List.mem_of_getElem? this))
      have hw2 : w2.heap.size ≤ wr.heap.size := hT.mod.size
      unfold SV.cells at RG1 RG2
      dsimp only at RG1 RG2
      have RG2' := hid (RG2.out)
      obtain ⟨fL, hfL⟩ : ∃ l, l = listT hd.fi := ⟨_, rfl⟩
      obtain ⟨gL, hgL⟩ : ∃ l, l = listT hd.fo := ⟨_, rfl⟩
      rw [← hfL] at RG1 RG2 HLM LA1 f9 HO1 hb1
      rw [← hgL] at RG1 RG2 HLM LA2 g9 hb2
      generalize hd.nul = x0 at RG1 RG2
      generalize hd.rch = x3 at RG1 RG2
      generalize hd.fru = x4 at RG1 RG2
      clear hsv hsm hlm la1 la2 o1 o2 hrl hrm hrm' hfL hgL RG2' hi1 hi2
      go_upto_region 11 with (first
        | (refine wpList_load_mid rfl 32 _ rfl gl (i * 5) rfl [.bool x0, .slice a1 fL.length c1, .slice a2 gL.length c2, .bool x3, .bool x4] _ RG1.out Tryz.underlying32 rfl szSet5 ?_; clear RG1)
        | (refine wpList_store_new rfl 32 _ _ rfl wr _ #[.bool x0, .slice a1 fL.length c1, .slice a2 gL.length c2, .bool x3, .bool x4] _ rfl rfl rfl szSet5 rfl (set_one _ _ _ _ _ _ _ _ _) ?_)
        | (refine wpList_load_mid rfl 32 _ rfl gm (i * 5) rfl [.bool x0, .slice b1 fL.length d1, .slice b2 gL.length d2, .bool x3, .bool x4] _ (RG2.out _) Tryz.underlying32 rfl szSet5 ?_; clear RG2)
        | (refine wpList_store_new rfl 32 _ _ rfl _ _ #[.bool x0, .slice b1 fL.length d1, .slice b2 gL.length d2, .bool x3, .bool x4] _ rfl rfl rfl szSet5 rfl (set_one _ _ _ _ _ _ _ _ _) ?_))
      have hf2 : Fresh wr ((wr.alloc (.cells #[.bool x0, .slice a1 fL.length c1, .slice a2 gL.length c2, .bool x3, .bool x4] 32)).alloc (.cells #[.bool x0, .slice b1 fL.length d1, .slice b2 gL.length d2, .bool x3, .bool x4] 32)) := ((Mod.refl _ wr).alloc _).alloc _
      have bA : ((wr.alloc (.cells #[.bool x0, .slice a1 fL.length c1, .slice a2 gL.length c2, .bool x3, .bool x4] 32)).alloc (.cells #[.bool x0, .slice b1 fL.length d1, .slice b2 gL.length d2, .bool x3, .bool x4] 32)).heap[wr.heap.size]? = some (.cells #[.bool x0, .slice a1 fL.length c1, .slice a2 gL.length c2, .bool x3, .bool x4] 32 (0, 0)) := heap_alloc_prev (heap_alloc_at _ _)
      have bB : ((wr.alloc (.cells #[.bool x0, .slice a1 fL.length c1, .slice a2 gL.length c2, .bool x3, .bool x4] 32)).alloc (.cells #[.bool x0, .slice b1 fL.length d1, .slice b2 gL.length d2, .bool x3, .bool x4] 32)).heap[wr.heap.size + 1]? = some (.cells #[.bool x0, .slice b1 fL.length d1, .slice b2 gL.length d2, .bool x3, .bool x4] 32 (0, 0)) := by
        have := heap_alloc_at (wr.alloc (.cells #[.bool x0, .slice a1 fL.length c1, .slice a2 gL.length c2, .bool x3, .bool x4] 32)) (.cells #[.bool x0, .slice b1 fL.length d1, .slice b2 gL.length d2, .bool x3, .bool x4] 32)
        rw [asz] at this; exact this
      have hs2 : ((wr.alloc (.cells #[.bool x0, .slice a1 fL.length c1, .slice a2 gL.length c2, .bool x3, .bool x4] 32)).alloc (.cells #[.bool x0, .slice b1 fL.length d1, .slice b2 gL.length d2, .bool x3, .bool x4] 32)).heap.size = wr.heap.size + 2 := by rw [asz, asz]
      generalize ((wr.alloc (.cells #[.bool x0, .slice a1 fL.length c1, .slice a2 gL.length c2, .bool x3, .bool x4] 32)).alloc (.cells #[.bool x0, .slice b1 fL.length d1, .slice b2 gL.length d2, .bool x3, .bool x4] 32)) = W2 at hf2 bA bB hs2 ⊢
      have hT2 := HT.out.fresh hf2
      have HT2 := hid hT2
      have zA1 : W2.cell? ⟨wr.heap.size, 1, none⟩ = some (.slice a1 fL.length c1) := cellOf bA 1
      have zB1 : W2.cell? ⟨wr.heap.size + 1, 1, none⟩ = some (.slice b1 fL.length d1) := cellOf bB 1
      have SA1 := hid (lsame_true W2 _ _ fL (IntOwn.at' (hT2.rest (2 * i) _ (Nat.le_refl _) LA1.out)) (HLM.out W2 hT2.mod).1 (by omega))
      have HBA := hid bA
      have HBB := hid bB
      clear hT2 bA bB hf2
      go_upto_region 12 with (first
        | (go_at_call 7; refine (SA1.out).mono ?_; rintro e W3 ⟨rfl, m3, hw3⟩; have HF3 : Hid (Fresh W2 W3) := (by rw [hw3]; exact fdrewR _ _); clear hw3))
      have hT3 := HT2.out.fresh HF3.out
      have HT3 := hid hT3
      have bA3 := HF3.out.at HBA.out (fun x => x)
      have HBB3 := hid (HF3.out.at HBB.out (fun x => x))
      have HBA3 := hid bA3
      have hs3 : wr.heap.size + 2 ≤ W3.heap.size := by have := HF3.out.size; omega
      clear zA1 zB1 SA1 HBA HBB HT2 HF3
      have zA1 : W3.cell? ⟨wr.heap.size, 1, none⟩ = some (.slice a1 fL.length c1) := cellOf bA3 1
      have OW1 := hid (own_any W3 _ fL (-77 - 2 * (i : Int)) (hT3.rest (2 * i) _ (Nat.le_refl _) LA1.out) (by omega))
      have hrl := hT3.own
      have HRB : Hid (∀ k, (Value.slice ra os.length rc).ownBlock = some k → w2.heap.size ≤ k ∧ k < wr.heap.size) := hid (fun k hk => ⟨(HT.out.own.lt k hk).1, (HT.out.own.lt k hk).2⟩)
      have HR3 := hid hrl
      clear hT3 bA3 hrl
      unfold OwnRet at OW1
      go_upto_region 13 with (first
        | (at_builtin; refine wpList_append_mine _ rfl _ _ 22 rfl w2.heap.size 35 iO _ 5 104 Tryz.underlying22 hiO oz0 oz1 oz2 rfl (by decide) (.slice ra os.length rc) os.length (flatC OW.cells os) rfl (HR4.out.alloc _) ⟨W4.heap.size, 0, none⟩ 1 1 [.slice a1 fL.length c1, .slice e1 (fL.length + 1) q1, .slice e2 (fL.length + 2) q2, .slice e3 (fL.length + 6) q3, .int .i64 (-77 - 2 * (i : Int))] rfl rfl (new_cells rfl) (by intro u hu; simp only [List.mem_cons, List.not_mem_nil, or_false] at hu; rcases hu with rfl | rfl | rfl | rfl | rfl <;> rfl) (by unfold maxLen; omega) (by omega) (by rw [asz]; omega) ?_; intro r5 W5 ho5 hg5 hb5; have HO5 := hid ho5; have HG5 := hid hg5; have HB5 := hid hb5; obtain ⟨ra5, rc5, hr5⟩ := own_form ho5; clear ho5 hg5 hb5; subst hr5)
        | (go_at_call 8; refine (OW1.out).mono ?_; rintro e W4 ⟨e1, q1, e2, q2, e3, q3, rfl, hO4, hm4, p1, p2, p3⟩; have HO4 := hid hO4; have HM4 := hid hm4; have HP := hid (And.intro p1 (And.intro p2 p3)); have HR4 := hid (ownsRow_other HR3.out (fun g hg => hm4.block g (HR3.out.lt g hg).2 (fun e => (by have z1 := hb1.out g e; have z2 := (HR3.out.lt g hg).1; omega)))); have hs4 := hm4.size; have hw4 : w2.heap.size ≤ W4.heap.size := (by omega); clear hO4 hm4 p1 p2 p3))
      have hT5 : LST w2 svs W5 (.slice ra5 (os.length + 1) rc5) (os ++ [⟨a1, c1, e1, q1, e2, q2, e3, q3, fL.length, -77 - 2 * (i : Int)⟩]) (2 * i + 1) := HT3.out.step SEP.out BND.out LA1.out (o := ⟨a1, c1, e1, q1, e2, q2, e3, q3, fL.length, -77 - 2 * (i : Int)⟩) rfl (show fL.length ≤ 100 by omega) HO4.out HM4.out HP.out.1 HP.out.2.1 HP.out.2.2 ((Mod.refl _ W4).alloc _) HO5.out HG5.out HB5.out
      have keep5 : Hid (∀ (k : Nat) (o : Obj), wr.heap.size ≤ k → W3.heap[k]? = some o → W5.heap[k]? = some o) := hid (fun k o hk h => by
        have hk3 : k < W3.heap.size := by
          rcases Nat.lt_or_ge k W3.heap.size with q | q
          · exact q
          · rw [Array.getElem?_eq_none q] at h; cases h
        have z1 := HM4.out.at h (fun e => by have := hb1.out k e; omega)
        have z2 := heap_alloc_prev (o := .cells (ownA (.slice a1 fL.length c1) (.slice e1 (fL.length + 1) q1) (.slice e2 (fL.length + 2) q2) (.slice e3 (fL.length + 6) q3) (-77 - 2 * (i : Int))) 35) z1
        rw [← z2]
        exact HG5.out.block k (by rw [asz]; omega) (fun e => by have := (HRB.out k e.symm).2; omega))
      have bA5 := keep5.out wr.heap.size _ (Nat.le_refl _) HBA3.out
      have bB5 := keep5.out (wr.heap.size + 1) _ (by omega) HBB3.out
      have hs5 : W4.heap.size + 1 ≤ W5.heap.size := by have := HG5.out.size; rw [asz] at this; exact this
      have HT5 := hid hT5
      have HRB5 : Hid (∀ k, (Value.slice ra5 (os.length + 1) rc5).ownBlock = some k → w2.heap.size ≤ k ∧ (k < wr.heap.size ∨ wr.heap.size + 2 ≤ k)) := hid (fun k hk => ⟨(HO5.out.lt k hk).1, by
        rcases HB5.out k hk with z | z
        · exact .inl (HRB.out k z).2
        · rw [asz] at z; exact .inr (by omega)⟩)
      clear zA1 OW1 HR3 HR4 HO4 HM4 HP HO5 HG5 HB5 HT3 HBA3 HBB3 keep5 HRB
      have zA2 : W5.cell? ⟨wr.heap.size, 2, none⟩ = some (.slice a2 gL.length c2) := cellOf bA5 2
      have zB2 : W5.cell? ⟨wr.heap.size + 1, 2, none⟩ = some (.slice b2 gL.length d2) := cellOf bB5 2
      have SA2 := hid (lsame_true W5 _ _ gL (IntOwn.at' (hT5.rest (2 * i + 1) _ (Nat.le_refl _) LA2.out)) (HLM.out W5 hT5.mod).2 (by omega))
      have HBA5 := hid bA5
      have HBB5 := hid bB5
      clear bA5 bB5 hT5
      go_upto_region 14 with (first
        | (go_at_call 7; refine (SA2.out).mono ?_; rintro e W6 ⟨rfl, m6, hw6⟩; have HF6 : Hid (Fresh W5 W6) := (by rw [hw6]; exact fdrewR _ _); clear hw6))
      have hT6 := HT5.out.fresh HF6.out
      have HT6 := hid hT6
      have bA6 := HF6.out.at HBA5.out (fun x => x)
      have HBB6 := hid (HF6.out.at HBB5.out (fun x => x))
      have HBA6 := hid bA6
      have hs6 : wr.heap.size + 2 ≤ W6.heap.size := by have := HF6.out.size; omega
      clear zA2 zB2 SA2 HBA5 HBB5 HT5 HF6
      have zA2 : W6.cell? ⟨wr.heap.size, 2, none⟩ = some (.slice a2 gL.length c2) := cellOf bA6 2
      have OW2 := hid (own_any W6 _ gL (-77 - 2 * (i : Int) - 1) (hT6.rest (2 * i + 1) _ (Nat.le_refl _) LA2.out) (by omega))
      have HR6 := hid (show W6.ownsRow w2.heap.size 35 5 (.slice ra5 (os.length + 1) rc5) (os.length + 1) (flatC OW.cells (os ++ [⟨a1, c1, e1, q1, e2, q2, e3, q3, fL.length, -77 - 2 * (i : Int)⟩])) by have := hT6.own; rw [List.length_append, List.length_singleton] at this; exact this)
      generalize hosn : os ++ [⟨a1, c1, e1, q1, e2, q2, e3, q3, fL.length, -77 - 2 * (i : Int)⟩] = os1 at HT6 HR6
      have HLN : Hid (os1.length = os.length + 1) := hid (by rw [← hosn]; simp)
      clear hT6 bA6 hosn
      unfold OwnRet at OW2
      go_upto_region 15 with (first
        | (at_builtin; refine wpList_append_mine _ rfl _ _ 22 rfl w2.heap.size 35 iO _ 5 104 Tryz.underlying22 hiO oz0 oz1 oz2 rfl (by decide) (.slice ra5 (os.length + 1) rc5) (os.length + 1) (flatC OW.cells os1) rfl (HR7.out.alloc _) ⟨W7.heap.size, 0, none⟩ 1 1 [.slice a2 gL.length c2, .slice g1 (gL.length + 1) t1, .slice g2 (gL.length + 2) t2, .slice g3 (gL.length + 6) t3, .int .i64 (-77 - 2 * (i : Int) - 1)] rfl rfl (new_cells rfl) (by intro u hu; simp only [List.mem_cons, List.not_mem_nil, or_false] at hu; rcases hu with rfl | rfl | rfl | rfl | rfl <;> rfl) (by unfold maxLen; omega) (by omega) (by rw [asz]; omega) ?_; intro r8 W8 ho8 hg8 hb8; have HO8 := hid ho8; have HG8 := hid hg8; have HB8 := hid hb8; obtain ⟨ra8, rc8, hr8⟩ := own_form ho8; clear ho8 hg8 hb8; subst hr8)
        | (go_at_call 8; refine (OW2.out).mono ?_; rintro e W7 ⟨g1, t1, g2, t2, g3, t3, rfl, hO7, hm7, p1, p2, p3⟩; have HO7 := hid hO7; have HM7 := hid hm7; have HP := hid (And.intro p1 (And.intro p2 p3)); have HR7 := hid (ownsRow_other HR6.out (fun g hg => hm7.block g (HR6.out.lt g hg).2 (fun e => (by have z1 := hb2.out g e; have z2 := (HR6.out.lt g hg).1; omega)))); have hs7 := hm7.size; have hw7 : w2.heap.size ≤ W7.heap.size := (by omega); clear hO7 hm7 p1 p2 p3))
      have HT8 : Hid (LST w2 svs W8 (.slice ra8 (os.length + 1 + 1) rc8) (os1 ++ [⟨a2, c2, g1, t1, g2, t2, g3, t3, gL.length, -77 - 2 * (i : Int) - 1⟩]) (2 * i + 1 + 1)) := hid (HT6.out.step SEP.out BND.out LA2.out (o := ⟨a2, c2, g1, t1, g2, t2, g3, t3, gL.length, -77 - 2 * (i : Int) - 1⟩) rfl (show gL.length ≤ 100 by omega) HO7.out HM7.out HP.out.1 HP.out.2.1 HP.out.2.2 ((Mod.refl _ W7).alloc _) (by rw [HLN.out]; exact HO8.out) HG8.out HB8.out)
      have keep8 : Hid (∀ (k : Nat) (o : Obj), (k = wr.heap.size ∨ k = wr.heap.size + 1) → W6.heap[k]? = some o → W8.heap[k]? = some o) := hid (fun k o hk h => by
        have hk6 : k < W6.heap.size := by omega
        have z1 := HM7.out.at h (fun e => by have := hb2.out k e; omega)
        have z2 := heap_alloc_prev (o := .cells (ownA (.slice a2 gL.length c2) (.slice g1 (gL.length + 1) t1) (.slice g2 (gL.length + 2) t2) (.slice g3 (gL.length + 6) t3) (-77 - 2 * (i : Int) - 1)) 35) z1
        rw [← z2]
        exact HG8.out.block k (by rw [asz]; omega) (fun e => by have := (HRB5.out k e.symm).2; omega))
      have bA8 := keep8.out wr.heap.size _ (.inl rfl) HBA6.out
      have bB8 := keep8.out (wr.heap.size + 1) _ (.inr rfl) HBB6.out
      have y0 : W8.cell? ⟨wr.heap.size, 0, none⟩ = some (.bool x0) := cellOf bA8 0
      have y3 : W8.cell? ⟨wr.heap.size, 3, none⟩ = some (.bool x3) := cellOf bA8 3
      have y4 : W8.cell? ⟨wr.heap.size, 4, none⟩ = some (.bool x4) := cellOf bA8 4
      have u0 : W8.cell? ⟨wr.heap.size + 1, 0, none⟩ = some (.bool x0) := cellOf bB8 0
      have u3 : W8.cell? ⟨wr.heap.size + 1, 3, none⟩ = some (.bool x3) := cellOf bB8 3
      have u4 : W8.cell? ⟨wr.heap.size + 1, 4, none⟩ = some (.bool x4) := cellOf bB8 4
      clear zA2 OW2 HR6 HR7 HO7 HM7 HP HO8 HG8 HB8 HT6 HBA6 HBB6 keep8 HRB5 bA8 bB8
      go_wp2
      go_roundw
      case rel => exact ⟨i + 1, _, by go_num, by omega, by rw [List.length_append, HLN.out, List.length_singleton, HOL.out]; omega, HT8.out⟩
      case measure => exact HME.out
    · have k1 : ¬ (i : Int) < (N : Int) := by omega
      have HROW : Hid (∀ W, Fresh wr W → RowAt OW.cells 5 35 W (.slice ra os.length rc) os) := hid (fun W hW => RowAt.fresh ⟨ownsRow_base HT.out.own (Nat.zero_le _), fun x _ => rfl⟩ hW)
      have HEA := hid HT.out.each
      have HFX := hid (FIN.out wr hT.mod)
      clear hT
      go_wp2
      go_loopw [13, 14] (fun x13 _ wi => ∃ (j : Nat), x13 = .int .i64 j ∧ j ≤ os.length ∧ Fresh wr wi) (fun x _ _ => 2001 - (intOf x).toNat)
      case atStart => exact ⟨0, rfl, by omega, Mod.refl _ _⟩
      case round =>
        obtain ⟨j, rfl, hj, hfj⟩ := hrel
        have HMJ := hid (meas (B := 2001) j (by omega))
        have HFJ := hid hfj
        by_cases hlj : j < os.length
        · have kj : (j : Int) < (os.length : Int) := by omega
          have hrr := HROW.out wr hfj
          obtain ⟨gr, rc', hv⟩ := Joins.ownsRow_form hrr.own (by omega)
          rw [Value.slice.injEq] at hv
          obtain ⟨rfl, _, rfl⟩ := hv
          have RG := hid (hrr.range j hlj)
          have hoi := HEA.out os[j] (by simp)
          generalize os[j] = oj at RG hoi
          obtain ⟨a0, c0, a1, c1, a2, c2, a3, c3, n, mm⟩ := oj
          have HL := hid (lholds_any wr a0 a1 a2 a3 n c0 c1 c2 c3 mm (hoi.at'.kept (fun x hx k hk hlt => hfj.block k hlt (fun z => z))) hoi.n)
          unfold OW.cells OW.v OW.v1 OW.v2 OW.v3 at RG
          dsimp only at RG
          clear hoi hrr hfj
          go_wp2_with (first
            | (refine wpList_load_mid rfl 35 _ rfl gr (j * 5) rfl [.slice a0 n c0, .slice a1 (n + 1) c1, .slice a2 (n + 2) c2, .slice a3 (n + 6) c3, .int .i64 mm] _ RG.out Tryz.underlying35 rfl szOwn ?_; clear RG)
            | (go_at_call 9; refine (HL.out).mono ?_; rintro e w9 ⟨rfl, hf9⟩; have HF9 := hid hf9; clear hf9))
          go_roundw
          case rel => exact ⟨j + 1, by go_num, by omega, HFJ.out.trans HF9.out⟩
          case measure => exact HMJ.out
        · have kj : ¬ (j : Int) < (os.length : Int) := by omega
          go_wp2
          go_ret
          exact ⟨rfl, HFX.out.trans HFJ.out⟩
end Go.Proofs.YtcdedekgdiooiaaGreat
namespace Go.Proofs.YtcdedekgdiooiaaGreat
open Go.ChangeShapes Go.WideShapes Go.ChangeAt Go.RowKit
open Go.ChangeMaps (open_string shut_string)
set_option linter.unusedVariables false
set_option linter.unusedSimpArgs false

theorem Tryz.own : ownKnob Tryz.prog.godebug = none := by kernel_rfl

set_option maxRecDepth 100000 in
theorem analysed_lifted (os : Os) (started : os.Started) (H : Type) (enc : TypeId × Value → H) :
    ReturnsInHanded {} Tryz.checked os 3 .any (Rows.analysedSpec.pre6 enc Tryz.prog Tryz.f3 Rows.analysedRow.domain false) (Rows.analysedSpec.post enc Tryz.prog Tryz.f3 false true false false) := by
  refine returnsInHanded_of_change (C := Tryz.checked) Tryz.own started (by kernel_rfl) Tryz.func3
    (ChangeSpec.witness6 (enc := enc) (C := Tryz.checked) false ⟨#[], #[.string ⟨#[]⟩], []⟩ 8 (by kernel_rfl) (by kernel_rfl) (by kernel_rfl) (by kernel_rfl)) ?_
  intro W base args ds gs before hval0 hW hcnd _
  have hval : ∀ (j : Nat) t v, Tryz.f3.params[j]? = some t → args[j]? = some v → Value.okWide Tryz.prog W .any base t v := hval0
  have hW' := hW
  obtain ⟨p, q, hA0, hV, rfl, hfz, hnd⟩ := hW
  have hA : DataW.TrodAll enc Tryz.prog W 0 (fun _ => true) true Tryz.f3.params.toList args.toList ds p := hA0
  rw [Tryz.params3] at hA hval
  obtain ⟨v0, d0, rfl, rfl, h0⟩ := trodAll_one hA
  obtain ⟨rfl, rfl⟩ := trodVars_none hV
  obtain ⟨s, rfl, rfl, rfl, ws⟩ := open_string Tryz.underlying9 (hval 0 9 v0 rfl rfl) h0
  clear hA0 hval0
  simp only [List.append_nil] at hW'
  refine (analysed_any s W ws).mono fun e W' ⟨he, hF⟩ => ?_
  subst he
  have hB := hF.below
  refine ⟨_, rfl, _, _, _, [], [], [], hW', ?_, ?_, ?_, hB.frame _, fun h => by cases h⟩
  · exact trodAll_mk1 (shut_bool Tryz.underlying4 true)
  · exact trodAll_mk1 (shut_string Tryz.underlying9 ws)
  · trivial

theorem analysed_holds : Rows.AnalysedSaid :=
  OpenClaim.holds_of_wide 3 Tryz.f3 rfl rfl rfl rfl rfl rfl rfl ⟨rfl, rfl, rfl, rfl, rfl⟩ rfl rfl rfl rfl rfl (by kernel_rfl) Tryz.func3 (by kernel_rfl)
    (of_decide_eq_true (by kernel_rfl)) (by unfold Func.isWrapper; first | (rw [if_pos (by decide +kernel)]; kernel_rfl) | (rw [if_neg (by decide +kernel)]; exact ⟨rfl, rfl⟩))
    (fun os started H enc _ => analysed_lifted os started H enc)
#print axioms analysed_holds
end Go.Proofs.YtcdedekgdiooiaaGreat
