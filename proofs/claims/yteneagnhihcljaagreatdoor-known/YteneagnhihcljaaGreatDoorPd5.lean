import Derived.Test.YteneagnhihcljaaGreatDoorPd3
import Derived.Test.YteneagnhihcljaaGreatDoorSe6
namespace Go.Proofs.YteneagnhihcljaaGreatDoor
open Go.RowKit
set_option linter.unusedVariables false
set_option linter.unusedSimpArgs false

def prodsOf (lns : List Ln) : List Ln := lns.filter fun x => !ruleB x
def tableOf (lns : List Ln) : List Pr := (prodsOf lns).map (prOf (frontsOf lns) (headsOf lns))

theorem infoPr : (Tryz.prog.info? 73).map (fun i => (i.zero, i.size, i.bytes)) = some (some (.agg #[.int .i64 0, .slice none 0 0]), 2, 32) := by kernel_rfl
theorem infoPr' : ∃ i, Tryz.prog.info? 73 = some i ∧ i.zero = some (.agg #[.int .i64 0, .slice none 0 0]) ∧ i.size = 2 ∧ i.bytes = 32 := by
  have h := infoPr
  cases hq : Tryz.prog.info? 73 with
  | none => simp [hq] at h
  | some i => simp [hq] at h; exact ⟨i, rfl, h.1, h.2.1, h.2.2⟩
theorem szTab : (Tryz.prog.info? 42).map (·.size) = some 3 := by kernel_rfl

abbrev SyOwn (w : World) (base : Nat) (v : Value) (l : List Sy) : Prop := w.ownsRow base 84 2 v l.length (flatC Sy.cells l)
theorem SyOwn.at' {w : World} {base : Nat} {v : Value} {l : List Sy} (h : SyOwn w base v l) : SymAt w w.heap.size v l := by
  obtain ⟨ao, cap, hv⟩ := own_form h
  have hr : RowAt Sy.cells 2 84 w v l := ⟨ownsRow_base h (Nat.zero_le _), fun x _ => rfl⟩
  have hlt := h.lt
  rcases h.2 with ⟨h1, h2⟩ | ⟨g, cap', cur, h1, h2, h3, h4, h5, _⟩
  · subst h1
    have : l = [] := List.eq_nil_of_length_eq_zero h2
    subst this
    exact ⟨none, 0, rfl, by simp, by unfold maxLen; omega, fun i hi => by simp at hi⟩
  · subst h1
    refine ⟨some ⟨g, 0, none⟩, cap', rfl, h4, h5, fun i hi => ⟨g, 0, rfl, (hlt g rfl).2, ?_⟩⟩
    rw [Nat.zero_add]
    exact hr.range i hi

/-- While the productions are read. -/
structure PRel (w wr : World) (B : Nat) (v : Value) (pvs : List PV) : Prop where
  base : w.heap.size + 1 ≤ B
  own : wr.ownsRow B 73 2 v pvs.length (flatC PV.cells pvs)
  each : ∀ p ∈ pvs, SyOwn wr 0 p.vs p.pr.syms
  dis : ∀ p ∈ pvs, ∀ k, v.ownBlock = some k → p.vs.ownBlock ≠ some k
  fresh : Fresh w wr
  blk : wr.heap[w.heap.size]? = some (.cells #[.int .i64 0, .int .i64 0, .slice none 0 0] 42 (0, 0))
theorem PRel.fresh' {w wr w1 : World} {B : Nat} {v : Value} {pvs : List PV} (h : PRel w wr B v pvs) (hf : Fresh wr w1) : PRel w w1 B v pvs :=
  ⟨h.base, ownsRow_other h.own (fun g hg => hf.block g (h.own.lt g hg).2 (fun x => x)), fun p hp => ownsRow_other (h.each p hp) (fun g hg => hf.block g ((h.each p hp).lt g hg).2 (fun x => x)), h.dis, h.fresh.trans hf, hf.at h.blk (fun x => x)⟩
theorem PRel.next {w wr W w2 : World} {B : Nat} {v v' : Value} {pvs : List PV} {p : PV} (h : PRel w wr B v pvs) (hf : Fresh wr W) (hp : SyOwn W wr.heap.size p.vs p.pr.syms)
    (hown : w2.ownsRow B 73 2 v' (pvs.length + 1) (flatC PV.cells pvs ++ p.cells)) (hg : W.grownBy w2 v.ownBlock)
    (hblk : ∀ k, v'.ownBlock = some k → v.ownBlock = some k ∨ W.heap.size ≤ k) : PRel w w2 B v' (pvs ++ [p]) := by
  have hW := h.fresh' hf
  have hvlt : ∀ k, v.ownBlock = some k → k < wr.heap.size := fun k hk => (h.own.lt k hk).2
  have hvge : ∀ k, v.ownBlock = some k → w.heap.size + 1 ≤ k := fun k hk => Nat.le_trans h.base (h.own.lt k hk).1
  have hpn : ∀ k, v.ownBlock = some k → p.vs.ownBlock ≠ some k := fun k hk e => by
    have h1 := (hp.lt k e).1; have h2 := hvlt k hk; omega
  refine ⟨h.base, ?_, ?_, ?_, ?_, ?_⟩
  · rw [flat_snoc, List.length_append, List.length_singleton]; exact hown
  · intro q hq
    simp only [List.mem_append, List.mem_singleton] at hq
    rcases hq with hq | rfl
    · exact ownsRow_other (hW.each q hq) (fun g hgq => hg.block g ((hW.each q hq).lt g hgq).2 (fun e => h.dis q hq g e.symm hgq))
    · exact ownsRow_base (ownsRow_other hp (fun g hgq => hg.block g (hp.lt g hgq).2 (fun e => hpn g e.symm hgq))) (Nat.zero_le _)
  · intro q hq k hk e
    simp only [List.mem_append, List.mem_singleton] at hq
    rcases hblk k hk with h1 | h1
    · rcases hq with hq | rfl
      · exact h.dis q hq k h1 e
      · exact hpn k h1 e
    · rcases hq with hq | rfl
      · have := ((hW.each q hq).lt k e).2; omega
      · have := (hp.lt k e).2; omega
  · exact Mod.grown (S := fun _ => False) hW.fresh hg (fun k hk hlt => by have := hvge k hk; omega)
  · rw [hg.block _ (heap_lt hW.blk) (fun e => by have := hvge _ e.symm; omega)]; exact hW.blk

theorem PRel.prs {w wr : World} {B : Nat} {v : Value} {pvs : List PV} (h : PRel w wr B v pvs) (cs : Array Value) : PrsAt (wr.setRow w.heap.size cs) (wr.setRow w.heap.size cs).heap.size v pvs := by
  have hsz : (wr.setRow w.heap.size cs).heap.size = wr.heap.size := by simp
  have hne : ∀ p ∈ pvs, ∀ g, p.vs.ownBlock = some g → g ≠ w.heap.size := fun p hp g hg e => by
    rcases (h.each p hp).2 with ⟨h1, _⟩ | ⟨g', cap, cur, h1, _, h3, _⟩
    · rw [h1] at hg; cases hg
    · rw [h1] at hg
      simp [Value.ownBlock] at hg
      subst hg; subst e
      rw [h.blk] at h3
      simp at h3
  refine ⟨⟨ownsRow_base (ownsRow_other h.own (fun g hg => setRow_other _ _ _ _ (by have := (h.own.lt g hg).1; have := h.base; omega))) (Nat.zero_le _), fun x _ => rfl⟩, fun g hg => ?_, fun p hp => ?_⟩
  · rw [hsz]; exact (h.own.lt g hg).2
  · exact SyOwn.at' (base := 0) (ownsRow_other (h.each p hp) (fun g hg => setRow_other _ _ _ _ (hne p hp g hg)))

def TabRet (lns : List Ln) (w : World) (e : Ending) (w' : World) : Prop :=
  ∃ vp pvs, e = .returned (.agg #[.int .i64 (frontsOf lns).length, .int .i64 (headsOf lns).length, vp]) ∧ Fresh w w' ∧ pvs.map PV.pr = tableOf lns ∧ PrsAt w' w'.heap.size vp pvs
end Go.Proofs.YteneagnhihcljaaGreatDoor
namespace Go.Proofs.YteneagnhihcljaaGreatDoor
open Go.RowKit
set_option linter.unusedVariables false
set_option linter.unusedSimpArgs false

structure SBx (x : LV) : Prop where
  fb : FB x
  sy : ∀ d ∈ x.ln.syms, 0 ≤ d.ls.getD 0 0 ∧ d.ls.getD 0 0 ≤ 255
  len : x.ln.syms.length ≤ 1000

set_option maxRecDepth 20000 in
set_option maxHeartbeats 8000000 in
theorem pread_any (w : World) (v : Value) (xs : List LV) (hL : LinesAt w v xs) (hn : xs.length ≤ 1000) (hfb : ∀ x ∈ xs, SBx x) :
    Calls Tryz.prog 9 #[v] w fun e w' => TabRet (xs.map LV.ln) w e w' := by
  obtain ⟨ao, cap, hv⟩ := own_form hL.own
  subst hv
  have HL := hid hL
  have HSB := hid hfb
  have HFN := hid (fun w h => fronts_any w (.slice ao xs.length cap) xs h hn (fun x hx => (hfb x hx).fb))
  have HFH := hid (fun w h => heads_any w (.slice ao xs.length cap) xs h hn (fun x hx => (hfb x hx).fb))
  have HN8 : Hid (∀ d ∈ frontsOf (xs.map LV.ln), d.ls.length = 8) := by
    intro d hd
    simp only [frontsOf, List.mem_map, List.mem_filter] at hd
    obtain ⟨y, ⟨⟨x, hx, rfl⟩, _⟩, rfl⟩ := hd
    exact (hL.each x hx).front
  have hNl : (frontsOf (xs.map LV.ln)).length ≤ 1000 := by
    have := List.length_filter_le ruleB (xs.map LV.ln)
    simp only [frontsOf, List.length_map] at *
    omega
  unfold TabRet
  have HTab : Hid (∀ pvs : List PV, pvs.map PV.pr = (prodsOf ((xs.take xs.length).map LV.ln)).map (prOf (frontsOf (xs.map LV.ln)) (headsOf (xs.map LV.ln))) → pvs.map PV.pr = tableOf (xs.map LV.ln)) := by
    intro pvs h; rw [List.take_length] at h; exact h
  generalize tableOf (xs.map LV.ln) = TAB at HTab
  generalize frontsOf (xs.map LV.ln) = NA at HFN HN8 hNl HTab
  generalize headsOf (xs.map LV.ln) = HE at HFH HTab
  obtain ⟨i0, hi0, iz0, iz1, iz2⟩ := infoPr'
  have HLa := hid (HL.out.fresh ((Mod.refl _ w).alloc (.cells #[.int .i64 0, .int .i64 0, .slice none 0 0] 42 (0, 0))))
  clear hL hfb
  go_enter Tryz.func9, Tryz.ntmps9
  go_wp2_with (first
    | (go_at_call 24; refine (HFH.out _ (HLa.out.fresh hf1)).mono ?_; rintro e w2 ⟨vh, rfl, hoh, hf2, hh8, hhl⟩; obtain ⟨ha, hc, hvh⟩ := own_form hoh; subst hvh)
    | (go_at_call 23; refine (HFN.out _ HLa.out).mono ?_; rintro e w1 ⟨vn, rfl, hon, hf1⟩; obtain ⟨na, nc, hvn⟩ := own_form hon; subst hvn))
  have HSN : Hid (SymsAt w2 (.slice na NA.length nc) NA) := ⟨ownsRow_base (ownsRow_other hon (fun g hg => hf2.block g (hon.lt g hg).2 (fun x => x))) (Nat.zero_le _), fun x hx => Wd.cells_len (HN8.out x hx)⟩
  have HSH : Hid (SymsAt w2 (.slice ha HE.length hc) HE) := ⟨ownsRow_base hoh (Nat.zero_le _), fun x hx => Wd.cells_len (hh8 x hx)⟩
  have HH8 := hid hh8
  have HF2 : Hid (Fresh w w2) := Mod.trans ((Mod.refl _ w).alloc _) (Mod.trans hf1 hf2)
  have HB2 := hid (hf2.at (hf1.at (heap_alloc_at _ _) (fun x => x)) (fun x => x))
  have hHl : HE.length ≤ 1000 := by omega
  clear hon hoh hh8 hhl HFN HFH hf1 hf2 HLa
  go_loopw [5, 6, 7, 14] (fun x5 _ _ x14 wr => ∃ (i : Nat) (pvs : List PV), x14 = .int .i64 i ∧ i ≤ xs.length ∧ pvs.length ≤ i ∧ PRel w wr w2.heap.size x5 pvs ∧ Fresh w2 wr ∧ pvs.map PV.pr = (prodsOf ((xs.take i).map LV.ln)).map (prOf NA HE))
      (fun _ _ _ x _ => 1001 - (intOf x).toNat)
  case atStart => exact ⟨0, [], rfl, by omega, by simp, ⟨heap_lt HB2.out, World.ownsRow_nil _ _ _ _, by simp, by simp, HF2.out, HB2.out⟩, Mod.refl _ _, rfl⟩
  case round =>
    obtain ⟨i, pvs, rfl, hi, hpl, hrelp, hfr, hmap⟩ := hrel
    have HME := hid (meas (B := 1001) i (by omega))
    have HP := hid hrelp
    have HFR := hid hfr
    have HFW := hid (HF2.out.trans hfr)
    have HTS : Hid (∀ hlt : i < xs.length, (prodsOf ((xs.take (i + 1)).map LV.ln)).map (prOf NA HE) = pvs.map PV.pr ++ (if ruleB xs[i].ln then [] else [prOf NA HE xs[i].ln])) := by
      intro hlt
      rw [takeS hlt, List.map_append, List.map_singleton, hmap]
      unfold prodsOf
      rw [List.filter_append, List.map_append]
      cases h : ruleB xs[i].ln <;> simp only [List.filter_cons, h, if_true, if_false, Bool.false_eq_true, Bool.not_true, Bool.not_false, List.filter_nil, List.map_nil, List.map_cons, List.append_nil]
    have HMAP := hid hmap
    obtain ⟨ro, rc, hro⟩ := own_form hrelp.own
    have hblt : w.heap.size < wr.heap.size := heap_lt hrelp.blk
    subst hro
    clear hrelp hmap
    by_cases hlt : i < xs.length
    · have hi1 : (i : Int) < (xs.length : Int) := by omega
      obtain ⟨g, cap', hv'⟩ := Joins.ownsRow_form HL.out.own (by omega)
      rw [Value.slice.injEq] at hv'
      obtain ⟨rfl, _, rfl⟩ := hv'
      have HL1 := hid (HL.out.fresh HFW.out)
      have RG := hid (HL1.out.row.range i hlt)
      have RGF := hid (fun w1 (hf : Fresh wr w1) => (HL1.out.fresh hf).row.range i hlt)
      have hA := HL1.out.each xs[i] (by simp)
      have hSB := HSB.out xs[i] (by simp)
      have HA8 := hid hA.front
      have RU := hid (fun w => isRule_any xs[i] w hA.front hSB.fb)
      have hrb : Hid (ruleB xs[i].ln = !headB xs[i].ln.front) := rfl
      rw [← hrb.out] at RU
      have RP := hid (fun w1 (hf : Fresh wr w1) => prodsRead_any w1 xs[i] (.slice na NA.length nc) (.slice ha HE.length hc) NA HE (hA.fresh hf) hSB.sy hSB.len (HSN.out.fresh (HFR.out.trans hf)) HN8.out hNl (HSH.out.fresh (HFR.out.trans hf)) HH8.out hHl)
      have hTS := HTS.out hlt
      cases hr : ruleB xs[i].ln
      · rw [hr] at RU hTS
        simp only [Bool.false_eq_true, if_false] at hTS
        have HTSS := hid hTS
        clear hTS hA hSB hr
        generalize hX : xs[i] = x at RG RGF HA8 RU RP HTSS
        clear hX
        go_wp2_with (first
          | (at_builtin; refine wpList_append_mine _ rfl _ _ 40 rfl w2.heap.size 73 i0 _ 2 32 Tryz.underlying40 hi0 iz0 iz1 iz2 rfl (by decide) _ _ _ rfl HO1.out ⟨w4.heap.size + 1, 0, none⟩ 1 1 [.int .i64 (prOf NA HE x.ln).head, .slice sa (prOf NA HE x.ln).syms.length scp] rfl rfl (new_cells2 rfl) (by intro u hu; simp at hu; rcases hu with rfl | rfl <;> rfl) (by unfold maxLen; omega) (by omega) (by have h3 := HFR.out.size; have h4 := hf3.size; have h5 := hf4.size; simp; omega) ?_)
          | (go_at_call 26; refine (RP.out _ hf3).mono ?_; rintro e w4 ⟨v4, rfl, hf4, ho4⟩; obtain ⟨sa, scp, hv4⟩ := own_form ho4; subst hv4; have HO4 := hid ho4; have HO1 := hid (((ownsRow_other HP.out.own (fun g hg => (hf3.trans hf4).block g (HP.out.own.lt g hg).2 (fun x => x))).alloc (.cells #[.int .i64 (prOf NA HE x.ln).head, .slice sa (prOf NA HE x.ln).syms.length scp] 73 (0, 0))).alloc (.cells #[.int .i64 (prOf NA HE x.ln).head, .slice sa (prOf NA HE x.ln).syms.length scp] 73 (0, 0))))
          | (refine wpList_load_mid rfl 69 _ rfl g (i * 14) rfl x.cells _ (RGF.out _ hf3) Tryz.underlying69 rfl (by rw [LV.cells_len HA8.out]; exact szLine) ?_)
          | (go_at_call 25; refine (RU.out _).mono ?_; rintro e w3 ⟨rfl, hf3⟩)
          | (refine wpList_load_mid rfl 69 _ rfl g (i * 14) rfl x.cells _ RG.out Tryz.underlying69 rfl (by rw [LV.cells_len HA8.out]; exact szLine) ?_))
        intro v' w5 hown2 hgrow hblk
        have HPN := hid (HP.out.next (p := ⟨prOf NA HE x.ln, .slice sa (prOf NA HE x.ln).syms.length scp⟩) (((hf3.trans hf4).alloc _).alloc _) (ownsRow_base ((HO4.out.alloc _).alloc _) (hf3.size)) hown2 hgrow (fun k hk => (hblk k hk).imp id (fun h => by simpa using h)))
        have HF5 : Hid (Fresh w2 w5) := Mod.grown (S := fun _ => False) (HFR.out.trans (((hf3.trans hf4).alloc _).alloc _)) hgrow (fun k hk hlt => by have := (HP.out.own.lt k hk).1; omega)
        clear hown2 hgrow hblk
        go_wp2
        go_roundw
        case rel =>
          refine ⟨i + 1, _, by go_num, by omega, by simp; omega, HPN.out, HF5.out, ?_⟩
          rw [HTSS.out, List.map_append]; rfl
        case measure => exact HME.out
      · rw [hr] at RU hTS
        simp only [if_true, List.append_nil] at hTS
        have HTSS := hid hTS
        clear hTS hA hSB hr
        generalize hX : xs[i] = x at RG RGF HA8 RU RP HTSS
        clear hX
        go_wp2_with (first
          | (go_at_call 25; refine (RU.out _).mono ?_; rintro e w3 ⟨rfl, hf3⟩)
          | (refine wpList_load_mid rfl 69 _ rfl g (i * 14) rfl x.cells _ RG.out Tryz.underlying69 rfl (by rw [LV.cells_len HA8.out]; exact szLine) ?_))
        go_roundw
        case rel => exact ⟨i + 1, pvs, by go_num, by omega, by omega, HP.out.fresh' hf3, HFR.out.trans hf3, HTSS.out.symm⟩
        case measure => exact HME.out
    · have hie : i = xs.length := by omega
      have hi2 : ¬ (i : Int) < (xs.length : Int) := by omega
      go_wp2_with (first
        | (refine wpList_store_row rfl 42 _ _ rfl w.heap.size #[.int .i64 NA.length, .int .i64 HE.length, .slice ro pvs.length rc] rfl rfl _ _ HP.out.blk szTab rfl (all_oneCell_toArray (cs := [.int .i64 NA.length, .int .i64 HE.length, .slice ro pvs.length rc]) (by intro v hv; simp at hv; rcases hv with rfl | rfl | rfl <;> rfl)) ?_))
      refine bodyPost_ret (results_cell_row rfl _ _ w.heap.size 42 #[.int .i64 NA.length, .int .i64 HE.length, .slice ro pvs.length rc] (0, 0) _ rfl (setRow_heap _ _ _ _ _ _ HP.out.blk) Tryz.underlying42 rfl szTab) rfl ⟨_, rfl, HFW.out.setRow (fun h => absurd h (Nat.lt_irrefl _)) _, pvs, HTab.out pvs (by rw [← hie]; exact HMAP.out), ?_⟩
      exact HP.out.prs _
end Go.Proofs.YteneagnhihcljaaGreatDoor
namespace Go.Proofs.YteneagnhihcljaaGreatDoor
open Go.RowKit
set_option linter.unusedVariables false
set_option linter.unusedSimpArgs false

def SyB (x : Ln) : Prop := ∀ d ∈ x.syms, 0 ≤ d.ls.getD 0 0 ∧ d.ls.getD 0 0 ≤ 255
theorem zeroLn_sb : SyB zeroLn := fun d hd => by simp [zeroLn] at hd
theorem rProdL_sb (s : ByteArray) (d : Wd) : ∀ (f : Nat) (next : Int) (syms : List Wd), (∀ d ∈ syms, 0 ≤ d.ls.getD 0 0 ∧ d.ls.getD 0 0 ≤ 255) → SyB (rProdL s d f next syms).1
  | 0, _, _, _ => zeroLn_sb
  | f + 1, next, syms, h => by
    unfold rProdL
    split
    · split
      · exact zeroLn_sb
      · refine rProdL_sb s d f _ _ ?_
        intro e he
        simp only [List.mem_append, List.mem_singleton] at he
        rcases he with he | rfl
        · exact h e he
        · exact rWord_zero s (next + 1)
    · split
      · exact zeroLn_sb
      · exact h
theorem rLine_sb (s : ByteArray) (i : Int) : SyB (rLine s i).1 := by
  unfold rLine
  split
  · exact zeroLn_sb
  · split
    · unfold rProd
      split
      · exact zeroLn_sb
      · exact rProdL_sb s _ _ _ _ (by simp)
    · unfold rRule
      repeat' split
      all_goals first | exact zeroLn_sb | (intro d hd; simp at hd)
theorem rLinesL_sb (s : ByteArray) : ∀ (f : Nat) (i : Int) (acc : List Ln), (∀ x ∈ acc, SyB x) → ∀ x ∈ (rLinesL s f i acc).1, SyB x
  | 0, _, _, _, x, hx => by simp [rLinesL] at hx
  | f + 1, i, acc, h, x, hx => by
    unfold rLinesL at hx
    split at hx
    · split at hx
      · simp at hx
      · refine rLinesL_sb s f _ _ ?_ x hx
        intro y hy
        simp only [List.mem_append, List.mem_singleton] at hy
        rcases hy with hy | rfl
        · exact h y hy
        · exact rLine_sb s i
    · exact h x hx
theorem rLines_sb (s : ByteArray) : ∀ x ∈ (rLines s).1, SyB x := rLinesL_sb s _ 0 [] (by simp)

theorem check_sz {s : ByteArray} (h : (checkF s).1 = 0) : s.size ≤ 800 := by
  by_cases h8 : 800 < s.size
  · have := checkF_eq s; rw [if_pos h8] at this; rw [this] at h; cases h
  · omega

end Go.Proofs.YteneagnhihcljaaGreatDoor
