import Derived.Test.YteneagnhihcljaaGreatDoorPd3
import Derived.Test.YteneagnhihcljaaGreatDoorSe6
namespace Go.Proofs.YteneagnhihcljaaGreatDoor
open Go.RowKit
set_option linter.unusedVariables false
set_option linter.unusedSimpArgs false

def prodsOf (lns : List Ln) : List Ln := lns.filter fun x => !ruleB x
def tableOf (lns : List Ln) : List Pr := (prodsOf lns).map (prOf (frontsOf lns) (headsOf lns))

theorem infoPr : (Tryz.prog.info? 73).map (fun i => (i.zero, i.size, i.bytes)) = some (some (.agg #[.int .i64 0, .slice none 0 0]), 2, 32) := by kernel_rfl
theorem infoPr' : ∃ i, Tryz.prog.info? 73 = some i ∧ i.zero = some (.agg #[.int .i64 0, .slice none 0 0]) ∧ i.size = 2 ∧ i.bytes = 32 := by
  have h := infoPr
  cases hq : Tryz.prog.info? 73 with
  | none => simp [hq] at h
  | some i => simp [hq] at h; exact ⟨i, rfl, h.1, h.2.1, h.2.2⟩
theorem szTab : (Tryz.prog.info? 42).map (·.size) = some 3 := by kernel_rfl

abbrev SyOwn (w : World) (base : Nat) (v : Value) (l : List Sy) : Prop := w.ownsRow base 84 2 v l.length (flatC Sy.cells l)
theorem SyOwn.at' {w : World} {base : Nat} {v : Value} {l : List Sy} (h : SyOwn w base v l) : SymAt w w.heap.size v l := by
  obtain ⟨ao, cap, hv⟩ := own_form h
  have hr : RowAt Sy.cells 2 84 w v l := ⟨ownsRow_base h (Nat.zero_le _), fun x _ => rfl⟩
  have hlt := h.lt
  rcases h.2 with ⟨h1, h2⟩ | ⟨g, cap', cur, h1, h2, h3, h4, h5, _⟩
  · subst h1
    have : l = [] := List.eq_nil_of_length_eq_zero h2
    subst this
    exact ⟨none, 0, rfl, by simp, by unfold maxLen; omega, fun i hi => by simp at hi⟩
  · subst h1
    refine ⟨some ⟨g, 0, none⟩, cap', rfl, h4, h5, fun i hi => ⟨g, 0, rfl, (hlt g rfl).2, ?_⟩⟩
    rw [Nat.zero_add]
    exact hr.range i hi

/-- While the productions are read. -/
structure PRel (w wr : World) (B : Nat) (v : Value) (pvs : List PV) : Prop where
  base : w.heap.size + 1 ≤ B
  own : wr.ownsRow B 73 2 v pvs.length (flatC PV.cells pvs)
  each : ∀ p ∈ pvs, SyOwn wr 0 p.vs p.pr.syms
  dis : ∀ p ∈ pvs, ∀ k, v.ownBlock = some k → p.vs.ownBlock ≠ some k
  fresh : Fresh w wr
  blk : wr.heap[w.heap.size]? = some (.cells #[.int .i64 0, .int .i64 0, .slice none 0 0] 42 (0, 0))
theorem PRel.fresh' {w wr w1 : World} {B : Nat} {v : Value} {pvs : List PV} (h : PRel w wr B v pvs) (hf : Fresh wr w1) : PRel w w1 B v pvs :=
  ⟨h.base, ownsRow_other h.own (fun g hg => hf.block g (h.own.lt g hg).2 (fun x => x)), fun p hp => ownsRow_other (h.each p hp) (fun g hg => hf.block g ((h.each p hp).lt g hg).2 (fun x => x)), h.dis, h.fresh.trans hf, hf.at h.blk (fun x => x)⟩
theorem PRel.next {w wr W w2 : World} {B : Nat} {v v' : Value} {pvs : List PV} {p : PV} (h : PRel w wr B v pvs) (hf : Fresh wr W) (hp : SyOwn W wr.heap.size p.vs p.pr.syms)
    (hown : w2.ownsRow B 73 2 v' (pvs.length + 1) (flatC PV.cells pvs ++ p.cells)) (hg : W.grownBy w2 v.ownBlock)
    (hblk : ∀ k, v'.ownBlock = some k → v.ownBlock = some k ∨ W.heap.size ≤ k) : PRel w w2 B v' (pvs ++ [p]) := by
  have hW := h.fresh' hf
  have hvlt : ∀ k, v.ownBlock = some k → k < wr.heap.size := fun k hk => (h.own.lt k hk).2
  have hvge : ∀ k, v.ownBlock = some k → w.heap.size + 1 ≤ k := fun k hk => Nat.le_trans h.base (h.own.lt k hk).1
  have hpn : ∀ k, v.ownBlock = some k → p.vs.ownBlock ≠ some k := fun k hk e => by
    have h1 := (hp.lt k e).1; have h2 := hvlt k hk; omega
  refine ⟨h.base, ?_, ?_, ?_, ?_, ?_⟩
  · rw [flat_snoc, List.length_append, List.length_singleton]; exact hown
  · intro q hq
    simp only [List.mem_append, List.mem_singleton] at hq
    rcases hq with hq | rfl
    · exact ownsRow_other (hW.each q hq) (fun g hgq => hg.block g ((hW.each q hq).lt g hgq).2 (fun e => h.dis q hq g e.symm hgq))
    · exact ownsRow_base (ownsRow_other hp (fun g hgq => hg.block g (hp.lt g hgq).2 (fun e => hpn g e.symm hgq))) (Nat.zero_le _)
  · intro q hq k hk e
    simp only [List.mem_append, List.mem_singleton] at hq
    rcases hblk k hk with h1 | h1
    · rcases hq with hq | rfl
      · exact h.dis q hq k h1 e
      · exact hpn k h1 e
    · rcases hq with hq | rfl
      · have := ((hW.each q hq).lt k e).2; omega
      · have := (hp.lt k e).2; omega
  · exact Mod.grown (S := fun _ => False) hW.fresh hg (fun k hk hlt => by have := hvge k hk; omega)
  · rw [hg.block _ (heap_lt hW.blk) (fun e => by have := hvge _ e.symm; omega)]; exact hW.blk

theorem PRel.prs {w wr : World} {B : Nat} {v : Value} {pvs : List PV} (h : PRel w wr B v pvs) (cs : Array Value) : PrsAt (wr.setRow w.heap.size cs) (wr.setRow w.heap.size cs).heap.size v pvs := by
  have hsz : (wr.setRow w.heap.size cs).heap.size = wr.heap.size := by simp
  have hne : ∀ p ∈ pvs, ∀ g, p.vs.ownBlock = some g → g ≠ w.heap.size := fun p hp g hg e => by
    rcases (h.each p hp).2 with ⟨h1, _⟩ | ⟨g', cap, cur, h1, _, h3, _⟩
    · rw [h1] at hg; cases hg
    · rw [h1] at hg
      simp [Value.ownBlock] at hg
      subst hg; subst e
      rw [h.blk] at h3
      simp at h3
  refine ⟨⟨ownsRow_base (ownsRow_other h.own (fun g hg => setRow_other _ _ _ _ (by have := (h.own.lt g hg).1; have := h.base; omega))) (Nat.zero_le _), fun x _ => rfl⟩, fun g hg => ?_, fun p hp => ?_⟩
  · rw [hsz]; exact (h.own.lt g hg).2
  · exact SyOwn.at' (base := 0) (ownsRow_other (h.each p hp) (fun g hg => setRow_other _ _ _ _ (hne p hp g hg)))

def TabRet (lns : List Ln) (w : World) (e : Ending) (w' : World) : Prop :=
  ∃ vp pvs, e = .returned (.agg #[.int .i64 (frontsOf lns).length, .int .i64 (headsOf lns).length, vp]) ∧ Fresh w w' ∧ pvs.map PV.pr = tableOf lns ∧ PrsAt w' w'.heap.size vp pvs
end Go.Proofs.YteneagnhihcljaaGreatDoor
namespace Go.Proofs.YteneagnhihcljaaGreatDoor
open Go.RowKit
set_option linter.unusedVariables false
set_option linter.unusedSimpArgs false

structure SBx (x : LV) : Prop where
  fb : FB x
  sy : ∀ d ∈ x.ln.syms, 0 ≤ d.ls.getD 0 0 ∧ d.ls.getD 0 0 ≤ 255
  len : x.ln.syms.length ≤ 1000

end Go.Proofs.YteneagnhihcljaaGreatDoor
namespace Go.Proofs.YteneagnhihcljaaGreatDoor
open Go.RowKit
set_option linter.unusedVariables false
set_option linter.unusedSimpArgs false

def SyB (x : Ln) : Prop := ∀ d ∈ x.syms, 0 ≤ d.ls.getD 0 0 ∧ d.ls.getD 0 0 ≤ 255
theorem zeroLn_sb : SyB zeroLn := fun d hd => by simp [zeroLn] at hd
theorem rProdL_sb (s : ByteArray) (d : Wd) : ∀ (f : Nat) (next : Int) (syms : List Wd), (∀ d ∈ syms, 0 ≤ d.ls.getD 0 0 ∧ d.ls.getD 0 0 ≤ 255) → SyB (rProdL s d f next syms).1
  | 0, _, _, _ => zeroLn_sb
  | f + 1, next, syms, h => by
    unfold rProdL
    split
    · split
      · exact zeroLn_sb
      · refine rProdL_sb s d f _ _ ?_
        intro e he
        simp only [List.mem_append, List.mem_singleton] at he
        rcases he with he | rfl
        · exact h e he
        · exact rWord_zero s (next + 1)
    · split
      · exact zeroLn_sb
      · exact h
theorem rLine_sb (s : ByteArray) (i : Int) : SyB (rLine s i).1 := by
  unfold rLine
  split
  · exact zeroLn_sb
  · split
    · unfold rProd
      split
      · exact zeroLn_sb
      · exact rProdL_sb s _ _ _ _ (by simp)
    · unfold rRule
      repeat' split
      all_goals first | exact zeroLn_sb | (intro d hd; simp at hd)
theorem rLinesL_sb (s : ByteArray) : ∀ (f : Nat) (i : Int) (acc : List Ln), (∀ x ∈ acc, SyB x) → ∀ x ∈ (rLinesL s f i acc).1, SyB x
  | 0, _, _, _, x, hx => by simp [rLinesL] at hx
  | f + 1, i, acc, h, x, hx => by
    unfold rLinesL at hx
    split at hx
    · split at hx
      · simp at hx
      · refine rLinesL_sb s f _ _ ?_ x hx
        intro y hy
        simp only [List.mem_append, List.mem_singleton] at hy
        rcases hy with hy | rfl
        · exact h y hy
        · exact rLine_sb s i
    · exact h x hx
theorem rLines_sb (s : ByteArray) : ∀ x ∈ (rLines s).1, SyB x := rLinesL_sb s _ 0 [] (by simp)

theorem check_sz {s : ByteArray} (h : (checkF s).1 = 0) : s.size ≤ 800 := by
  by_cases h8 : 800 < s.size
  · have := checkF_eq s; rw [if_pos h8] at this; rw [this] at h; cases h
  · omega

end Go.Proofs.YteneagnhihcljaaGreatDoor
