import Derived.Test.YteneagnhihcljaaGreatDoorBld2
namespace Go.Proofs.YteneagnhihcljaaGreatDoor
open Go.RowKit
set_option linter.unusedVariables false
set_option linter.unusedSimpArgs false

def readNode (ws : List Int) (e : Int) : Node := ⟨true, ws, e, -1⟩
def oneN (ns : List Node) (ws : List Int) : List Node := ns ++ [plainNode] ++ [readNode ws ns.length]

set_option maxHeartbeats 1000000 in
theorem readOne_any (w : World) (bb : Nat) (v : Value) (ns : List Node) (ws : List Int) (h : BAt w bb v ns) (hn : ns.length ≤ 50000) (hl : ws.length = 4) :
    Calls Tryz.prog 103 #[bptr bb, .agg (u64s ws)] w fun e w' => e = .returned (frag (ns.length + 1) ns.length) ∧ ∃ v', BNext w w' bb v v' (oneN ns ws) := by
  obtain ⟨i0, hi, hz0, hz1, hz2⟩ := infoNode'
  obtain ⟨a, b, c, d, hws⟩ := four hl
  have HW : Hid (ws = [a, b, c, d]) := hws
  have e1 : u64s ws = #[.int .u64 a, .int .u64 b, .int .u64 c, .int .u64 d] := by rw [hws]; rfl
  rw [e1]
  have H : Hid _ := h
  have hN := fun k (hk : w.heap.size ≤ k) => h.not_foot hk
  have HN : Hid _ := hN
  clear hws e1 h hN hl
  go_enter Tryz.func103, Tryz.ntmps103
  go_wp2_with (go_at_call 96; refine (addNode_any _ bb v ns (H.out.fresh ((((Mod.refl _ w).alloc _).alloc _))) (by omega)).mono ?_; rintro e w1 ⟨rfl, v1, h1⟩)
  have k1 := h1.loc (heap_alloc2_old _ _ _) (HN.out _ (by omega))
  obtain ⟨ao, cap, hv⟩ := own_form h1.at'.own
  have k2 := cellOf h1.at'.blk 0
  have k3 := frozenOf h1.at'.blk 0
  have H1 : Hid _ := h1
  clear h1
  subst hv
  simp at k2
  have HO : Hid (∀ o : Obj, (w1.alloc o).drew.ownsRow (bb + 1) 154 7 (.slice ao (ns ++ [plainNode]).length cap) (ns ++ [plainNode]).length (ncells (ns ++ [plainNode]))) := fun o => H1.out.at'.own.alloc o
  have HB : Hid (∀ (o : Obj) (v' : Value) (w2 : World), (w1.alloc o).drew.grownBy w2 (Value.ownBlock (.slice ao (ns ++ [plainNode]).length cap)) → w2.heap[bb]? = some (.cells #[.slice ao (ns ++ [plainNode]).length cap] 164 (0, 0))) := by
    intro o v' w2 hg
    have hl := H1.out.at'.lt
    rw [hg.block bb (by simp [World.drew]; omega) (fun e => by have := H1.out.at'.own_lt bb e.symm; omega)]
    show (w1.alloc o).heap[bb]? = _
    rw [heap_alloc_old' hl]; exact H1.out.at'.blk
  have hlt1 : w.heap.size + 1 < w1.heap.size := by have := H1.out.mod.size; simp at this; omega
  have hbb : bb < w1.heap.size := H1.out.at'.lt
  go_region_law (refine step_append_mine _ rfl (.tmp 12) (.tmp 16) 65 rfl (bb + 1) 154 i0 _ 7 56 Tryz.underlying65 hi hz0 hz1 hz2 rfl (by decide) (.slice ao (ns ++ [plainNode]).length cap) _ _ (by simp [Act.eval, Act.put]) (HO.out _) ⟨w1.heap.size, 0, none⟩ 1 1 [.bool true, .int .u64 a, .int .u64 b, .int .u64 c, .int .u64 d, .int .i64 ns.length, .int .i64 (-1)] (by simp [Act.eval, Act.put]) rfl (new_cells rfl) (by intro u hu; simp at hu; rcases hu with rfl | rfl | rfl | rfl | rfl | rfl | rfl <;> rfl) (by unfold maxLen; simp; omega) (by simp; omega) (by simp [World.drew]; omega) ?_; intro v' w2 hown hgrow hblk; obtain ⟨a', cap', hv'⟩ := own_form hown; have hc2 := cellOf (HB.out _ v' w2 hgrow) 0; have hz2 := frozenOf (HB.out _ v' w2 hgrow) 0; have HO2 : Hid _ := hown; have HG2 : Hid _ := hgrow; clear hown hgrow; subst hv')
  all_goals
    have hnf := H1.out.nf (k := w.heap.size + 1) (by simp) (HN.out _ (by omega))
    have hres : w2.heap[w.heap.size + 1]? = some (.cells #[.int .i64 0, .int .i64 0] 166 (0, 0)) := by
      rw [HG2.out.block _ (by simp [World.drew]; omega) (fun e => hnf (.inr e.symm))]
      exact heap_alloc_prev (H1.out.mod.at (heap_alloc2_new _ _ _) (HN.out _ (by omega)))
    have hne : w.heap.size + 1 ≠ bb := by have := H.out.lt; omega
    have hc3 := cellOf hres
    have hz3 := frozenOf hres
    have HR : Hid _ := hres
    have HNF : Hid _ := hnf
    have HE : Hid _ := hne
    clear hres hnf k1
    go_wp2
    have fin := badd (n := readNode ws ns.length) H1.out.at' (((Mod.refl _ w1).alloc _).drew) (by rw [HW.out]; rfl) (by rw [HW.out]; exact HO2.out) HG2.out (by simpa [World.drew] using hblk)
    have fin2 := H1.out.trans fin
    have hnf2 := fin.nf (k := w.heap.size + 1) (by omega) HNF.out
    refine bodyPost_ret (results_cell_row rfl _ _ (w.heap.size + 1) 166 #[.int .i64 (ns.length + 1), .int .i64 ns.length] (0, 0) _ rfl ?_ Tryz.underlying166 rfl szFrag) rfl ⟨rfl, .slice a' ((ns ++ [plainNode]).length + 1) cap', ?_⟩
    · rw [Proofs.YteneagnhihcljaaGreatDoor.heap_setCell_same (Proofs.YteneagnhihcljaaGreatDoor.heap_setCell_same (heap_setCell_prev HR.out HE.out) 0 _) 1 _]; rfl
    · have := ((BNext.ahead (((Mod.refl _ w).alloc _).alloc _) fin2).put (p := ⟨w.heap.size + 1, 0, none⟩) (by simp) hnf2 (.int .i64 (ns.length + 1))).put (p := ⟨w.heap.size + 1, 1, none⟩) (by simp) hnf2 (.int .i64 ns.length)
      simpa [oneN] using this
theorem oneN_len (ns : List Node) (ws : List Int) : (oneN ns ws).length = ns.length + 2 := by simp [oneN]
end Go.Proofs.YteneagnhihcljaaGreatDoor
namespace Go.Proofs.YteneagnhihcljaaGreatDoor
open Go.RowKit
set_option linter.unusedVariables false
set_option linter.unusedSimpArgs false

structure PR where
  st : Int
  en : Int
  next : Int
  ok : Bool
  ns : List Node

def rAtom (g : Int → List Node → PR) (s : ByteArray) (i : Int) (ns : List Node) : PR :=
  if atB s i = 40 then g i ns
  else if (rSet s i).2.2 = false then ⟨0, 0, (rSet s i).2.1, false, ns⟩
  else ⟨ns.length + 1, ns.length, (rSet s i).2.1, true, oneN ns (rSet s i).1⟩
def isMark (c : Int) : Bool := c == 42 || c == 43 || c == 63
def rPieceL (s : ByteArray) : Nat → PR → PR
  | 0, r => r
  | f + 1, r =>
    if (r.ok && isMark (atB s r.next)) = true then rPieceL s f ⟨r.ns.length, r.ns.length + 1, r.next + 1, true, repeatN r.ns r.st r.en (atB s r.next)⟩
    else r
def rPiece (a : Int → List Node → PR) (s : ByteArray) (i : Int) (ns : List Node) : PR := rPieceL s (s.size + 5) (a i ns)
def joinR (r p : PR) : PR := if p.ok then ⟨r.st, p.en, p.next, true, linkN p.ns r.en p.st⟩ else ⟨r.st, r.en, p.next, false, p.ns⟩
def rBranchL (p : Int → List Node → PR) (s : ByteArray) : Nat → PR → PR
  | 0, r => r
  | f + 1, r => if (r.ok && beginsB s r.next) = true then rBranchL p s f (joinR r (p r.next r.ns)) else r
def rBranch (p : Int → List Node → PR) (s : ByteArray) (i : Int) (ns : List Node) : PR := rBranchL p s (s.size + 5) (p i ns)
def eitherR (r p : PR) : PR := if p.ok then ⟨p.ns.length, p.ns.length + 1, p.next, true, eitherN p.ns r.st r.en p.st p.en⟩ else ⟨r.st, r.en, p.next, false, p.ns⟩
def rChoiceL (p : Int → List Node → PR) (s : ByteArray) : Nat → PR → PR
  | 0, r => r
  | f + 1, r => if (r.ok && (atB s r.next == 124)) = true then rChoiceL p s f (eitherR r (p (r.next + 1) r.ns)) else r
def rChoice (p : Int → List Node → PR) (s : ByteArray) (i : Int) (ns : List Node) : PR := rChoiceL p s (s.size + 5) (p i ns)
def rGroup (c : Int → List Node → PR) (s : ByteArray) (i : Int) (ns : List Node) : PR :=
  if (c (i + 1) ns).ok = false then ⟨0, 0, (c (i + 1) ns).next, false, (c (i + 1) ns).ns⟩
  else if atB s (c (i + 1) ns).next ≠ 41 then ⟨0, 0, (c (i + 1) ns).next, false, (c (i + 1) ns).ns⟩
  else ⟨(c (i + 1) ns).st, (c (i + 1) ns).en, (c (i + 1) ns).next + 1, true, (c (i + 1) ns).ns⟩
def gK (s : ByteArray) : Nat → Int → List Node → PR
  | 0 => fun i ns => ⟨0, 0, i, false, ns⟩
  | k + 1 => rGroup (rChoice (rBranch (rPiece (rAtom (gK s k) s) s) s) s) s
def chK (s : ByteArray) (k : Nat) : Int → List Node → PR := rChoice (rBranch (rPiece (rAtom (gK s k) s) s) s) s

structure Good (s : ByteArray) (i : Int) (n0 : Nat) (r : PR) : Prop where
  lo : i ≤ r.next
  hi : r.next ≤ 2 * s.size + 20
  good : r.ok = true → i < r.next ∧ r.next ≤ s.size
  cnt : (r.ns.length : Int) ≤ n0 + 2 * (r.next - i)
def GoodF (s : ByteArray) (f : Int → List Node → PR) : Prop := ∀ (i : Int) (ns : List Node), 0 ≤ i → i ≤ s.size → Good s i ns.length (f i ns)

theorem good_atom {g : Int → List Node → PR} {s : ByteArray} (hg : GoodF s g) : GoodF s (rAtom g s) := by
  intro i ns h0 h1
  have hb := rSet_bd s i h0
  unfold rAtom
  split
  · exact hg i ns h0 h1
  · split
    · exact ⟨hb.1, by dsimp only; omega, by simp, by dsimp only; omega⟩
    · rename_i h3; have h4 := hb.2.2 (by simpa using h3)
      exact ⟨hb.1, by dsimp only; omega, fun _ => h4, by dsimp only; rw [oneN_len]; omega⟩
theorem good_pieceL (s : ByteArray) (i : Int) (n0 : Nat) (hi : 0 ≤ i) : ∀ (f : Nat) (r : PR), Good s i n0 r → Good s i n0 (rPieceL s f r)
  | 0, r, h => h
  | f + 1, r, h => by
    unfold rPieceL
    split
    · rename_i h3
      simp only [Bool.and_eq_true] at h3
      have h4 := h.good h3.1
      have h5 : atB s r.next ≠ -1 := by intro e; rw [e] at h3; simp [isMark] at h3
      have h6 := atB_lt h5
      exact good_pieceL s i n0 hi f _ ⟨by dsimp only; omega, by dsimp only; omega, fun _ => by dsimp only; omega, by dsimp only; rw [repeatN_len]; have := h.cnt; omega⟩
    · exact h
theorem good_piece {a : Int → List Node → PR} {s : ByteArray} (ha : GoodF s a) : GoodF s (rPiece a s) := by
  intro i ns h0 h1
  exact good_pieceL s i _ h0 _ _ (ha i ns h0 h1)
theorem good_joinR {s : ByteArray} {i : Int} {n0 : Nat} {r p : PR} (h0 : 0 ≤ i) (h : Good s i n0 r) (hok : r.ok = true) (hp : Good s r.next r.ns.length p) : Good s i n0 (joinR r p) := by
  have h4 := h.good hok
  have h7 := hp.cnt
  have h8 := h.cnt
  unfold joinR
  split
  · rename_i h5; have h6 := hp.good h5
    exact ⟨by dsimp only; omega, by dsimp only; omega, fun _ => by dsimp only; omega, by dsimp only; rw [linkN_len]; omega⟩
  · exact ⟨by have := hp.lo; dsimp only; omega, hp.hi, by simp, by dsimp only; omega⟩
theorem good_eitherR {s : ByteArray} {i : Int} {n0 : Nat} {r p : PR} (h0 : 0 ≤ i) (h : Good s i n0 r) (hok : r.ok = true) (hp : Good s (r.next + 1) r.ns.length p) : Good s i n0 (eitherR r p) := by
  have h4 := h.good hok
  have h7 := hp.cnt
  have h8 := h.cnt
  unfold eitherR
  split
  · rename_i h5; have h6 := hp.good h5
    exact ⟨by dsimp only; omega, by dsimp only; omega, fun _ => by dsimp only; omega, by dsimp only; rw [eitherN_len]; omega⟩
  · exact ⟨by have := hp.lo; dsimp only; omega, hp.hi, by simp, by dsimp only; omega⟩
theorem good_branchL {p : Int → List Node → PR} {s : ByteArray} (hp : GoodF s p) (i : Int) (n0 : Nat) (hi : 0 ≤ i) : ∀ (f : Nat) (r : PR), Good s i n0 r → Good s i n0 (rBranchL p s f r)
  | 0, r, h => h
  | f + 1, r, h => by
    unfold rBranchL
    split
    · rename_i h3
      simp only [Bool.and_eq_true] at h3
      have h4 := h.good h3.1
      exact good_branchL hp i n0 hi f _ (good_joinR hi h h3.1 (hp r.next r.ns (by omega) (by omega)))
    · exact h
theorem good_branch {p : Int → List Node → PR} {s : ByteArray} (hp : GoodF s p) : GoodF s (rBranch p s) := by
  intro i ns h0 h1
  exact good_branchL hp i _ h0 _ _ (hp i ns h0 h1)
theorem good_choiceL {p : Int → List Node → PR} {s : ByteArray} (hp : GoodF s p) (i : Int) (n0 : Nat) (hi : 0 ≤ i) : ∀ (f : Nat) (r : PR), Good s i n0 r → Good s i n0 (rChoiceL p s f r)
  | 0, r, h => h
  | f + 1, r, h => by
    unfold rChoiceL
    split
    · rename_i h3
      simp only [Bool.and_eq_true, beq_iff_eq] at h3
      have h4 := h.good h3.1
      have h6 := atB_lt (s := s) (i := r.next) (by omega)
      exact good_choiceL hp i n0 hi f _ (good_eitherR hi h h3.1 (hp (r.next + 1) r.ns (by omega) (by omega)))
    · exact h
theorem good_choice {p : Int → List Node → PR} {s : ByteArray} (hp : GoodF s p) : GoodF s (rChoice p s) := by
  intro i ns h0 h1
  exact good_choiceL hp i _ h0 _ _ (hp i ns h0 h1)
theorem good_group {c : Int → List Node → PR} {s : ByteArray} (hc : GoodF s c) (i : Int) (ns : List Node) (h0 : 0 ≤ i) (h1 : i < s.size) : Good s i ns.length (rGroup c s i ns) := by
  have h := hc (i + 1) ns (by omega) (by omega)
  have hl := h.lo
  have hk := h.cnt
  have hh := h.hi
  unfold rGroup
  split
  · exact ⟨by dsimp only; omega, h.hi, by simp, by dsimp only; omega⟩
  · rename_i h3; have h4 := h.good (by simpa using h3)
    split
    · exact ⟨by dsimp only; omega, h.hi, by simp, by dsimp only; omega⟩
    · rename_i h5
      have h6 := atB_lt (s := s) (i := (c (i + 1) ns).next) (by omega)
      exact ⟨by dsimp only; omega, by dsimp only; omega, fun _ => by dsimp only; omega, by dsimp only; omega⟩
/-- A group is only read where a ( stands. -/
def GoodG (s : ByteArray) (f : Int → List Node → PR) : Prop := ∀ (i : Int) (ns : List Node), 0 ≤ i → i < s.size → Good s i ns.length (f i ns)
theorem good_atom' {g : Int → List Node → PR} {s : ByteArray} (hg : GoodG s g) : GoodF s (rAtom g s) := by
  intro i ns h0 h1
  by_cases hc : atB s i = 40
  · have h6 := atB_lt (s := s) (i := i) (by omega)
    unfold rAtom; rw [if_pos hc]; exact hg i ns h0 h6.2
  · have := good_atom (g := fun i ns => ⟨0, 0, i, false, ns⟩) (s := s) (fun i ns h0 h1 => ⟨by simp, by dsimp only; omega, by simp, by simp⟩) i ns h0 h1
    unfold rAtom at this ⊢; rw [if_neg hc] at this ⊢; exact this
theorem good_gK (s : ByteArray) : ∀ k, GoodG s (gK s k)
  | 0 => fun i ns h0 h1 => ⟨by simp [gK], by simp [gK]; omega, by simp [gK], by simp [gK]⟩
  | k + 1 => fun i ns h0 h1 => good_group (good_choice (good_branch (good_piece (good_atom' (good_gK s k))))) i ns h0 h1
theorem good_chK (s : ByteArray) (k : Nat) : GoodF s (chK s k) := good_choice (good_branch (good_piece (good_atom' (good_gK s k))))

abbrev prRet (r : PR) : Value := .tuple #[frag r.st r.en, .int .i64 r.next, .bool r.ok]
/-- What a reading method does: f is what it reads. -/
def Con (fid : FuncId) (s : ByteArray) (d : Int) (f : Int → List Node → PR) : Prop :=
  ∀ (i : Int) (ns : List Node) (w : World) (bb : Nat) (v : Value), 0 ≤ i → i ≤ s.size → (ns.length : Int) ≤ 2 * i → BAt w bb v ns →
    Calls Tryz.prog fid #[bptr bb, .string s, .int .i64 i, .int .i64 d] w fun e w' => e = .returned (prRet (f i ns)) ∧ ∃ v', BNext w w' bb v v' (f i ns).ns
/-- The same, where a ( stands. -/
def ConG (fid : FuncId) (s : ByteArray) (d : Int) (f : Int → List Node → PR) : Prop :=
  ∀ (i : Int) (ns : List Node) (w : World) (bb : Nat) (v : Value), 0 ≤ i → i < s.size → (ns.length : Int) ≤ 2 * i → BAt w bb v ns →
    Calls Tryz.prog fid #[bptr bb, .string s, .int .i64 i, .int .i64 d] w fun e w' => e = .returned (prRet (f i ns)) ∧ ∃ v', BNext w w' bb v v' (f i ns).ns
end Go.Proofs.YteneagnhihcljaaGreatDoor
namespace Go.Proofs.YteneagnhihcljaaGreatDoor
open Go.RowKit
set_option linter.unusedVariables false
set_option linter.unusedSimpArgs false

set_option maxHeartbeats 1000000 in
theorem readAtom_ok (s : ByteArray) (d : Int) (g : Int → List Node → PR) (hs : s.size ≤ 1000) (hd0 : 0 ≤ d) (hd1 : d ≤ 100) (hg : ConG 101 s d g) :
    Con 98 s d (rAtom g s) := by
  intro i ns w bb v h0 h1 hn h
  have H : Hid _ := h
  have hN := fun k (hk : w.heap.size ≤ k) => h.not_foot hk
  have HN : Hid _ := hN
  clear h hN
  by_cases hc : atB s i = 40
  · have hlt := atB_lt (s := s) (i := i) (by omega)
    have e1 : rAtom g s i ns = g i ns := by unfold rAtom; rw [if_pos hc]
    rw [e1]
    have c1 : (atB s i == 40) = true := by simpa using hc
    clear e1 hc
    go_enter Tryz.func98, Tryz.ntmps98
    go_wp2_with (first
      | (go_at_call 62; refine (at_any _ _ _ (by unfold maxLen; omega)).mono ?_; rintro e w' ⟨rfl, hw⟩; rw [hw]; clear hw)
      | (go_at_call 101; refine (hg i ns _ bb v (by omega) (by omega) hn (H.out.fresh ((Mod.refl _ w).alloc _))).mono ?_; rintro e w1 ⟨rfl, v1, h1⟩; have k3 := h1.loc (heap_alloc_at _ _) (HN.out _ (by omega)); have k4 := frozenOf (h1.mod.at (heap_alloc_at _ _) (HN.out _ (by omega)))))
    have hf := h1.nf (k := w.heap.size) (by simp) (HN.out _ (by omega))
    refine bodyPost_ret (results_row2 rfl _ _ w.heap.size 166 #[.int .i64 (g i ns).st, .int .i64 (g i ns).en] (0, 0) _ rfl ?_ Tryz.underlying166 rfl szFrag) rfl ⟨rfl, v1, ?_⟩
    · rw [Proofs.YteneagnhihcljaaGreatDoor.heap_setCell_same (Proofs.YteneagnhihcljaaGreatDoor.heap_setCell_same (h1.mod.at (heap_alloc_at _ _) (HN.out _ (by omega))) 0 _) 1 _]; rfl
    · exact ((BNext.ahead ((Mod.refl _ w).alloc _) h1).put (by simp) hf _).put (by simp) hf _
  · have c1 : (atB s i == 40) = false := by simpa using hc
    have hl := rSet_len s i
    obtain ⟨b1, b2, b3⟩ := rSet_bd s i h0
    by_cases hok : (rSet s i).2.2 = false
    · have e1 : rAtom g s i ns = ⟨0, 0, (rSet s i).2.1, false, ns⟩ := by unfold rAtom; rw [if_neg hc, if_pos hok]
      rw [e1]
      have c2 : (!(rSet s i).2.2) = true := by simp [hok]
      have HL : Hid _ := hl
      clear e1 hc hok hg b3 hl
      go_enter Tryz.func98, Tryz.ntmps98
      go_wp2_with (first
        | (go_at_call 62; refine (at_any _ _ _ (by unfold maxLen; omega)).mono ?_; rintro e w' ⟨rfl, hw⟩; rw [hw]; clear hw)
        | (go_at_call 102; refine (readSet_any _ _ _ (by omega) (by omega) (by omega)).mono ?_; rintro e w1 ⟨rfl, hf1⟩; have hz : w.heap.size < w1.heap.size := (by have := hf1.size; simp at this; omega); have k3 := cellOf (hf1.at (heap_alloc_at _ _) (fun x => x)); have k4 := frozenOf (hf1.at (heap_alloc_at _ _) (fun x => x)))
        | (refine wpList_store_new rfl 152 _ _ rfl w1 _ _ _ rfl rfl rfl (szOf _ HL.out) (eq4 rfl (u4 HL.out)) (u64s_one _) ?_))
      have hb := hf1.at (heap_alloc_at _ _) (fun x => x)
      refine bodyPost_ret (results_row2 rfl _ _ w.heap.size 166 #[.int .i64 0, .int .i64 0] (0, 0) _ rfl ?_ Tryz.underlying166 rfl szFrag) rfl ⟨rfl, v, ?_⟩
      · refine heap_alloc_prev ?_
        rw [Proofs.YteneagnhihcljaaGreatDoor.heap_setCell_same (Proofs.YteneagnhihcljaaGreatDoor.heap_setCell_same hb 0 _) 1 _]; rfl
      · have m1 : Fresh w w1 := ((Mod.refl _ w).alloc _).trans hf1
        exact ((((BNext.ahead m1 (BNext.refl (H.out.fresh m1))).put (p := ⟨w.heap.size, 0, none⟩) (by simp) (HN.out _ (by simp)) _).put (p := ⟨w.heap.size, 1, none⟩) (by simp) (HN.out _ (by simp)) _).alloc _)
    · have e1 : rAtom g s i ns = ⟨ns.length + 1, ns.length, (rSet s i).2.1, true, oneN ns (rSet s i).1⟩ := by unfold rAtom; rw [if_neg hc, if_neg hok]
      rw [e1]
      have c2 : (!(rSet s i).2.2) = false := by simpa using hok
      have HL : Hid _ := hl
      clear e1 hc hok hg b3 hl
      go_enter Tryz.func98, Tryz.ntmps98
      go_wp2_with (first
        | (go_at_call 62; refine (at_any _ _ _ (by unfold maxLen; omega)).mono ?_; rintro e w' ⟨rfl, hw⟩; rw [hw]; clear hw)
        | (go_at_call 102; refine (readSet_any _ _ _ (by omega) (by omega) (by omega)).mono ?_; rintro e w1 ⟨rfl, hf1⟩; have hz : w.heap.size < w1.heap.size := (by have := hf1.size; simp at this; omega))
        | (go_at_call 103; refine (readOne_any _ bb v ns _ (H.out.fresh (((((Mod.refl _ w).alloc _).trans hf1).alloc _))) (by omega) HL.out).mono ?_; rintro e w2 ⟨rfl, v2, h2⟩; have hb := h2.mod.at (heap_alloc_prev (hf1.at (heap_alloc_at _ _) (fun x => x))) (HN.out _ (by omega)); have k3 := cellOf hb; have k4 := frozenOf hb)
        | (refine wpList_store_new rfl 152 _ _ rfl w1 _ _ _ rfl rfl rfl (szOf _ HL.out) (eq4 rfl (u4 HL.out)) (u64s_one _) ?_)
        | (refine wpList_load_row rfl 152 _ rfl w1.heap.size rfl _ _ _ _ (heap_alloc_at _ _) Tryz.underlying152 rfl (szOf _ HL.out) ?_))
      have hnf := h2.nf (k := w.heap.size) (by simp; omega) (HN.out _ (by simp))
      refine bodyPost_ret (results_row2 rfl _ _ w.heap.size 166 #[.int .i64 (ns.length + 1), .int .i64 ns.length] (0, 0) _ rfl ?_ Tryz.underlying166 rfl szFrag) rfl ⟨rfl, v2, ?_⟩
      · rw [Proofs.YteneagnhihcljaaGreatDoor.heap_setCell_same (Proofs.YteneagnhihcljaaGreatDoor.heap_setCell_same hb 0 _) 1 _]; rfl
      · exact ((h2.ahead ((((Mod.refl _ w).alloc _).trans hf1).alloc _)).put (by simp) hnf _).put (by simp) hnf _
end Go.Proofs.YteneagnhihcljaaGreatDoor
namespace Go.Proofs.YteneagnhihcljaaGreatDoor
open Go.RowKit
set_option linter.unusedVariables false
set_option linter.unusedSimpArgs false

abbrev fragObj (a b : Int) : Obj := .cells #[.int .i64 a, .int .i64 b] 166 (0, 0)

theorem mark_cases {c : Int} (h : isMark c = true) : ((c != 42) = false) ∨ ((c != 42) = true ∧ (c != 43) = false) ∨ ((c != 42) = true ∧ (c != 43) = true ∧ (c != 63) = false) := by
  simp [isMark] at h
  rcases h with (rfl | rfl) | rfl <;> simp
theorem mark_not {c : Int} (h : isMark c = false) : (c != 42) = true ∧ (c != 43) = true ∧ (c != 63) = true := by
  simp [isMark] at h; simp; omega

set_option maxHeartbeats 2000000 in
theorem readPiece_ok (s : ByteArray) (d : Int) (a : Int → List Node → PR) (hs : s.size ≤ 1000) (hd0 : 0 ≤ d) (hd1 : d ≤ 100) (hg : GoodF s a) (ha : Con 98 s d a) :
    Con 93 s d (rPiece a s) := by
  intro i ns w bb v h0 h1 hn h
  have H : Hid _ := h
  have hN := fun k (hk : w.heap.size ≤ k) => h.not_foot hk
  have HN : Hid _ := hN
  have G0 : Hid _ := hg i ns h0 h1
  clear h hN hg
  generalize hR : rPiece a s i ns = R
  have HR : Hid (rPieceL s (s.size + 5) (a i ns) = R) := hR
  clear hR
  go_enter Tryz.func93, Tryz.ntmps93
  go_wp2_with (first
    | (go_at_call 98; refine (ha i ns _ bb v (by omega) (by omega) hn (H.out.fresh ((Mod.refl _ w).alloc _))).mono ?_; rintro e w1 ⟨rfl, v1, h1⟩; have hz : w.heap.size < w1.heap.size := (by have := h1.mod.size; simp at this; omega)))
  have H1 : Hid _ := h1
  clear h1 ha
  go_loopw [12] (fun x wr => ∃ (f : Nat) (r : PR) (vr : Value), x = .int .i64 r.next ∧ (a i ns).ok = r.ok ∧ rPieceL s f r = R ∧ Good s i ns.length r ∧ (s.size : Int) + 5 ≤ f + r.next + (if r.ok then 0 else s.size + 20) ∧
      wr.heap[w.heap.size]? = some (fragObj 0 0) ∧ wr.heap[w1.heap.size]? = some (fragObj r.st r.en) ∧ BNext w wr bb v vr r.ns ∧ ¬ foot bb vr w.heap.size ∧ ¬ foot bb vr w1.heap.size)
      (fun x _ => 3000 - (intOf x).toNat)
  case atStart =>
    refine ⟨s.size + 5, a i ns, v1, rfl, rfl, HR.out, G0.out, by have := G0.out.lo; split <;> omega, heap_alloc_prev (H1.out.mod.at (heap_alloc_at _ _) (HN.out _ (by simp))), heap_alloc_at _ _, (BNext.ahead ((Mod.refl _ w).alloc _) H1.out).alloc _, H1.out.nf (by simp) (HN.out _ (by simp)), ?_⟩
    exact H1.out.at'.not_foot (Nat.le_refl _)
  case round =>
    obtain ⟨f, r, vr, rfl, hok, hR, hG, hfu, hb0, hb1, hB, hn0, hn1⟩ := hrel
    obtain ⟨g1, g2, g3, g4⟩ := hG
    have HB : Hid _ := hB
    have HB0 : Hid _ := hb0
    have HB1 : Hid _ := hb1
    have k1 := cellOf hb1
    clear hB hb0 hb1
    simp only [hok]
    have HOK : Hid _ := hok
    clear hok
    cases hro : r.ok
    · -- no more
      have hRr : r = R := by
        rw [← hR]; cases f with
        | zero => rfl
        | succ f => unfold rPieceL; rw [if_neg (by simp [hro])]
      have k2 := cellOf HB0.out
      have k3 := frozenOf HB0.out
      have HRR : Hid _ := hRr
      clear hR hfu g3 hRr
      go_wp2
      refine bodyPost_ret (results_row2 rfl _ _ w.heap.size 166 #[.int .i64 r.st, .int .i64 r.en] (0, 0) _ rfl ?_ Tryz.underlying166 rfl szFrag) rfl ⟨?_, vr, ?_⟩
      · rw [Proofs.YteneagnhihcljaaGreatDoor.heap_setCell_same (Proofs.YteneagnhihcljaaGreatDoor.heap_setCell_same HB0.out 0 _) 1 _]; rfl
      · rw [← HRR.out]; simp [prRet, frag, hro]
      · rw [← HRR.out]; exact (HB.out.put (p := ⟨w.heap.size, 0, none⟩) (by simp) hn0 _).put (p := ⟨w.heap.size, 1, none⟩) (by simp) hn0 _
    · have hg3 := g3 hro
      obtain ⟨f, rfl⟩ : ∃ g, f = g + 1 := ⟨f - 1, by rw [hro] at hfu; simp at hfu; omega⟩
      unfold rPieceL at hR
      cases hmk : isMark (atB s r.next)
      · rw [if_neg (by simp [hmk])] at hR
        obtain ⟨m1, m2, m3⟩ := mark_not hmk
        have k2 := cellOf HB0.out
        have k3 := frozenOf HB0.out
        have HRR : Hid _ := hR
        clear hR hfu g3 hmk
        go_wp2_with (first
          | (go_at_call 62; refine (at_any _ _ _ (by unfold maxLen; omega)).mono ?_; rintro e w' ⟨rfl, hw⟩; rw [hw]; clear hw))
        refine bodyPost_ret (results_row2 rfl _ _ w.heap.size 166 #[.int .i64 r.st, .int .i64 r.en] (0, 0) _ rfl ?_ Tryz.underlying166 rfl szFrag) rfl ⟨?_, vr, ?_⟩
        · rw [Proofs.YteneagnhihcljaaGreatDoor.heap_setCell_same (Proofs.YteneagnhihcljaaGreatDoor.heap_setCell_same HB0.out 0 _) 1 _]; rfl
        · rw [← HRR.out]; simp [prRet, frag, hro]
        · rw [← HRR.out]; exact (HB.out.put (p := ⟨w.heap.size, 0, none⟩) (by simp) hn0 _).put (p := ⟨w.heap.size, 1, none⟩) (by simp) hn0 _
      · rw [if_pos (by simp [hmk, hro])] at hR
        have hlt := atB_lt (s := s) (i := r.next) (by intro e; rw [e] at hmk; simp [isMark] at hmk)
        have mc := mark_cases hmk
        have HRR : Hid _ := hR
        have HFU : Hid _ := hfu
        clear hR hfu g3 hmk
        rcases mc with m1 | ⟨m1, m2⟩ | ⟨m1, m2, m3⟩
        all_goals
          go_wp2_with (first
            | (go_at_call 62; refine (at_any _ _ _ (by unfold maxLen; omega)).mono ?_; rintro e w' ⟨rfl, hw⟩; rw [hw]; clear hw)
            | (go_at_call 99; refine (repeat_any _ bb vr r.ns _ _ _ HB.out.at' (by omega)).mono ?_; rintro e w2 ⟨rfl, v2, h2⟩; have k2 := cellOf (h2.mod.at HB1.out hn1); have k3 := frozenOf (h2.mod.at HB1.out hn1)))
          go_roundw
          case rel =>
            have q1 := heap_lt HB1.out
            have q0 := heap_lt HB0.out
            have n1 := h2.nf (k := w1.heap.size) q1 hn1
            have n0 := h2.nf (k := w.heap.size) q0 hn0
            refine ⟨f, ⟨r.ns.length, r.ns.length + 1, r.next + 1, true, repeatN r.ns r.st r.en (atB s r.next)⟩, v2, rfl, rfl, HRR.out, ⟨by dsimp only; omega, by dsimp only; omega, fun _ => by dsimp only; omega, by dsimp only; rw [repeatN_len]; omega⟩, by have := HFU.out; simp [hro] at this; simp; omega, ?_, ?_, ?_, n0, n1⟩
            · exact heap_setCell_prev (heap_setCell_prev (h2.mod.at HB0.out hn0) (by simp; omega)) (by simp; omega)
            · rw [Proofs.YteneagnhihcljaaGreatDoor.heap_setCell_same (Proofs.YteneagnhihcljaaGreatDoor.heap_setCell_same (h2.mod.at HB1.out hn1) 0 _) 1 _]; rfl
            · exact ((HB.out.trans h2).put (p := ⟨w1.heap.size, 0, none⟩) (by simp; omega) n1 _).put (p := ⟨w1.heap.size, 1, none⟩) (by simp; omega) n1 _
          case measure => simp [intOf]; omega
end Go.Proofs.YteneagnhihcljaaGreatDoor
