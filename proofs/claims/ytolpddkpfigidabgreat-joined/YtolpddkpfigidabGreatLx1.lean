import Derived.Test.YtolpddkpfigidabGreatCk6
namespace Go.Proofs.YtolpddkpfigidabGreat
open Go.RowKit
set_option linter.unusedVariables false
set_option linter.unusedSimpArgs false

theorem runL_bd (ns : List Node) (en : Int) (s : ByteArray) : ∀ (f i : Nat) (l : List Nat) (best : Int), -1 ≤ best → best ≤ s.size → -1 ≤ runL ns en s f i l best ∧ runL ns en s f i l best ≤ s.size
  | 0, _, _, best, h1, h2 => ⟨h1, h2⟩
  | f + 1, i, l, best, h1, h2 => by
    unfold runL; split
    · refine runL_bd ns en s f _ _ _ ?_ ?_ <;> split <;> omega
    · exact ⟨h1, h2⟩
theorem longF_bd (ns : List Node) (st en : Int) (s : ByteArray) (i : Nat) : -1 ≤ longF ns st en s i ∧ longF ns st en s i ≤ s.size := runL_bd ns en s _ _ _ _ (by omega) (by omega)

def rulesOf (s : ByteArray) : List Ln := (rLines s).1.filter ruleB
def errF (s t : ByteArray) : Int := if 200 < t.size then 1 else (checkF s).1
def RulesRet (s t : ByteArray) (w : World) (e : Ending) (w' : World) : Prop :=
  ∃ v xs, e = .returned (.tuple #[v, .int .i64 (errF s t)]) ∧ Fresh w w' ∧ LinesAt w' v xs ∧ xs.length ≤ 1000 ∧ (errF s t = 0 → xs.map LV.ln = rulesOf s)
theorem filter_ln (xs : List LV) : (xs.filter fun x => ruleB x.ln).map LV.ln = (xs.map LV.ln).filter ruleB := by
  induction xs with
  | nil => rfl
  | cons x xs ih => cases h : ruleB x.ln <;> simp [h, ih]

set_option maxRecDepth 20000 in
set_option maxHeartbeats 4000000 in
theorem readRules_any (s t : ByteArray) (w : World) (hs : s.size ≤ maxLen) (ht : t.size ≤ maxLen) :
    Calls Tryz.prog 29 #[.string s, .string t] w fun e w' => RulesRet s t w e w' := by
  have SC := hid (fun w => sheetCheck_any s w hs)
  unfold maxLen at hs ht
  by_cases hl : 200 < t.size
  · have he : Hid (errF s t = 1) := by unfold Hid errF; rw [if_pos hl]
    go_enter Tryz.func29, Tryz.ntmps29
    go_wp2
    go_ret2
    exact ⟨_, [], by rw [he.out]; rfl, Mod.refl _ _, nilLines _, by simp, fun h => by rw [he.out] at h; cases h⟩
  · have he : Hid (errF s t = (checkF s).1) := by unfold Hid errF; rw [if_neg hl]
    by_cases h0 : (checkF s).1 = 0
    · have H0 := hid h0
      have hle := (rLines_ok s).1
      have hok := (rLines_ok s).2
      have hsz : s.size ≤ 800 := by
        by_cases h8 : 800 < s.size
        · have := checkF_eq s; rw [if_pos h8] at this; rw [this] at h0; cases h0
        · omega
      have KEY : Hid (∀ xs : List LV, xs.map LV.ln = (rLines s).1 → xs.length ≤ 1000 ∧ (∀ x ∈ xs, FB x)) := by
        intro xs hx
        have h1 : xs.length = (rLines s).1.length := by rw [← hx]; simp
        refine ⟨by omega, ?_⟩
        intro x hxx; exact (hok x.ln (by rw [← hx]; exact List.mem_map.2 ⟨x, hxx, rfl⟩)).fb
      clear hle hok h0
      go_enter Tryz.func29, Tryz.ntmps29
      go_wp2_with (first
        | (go_at_call 23; refine (SC.out _).mono ?_; rintro e w1 ⟨v, rfl, hf1, xs, hL, hxs⟩; rw [H0.out]; have HX := hid hxs; clear hxs; have HL := hid hL; clear hL)
        | (go_at_call 25; refine (rules_any _ v xs HL.out (KEY.out xs (HX.out.elim (fun h => absurd H0.out h.1) (fun h => h.2))).1 (KEY.out xs (HX.out.elim (fun h => absurd H0.out h.1) (fun h => h.2))).2).mono ?_; rintro e w2 ⟨v', rfl, hL2, hf2⟩))
      go_ret2
      have hx : xs.map LV.ln = (rLines s).1 := HX.out.elim (fun h => absurd H0.out h.1) (fun h => h.2)
      refine ⟨v', xs.filter fun x => ruleB x.ln, by rw [he.out, H0.out]; rfl, hf1.trans hf2, hL2, ?_, ?_⟩
      · have := (KEY.out xs hx).1; have := List.length_filter_le (fun x : LV => ruleB x.ln) xs; omega
      · intro _; rw [filter_ln, hx]; rfl
    · have c0 : ((checkF s).1 != 0) = true := by simpa using h0
      have H0 := hid h0
      clear h0
      go_enter Tryz.func29, Tryz.ntmps29
      go_wp2_with (first
        | (go_at_call 23; refine (SC.out _).mono ?_; rintro e w1 ⟨v, rfl, hf1, _⟩))
      go_ret2
      exact ⟨_, [], by rw [he.out]; rfl, hf1, nilLines _, by simp, fun h => by rw [he.out] at h; exact absurd h H0.out⟩

theorem LinesAt.patRange {w : World} {g n cap : Nat} {xs : List LV} (h : LinesAt w (.slice (some ⟨g, 0, none⟩) n cap) xs) (i : Nat) (hi : i < xs.length) : w.rangeAt g (i * 14 + 10) [xs[i].vn, .int .i64 xs[i].ln.st, .int .i64 xs[i].ln.en] := by
  intro j v hj
  obtain ⟨k10, k11, k12⟩ := LV.at10 (h.each xs[i] (by simp)).front
  have hlt : j < 3 := by have := (List.getElem?_eq_some_iff.1 hj).1; simpa using this
  have e : i * 14 + 10 + j = i * 14 + (10 + j) := by omega
  rw [e, h.cells14 i (10 + j) hi (by omega)]
  simp only [List.getElem?_toArray] at k10 k11 k12
  rcases j with _ | _ | _ | j
  · rw [k10]; simpa using hj
  · rw [k11]; simpa using hj
  · rw [k12]; simpa using hj
  · omega

def ruleMatch (x : Ln) (t : ByteArray) : Bool := longF x.ns x.st x.en t 0 == (t.size : Int)
/-- whether it matches, and the error -/
def matchF (s : ByteArray) (r : Int) (t : ByteArray) : Bool × Int :=
  if errF s t ≠ 0 then (false, errF s t)
  else if r < 0 then (false, 7)
  else match (rulesOf s)[r.toNat]? with
    | some x => (ruleMatch x t, 0)
    | none => (false, 7)

end Go.Proofs.YtolpddkpfigidabGreat
namespace Go.Proofs.YtolpddkpfigidabGreat
open Go.RowKit
set_option linter.unusedVariables false
set_option linter.unusedSimpArgs false

def bestL (lns : List Ln) (t : ByteArray) (i : Nat) : Nat → Nat → Int × Int → Int × Int
  | 0, _, b => b
  | f + 1, k, b => match lns[k]? with
    | some x => bestL lns t i f (k + 1) (if b.2 < longF x.ns x.st x.en t i then ((k : Int), longF x.ns x.st x.en t i) else b)
    | none => b
def bestF (lns : List Ln) (t : ByteArray) (i : Nat) : Int × Int := bestL lns t i (lns.length + 1) 0 (0, i)
abbrev tokArr (r a b : Int) : Array Value := #[.int .i64 r, .int .i64 a, .int .i64 b]
theorem szTok : (Tryz.prog.info? 53).map (·.size) = some 3 := by kernel_rfl

set_option maxRecDepth 20000 in
set_option maxHeartbeats 4000000 in
theorem lexLongest_any (w : World) (v : Value) (xs : List LV) (t : ByteArray) (i : Nat) (hL : LinesAt w v xs) (hn : xs.length ≤ 1000) (ht : t.size ≤ 200) (hi : i ≤ 200) :
    Calls Tryz.prog 46 #[v, .string t, .int .i64 i] w fun e w' => e = .returned (.agg (tokArr (bestF (xs.map LV.ln) t i).1 i (bestF (xs.map LV.ln) t i).2)) ∧ Fresh w w' := by
  obtain ⟨ao, cap, hv⟩ := own_form hL.own
  subst hv
  have HL := hid hL
  generalize hR : bestF (xs.map LV.ln) t i = R
  have HR : Hid (bestL (xs.map LV.ln) t i ((xs.map LV.ln).length + 1) 0 (0, i) = R) := hR
  clear hL hR
  go_enter Tryz.func46, Tryz.ntmps46
  go_wp2
  go_loopw [15] (fun x15 wr => ∃ (f k : Nat) (b : Int × Int), x15 = .int .i64 k ∧ bestL (xs.map LV.ln) t i f k b = R ∧ xs.length + 1 ≤ f + k ∧ k ≤ xs.length ∧ Fresh w wr ∧
      wr.heap[w.heap.size]? = some (.cells (tokArr 0 0 0) 53 (0, 0)) ∧ ∃ fr : Int, wr.heap[w.heap.size + 1]? = some (.cells (tokArr b.1 i b.2) 53 (0, 0)))
      (fun x _ => 1001 - (intOf x).toNat)
  case atStart => exact ⟨_, 0, (0, i), rfl, HR.out, by simp, by omega, ((Mod.refl _ w).alloc _).alloc _, heap_alloc2_old _ _ _, 0, heap_alloc2_new _ _ _⟩
  case round =>
    obtain ⟨f, k, b, rfl, hR, hfu, hk, hfr, hb0, _, hb1⟩ := hrel
    obtain ⟨f, rfl⟩ : ∃ g, f = g + 1 := ⟨f - 1, by omega⟩
    unfold bestL at hR
    have HME := hid (meas (B := 1001) k (by omega))
    have HB0 := hid hb0
    have HB1 := hid hb1
    clear hb0 hb1
    by_cases hlt : k < xs.length
    · have hlt' : k < (xs.map LV.ln).length := by simpa using hlt
      rw [List.getElem?_eq_getElem hlt'] at hR
      simp only [List.getElem_map] at hR
      obtain ⟨g, cap', hv'⟩ := Joins.ownsRow_form HL.out.own (by omega)
      rw [Value.slice.injEq] at hv'
      obtain ⟨rfl, _, rfl⟩ := hv'
      have HL1 := hid (HL.out.fresh hfr)
      have RG := hid (HL1.out.patRange k hlt)
      have hA := HL1.out.each xs[k] (by simp)
      have LG := hid (longest_any wr xs[k].vn xs[k].ln.st xs[k].ln.en xs[k].ln.ns t i hA.nodes (by have := hA.small; omega) (by omega) (by omega))
      have hbd := longF_bd xs[k].ln.ns xs[k].ln.st xs[k].ln.en t i
      generalize longF xs[k].ln.ns xs[k].ln.st xs[k].ln.en t i = lg at hR LG hbd
      obtain ⟨hbd1, hbd2⟩ := hbd
      clear hA
      by_cases hgt : b.2 < lg
      · rw [if_pos hgt] at hR
        have HRR := hid hR
        clear hR
        go_wp2_with (first
          | (refine wpList_load_mid rfl 107 _ rfl g (k * 14 + 10) rfl [xs[k].vn, .int .i64 xs[k].ln.st, .int .i64 xs[k].ln.en] _ RG.out Tryz.underlying107 rfl szPat ?_)
          | (go_at_call 64; refine LG.out.mono ?_; rintro e w2 ⟨rfl, hf2⟩; have k1 := cellOf (hf2.at HB1.out (fun x => x)); have k2 := frozenOf (hf2.at HB1.out (fun x => x))))
        go_roundw
        case rel =>
          refine ⟨f, k + 1, (k, lg), by go_num, HRR.out, by omega, by omega, (((hfr.trans hf2).setCell (by simp) _).setCell (by simp) _).setCell (by simp) _, ?_, 0, ?_⟩
          · exact heap_setCell_prev (heap_setCell_prev (heap_setCell_prev (hf2.at HB0.out (fun x => x)) (by simp)) (by simp)) (by simp)
          · rw [Proofs.YtolpddkpfigidabGreat.heap_setCell_same (Proofs.YtolpddkpfigidabGreat.heap_setCell_same (Proofs.YtolpddkpfigidabGreat.heap_setCell_same (hf2.at HB1.out (fun x => x)) _ _) _ _) _ _]; rfl
        case measure => exact HME.out
      · rw [if_neg hgt] at hR
        have HRR := hid hR
        clear hR
        go_wp2_with (first
          | (refine wpList_load_mid rfl 107 _ rfl g (k * 14 + 10) rfl [xs[k].vn, .int .i64 xs[k].ln.st, .int .i64 xs[k].ln.en] _ RG.out Tryz.underlying107 rfl szPat ?_)
          | (go_at_call 64; refine LG.out.mono ?_; rintro e w2 ⟨rfl, hf2⟩; have k1 := cellOf (hf2.at HB1.out (fun x => x))))
        go_roundw
        case rel => exact ⟨f, k + 1, b, by go_num, HRR.out, by omega, by omega, hfr.trans hf2, hf2.at HB0.out (fun x => x), 0, hf2.at HB1.out (fun x => x)⟩
        case measure => exact HME.out
    · rw [List.getElem?_eq_none (by simp; omega)] at hR
      simp only [] at hR
      have HRR := hid hR
      clear hR
      have k1 := cellOf HB1.out
      have k3 := cellOf HB0.out
      have k4 := frozenOf HB0.out
      go_wp2
      refine bodyPost_ret (results_cell_row rfl _ _ w.heap.size 53 (tokArr b.1 i b.2) (0, 0) _ rfl ?_ Tryz.underlying53 rfl szTok) rfl ⟨by rw [← HRR.out], ((hfr.setCell (by simp) _).setCell (by simp) _).setCell (by simp) _⟩
      rw [Proofs.YtolpddkpfigidabGreat.heap_setCell_same (Proofs.YtolpddkpfigidabGreat.heap_setCell_same (Proofs.YtolpddkpfigidabGreat.heap_setCell_same HB0.out _ _) _ _) _ _]; rfl

def skipB (lns : List Ln) (r : Int) : Bool := if r < 0 then false else match lns[r.toNat]? with | some x => x.skip | none => false
set_option maxRecDepth 20000 in
set_option maxHeartbeats 4000000 in
theorem isSkipped_any (w : World) (v : Value) (xs : List LV) (r : Nat) (hL : LinesAt w v xs) (hn : xs.length ≤ 1000) :
    Calls Tryz.prog 47 #[v, .int .i64 r] w fun e w' => e = .returned (.bool (skipB (xs.map LV.ln) r)) ∧ w' = w := by
  by_cases hlt : r < xs.length
  · obtain ⟨g, cap, hv⟩ := Joins.ownsRow_form hL.own (by omega)
    subst hv
    have c9 := hL.cell9 r hlt
    have e1 : skipB (xs.map LV.ln) r = xs[r].ln.skip := by unfold skipB; rw [if_neg (by omega)]; simp [hlt]
    rw [e1]
    clear hL e1
    go_enter Tryz.func47, Tryz.ntmps47
    go_wp2
    go_ret
    exact ⟨rfl, rfl⟩
  · obtain ⟨ao, cap, hv⟩ := own_form hL.own
    subst hv
    have e1 : skipB (xs.map LV.ln) r = false := by unfold skipB; rw [if_neg (by omega)]; simp [hlt]
    rw [e1]
    clear hL e1
    go_enter Tryz.func47, Tryz.ntmps47
    go_wp2
    go_ret
    exact ⟨rfl, rfl⟩
end Go.Proofs.YtolpddkpfigidabGreat
namespace Go.Proofs.YtolpddkpfigidabGreat
open Go.RowKit
set_option linter.unusedVariables false
set_option linter.unusedSimpArgs false

theorem bestL_bd (lns : List Ln) (t : ByteArray) (i : Nat) : ∀ (f k : Nat) (b : Int × Int), 0 ≤ b.1 → (i : Int) ≤ b.2 → (b.2 ≤ i ∨ b.2 ≤ t.size) → 0 ≤ (bestL lns t i f k b).1 ∧ (i : Int) ≤ (bestL lns t i f k b).2 ∧ ((bestL lns t i f k b).2 ≤ i ∨ (bestL lns t i f k b).2 ≤ t.size)
  | 0, _, b, h1, h2, h3 => ⟨h1, h2, h3⟩
  | f + 1, k, b, h1, h2, h3 => by
    unfold bestL; split
    · rename_i x hx
      have := longF_bd x.ns x.st x.en t i
      refine bestL_bd lns t i f (k + 1) _ ?_ ?_ ?_ <;> split <;> (try dsimp only) <;> omega
    · exact ⟨h1, h2, h3⟩
theorem bestF_bd (lns : List Ln) (t : ByteArray) (i : Nat) : 0 ≤ (bestF lns t i).1 ∧ (i : Int) ≤ (bestF lns t i).2 ∧ ((bestF lns t i).2 ≤ i ∨ (bestF lns t i).2 ≤ t.size) := bestL_bd lns t i _ _ _ (by simp) (by simp) (by simp)

structure Tk where
  r : Int
  a : Int
  b : Int
def Tk.cells (x : Tk) : List Value := [.int .i64 x.r, .int .i64 x.a, .int .i64 x.b]
def cutL (lns : List Ln) (t : ByteArray) : Nat → Nat → List Tk → List Tk × Int × Int
  | 0, _, _ => ([], 9, 0)
  | f + 1, i, toks =>
    if i < t.size then
      if (bestF lns t i).2 ≤ i then ([], 9, i)
      else cutL lns t f (bestF lns t i).2.toNat (if skipB lns (bestF lns t i).1 then toks else toks ++ [⟨(bestF lns t i).1, i, (bestF lns t i).2⟩])
    else (toks, 0, 0)
def cutF (lns : List Ln) (t : ByteArray) : List Tk × Int × Int := cutL lns t (t.size + 1) 0 []
abbrev ToksAt := RowAt Tk.cells 3 53

theorem infoTok : (Tryz.prog.info? 53).map (fun i => (i.zero, i.size, i.bytes)) = some (some (.agg (tokArr 0 0 0)), 3, 24) := by kernel_rfl
theorem infoTok' : ∃ i, Tryz.prog.info? 53 = some i ∧ i.zero = some (.agg (tokArr 0 0 0)) ∧ i.size = 3 ∧ i.bytes = 24 := by
  have h := infoTok
  cases hq : Tryz.prog.info? 53 with
  | none => simp [hq] at h
  | some i => simp [hq] at h; exact ⟨i, rfl, h.1, h.2.1, h.2.2⟩

set_option maxRecDepth 20000 in
set_option maxHeartbeats 4000000 in
theorem cut_any (w : World) (v : Value) (xs : List LV) (t : ByteArray) (hL : LinesAt w v xs) (hn : xs.length ≤ 1000) (ht : t.size ≤ 200) :
    Calls Tryz.prog 26 #[v, .string t] w fun e w' => ∃ v', e = .returned (.tuple #[v', .int .i64 (cutF (xs.map LV.ln) t).2.1, .int .i64 (cutF (xs.map LV.ln) t).2.2]) ∧ Fresh w w' ∧ ToksAt w' v' (cutF (xs.map LV.ln) t).1 := by
  obtain ⟨ao, cap, hv⟩ := own_form hL.own
  subst hv
  have HL := hid hL
  obtain ⟨i0, hi0, hz0, hz1, hz2⟩ := infoTok'
  generalize hR : cutF (xs.map LV.ln) t = R
  have HR : Hid (cutL (xs.map LV.ln) t (t.size + 1) 0 [] = R) := hR
  clear hL hR
  go_enter Tryz.func26, Tryz.ntmps26
  go_wp2
  go_loopw [7, 8] (fun x7 x8 wr => ∃ (f i : Nat) (ts : List Tk), x8 = .int .i64 i ∧ cutL (xs.map LV.ln) t f i ts = R ∧ t.size + 1 ≤ f + i ∧ i ≤ t.size ∧ ts.length ≤ i ∧ wr.ownsRow w.heap.size 53 3 x7 ts.length (flatC Tk.cells ts) ∧ Fresh w wr)
      (fun _ x _ => 201 - (intOf x).toNat)
  case atStart => exact ⟨_, 0, [], rfl, HR.out, by omega, by omega, by simp, World.ownsRow_nil _ _ _ _, Mod.refl _ _⟩
  case round =>
    obtain ⟨f, i, ts, rfl, hR, hfu, hi, hts, hown, hfr⟩ := hrel
    obtain ⟨f, rfl⟩ : ∃ g, f = g + 1 := ⟨f - 1, by omega⟩
    unfold cutL at hR
    have HO := hid hown
    have HOB := hid hown.lt
    obtain ⟨ro, rc, hro⟩ := own_form hown
    clear hown
    subst hro
    by_cases hlt : i < t.size
    · rw [if_pos hlt] at hR
      obtain ⟨b1, b2, b3⟩ := bestF_bd (xs.map LV.ln) t i
      have HL1 := hid (HL.out.fresh hfr)
      have LG := hid (lexLongest_any wr _ xs t i HL1.out hn ht (by omega))
      generalize bestF (xs.map LV.ln) t i = bf at hR LG b1 b2 b3
      obtain ⟨br, bt⟩ := bf
      dsimp only at hR LG b1 b2 b3
      obtain ⟨r, rfl⟩ : ∃ r : Nat, br = r := ⟨br.toNat, by omega⟩
      obtain ⟨to, rfl⟩ : ∃ r : Nat, bt = r := ⟨bt.toNat, by omega⟩
      by_cases hle : (to : Int) ≤ i
      · rw [if_pos hle] at hR
        have HRR := hid hR
        clear hR
        go_wp2_with (first
          | (go_at_call 46; refine LG.out.mono ?_; rintro e w2 ⟨rfl, hf2⟩))
        go_ret3
        exact ⟨.slice none 0 0, by rw [← HRR.out]; rfl, (hfr.trans hf2).alloc _, by rw [← HRR.out]; exact RowAt.nil _ _ _ _⟩
      · rw [if_neg hle] at hR
        simp only [Int.toNat_natCast] at hR
        have HME : Hid (201 - (intOf (.int .i64 (to : Int))).toNat < 201 - (intOf (.int .i64 (i : Int))).toNat) := by unfold Hid; simp [intOf]; omega
        have hto : to ≤ t.size := by omega
        have hit : i < to := by omega
        have hle' : (i : Int) < to := by omega
        have SKP := hid (fun w hL => isSkipped_any w (.slice ao xs.length cap) xs r hL hn)
        clear b3 hle
        cases hsk : skipB (xs.map LV.ln) r
        · rw [hsk] at hR
          simp only [Bool.false_eq_true, if_false] at hR
          rw [hsk] at SKP
          have HRR := hid hR
          clear hR
          go_wp2_with (first
            | (go_at_call 46; refine LG.out.mono ?_; rintro e w2 ⟨rfl, hf2⟩; have HL2 := hid ((HL1.out.fresh hf2).fresh ((Mod.refl _ w2).alloc (.cells (tokArr r i to) 53 (0, 0)))); have hz : wr.heap.size ≤ w2.heap.size := hf2.size; have HO1 := hid (ownsRow_other HO.out (fun g hg => hf2.block g (HOB.out g hg).2 (fun x => x))))
            | (go_at_call 47; refine (SKP.out _ HL2.out).mono ?_; rintro e w' ⟨rfl, hw⟩; rw [hw]; clear hw)
            | (at_builtin; refine wpList_append_mine _ rfl _ _ 42 rfl w.heap.size 53 i0 _ 3 24 Tryz.underlying42 hi0 hz0 hz1 hz2 rfl (by decide) _ _ _ rfl ((HO1.out.alloc _).alloc _) ⟨w2.heap.size + 1, 0, none⟩ 1 1 (Tk.cells ⟨r, i, to⟩) rfl rfl ?c1 ?c2 ?c3 ?c4 ?c5 ?_))
          case c1 => exact new_cells2 rfl
          case c2 => intro u hu; simp [Tk.cells] at hu; rcases hu with rfl | rfl | rfl <;> rfl
          case c3 => unfold maxLen; omega
          case c4 => omega
          case c5 => have := hfr.size; simp; omega
          intro v' w3 hown3 hgrow hblk
          have fr3 : Fresh w w3 := Mod.grown (S := fun _ => False) (((hfr.trans hf2).alloc _).alloc _) hgrow (fun k hk hlt => by have := (HOB.out k hk).1; omega)
          have q1 : w3.heap[w2.heap.size]? = some (.cells (tokArr r i to) 53 (0, 0)) := by
            rw [hgrow.block _ (by simp; omega) (fun e => by have := (HOB.out _ e.symm).2; omega)]
            exact heap_alloc_prev (heap_alloc_at _ _)
          have k5 := cellOf q1
          have HO3 := hid hown3
          clear hown3 hgrow hblk q1
          go_wp2
          go_roundw
          case rel =>
            refine ⟨f, to, ts ++ [⟨r, i, to⟩], rfl, HRR.out, by omega, by omega, by simp; omega, ?_, fr3⟩
            rw [flat_snoc, List.length_append, List.length_singleton]; exact HO3.out
          case measure => exact HME.out
        · rw [hsk] at hR
          simp only [if_true] at hR
          rw [hsk] at SKP
          have HRR := hid hR
          clear hR
          go_wp2_with (first
            | (go_at_call 46; refine LG.out.mono ?_; rintro e w2 ⟨rfl, hf2⟩; have HL2 := hid ((HL1.out.fresh hf2).fresh ((Mod.refl _ w2).alloc (.cells (tokArr r i to) 53 (0, 0)))); have hz : wr.heap.size ≤ w2.heap.size := hf2.size; have HO1 := hid (ownsRow_other HO.out (fun g hg => hf2.block g (HOB.out g hg).2 (fun x => x))))
            | (go_at_call 47; refine (SKP.out _ HL2.out).mono ?_; rintro e w' ⟨rfl, hw⟩; rw [hw]; clear hw))
          go_roundw
          case rel => exact ⟨f, to, ts, rfl, HRR.out, by omega, by omega, by omega, HO1.out.alloc _, (hfr.trans hf2).alloc _⟩
          case measure => exact HME.out
    · rw [if_neg hlt] at hR
      have HRR := hid hR
      clear hR
      go_wp2
      go_ret3
      refine ⟨_, by rw [← HRR.out]; rfl, hfr, ?_⟩
      rw [← HRR.out]
      exact ⟨ownsRow_base HO.out (Nat.zero_le _), fun x _ => rfl⟩

/-- the tokens, the error, the place -/
def lexF (s t : ByteArray) : List Tk × Int × Int := if errF s t ≠ 0 then ([], errF s t, 0) else cutF (rulesOf s) t
set_option maxRecDepth 20000 in
set_option maxHeartbeats 4000000 in
theorem lex_any (s t : ByteArray) (w : World) (hs : s.size ≤ maxLen) (ht : t.size ≤ maxLen) :
    Calls Tryz.prog 11 #[.string s, .string t] w fun e w' => ∃ v', e = .returned (.tuple #[v', .int .i64 (lexF s t).2.1, .int .i64 (lexF s t).2.2]) ∧ Fresh w w' ∧ ToksAt w' v' (lexF s t).1 := by
  have RR := hid (fun w => readRules_any s t w hs ht)
  unfold maxLen at hs ht
  generalize hM : lexF s t = M
  unfold lexF at hM
  by_cases h0 : errF s t = 0
  · rw [if_neg (by simp [h0])] at hM
    have H0 := hid h0
    have ht2 : t.size ≤ 200 := by
      by_cases h : 200 < t.size
      · unfold errF at h0; rw [if_pos h] at h0; cases h0
      · omega
    have HM := hid hM
    clear h0 hM
    go_enter Tryz.func11, Tryz.ntmps11
    go_wp2_with (first
      | (go_at_call 29; refine (RR.out _).mono ?_; rintro e w1 ⟨v, xs, rfl, hf1, hL, hx1, hx2⟩; rw [H0.out]; have HX := hid (hx2 H0.out); have HL := hid hL; clear hL hx2)
      | (go_at_call 26; refine (cut_any _ v xs t HL.out hx1 ht2).mono ?_; rw [HX.out, HM.out]; rintro e w2 ⟨v', rfl, hf2, hT⟩))
    go_ret3
    exact ⟨v', rfl, hf1.trans hf2, hT⟩
  · rw [if_pos h0] at hM
    have HM := hid hM
    have c0 : (errF s t != 0) = true := by simpa using h0
    clear hM h0
    go_enter Tryz.func11, Tryz.ntmps11
    go_wp2_with (first
      | (go_at_call 29; refine (RR.out _).mono ?_; rintro e w1 ⟨v, xs, rfl, hf1, hL, hx1, hx2⟩; have HX := hid hx2; clear hL hx2))
    go_ret3
    exact ⟨_, by rw [← HM.out]; rfl, hf1, by rw [← HM.out]; exact RowAt.nil _ _ _ _⟩
end Go.Proofs.YtolpddkpfigidabGreat
