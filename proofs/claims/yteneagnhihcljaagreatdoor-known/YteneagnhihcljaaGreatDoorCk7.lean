import Derived.Test.YteneagnhihcljaaGreatDoorCk4
namespace Go.Proofs.YteneagnhihcljaaGreatDoor
open Go.RowKit
set_option linter.unusedVariables false
set_option linter.unusedSimpArgs false

/-- What a line that was read is like. -/
structure LnOk (s : ByteArray) (x : Ln) : Prop where
  fb : 0 ≤ x.front.ls.getD 0 0 ∧ x.front.ls.getD 0 0 ≤ 255
  sb : (x.syms.length : Int) ≤ s.size
theorem zeroLn_ok (s : ByteArray) : LnOk s zeroLn := ⟨by simp [zeroLn, zero8], by simp [zeroLn]⟩
theorem rProdL_ok (s : ByteArray) (d : Wd) (hd : 0 ≤ d.ls.getD 0 0 ∧ d.ls.getD 0 0 ≤ 255) : ∀ (f : Nat) (next : Int) (syms : List Wd), 0 ≤ next → next ≤ s.size → (syms.length : Int) ≤ next → LnOk s (rProdL s d f next syms).1
  | 0, _, _, _, _, _ => zeroLn_ok s
  | f + 1, next, syms, h0, h1, h2 => by
    obtain ⟨b1, b2, b3⟩ := rWord_bd s (next + 1) (by omega)
    unfold rProdL
    split
    · split
      · exact zeroLn_ok s
      · rename_i h3
        have b4 := b3 (by simpa using h3)
        exact rProdL_ok s d hd f _ _ (by omega) (by omega) (by simp; omega)
    · split
      · exact zeroLn_ok s
      · exact ⟨hd, by dsimp only; omega⟩
theorem rLine_ok (s : ByteArray) (i : Int) (h0 : 0 ≤ i) (h1 : i ≤ s.size) : LnOk s (rLine s i).1 := by
  obtain ⟨b1, b2, b3⟩ := rWord_bd s i h0
  have hz := rWord_zero s i
  unfold rLine; split
  · exact zeroLn_ok s
  · rename_i h3
    have b4 := b3 (by simpa using h3)
    split
    · unfold rProd; split
      · exact zeroLn_ok s
      · have := atB_lt (s := s) (i := (rWord s i).2.1) (by omega)
        exact rProdL_ok s _ hz _ _ _ (by omega) (by omega) (by simp; omega)
    · unfold rRule; split
      · exact zeroLn_ok s
      · split
        · exact zeroLn_ok s
        · split
          · exact zeroLn_ok s
          · exact ⟨hz, by simp⟩
theorem rLinesL_ok (s : ByteArray) : ∀ (f : Nat) (i : Int) (acc : List Ln), 0 ≤ i → i ≤ s.size → (acc.length : Int) ≤ i → (∀ x ∈ acc, LnOk s x) → ((rLinesL s f i acc).1.length : Int) ≤ s.size ∧ ∀ x ∈ (rLinesL s f i acc).1, LnOk s x
  | 0, i, acc, h0, h1, h2, h3 => by simp [rLinesL]
  | f + 1, i, acc, h0, h1, h2, h3 => by
    obtain ⟨b1, b2, b3⟩ := rLine_bd s i h0 h1
    unfold rLinesL
    split
    · split
      · simp
      · rename_i h5
        have b4 := b3 (by simpa using h5)
        refine rLinesL_ok s f _ _ (by omega) (by omega) (by simp; omega) ?_
        intro x hx; rcases List.mem_append.1 hx with h | h
        · exact h3 x h
        · simp at h; subst h; exact rLine_ok s i h0 h1
    · exact ⟨by dsimp only; omega, h3⟩
theorem rLines_ok (s : ByteArray) : ((rLines s).1.length : Int) ≤ s.size ∧ ∀ x ∈ (rLines s).1, LnOk s x := rLinesL_ok s _ 0 [] (by omega) (by omega) (by simp) (by simp)

/-- the error and its place -/
def checkF (s : ByteArray) : Int × Int :=
  if 800 < s.size then (1, 0)
  else if (rLines s).2.2 = false then (2, (rLines s).2.1)
  else if tooMany (rLines s).1 ≠ -1 then (3, tooMany (rLines s).1)
  else if wrongName (rLines s).1 ≠ -1 then (4, wrongName (rLines s).1)
  else if emptyF (rLines s).1 ≠ -1 then (5, emptyF (rLines s).1)
  else if hasProd (rLines s).1 = false then (6, s.size)
  else (0, 0)
theorem checkF_eq (s : ByteArray) : checkF s = (if 800 < s.size then (1, 0)
  else if (rLines s).2.2 = false then (2, (rLines s).2.1)
  else if tooMany (rLines s).1 ≠ -1 then (3, tooMany (rLines s).1)
  else if wrongName (rLines s).1 ≠ -1 then (4, wrongName (rLines s).1)
  else if emptyF (rLines s).1 ≠ -1 then (5, emptyF (rLines s).1)
  else if hasProd (rLines s).1 = false then (6, s.size)
  else (0, 0)) := rfl
def CheckRet (s : ByteArray) (w : World) (e : Ending) (w' : World) : Prop :=
  ∃ v, e = .returned (.tuple #[v, .int .i64 (checkF s).1, .int .i64 (checkF s).2]) ∧ Fresh w w' ∧ (∃ xs, LinesAt w' v xs ∧ ((checkF s).1 ≠ 0 ∧ xs = [] ∧ v = .slice none 0 0 ∨ (checkF s).1 = 0 ∧ xs.map LV.ln = (rLines s).1))
theorem nilLines (w : World) : LinesAt w (.slice none 0 0) [] := ⟨World.ownsRow_nil _ _ _ _, fun _ h => by cases h⟩
theorem checkRet_bad {s : ByteArray} {w w' : World} {e : Ending} {a b : Int} (h : checkF s = (a, b)) (ha : a ≠ 0) (he : e = .returned (.tuple #[.slice none 0 0, .int .i64 a, .int .i64 b])) (hf : Fresh w w') : CheckRet s w e w' :=
  ⟨_, by rw [h]; exact he, hf, [], nilLines _, .inl ⟨by rw [h]; exact ha, rfl, rfl⟩⟩

set_option maxRecDepth 20000 in
set_option maxHeartbeats 8000000 in
theorem check_long (s : ByteArray) (w : World) (hs : s.size ≤ maxLen) (hl : 800 < s.size) :
    Calls Tryz.prog 8 #[.string s] w fun e w' => CheckRet s w e w' := by
  have hc : checkF s = (1, 0) := by unfold checkF; rw [if_pos hl]
  have HC := hid hc
  unfold maxLen at hs
  clear hc
  go_enter Tryz.func8, Tryz.ntmps8
  go_wp2
  go_ret3
  exact checkRet_bad HC.out (by decide) rfl (Mod.refl _ _)

set_option maxRecDepth 20000 in
set_option maxHeartbeats 8000000 in
theorem check_short (s : ByteArray) (w : World) (hl : ¬ 800 < s.size) :
    Calls Tryz.prog 8 #[.string s] w fun e w' => CheckRet s w e w' := by
  obtain ⟨hlen, hok⟩ := rLines_ok s
  have HOK := hid hok
  have hc := checkF_eq s
  rw [if_neg hl] at hc
  have RL := hid (fun w => readLines_any s w (by omega))
  have HRL : Hid ((rLines s).1 = (rLines s).1) := rfl
  cases hok1 : (rLines s).2.2
  · rw [if_pos hok1] at hc
    have HC := hid hc
    rw [hok1] at RL
    clear hc hok
    go_enter Tryz.func8, Tryz.ntmps8
    go_wp2_with (first
      | (go_at_call 18; refine (RL.out _).mono ?_; rintro e w1 ⟨v, xs, hx, rfl, hf1, hL⟩; obtain ⟨ao, cap, hv⟩ := own_form hL.own; subst hv; have HX := hid hx; clear hx))
    go_ret3
    exact checkRet_bad HC.out (by decide) rfl hf1
  · rw [if_neg (by simp [hok1])] at hc
    rw [hok1] at RL
    have key : ∀ xs : List LV, xs.map LV.ln = (rLines s).1 → xs.length ≤ 1000 ∧ (∀ x ∈ xs, FB x) ∧ (∀ x ∈ xs, SB x) := by
      intro xs hx
      have h1 : xs.length = (rLines s).1.length := by rw [← hx]; simp
      refine ⟨by omega, ?_, ?_⟩
      · intro x hxx; exact (HOK.out x.ln (by rw [← hx]; exact List.mem_map.2 ⟨x, hxx, rfl⟩)).fb
      · intro x hxx; have := (HOK.out x.ln (by rw [← hx]; exact List.mem_map.2 ⟨x, hxx, rfl⟩)).sb; unfold SB; omega
    have KEY := hid key
    clear key hok
    by_cases t1 : tooMany (rLines s).1 = -1
    · rw [if_neg (by simp [t1])] at hc
      by_cases t2 : wrongName (rLines s).1 = -1
      · rw [if_neg (by simp [t2])] at hc
        by_cases t3 : emptyF (rLines s).1 = -1
        · rw [if_neg (by simp [t3])] at hc
          have T1 := hid t1
          have T2 := hid t2
          have T3 := hid t3
          clear t1 t2 t3
          cases t4 : hasProd (rLines s).1
          · rw [if_pos t4] at hc
            have HC := hid hc
            have T4 := hid t4
            clear hc t4
            go_enter Tryz.func8, Tryz.ntmps8
            go_wp2_with (first
              | (go_at_call 18; refine (RL.out _).mono ?_; rintro e w1 ⟨v, xs, hx, rfl, hf1, hL⟩; obtain ⟨ao, cap, hv⟩ := own_form hL.own; subst hv; have HX := hid hx; obtain ⟨q1, q2, q3⟩ := KEY.out xs hx; have HL := hid hL; clear hL hx)
              | (go_at_call 19; refine (tooMany_any _ _ xs HL.out q1 q2).mono ?_; rw [HX.out, T1.out]; rintro e w2 ⟨rfl, hf2⟩; replace HL := hid (HL.out.fresh hf2); replace hf1 := hf1.trans hf2)
              | (go_at_call 20; refine (wrongName_any _ _ xs HL.out q1 q2 q3).mono ?_; rw [HX.out, T2.out]; rintro e w2 ⟨rfl, hf2⟩; replace HL := hid (HL.out.fresh hf2); replace hf1 := hf1.trans hf2)
              | (go_at_call 21; refine (empty_find _ _ xs HL.out q1 q2).mono ?_; rw [HX.out, T3.out]; rintro e w2 ⟨rfl, hf2⟩; replace HL := hid (HL.out.fresh hf2); replace hf1 := hf1.trans hf2)
              | (go_at_call 22; refine (hasProd_any _ _ xs HL.out q1 q2).mono ?_; rw [HX.out, T4.out]; rintro e w2 ⟨rfl, hf2⟩; replace HL := hid (HL.out.fresh hf2); replace hf1 := hf1.trans hf2))
            go_ret3
            exact checkRet_bad HC.out (by decide) rfl hf1
          · rw [if_neg (by simp [t4])] at hc
            have HC := hid hc
            have T4 := hid t4
            clear hc t4
            go_enter Tryz.func8, Tryz.ntmps8
            go_wp2_with (first
              | (go_at_call 18; refine (RL.out _).mono ?_; rintro e w1 ⟨v, xs, hx, rfl, hf1, hL⟩; obtain ⟨ao, cap, hv⟩ := own_form hL.own; subst hv; have HX := hid hx; obtain ⟨q1, q2, q3⟩ := KEY.out xs hx; have HL := hid hL; clear hL hx)
              | (go_at_call 19; refine (tooMany_any _ _ xs HL.out q1 q2).mono ?_; rw [HX.out, T1.out]; rintro e w2 ⟨rfl, hf2⟩; replace HL := hid (HL.out.fresh hf2); replace hf1 := hf1.trans hf2)
              | (go_at_call 20; refine (wrongName_any _ _ xs HL.out q1 q2 q3).mono ?_; rw [HX.out, T2.out]; rintro e w2 ⟨rfl, hf2⟩; replace HL := hid (HL.out.fresh hf2); replace hf1 := hf1.trans hf2)
              | (go_at_call 21; refine (empty_find _ _ xs HL.out q1 q2).mono ?_; rw [HX.out, T3.out]; rintro e w2 ⟨rfl, hf2⟩; replace HL := hid (HL.out.fresh hf2); replace hf1 := hf1.trans hf2)
              | (go_at_call 22; refine (hasProd_any _ _ xs HL.out q1 q2).mono ?_; rw [HX.out, T4.out]; rintro e w2 ⟨rfl, hf2⟩; replace HL := hid (HL.out.fresh hf2); replace hf1 := hf1.trans hf2))
            go_ret3
            exact ⟨_, by rw [HC.out]; rfl, hf1, xs, HL.out, .inr ⟨by rw [HC.out], HX.out⟩⟩
        · rw [if_pos t3] at hc
          have HC := hid hc
          have T1 := hid t1
          have T2 := hid t2
          have c3 : (emptyF (rLines s).1 != -1) = true := by simpa using t3
          clear hc t1 t2 t3
          go_enter Tryz.func8, Tryz.ntmps8
          go_wp2_with (first
            | (go_at_call 18; refine (RL.out _).mono ?_; rintro e w1 ⟨v, xs, hx, rfl, hf1, hL⟩; obtain ⟨ao, cap, hv⟩ := own_form hL.own; subst hv; have HX := hid hx; obtain ⟨q1, q2, q3⟩ := KEY.out xs hx; have HL := hid hL; clear hL hx)
            | (go_at_call 19; refine (tooMany_any _ _ xs HL.out q1 q2).mono ?_; rw [HX.out, T1.out]; rintro e w2 ⟨rfl, hf2⟩; replace HL := hid (HL.out.fresh hf2); replace hf1 := hf1.trans hf2)
            | (go_at_call 20; refine (wrongName_any _ _ xs HL.out q1 q2 q3).mono ?_; rw [HX.out, T2.out]; rintro e w2 ⟨rfl, hf2⟩; replace HL := hid (HL.out.fresh hf2); replace hf1 := hf1.trans hf2)
            | (go_at_call 21; refine (empty_find _ _ xs HL.out q1 q2).mono ?_; rw [HX.out]; rintro e w2 ⟨rfl, hf2⟩; replace HL := hid (HL.out.fresh hf2); replace hf1 := hf1.trans hf2))
          go_ret3
          exact checkRet_bad HC.out (by decide) rfl hf1
      · rw [if_pos t2] at hc
        have HC := hid hc
        have T1 := hid t1
        have c3 : (wrongName (rLines s).1 != -1) = true := by simpa using t2
        clear hc t1 t2
        go_enter Tryz.func8, Tryz.ntmps8
        go_wp2_with (first
          | (go_at_call 18; refine (RL.out _).mono ?_; rintro e w1 ⟨v, xs, hx, rfl, hf1, hL⟩; obtain ⟨ao, cap, hv⟩ := own_form hL.own; subst hv; have HX := hid hx; obtain ⟨q1, q2, q3⟩ := KEY.out xs hx; have HL := hid hL; clear hL hx)
          | (go_at_call 19; refine (tooMany_any _ _ xs HL.out q1 q2).mono ?_; rw [HX.out, T1.out]; rintro e w2 ⟨rfl, hf2⟩; replace HL := hid (HL.out.fresh hf2); replace hf1 := hf1.trans hf2)
          | (go_at_call 20; refine (wrongName_any _ _ xs HL.out q1 q2 q3).mono ?_; rw [HX.out]; rintro e w2 ⟨rfl, hf2⟩; replace HL := hid (HL.out.fresh hf2); replace hf1 := hf1.trans hf2))
        go_ret3
        exact checkRet_bad HC.out (by decide) rfl hf1
    · rw [if_pos t1] at hc
      have HC := hid hc
      have c3 : (tooMany (rLines s).1 != -1) = true := by simpa using t1
      clear hc t1
      go_enter Tryz.func8, Tryz.ntmps8
      go_wp2_with (first
        | (go_at_call 18; refine (RL.out _).mono ?_; rintro e w1 ⟨v, xs, hx, rfl, hf1, hL⟩; obtain ⟨ao, cap, hv⟩ := own_form hL.own; subst hv; have HX := hid hx; obtain ⟨q1, q2, q3⟩ := KEY.out xs hx; have HL := hid hL; clear hL hx)
        | (go_at_call 19; refine (tooMany_any _ _ xs HL.out q1 q2).mono ?_; rw [HX.out]; rintro e w2 ⟨rfl, hf2⟩; replace HL := hid (HL.out.fresh hf2); replace hf1 := hf1.trans hf2))
      go_ret3
      exact checkRet_bad HC.out (by decide) rfl hf1

theorem sheetCheck_any (s : ByteArray) (w : World) (hs : s.size ≤ maxLen) :
    Calls Tryz.prog 8 #[.string s] w fun e w' => CheckRet s w e w' := by
  by_cases hl : 800 < s.size
  · exact check_long s w hs hl
  · exact check_short s w hl

end Go.Proofs.YteneagnhihcljaaGreatDoor
namespace Go.Proofs.YteneagnhihcljaaGreatDoor
open Go.RowKit
set_option linter.unusedVariables false
set_option linter.unusedSimpArgs false

def wordF (ds : List Wd) (ls : List Int) : Nat := ds.findIdx (fun x => x.ls == ls)

set_option maxRecDepth 20000 in
set_option maxHeartbeats 4000000 in
theorem findWord_any (w : World) (v : Value) (xs : List Wd) (dd : Wd) (hL : SymsAt w v xs) (hx8 : ∀ x ∈ xs, x.ls.length = 8) (hn : xs.length ≤ 100000) (hl : dd.ls.length = 8) :
    Calls Tryz.prog 40 #[v, .agg dd.cells.toArray] w fun e w' => e = .returned (.int .i64 (wordF xs dd.ls)) ∧ Fresh w w' := by
  obtain ⟨p, ls⟩ := dd
  obtain ⟨b1, b2, b3, b4, b5, b6, b7, b8, rfl⟩ := eight hl
  have e1 : (Wd.cells ⟨p, [b1, b2, b3, b4, b5, b6, b7, b8]⟩).toArray = wdArr p b1 b2 b3 b4 b5 b6 b7 b8 := rfl
  rw [e1]
  obtain ⟨ao, cap, hv⟩ := own_form hL.own
  subst hv
  have HL := hid hL
  have HX8 := hid hx8
  clear hL e1 hl hx8
  go_enter Tryz.func40, Tryz.ntmps40
  go_wp2
  go_loopw [8] (fun x8 wr => ∃ (k : Nat), x8 = .int .i64 k ∧ k ≤ xs.length ∧ (∀ j (hj : j < k) (hx : j < xs.length), xs[j].ls ≠ [b1, b2, b3, b4, b5, b6, b7, b8]) ∧ Fresh w wr ∧ wr.heap[w.heap.size]? = some (.cells (wdArr p b1 b2 b3 b4 b5 b6 b7 b8) 64 (0, 0)))
      (fun x _ => 100001 - (intOf x).toNat)
  case atStart => exact ⟨0, rfl, by omega, fun j hj => by omega, (Mod.refl _ w).alloc _, heap_alloc_at _ _⟩
  case round =>
    obtain ⟨k, rfl, hk, hall, hfr, hb⟩ := hrel
    have HA := hid hall
    have HME := hid (meas (B := 100001) k (by omega))
    have HB := hid hb
    have c1 := cellOf hb
    clear hall hb
    by_cases hlt : k < xs.length
    · obtain ⟨g, cap', hv'⟩ := Joins.ownsRow_form HL.out.own (by omega)
      rw [Value.slice.injEq] at hv'
      obtain ⟨rfl, _, rfl⟩ := hv'
      have HL2 := hid (HL.out.fresh hfr)
      have hcells := fun j hj => HL2.out.cell k j hlt hj
      have hA := HX8.out xs[k] (by simp)
      obtain ⟨a1, a2, a3, a4, a5, a6, a7, a8, hls⟩ := eight hA
      have HLS := hid hls
      have d1 : wr.cell? ⟨g, k * 9 + 1, none⟩ = some (.int .u8 a1) := by rw [hcells 1 (by omega)]; simp [Wd.cells, hls]
      have d2 : wr.cell? ⟨g, k * 9 + 2, none⟩ = some (.int .u8 a2) := by rw [hcells 2 (by omega)]; simp [Wd.cells, hls]
      have d3 : wr.cell? ⟨g, k * 9 + 3, none⟩ = some (.int .u8 a3) := by rw [hcells 3 (by omega)]; simp [Wd.cells, hls]
      have d4 : wr.cell? ⟨g, k * 9 + 4, none⟩ = some (.int .u8 a4) := by rw [hcells 4 (by omega)]; simp [Wd.cells, hls]
      have d5 : wr.cell? ⟨g, k * 9 + 5, none⟩ = some (.int .u8 a5) := by rw [hcells 5 (by omega)]; simp [Wd.cells, hls]
      have d6 : wr.cell? ⟨g, k * 9 + 6, none⟩ = some (.int .u8 a6) := by rw [hcells 6 (by omega)]; simp [Wd.cells, hls]
      have d7 : wr.cell? ⟨g, k * 9 + 7, none⟩ = some (.int .u8 a7) := by rw [hcells 7 (by omega)]; simp [Wd.cells, hls]
      have d8 : wr.cell? ⟨g, k * 9 + 8, none⟩ = some (.int .u8 a8) := by rw [hcells 8 (by omega)]; simp [Wd.cells, hls]
      obtain ⟨qq, hqq, q8⟩ : ∃ qq, qq = ([a1, a2, a3, a4, a5, a6, a7, a8] == [b1, b2, b3, b4, b5, b6, b7, b8]) ∧ ∀ w, (Op.equalIn 10000 62 (.agg #[.int .u8 a1, .int .u8 a2, .int .u8 a3, .int .u8 a4, .int .u8 a5, .int .u8 a6, .int .u8 a7, .int .u8 a8]) (.agg #[.int .u8 b1, .int .u8 b2, .int .u8 b3, .int .u8 b4, .int .u8 b5, .int .u8 b6, .int .u8 b7, .int .u8 b8])).run Tryz.prog w = .ok qq w := ⟨_, rfl, fun w => arr8 9998 w a1 a2 a3 a4 a5 a6 a7 a8 b1 b2 b3 b4 b5 b6 b7 b8⟩
      have HQ := hid hqq
      clear hqq
      have g8 := guard8
      clear hcells hA hls
      go_wp2
      go_quiet (fail)
      cases qq
      · clear q8 g8
        go_wp2
        go_roundw
        case rel =>
          refine ⟨k + 1, by go_num, by omega, ?_, Mod.of_heap hfr rfl rfl rfl rfl, HB.out⟩
          intro j hj hx
          by_cases e : j = k
          · subst e; rw [HLS.out]; intro e2; have := HQ.out; rw [e2] at this; simp at this
          · exact HA.out j (by omega) hx
        case measure => exact HME.out
      · clear q8 g8
        go_wp2
        go_ret
        refine ⟨ret_int ?_, Mod.of_heap hfr rfl rfl rfl rfl⟩
        have : wordF xs [b1, b2, b3, b4, b5, b6, b7, b8] = k := by
          unfold wordF
          rw [List.findIdx_eq hlt]
          refine ⟨?_, ?_⟩
          · rw [HLS.out]; exact HQ.out.symm
          · intro j hj; simpa using HA.out j hj (by omega)
        rw [this]
    · have hk2 : k = xs.length := by omega
      subst hk2
      go_wp2
      go_ret
      refine ⟨ret_int ?_, hfr⟩
      have : wordF xs [b1, b2, b3, b4, b5, b6, b7, b8] = xs.length := by
        unfold wordF
        apply List.findIdx_eq_length_of_false
        intro x hx
        obtain ⟨j, hj, rfl⟩ := List.getElem_of_mem hx
        simpa using HA.out j hj hj
      rw [this]
end Go.Proofs.YteneagnhihcljaaGreatDoor
namespace Go.Proofs.YteneagnhihcljaaGreatDoor
open Go.RowKit
set_option linter.unusedVariables false
set_option linter.unusedSimpArgs false

theorem infoWd : (Tryz.prog.info? 64).map (fun i => (i.zero, i.size, i.bytes)) = some (some (.agg (Wd.cells ⟨0, zero8⟩).toArray), 9, 16) := by kernel_rfl
theorem infoWd' : ∃ i, Tryz.prog.info? 64 = some i ∧ i.zero = some (.agg (Wd.cells ⟨0, zero8⟩).toArray) ∧ i.size = 9 ∧ i.bytes = 16 := by
  have h := infoWd
  cases hq : Tryz.prog.info? 64 with
  | none => simp [hq] at h
  | some i => simp [hq] at h; exact ⟨i, rfl, h.1, h.2.1, h.2.2⟩
abbrev wdList (p a b c d e f g k : Int) : List Value := [.int .i64 p, .int .u8 a, .int .u8 b, .int .u8 c, .int .u8 d, .int .u8 e, .int .u8 f, .int .u8 g, .int .u8 k]
theorem takeS {α : Type} {xs : List α} {i : Nat} (h : i < xs.length) : xs.take (i + 1) = xs.take i ++ [xs[i]] := by rw [List.take_add_one, List.getElem?_eq_getElem h]; rfl
def frontsOf (lns : List Ln) : List Wd := (lns.filter ruleB).map Ln.front

set_option maxRecDepth 20000 in
set_option maxHeartbeats 8000000 in
theorem fronts_any (w : World) (v : Value) (xs : List LV) (hL : LinesAt w v xs) (hn : xs.length ≤ 1000) (hfb : ∀ x ∈ xs, FB x) :
    Calls Tryz.prog 23 #[v] w fun e w' => ∃ v', e = .returned v' ∧ w'.ownsRow w.heap.size 64 9 v' (frontsOf (xs.map LV.ln)).length (flatC Wd.cells (frontsOf (xs.map LV.ln))) ∧ Fresh w w' := by
  obtain ⟨ao, cap, hv⟩ := own_form hL.own
  subst hv
  have HL := hid hL
  have HFB := hid hfb
  obtain ⟨i0, hi0, hz0, hz1, hz2⟩ := infoWd'
  clear hL hfb
  go_enter Tryz.func23, Tryz.ntmps23
  go_wp2
  go_loopw [3, 4, 7] (fun x3 _ x7 wr => ∃ (i : Nat), x7 = .int .i64 i ∧ i ≤ xs.length ∧ wr.ownsRow w.heap.size 64 9 x3 (frontsOf ((xs.take i).map LV.ln)).length (flatC Wd.cells (frontsOf ((xs.take i).map LV.ln))) ∧ Fresh w wr)
      (fun _ _ x _ => 1001 - (intOf x).toNat)
  case atStart => exact ⟨0, rfl, by omega, World.ownsRow_nil _ _ _ _, Mod.refl _ _⟩
  case round =>
    obtain ⟨i, rfl, hi, hown, hfr⟩ := hrel
    have HME := hid (meas (B := 1001) i (by omega))
    have hlen : (frontsOf ((xs.take i).map LV.ln)).length ≤ 1000 := by
      have := List.length_filter_le ruleB ((xs.take i).map LV.ln)
      simp only [frontsOf, List.length_map, List.length_take] at *
      omega
    have HTS : Hid (∀ hlt : i < xs.length, frontsOf ((xs.take (i + 1)).map LV.ln) = frontsOf ((xs.take i).map LV.ln) ++ (if ruleB xs[i].ln then [xs[i].ln.front] else [])) := by
      intro hlt
      rw [takeS hlt, List.map_append, List.map_singleton]
      unfold frontsOf
      rw [List.filter_append, List.map_append]
      cases h : ruleB xs[i].ln <;> simp only [List.filter_cons, h, if_true, if_false, Bool.false_eq_true, List.filter_nil, List.map_nil, List.map_cons, List.append_nil]
    have HTE : Hid (i = xs.length → (xs.take i) = xs) := fun h => by rw [h, List.take_length]
    generalize hy : frontsOf ((xs.take i).map LV.ln) = ys at *
    have HY := hid hy
    have HO := hid hown
    have HOB := hid hown.lt
    obtain ⟨ro, rc, hro⟩ := own_form hown
    clear hown hy
    subst hro
    by_cases hlt : i < xs.length
    · obtain ⟨g, cap', hv'⟩ := Joins.ownsRow_form HL.out.own (by omega)
      rw [Value.slice.injEq] at hv'
      obtain ⟨rfl, _, rfl⟩ := hv'
      have HL1 := hid (HL.out.fresh hfr)
      have hrg := HL1.out.row.range i hlt
      have hA := HL1.out.each xs[i] (by simp)
      have hFB := HFB.out xs[i] (by simp)
      have HTSS := hid (HTS.out hlt)
      have hrgf := fun w1 (hf : Fresh wr w1) => (HL1.out.fresh hf).frontRange i hlt
      generalize hX : xs[i] = x at *
      clear hX
      have RU0 := fun w => isRule_any x w hA.front hFB
      have hrb : Hid (ruleB x.ln = !headB x.ln.front) := rfl
      rw [← hrb.out] at RU0
      have HAo := hid hA.one
      obtain ⟨⟨⟨pp, ls⟩, sk, nsx, stx, enx, sy⟩, vn, vs⟩ := x
      obtain ⟨a1, a2, a3, a4, a5, a6, a7, a8, e8⟩ := eight hA.front
      dsimp only at e8
      subst e8
      obtain ⟨no, nc, hvn⟩ := own_form hA.nodes.own
      obtain ⟨so, sc, hvs⟩ := own_form hA.syms.own
      dsimp only at hvn hvs
      subst hvn
      subst hvs
      have RU := hid RU0
      have RG : Hid (wr.rangeAt g (i * 14) (lnList pp a1 a2 a3 a4 a5 a6 a7 a8 sk (.slice no nsx.length nc) stx enx (.slice so sy.length sc))) := hrg
      have RGF : Hid (∀ w1, Fresh wr w1 → w1.rangeAt g (i * 14) (wdList pp a1 a2 a3 a4 a5 a6 a7 a8)) := hrgf
      have RU' : Hid (∀ w, Calls Tryz.prog 25 #[.agg (lnArr pp a1 a2 a3 a4 a5 a6 a7 a8 sk (.slice no nsx.length nc) stx enx (.slice so sy.length sc))] w fun e w' => e = .returned (.bool (ruleB ⟨⟨pp, [a1, a2, a3, a4, a5, a6, a7, a8]⟩, sk, nsx, stx, enx, sy⟩)) ∧ Fresh w w') := RU.out
      clear RU0 RU hrg hrgf hA hFB
      cases hr : ruleB ⟨⟨pp, [a1, a2, a3, a4, a5, a6, a7, a8]⟩, sk, nsx, stx, enx, sy⟩
      · rw [hr] at RU' HTSS
        simp only [Bool.false_eq_true, if_false, List.append_nil] at HTSS
        go_wp2_with (first
          | (go_at_call 25; refine (RU'.out _).mono ?_; rintro e w1 ⟨rfl, hf⟩)
          | (refine wpList_load_mid rfl 69 _ rfl g (i * 14) rfl (lnList pp a1 a2 a3 a4 a5 a6 a7 a8 sk (.slice no nsx.length nc) stx enx (.slice so sy.length sc)) _ RG.out Tryz.underlying69 rfl szLine ?_))
        go_roundw
        case rel =>
          refine ⟨i + 1, by go_num, by omega, ?_, hfr.trans hf⟩
          rw [HTSS.out]
          exact ownsRow_other HO.out (fun g hg => hf.block g (HOB.out g hg).2 (fun x => x))
        case measure => exact HME.out
      · rw [hr] at RU' HTSS
        simp only [if_true] at HTSS
        go_wp2_with (first
          | (at_builtin; refine wpList_append_mine _ rfl _ _ 60 rfl w.heap.size 64 i0 _ 9 16 Tryz.underlying60 hi0 hz0 hz1 hz2 rfl (by decide) _ _ _ rfl (HO1.out.alloc _) ⟨w1.heap.size, 0, none⟩ 1 1 (wdList pp a1 a2 a3 a4 a5 a6 a7 a8) rfl rfl (new_cells rfl) (by intro u hu; simp at hu; rcases hu with rfl | rfl | rfl | rfl | rfl | rfl | rfl | rfl | rfl <;> rfl) (by unfold maxLen; omega) (by omega) (by have := hfr.size; simp; omega) ?_)
          | (refine wpList_load_mid rfl 64 _ rfl g (i * 14) rfl (wdList pp a1 a2 a3 a4 a5 a6 a7 a8) _ (RGF.out _ hf) Tryz.underlying64 rfl szWord ?_)
          | (go_at_call 25; refine (RU'.out _).mono ?_; rintro e w1 ⟨rfl, hf⟩; have hz : wr.heap.size ≤ w1.heap.size := hf.size; have HO1 := hid (ownsRow_other HO.out (fun g hg => hf.block g (HOB.out g hg).2 (fun x => x))))
          | (refine wpList_load_mid rfl 69 _ rfl g (i * 14) rfl (lnList pp a1 a2 a3 a4 a5 a6 a7 a8 sk (.slice no nsx.length nc) stx enx (.slice so sy.length sc)) _ RG.out Tryz.underlying69 rfl szLine ?_))
        intro v' w2 hown2 hgrow hblk
        have fr2 : Fresh w w2 := Mod.grown (S := fun _ => False) ((hfr.trans hf).alloc _) hgrow (fun k hk hlt => by have := (HOB.out k hk).1; omega)
        have HO2 := hid hown2
        clear hown2 hgrow hblk
        go_wp2
        go_roundw
        case rel =>
          refine ⟨i + 1, by go_num, by omega, ?_, fr2⟩
          rw [HTSS.out, flat_snoc, List.length_append, List.length_singleton]
          exact HO2.out
        case measure => exact HME.out
    · have hie : i = xs.length := by omega
      have hye := HTE.out hie
      go_wp2
      go_ret
      refine ⟨_, rfl, ?_, hfr⟩
      rw [← hye, HY.out]; exact HO.out
end Go.Proofs.YteneagnhihcljaaGreatDoor
