import Derived.Test.YteneagnhihcljaaGreatDoorCk4
namespace Go.Proofs.YteneagnhihcljaaGreatDoor
open Go.RowKit
set_option linter.unusedVariables false
set_option linter.unusedSimpArgs false

/-- What a line that was read is like. -/
structure LnOk (s : ByteArray) (x : Ln) : Prop where
  fb : 0 ≤ x.front.ls.getD 0 0 ∧ x.front.ls.getD 0 0 ≤ 255
  sb : (x.syms.length : Int) ≤ s.size
theorem zeroLn_ok (s : ByteArray) : LnOk s zeroLn := ⟨by simp [zeroLn, zero8], by simp [zeroLn]⟩
theorem rProdL_ok (s : ByteArray) (d : Wd) (hd : 0 ≤ d.ls.getD 0 0 ∧ d.ls.getD 0 0 ≤ 255) : ∀ (f : Nat) (next : Int) (syms : List Wd), 0 ≤ next → next ≤ s.size → (syms.length : Int) ≤ next → LnOk s (rProdL s d f next syms).1
  | 0, _, _, _, _, _ => zeroLn_ok s
  | f + 1, next, syms, h0, h1, h2 => by
    obtain ⟨b1, b2, b3⟩ := rWord_bd s (next + 1) (by omega)
    unfold rProdL
    split
    · split
      · exact zeroLn_ok s
      · rename_i h3
        have b4 := b3 (by simpa using h3)
        exact rProdL_ok s d hd f _ _ (by omega) (by omega) (by simp; omega)
    · split
      · exact zeroLn_ok s
      · exact ⟨hd, by dsimp only; omega⟩
theorem rLine_ok (s : ByteArray) (i : Int) (h0 : 0 ≤ i) (h1 : i ≤ s.size) : LnOk s (rLine s i).1 := by
  obtain ⟨b1, b2, b3⟩ := rWord_bd s i h0
  have hz := rWord_zero s i
  unfold rLine; split
  · exact zeroLn_ok s
  · rename_i h3
    have b4 := b3 (by simpa using h3)
    split
    · unfold rProd; split
      · exact zeroLn_ok s
      · have := atB_lt (s := s) (i := (rWord s i).2.1) (by omega)
        exact rProdL_ok s _ hz _ _ _ (by omega) (by omega) (by simp; omega)
    · unfold rRule; split
      · exact zeroLn_ok s
      · split
        · exact zeroLn_ok s
        · split
          · exact zeroLn_ok s
          · exact ⟨hz, by simp⟩
theorem rLinesL_ok (s : ByteArray) : ∀ (f : Nat) (i : Int) (acc : List Ln), 0 ≤ i → i ≤ s.size → (acc.length : Int) ≤ i → (∀ x ∈ acc, LnOk s x) → ((rLinesL s f i acc).1.length : Int) ≤ s.size ∧ ∀ x ∈ (rLinesL s f i acc).1, LnOk s x
  | 0, i, acc, h0, h1, h2, h3 => by simp [rLinesL]
  | f + 1, i, acc, h0, h1, h2, h3 => by
    obtain ⟨b1, b2, b3⟩ := rLine_bd s i h0 h1
    unfold rLinesL
    split
    · split
      · simp
      · rename_i h5
        have b4 := b3 (by simpa using h5)
        refine rLinesL_ok s f _ _ (by omega) (by omega) (by simp; omega) ?_
        intro x hx; rcases List.mem_append.1 hx with h | h
        · exact h3 x h
        · simp at h; subst h; exact rLine_ok s i h0 h1
    · exact ⟨by dsimp only; omega, h3⟩
theorem rLines_ok (s : ByteArray) : ((rLines s).1.length : Int) ≤ s.size ∧ ∀ x ∈ (rLines s).1, LnOk s x := rLinesL_ok s _ 0 [] (by omega) (by omega) (by simp) (by simp)

/-- the error and its place -/
def checkF (s : ByteArray) : Int × Int :=
  if 800 < s.size then (1, 0)
  else if (rLines s).2.2 = false then (2, (rLines s).2.1)
  else if tooMany (rLines s).1 ≠ -1 then (3, tooMany (rLines s).1)
  else if wrongName (rLines s).1 ≠ -1 then (4, wrongName (rLines s).1)
  else if emptyF (rLines s).1 ≠ -1 then (5, emptyF (rLines s).1)
  else if hasProd (rLines s).1 = false then (6, s.size)
  else (0, 0)
theorem checkF_eq (s : ByteArray) : checkF s = (if 800 < s.size then (1, 0)
  else if (rLines s).2.2 = false then (2, (rLines s).2.1)
  else if tooMany (rLines s).1 ≠ -1 then (3, tooMany (rLines s).1)
  else if wrongName (rLines s).1 ≠ -1 then (4, wrongName (rLines s).1)
  else if emptyF (rLines s).1 ≠ -1 then (5, emptyF (rLines s).1)
  else if hasProd (rLines s).1 = false then (6, s.size)
  else (0, 0)) := rfl
def CheckRet (s : ByteArray) (w : World) (e : Ending) (w' : World) : Prop :=
  ∃ v, e = .returned (.tuple #[v, .int .i64 (checkF s).1, .int .i64 (checkF s).2]) ∧ Fresh w w' ∧ (∃ xs, LinesAt w' v xs ∧ ((checkF s).1 ≠ 0 ∧ xs = [] ∧ v = .slice none 0 0 ∨ (checkF s).1 = 0 ∧ xs.map LV.ln = (rLines s).1))
theorem nilLines (w : World) : LinesAt w (.slice none 0 0) [] := ⟨World.ownsRow_nil _ _ _ _, fun _ h => by cases h⟩
theorem checkRet_bad {s : ByteArray} {w w' : World} {e : Ending} {a b : Int} (h : checkF s = (a, b)) (ha : a ≠ 0) (he : e = .returned (.tuple #[.slice none 0 0, .int .i64 a, .int .i64 b])) (hf : Fresh w w') : CheckRet s w e w' :=
  ⟨_, by rw [h]; exact he, hf, [], nilLines _, .inl ⟨by rw [h]; exact ha, rfl, rfl⟩⟩

set_option maxRecDepth 20000 in
set_option maxHeartbeats 8000000 in
theorem check_long (s : ByteArray) (w : World) (hs : s.size ≤ maxLen) (hl : 800 < s.size) :
    Calls Tryz.prog 8 #[.string s] w fun e w' => CheckRet s w e w' := by
  have hc : checkF s = (1, 0) := by unfold checkF; rw [if_pos hl]
  have HC := hid hc
  unfold maxLen at hs
  clear hc
  go_enter Tryz.func8, Tryz.ntmps8
  go_wp2
  go_ret3
  exact checkRet_bad HC.out (by decide) rfl (Mod.refl _ _)

set_option maxRecDepth 20000 in
set_option maxHeartbeats 8000000 in
theorem check_short (s : ByteArray) (w : World) (hl : ¬ 800 < s.size) :
    Calls Tryz.prog 8 #[.string s] w fun e w' => CheckRet s w e w' := by
  obtain ⟨hlen, hok⟩ := rLines_ok s
  have HOK := hid hok
  have hc := checkF_eq s
  rw [if_neg hl] at hc
  have RL := hid (fun w => readLines_any s w (by omega))
  have HRL : Hid ((rLines s).1 = (rLines s).1) := rfl
  cases hok1 : (rLines s).2.2
  · rw [if_pos hok1] at hc
    have HC := hid hc
    rw [hok1] at RL
    clear hc hok
    go_enter Tryz.func8, Tryz.ntmps8
    go_wp2_with (first
      | (go_at_call 18; refine (RL.out _).mono ?_; rintro e w1 ⟨v, xs, hx, rfl, hf1, hL⟩; obtain ⟨ao, cap, hv⟩ := own_form hL.own; subst hv; have HX := hid hx; clear hx))
    go_ret3
    exact checkRet_bad HC.out (by decide) rfl hf1
  · rw [if_neg (by simp [hok1])] at hc
    rw [hok1] at RL
    have key : ∀ xs : List LV, xs.map LV.ln = (rLines s).1 → xs.length ≤ 1000 ∧ (∀ x ∈ xs, FB x) ∧ (∀ x ∈ xs, SB x) := by
      intro xs hx
      have h1 : xs.length = (rLines s).1.length := by rw [← hx]; simp
      refine ⟨by omega, ?_, ?_⟩
      · intro x hxx; exact (HOK.out x.ln (by rw [← hx]; exact List.mem_map.2 ⟨x, hxx, rfl⟩)).fb
      · intro x hxx; have := (HOK.out x.ln (by rw [← hx]; exact List.mem_map.2 ⟨x, hxx, rfl⟩)).sb; unfold SB; omega
    have KEY := hid key
    clear key hok
    by_cases t1 : tooMany (rLines s).1 = -1
    · rw [if_neg (by simp [t1])] at hc
      by_cases t2 : wrongName (rLines s).1 = -1
      · rw [if_neg (by simp [t2])] at hc
        by_cases t3 : emptyF (rLines s).1 = -1
        · rw [if_neg (by simp [t3])] at hc
          have T1 := hid t1
          have T2 := hid t2
          have T3 := hid t3
          clear t1 t2 t3
          cases t4 : hasProd (rLines s).1
          · rw [if_pos t4] at hc
            have HC := hid hc
            have T4 := hid t4
            clear hc t4
            go_enter Tryz.func8, Tryz.ntmps8
            go_wp2_with (first
              | (go_at_call 18; refine (RL.out _).mono ?_; rintro e w1 ⟨v, xs, hx, rfl, hf1, hL⟩; obtain ⟨ao, cap, hv⟩ := own_form hL.own; subst hv; have HX := hid hx; obtain ⟨q1, q2, q3⟩ := KEY.out xs hx; have HL := hid hL; clear hL hx)
              | (go_at_call 19; refine (tooMany_any _ _ xs HL.out q1 q2).mono ?_; rw [HX.out, T1.out]; rintro e w2 ⟨rfl, hf2⟩; replace HL := hid (HL.out.fresh hf2); replace hf1 := hf1.trans hf2)
              | (go_at_call 20; refine (wrongName_any _ _ xs HL.out q1 q2 q3).mono ?_; rw [HX.out, T2.out]; rintro e w2 ⟨rfl, hf2⟩; replace HL := hid (HL.out.fresh hf2); replace hf1 := hf1.trans hf2)
              | (go_at_call 21; refine (empty_find _ _ xs HL.out q1 q2).mono ?_; rw [HX.out, T3.out]; rintro e w2 ⟨rfl, hf2⟩; replace HL := hid (HL.out.fresh hf2); replace hf1 := hf1.trans hf2)
              | (go_at_call 22; refine (hasProd_any _ _ xs HL.out q1 q2).mono ?_; rw [HX.out, T4.out]; rintro e w2 ⟨rfl, hf2⟩; replace HL := hid (HL.out.fresh hf2); replace hf1 := hf1.trans hf2))
            go_ret3
            exact checkRet_bad HC.out (by decide) rfl hf1
          · rw [if_neg (by simp [t4])] at hc
            have HC := hid hc
            have T4 := hid t4
            clear hc t4
            go_enter Tryz.func8, Tryz.ntmps8
            go_wp2_with (first
              | (go_at_call 18; refine (RL.out _).mono ?_; rintro e w1 ⟨v, xs, hx, rfl, hf1, hL⟩; obtain ⟨ao, cap, hv⟩ := own_form hL.own; subst hv; have HX := hid hx; obtain ⟨q1, q2, q3⟩ := KEY.out xs hx; have HL := hid hL; clear hL hx)
              | (go_at_call 19; refine (tooMany_any _ _ xs HL.out q1 q2).mono ?_; rw [HX.out, T1.out]; rintro e w2 ⟨rfl, hf2⟩; replace HL := hid (HL.out.fresh hf2); replace hf1 := hf1.trans hf2)
              | (go_at_call 20; refine (wrongName_any _ _ xs HL.out q1 q2 q3).mono ?_; rw [HX.out, T2.out]; rintro e w2 ⟨rfl, hf2⟩; replace HL := hid (HL.out.fresh hf2); replace hf1 := hf1.trans hf2)
              | (go_at_call 21; refine (empty_find _ _ xs HL.out q1 q2).mono ?_; rw [HX.out, T3.out]; rintro e w2 ⟨rfl, hf2⟩; replace HL := hid (HL.out.fresh hf2); replace hf1 := hf1.trans hf2)
              | (go_at_call 22; refine (hasProd_any _ _ xs HL.out q1 q2).mono ?_; rw [HX.out, T4.out]; rintro e w2 ⟨rfl, hf2⟩; replace HL := hid (HL.out.fresh hf2); replace hf1 := hf1.trans hf2))
            go_ret3
            exact ⟨_, by rw [HC.out]; rfl, hf1, xs, HL.out, .inr ⟨by rw [HC.out], HX.out⟩⟩
        · rw [if_pos t3] at hc
          have HC := hid hc
          have T1 := hid t1
          have T2 := hid t2
          have c3 : (emptyF (rLines s).1 != -1) = true := by simpa using t3
          clear hc t1 t2 t3
          go_enter Tryz.func8, Tryz.ntmps8
          go_wp2_with (first
            | (go_at_call 18; refine (RL.out _).mono ?_; rintro e w1 ⟨v, xs, hx, rfl, hf1, hL⟩; obtain ⟨ao, cap, hv⟩ := own_form hL.own; subst hv; have HX := hid hx; obtain ⟨q1, q2, q3⟩ := KEY.out xs hx; have HL := hid hL; clear hL hx)
            | (go_at_call 19; refine (tooMany_any _ _ xs HL.out q1 q2).mono ?_; rw [HX.out, T1.out]; rintro e w2 ⟨rfl, hf2⟩; replace HL := hid (HL.out.fresh hf2); replace hf1 := hf1.trans hf2)
            | (go_at_call 20; refine (wrongName_any _ _ xs HL.out q1 q2 q3).mono ?_; rw [HX.out, T2.out]; rintro e w2 ⟨rfl, hf2⟩; replace HL := hid (HL.out.fresh hf2); replace hf1 := hf1.trans hf2)
            | (go_at_call 21; refine (empty_find _ _ xs HL.out q1 q2).mono ?_; rw [HX.out]; rintro e w2 ⟨rfl, hf2⟩; replace HL := hid (HL.out.fresh hf2); replace hf1 := hf1.trans hf2))
          go_ret3
          exact checkRet_bad HC.out (by decide) rfl hf1
      · rw [if_pos t2] at hc
        have HC := hid hc
        have T1 := hid t1
        have c3 : (wrongName (rLines s).1 != -1) = true := by simpa using t2
        clear hc t1 t2
        go_enter Tryz.func8, Tryz.ntmps8
        go_wp2_with (first
          | (go_at_call 18; refine (RL.out _).mono ?_; rintro e w1 ⟨v, xs, hx, rfl, hf1, hL⟩; obtain ⟨ao, cap, hv⟩ := own_form hL.own; subst hv; have HX := hid hx; obtain ⟨q1, q2, q3⟩ := KEY.out xs hx; have HL := hid hL; clear hL hx)
          | (go_at_call 19; refine (tooMany_any _ _ xs HL.out q1 q2).mono ?_; rw [HX.out, T1.out]; rintro e w2 ⟨rfl, hf2⟩; replace HL := hid (HL.out.fresh hf2); replace hf1 := hf1.trans hf2)
          | (go_at_call 20; refine (wrongName_any _ _ xs HL.out q1 q2 q3).mono ?_; rw [HX.out]; rintro e w2 ⟨rfl, hf2⟩; replace HL := hid (HL.out.fresh hf2); replace hf1 := hf1.trans hf2))
        go_ret3
        exact checkRet_bad HC.out (by decide) rfl hf1
    · rw [if_pos t1] at hc
      have HC := hid hc
      have c3 : (tooMany (rLines s).1 != -1) = true := by simpa using t1
      clear hc t1
      go_enter Tryz.func8, Tryz.ntmps8
      go_wp2_with (first
        | (go_at_call 18; refine (RL.out _).mono ?_; rintro e w1 ⟨v, xs, hx, rfl, hf1, hL⟩; obtain ⟨ao, cap, hv⟩ := own_form hL.own; subst hv; have HX := hid hx; obtain ⟨q1, q2, q3⟩ := KEY.out xs hx; have HL := hid hL; clear hL hx)
        | (go_at_call 19; refine (tooMany_any _ _ xs HL.out q1 q2).mono ?_; rw [HX.out]; rintro e w2 ⟨rfl, hf2⟩; replace HL := hid (HL.out.fresh hf2); replace hf1 := hf1.trans hf2))
      go_ret3
      exact checkRet_bad HC.out (by decide) rfl hf1

theorem sheetCheck_any (s : ByteArray) (w : World) (hs : s.size ≤ maxLen) :
    Calls Tryz.prog 8 #[.string s] w fun e w' => CheckRet s w e w' := by
  by_cases hl : 800 < s.size
  · exact check_long s w hs hl
  · exact check_short s w hl

end Go.Proofs.YteneagnhihcljaaGreatDoor
namespace Go.Proofs.YteneagnhihcljaaGreatDoor
open Go.RowKit
set_option linter.unusedVariables false
set_option linter.unusedSimpArgs false

def wordF (ds : List Wd) (ls : List Int) : Nat := ds.findIdx (fun x => x.ls == ls)

end Go.Proofs.YteneagnhihcljaaGreatDoor
namespace Go.Proofs.YteneagnhihcljaaGreatDoor
open Go.RowKit
set_option linter.unusedVariables false
set_option linter.unusedSimpArgs false

theorem infoWd : (Tryz.prog.info? 64).map (fun i => (i.zero, i.size, i.bytes)) = some (some (.agg (Wd.cells ⟨0, zero8⟩).toArray), 9, 16) := by kernel_rfl
theorem infoWd' : ∃ i, Tryz.prog.info? 64 = some i ∧ i.zero = some (.agg (Wd.cells ⟨0, zero8⟩).toArray) ∧ i.size = 9 ∧ i.bytes = 16 := by
  have h := infoWd
  cases hq : Tryz.prog.info? 64 with
  | none => simp [hq] at h
  | some i => simp [hq] at h; exact ⟨i, rfl, h.1, h.2.1, h.2.2⟩
abbrev wdList (p a b c d e f g k : Int) : List Value := [.int .i64 p, .int .u8 a, .int .u8 b, .int .u8 c, .int .u8 d, .int .u8 e, .int .u8 f, .int .u8 g, .int .u8 k]
theorem takeS {α : Type} {xs : List α} {i : Nat} (h : i < xs.length) : xs.take (i + 1) = xs.take i ++ [xs[i]] := by rw [List.take_add_one, List.getElem?_eq_getElem h]; rfl
def frontsOf (lns : List Ln) : List Wd := (lns.filter ruleB).map Ln.front

end Go.Proofs.YteneagnhihcljaaGreatDoor
