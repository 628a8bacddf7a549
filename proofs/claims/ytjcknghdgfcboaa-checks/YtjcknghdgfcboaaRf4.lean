import Derived.Test.YtjcknghdgfcboaaLb2
namespace Go.Proofs.Ytjcknghdgfcboaa
open Go.RowKit
set_option linter.unusedVariables false
set_option linter.unusedSimpArgs false

theorem atB_ix {p : ByteArray} {i : Nat} (h : i < p.size) : atB p (i : Nat) = p[i].toNat := by unfold atB; rw [dif_pos ⟨by omega, by simpa using h⟩]; simp
theorem atB_out {p : ByteArray} {i : Int} (h : p.size ≤ i) : atB p i = -1 := by unfold atB; rw [dif_neg (by omega)]
theorem okI_t (x : Int) : okI true x = x := rfl
theorem okI_f (x : Int) : okI false x = -1 := rfl
/-- what the reference's pattern says, at this depth -/
def PatC (p : ByteArray) (d : Nat) (f : Int → Int) : Prop := ∀ (i : Nat) (w : World), i ≤ p.size + 1 → Calls Try.prog 42 #[.string p, .int .i64 i, .int .i64 d] w fun e w' => e = .returned (.int .i64 (f i)) ∧ w' = w
def AtmC (p : ByteArray) (d : Nat) (f : Int → Int) : Prop := ∀ (i : Nat) (w : World), i ≤ p.size + 1 → Calls Try.prog 56 #[.string p, .int .i64 i, .int .i64 d] w fun e w' => e = .returned (.int .i64 (f i)) ∧ w' = w
def PceC (p : ByteArray) (d : Nat) (f : Int → Int) : Prop := ∀ (i : Nat) (w : World), i ≤ p.size + 1 → Calls Try.prog 52 #[.string p, .int .i64 i, .int .i64 d] w fun e w' => e = .returned (.int .i64 (f i)) ∧ w' = w

set_option maxRecDepth 20000 in
set_option maxHeartbeats 600000 in
theorem zatom_any (p : ByteArray) (k d : Nat) (hp : p.size ≤ 80000) (hd : d + k = 6) (ih : ∀ k', k = k' + 1 → PatC p (d + 1) (zpK p k')) : AtmC p d (zAtom (zgK p k) p) := by
  intro i w hi
  by_cases h1 : i < p.size
  · have hb := atB_ix h1
    have hbl : p[i].toNat < 256 := p[i].toNat_lt
    have h11 : ¬ (p.size : Int) ≤ (i : Int) := by omega
    have h12 : (i : Int) < (p.size : Int) := by omega
    have ZP := hid (fun w => zplain_any p[i].toNat w (by omega))
    unfold zAtom
    unfold rSet
    rw [hb]
    by_cases q46 : p[i].toNat = 46
    · have kk : ((p[i].toNat : Int) == 46) = true := by simp [q46]
      rw [if_neg (by omega), if_pos (by omega)]
      dsimp only
      rw [okI_t]
      rw [show isPlainB (p[i].toNat : Int) = false from by rw [q46]; decide] at ZP
      clear hb q46
      go_enter Try.func56, Try.ntmps56
      go_wp2_with (first
        | (go_at_call 61; refine (ZP.out _).mono ?_; rintro e w' ⟨rfl, hw⟩; rw [hw]; clear hw))
      go_ret
      exact ⟨rfl, rfl⟩
    · have k46 : ((p[i].toNat : Int) == 46) = false := by simp; omega
      by_cases qpl : isPlainB (p[i].toNat : Int) = true
      · have n40 : p[i].toNat ≠ 40 := fun e => by rw [e] at qpl; revert qpl; decide
        have n91 : p[i].toNat ≠ 91 := fun e => by rw [e] at qpl; revert qpl; decide
        have n92 : p[i].toNat ≠ 92 := fun e => by rw [e] at qpl; revert qpl; decide
        rw [if_neg (by omega), if_neg (by omega), if_neg (by omega), if_neg (by omega), if_neg (by rw [qpl]; simp)]
        dsimp only
        rw [okI_t]
        rw [qpl] at ZP
        clear hb qpl
        go_enter Try.func56, Try.ntmps56
        go_wp2_with (first
          | (go_at_call 61; refine (ZP.out _).mono ?_; rintro e w' ⟨rfl, hw⟩; rw [hw]; clear hw))
        go_ret
        exact ⟨rfl, rfl⟩
      · have qpl' : isPlainB (p[i].toNat : Int) = false := by simpa using qpl
        rw [qpl'] at ZP
        clear qpl
        by_cases q92 : p[i].toNat = 92
        · have k92 : ((p[i].toNat : Int) == 92) = true := by simp [q92]
          rw [if_neg (by omega), if_neg (by omega), if_neg (by omega), if_pos (by omega)]
          dsimp only
          rw [mkF_mark]
          by_cases h3 : i + 1 < p.size
          · have hb2 : atB p ((i : Int) + 1) = p[i + 1].toNat := by rw [← atB_ix h3]; rfl
            have hbl2 : p[i + 1].toNat < 256 := p[i + 1].toNat_lt
            have h32 : (i : Int) + 1 < (p.size : Int) := by omega
            have h33 : ((i : Int) + 1).toNat = i + 1 := by omega
            rw [hb2]
            have ZM := hid (fun w => zmarked_any p[i + 1].toNat w (by omega))
            generalize mkF (p[i + 1].toNat : Int) = m at ZM ⊢
            obtain ⟨v, ok⟩ := m
            dsimp only at ZM ⊢
            clear hb hb2 qpl' q92
            cases ok
            · rw [if_neg (by simp)]
              dsimp only
              rw [okI_f]
              go_enter Try.func56, Try.ntmps56
              go_wp2_with (first
                | (go_at_call 61; refine (ZP.out _).mono ?_; rintro e w' ⟨rfl, hw⟩; rw [hw]; clear hw)
                | (go_at_call 62; refine (ZM.out _).mono ?_; rintro e w' ⟨rfl, hw⟩; rw [hw]; clear hw))
              go_ret
              exact ⟨rfl, rfl⟩
            · rw [if_pos rfl]
              dsimp only
              rw [okI_t, show (i : Int) + 1 + 1 = (i : Int) + 2 by omega]
              go_enter Try.func56, Try.ntmps56
              go_wp2_with (first
                | (go_at_call 61; refine (ZP.out _).mono ?_; rintro e w' ⟨rfl, hw⟩; rw [hw]; clear hw)
                | (go_at_call 62; refine (ZM.out _).mono ?_; rintro e w' ⟨rfl, hw⟩; rw [hw]; clear hw))
              go_ret
              exact ⟨rfl, rfl⟩
          · have h31 : ¬ (i : Int) + 1 < (p.size : Int) := by omega
            have hb2 : atB p ((i : Int) + 1) = -1 := atB_out (by omega)
            rw [hb2, show mkF (-1) = (-1, false) from by decide]
            dsimp only
            rw [if_neg (by simp)]
            dsimp only
            rw [okI_f]
            clear hb hb2 qpl' q92
            go_enter Try.func56, Try.ntmps56
            go_wp2_with (first
              | (go_at_call 61; refine (ZP.out _).mono ?_; rintro e w' ⟨rfl, hw⟩; rw [hw]; clear hw))
            go_ret
            exact ⟨rfl, rfl⟩
        · have k92 : ((p[i].toNat : Int) == 92) = false := by simp; omega
          by_cases q91 : p[i].toNat = 91
          · have k91 : ((p[i].toNat : Int) == 91) = true := by simp [q91]
            rw [if_neg (by omega), if_neg (by omega), if_pos (by omega)]
            have ZC := hid (fun w => zclass_any p i w (by omega) h1)
            generalize okI (rBr p ((i : Int) + 1)).2.2 (rBr p ((i : Int) + 1)).2.1 = v at ZC ⊢
            clear hb qpl' q91
            go_enter Try.func56, Try.ntmps56
            go_wp2_with (first
              | (go_at_call 61; refine (ZP.out _).mono ?_; rintro e w' ⟨rfl, hw⟩; rw [hw]; clear hw)
              | (go_at_call 63; refine (ZC.out _).mono ?_; rintro e w' ⟨rfl, hw⟩; rw [hw]; clear hw))
            go_ret
            exact ⟨rfl, rfl⟩
          · have k91 : ((p[i].toNat : Int) == 91) = false := by simp; omega
            by_cases q40 : p[i].toNat = 40
            · have k40 : ((p[i].toNat : Int) == 40) = true := by simp [q40]
              rw [if_pos (by omega)]
              cases k with
              | zero =>
                show Calls _ _ _ _ (fun e w' => e = .returned (.int .i64 (-1)) ∧ w' = w)
                have hd6 : ¬ (d : Int) < 6 := by omega
                clear hb qpl' ih q40
                go_enter Try.func56, Try.ntmps56
                go_wp2_with (first
                  | (go_at_call 61; refine (ZP.out _).mono ?_; rintro e w' ⟨rfl, hw⟩; rw [hw]; clear hw))
                go_ret
                exact ⟨rfl, rfl⟩
              | succ k' =>
                have hd6 : (d : Int) < 6 := by omega
                have hd7 : d ≤ 6 := by omega
                have PT := hid (fun w => ih k' rfl (i + 1) w (by omega))
                have ei : ((i + 1 : Nat) : Int) = (i : Int) + 1 := by omega
                have ed : ((d + 1 : Nat) : Int) = (d : Int) + 1 := by omega
                rw [ei, ed] at PT
                show Calls _ _ _ _ (fun e w' => e = .returned (.int .i64 (zGrp (zpK p k') p i)) ∧ w' = w)
                unfold zGrp
                generalize zpK p k' ((i : Int) + 1) = v at PT ⊢
                clear hb qpl' ih q40
                by_cases hv : 0 ≤ v
                · obtain ⟨j, rfl⟩ : ∃ j : Nat, v = j := ⟨v.toNat, by omega⟩
                  by_cases hj : j < p.size
                  · have hbj := atB_ix hj
                    have hblj : p[j].toNat < 256 := p[j].toNat_lt
                    have hj1 : (j : Int) < (p.size : Int) := by omega
                    rw [hbj]
                    by_cases q41 : p[j].toNat = 41
                    · have k41 : ((p[j].toNat : Int) == 41) = true := by simp [q41]
                      rw [if_pos ⟨hv, by omega⟩]
                      clear hbj q41
                      go_enter Try.func56, Try.ntmps56
                      go_wp2_with (first
                        | (go_at_call 61; refine (ZP.out _).mono ?_; rintro e w' ⟨rfl, hw⟩; rw [hw]; clear hw)
                        | (go_at_call 42; refine (PT.out _).mono ?_; rintro e w' ⟨rfl, hw⟩; rw [hw]; clear hw))
                      go_ret
                      exact ⟨rfl, rfl⟩
                    · have k41 : ((p[j].toNat : Int) == 41) = false := by simp; omega
                      rw [if_neg (by omega)]
                      clear hbj
                      go_enter Try.func56, Try.ntmps56
                      go_wp2_with (first
                        | (go_at_call 61; refine (ZP.out _).mono ?_; rintro e w' ⟨rfl, hw⟩; rw [hw]; clear hw)
                        | (go_at_call 42; refine (PT.out _).mono ?_; rintro e w' ⟨rfl, hw⟩; rw [hw]; clear hw))
                      go_ret
                      exact ⟨rfl, rfl⟩
                  · have hj1 : ¬ (j : Int) < (p.size : Int) := by omega
                    rw [atB_out (by omega), if_neg (by omega)]
                    go_enter Try.func56, Try.ntmps56
                    go_wp2_with (first
                      | (go_at_call 61; refine (ZP.out _).mono ?_; rintro e w' ⟨rfl, hw⟩; rw [hw]; clear hw)
                      | (go_at_call 42; refine (PT.out _).mono ?_; rintro e w' ⟨rfl, hw⟩; rw [hw]; clear hw))
                    go_ret
                    exact ⟨rfl, rfl⟩
                · rw [if_neg (fun e => hv e.1)]
                  go_enter Try.func56, Try.ntmps56
                  go_wp2_with (first
                    | (go_at_call 61; refine (ZP.out _).mono ?_; rintro e w' ⟨rfl, hw⟩; rw [hw]; clear hw)
                    | (go_at_call 42; refine (PT.out _).mono ?_; rintro e w' ⟨rfl, hw⟩; rw [hw]; clear hw))
                  go_ret
                  exact ⟨rfl, rfl⟩
            · have k40 : ((p[i].toNat : Int) == 40) = false := by simp; omega
              rw [if_neg (by omega), if_neg (by omega), if_neg (by omega), if_neg (by omega), if_pos qpl']
              dsimp only
              rw [okI_f]
              clear hb qpl' ih
              go_enter Try.func56, Try.ntmps56
              go_wp2_with (first
                | (go_at_call 61; refine (ZP.out _).mono ?_; rintro e w' ⟨rfl, hw⟩; rw [hw]; clear hw))
              go_ret
              exact ⟨rfl, rfl⟩
  · have h11 : (p.size : Int) ≤ (i : Int) := by omega
    have hE : zAtom (zgK p k) p i = -1 := by
      have hb : atB p (i : Nat) = -1 := atB_out (by omega)
      unfold zAtom rSet
      rw [hb, if_neg (by decide), if_neg (by decide), if_neg (by decide), if_neg (by decide), if_pos (by decide)]
      exact okI_f _
    rw [hE]
    clear hE ih
    go_enter Try.func56, Try.ntmps56
    go_wp2
    go_ret
    exact ⟨rfl, rfl⟩
end Go.Proofs.Ytjcknghdgfcboaa
namespace Go.Proofs.Ytjcknghdgfcboaa
open Go.RowKit
set_option linter.unusedVariables false
set_option linter.unusedSimpArgs false

/-- a function of the reference that goes on, or says -1 -/
def Fwd (p : ByteArray) (f : Int → Int) : Prop := ∀ x : Int, 0 ≤ x → f x = -1 ∨ (x < f x ∧ f x ≤ p.size)
theorem zatom_fwd (p : ByteArray) (k : Nat) : Fwd p (zAtom (zgK p k) p) := by
  intro x h0
  by_cases h1 : x ≤ p.size
  · have h := zAtomK_rel (p := p) k h0
    unfold Says at h
    cases hk : (lAtom (lgK p k) p x).ok
    · left; rw [h, hk]; rfl
    · right
      have g := lg_atom p k x h0 h1 hk
      rw [h, hk]; exact g
  · left
    have hb : atB p x = -1 := atB_out (by omega)
    unfold zAtom rSet
    rw [hb, if_neg (by decide), if_neg (by decide), if_neg (by decide), if_neg (by decide), if_pos (by decide)]
    exact okI_f _
theorem zPieceL_fwd (p : ByteArray) : ∀ (f : Nat) (x : Int), x ≤ p.size → x ≤ zPieceL p f x ∧ zPieceL p f x ≤ p.size
  | 0, x, h => ⟨Int.le_refl _, h⟩
  | f + 1, x, h => by
    rw [zPieceL_s]
    split
    · rename_i c
      have := atB_lt (s := p) (i := x) (mark_in c.2)
      have := zPieceL_fwd p f (x + 1) (by omega)
      omega
    · omega
theorem zPieceL_neg (p : ByteArray) (f : Nat) : zPieceL p f (-1) = -1 := by
  cases f with
  | zero => rfl
  | succ f => rw [zPieceL_s, if_neg (by omega)]
theorem zpiece_fwd (p : ByteArray) (k : Nat) : Fwd p (zPiece (zAtom (zgK p k) p) p) := by
  intro x h0
  unfold zPiece
  rcases zatom_fwd p k x h0 with h | h
  · left; rw [h]; exact zPieceL_neg p _
  · right
    have := zPieceL_fwd p (p.size + 5) (zAtom (zgK p k) p x) h.2
    omega

set_option maxRecDepth 20000 in
set_option maxHeartbeats 1000000 in
theorem zpiece_any (p : ByteArray) (k d : Nat) (hp : p.size ≤ 80000) (hA : AtmC p d (zAtom (zgK p k) p)) : PceC p d (zPiece (zAtom (zgK p k) p) p) := by
  intro i w hi
  have AT := hid (fun w => hA i w hi)
  have hf := zatom_fwd p k i (by omega)
  unfold zPiece
  generalize zAtom (zgK p k) p i = a at AT hf ⊢
  have ha1 : -1 ≤ a := by omega
  have ha2 : a ≤ p.size := by omega
  have ZS := hid (fun (c : Int) (w : World) => zsuffix_any c w)
  generalize hV : zPieceL p (p.size + 5) a = V
  have HV := hid hV
  clear hV hA hf
  go_enter Try.func52, Try.ntmps52
  go_wp2_with (first
    | (go_at_call 56; refine (AT.out _).mono ?_; rintro e w' ⟨rfl, hw⟩; rw [hw]; clear hw))
  go_loopw [7] (fun x7 wr => ∃ (y : Int) (F : Nat), x7 = .int .i64 y ∧ -1 ≤ y ∧ y ≤ p.size ∧ (p.size : Int) + 2 ≤ F + y ∧ zPieceL p F y = V ∧ wr = w)
      (fun x _ => (100000 - intOf x).toNat)
  case atStart => exact ⟨a, p.size + 5, rfl, ha1, ha2, by omega, HV.out, rfl⟩
  case round =>
    obtain ⟨y, F, rfl, hy1, hy2, hF, hrec, rfl⟩ := hrel
    obtain ⟨F, rfl⟩ : ∃ k, F = k + 1 := ⟨F - 1, by omega⟩
    rw [zPieceL_s] at hrec
    clear HV
    by_cases h0 : 0 ≤ y
    · obtain ⟨j, rfl⟩ : ∃ j : Nat, y = j := ⟨y.toNat, by omega⟩
      by_cases hj : j < p.size
      · have hb := atB_ix hj
        have hbl : p[j].toNat < 256 := p[j].toNat_lt
        have hj1 : (j : Int) < (p.size : Int) := by omega
        rw [hb] at hrec
        have ZX := hid (fun w => ZS.out (p[j].toNat : Int) w)
        generalize isMark (p[j].toNat : Int) = mk at ZX hrec
        clear hb
        cases mk
        · rw [if_neg (by simp)] at hrec
          have HR := hid hrec
          clear hrec
          go_wp2_with (first
            | (go_at_call 57; refine (ZX.out _).mono ?_; rintro e w' ⟨rfl, hw⟩; rw [hw]; clear hw))
          go_ret
          exact ⟨by rw [← HR.out]; rfl, rfl⟩
        · rw [if_pos ⟨h0, rfl⟩] at hrec
          have HR := hid hrec
          clear hrec
          go_wp2_with (first
            | (go_at_call 57; refine (ZX.out _).mono ?_; rintro e w' ⟨rfl, hw⟩; rw [hw]; clear hw))
          go_roundw
          case rel => exact ⟨(j : Int) + 1, F, rfl, by omega, by omega, by omega, HR.out, by first | rfl | trivial⟩
          case measure => simp [intOf]; omega
      · have hj1 : ¬ (j : Int) < (p.size : Int) := by omega
        rw [atB_out (by omega), if_neg (by intro q; exact absurd q.2 (by decide))] at hrec
        have HR := hid hrec
        clear hrec
        go_wp2
        go_ret
        exact ⟨by rw [← HR.out]; rfl, rfl⟩
    · rw [if_neg (fun q => h0 q.1)] at hrec
      have HR := hid hrec
      clear hrec
      go_wp2
      go_ret
      exact ⟨by rw [← HR.out]; rfl, rfl⟩

set_option maxRecDepth 20000 in
set_option maxHeartbeats 1000000 in
theorem zpattern_any (p : ByteArray) (k d : Nat) (hp : p.size ≤ 80000) (hP : PceC p d (zPiece (zAtom (zgK p k) p) p)) : PatC p d (zpK p k) := by
  intro i w hi
  have PC := hid hP
  have FW := hid (zpiece_fwd p k)
  show Calls _ _ _ _ (fun e w' => e = .returned (.int .i64 (zPat (zPiece (zAtom (zgK p k) p) p) p i)) ∧ w' = w)
  generalize zPiece (zAtom (zgK p k) p) p = pc at PC FW ⊢
  have PI := hid (fun w => PC.out i w hi)
  have hf := FW.out i (by omega)
  unfold zPat
  generalize pc i = a at PI hf ⊢
  have ha1 : -1 ≤ a := by omega
  have ha2 : a ≤ p.size := by omega
  generalize hV : zPatL pc p (p.size + 5) a = V
  have HV := hid hV
  clear hV hP hf
  go_enter Try.func42, Try.ntmps42
  go_wp2_with (first
    | (go_at_call 52; refine (PI.out _).mono ?_; rintro e w' ⟨rfl, hw⟩; rw [hw]; clear hw))
  go_loopw [1, 7, 8] (fun x1 _ _ wr => ∃ (y : Int) (F : Nat), x1 = .int .i64 y ∧ -1 ≤ y ∧ y ≤ p.size ∧ (p.size : Int) + 2 ≤ F + y ∧ zPatL pc p F y = V ∧ wr = w)
      (fun x _ _ _ => (100000 - intOf x).toNat)
  case atStart => exact ⟨a, p.size + 5, rfl, ha1, ha2, by omega, HV.out, rfl⟩
  case round =>
    obtain ⟨y, F, rfl, hy1, hy2, hF, hrec, rfl⟩ := hrel
    obtain ⟨F, rfl⟩ : ∃ k, F = k + 1 := ⟨F - 1, by omega⟩
    rw [zPatL_s] at hrec
    clear HV PI
    by_cases h0 : 0 ≤ y
    · obtain ⟨j, rfl⟩ : ∃ j : Nat, y = j := ⟨y.toNat, by omega⟩
      by_cases hj : j < p.size
      · have hb := atB_ix hj
        have hbl : p[j].toNat < 256 := p[j].toNat_lt
        have hj1 : (j : Int) < (p.size : Int) := by omega
        rw [if_pos ⟨h0, hj1⟩] at hrec
        by_cases q : p[j].toNat = 124
        · have kq : ((p[j].toNat : Int) == 124) = true := by simp [q]
          have ez : zJ p (j : Nat) = (j : Int) + 1 := by unfold zJ; rw [hb, if_pos (by omega)]
          rw [ez] at hrec
          have PJ := hid (fun w => PC.out (j + 1) w (by omega))
          have hf := FW.out ((j : Int) + 1) (by omega)
          have ej : ((j + 1 : Nat) : Int) = (j : Int) + 1 := by omega
          rw [ej] at PJ
          generalize pc ((j : Int) + 1) = v at PJ hf hrec
          clear hb q PC FW ez
          by_cases hv : v < 0
          · rw [if_pos hv] at hrec
            have HR := hid hrec
            clear hrec
            go_wp2_with (first
              | (go_at_call 52; refine (PJ.out _).mono ?_; rintro e w' ⟨rfl, hw⟩; rw [hw]; clear hw))
            go_ret
            exact ⟨by rw [← HR.out]; rfl, rfl⟩
          · rw [if_neg hv] at hrec
            have HR := hid hrec
            clear hrec
            go_wp2_with (first
              | (go_at_call 52; refine (PJ.out _).mono ?_; rintro e w' ⟨rfl, hw⟩; rw [hw]; clear hw))
            go_roundw
            case rel => exact ⟨v, F, rfl, by omega, by omega, by omega, HR.out, by first | rfl | trivial⟩
            case measure => simp [intOf]; omega
        · have kq : ((p[j].toNat : Int) == 124) = false := by simp; omega
          have ez : zJ p (j : Nat) = (j : Int) := by unfold zJ; rw [hb, if_neg (by omega)]
          rw [ez] at hrec
          have PJ := hid (fun w => PC.out j w (by omega))
          have hf := FW.out (j : Int) (by omega)
          generalize pc (j : Int) = v at PJ hf hrec
          clear hb q PC FW ez
          by_cases hv : v < 0
          · rw [if_pos hv] at hrec
            have HR := hid hrec
            clear hrec
            go_wp2_with (first
              | (go_at_call 52; refine (PJ.out _).mono ?_; rintro e w' ⟨rfl, hw⟩; rw [hw]; clear hw))
            go_ret
            exact ⟨by rw [← HR.out]; rfl, rfl⟩
          · rw [if_neg hv] at hrec
            have HR := hid hrec
            clear hrec
            go_wp2_with (first
              | (go_at_call 52; refine (PJ.out _).mono ?_; rintro e w' ⟨rfl, hw⟩; rw [hw]; clear hw))
            go_roundw
            case rel => exact ⟨v, F, rfl, by omega, by omega, by omega, HR.out, by first | rfl | trivial⟩
            case measure => simp [intOf]; omega
      · have hj1 : ¬ (j : Int) < (p.size : Int) := by omega
        rw [if_neg (fun q => hj1 q.2)] at hrec
        have HR := hid hrec
        clear hrec
        go_wp2
        go_ret
        exact ⟨by rw [← HR.out]; rfl, rfl⟩
    · rw [if_neg (fun q => h0 q.1)] at hrec
      have HR := hid hrec
      clear hrec
      go_wp2
      go_ret
      exact ⟨by rw [← HR.out]; rfl, rfl⟩
/-- the reference's pattern, from no brackets on -/
theorem zpat_all (p : ByteArray) (hp : p.size ≤ 80000) : ∀ (k d : Nat), d + k = 6 → PatC p d (zpK p k)
  | 0, d, h => zpattern_any p 0 d hp (zpiece_any p 0 d hp (zatom_any p 0 d hp h (fun k' e => by omega)))
  | k + 1, d, h => zpattern_any p (k + 1) d hp (zpiece_any p (k + 1) d hp (zatom_any p (k + 1) d hp h (fun k' e => by
      have : k' = k := by omega
      subst this
      exact zpat_all p hp k' (d + 1) (by omega))))
end Go.Proofs.Ytjcknghdgfcboaa
