import Derived.Test.YtcpgklcimacngaaGreatLb2
namespace Go.Proofs.YtcpgklcimacngaaGreat
open Go.RowKit
set_option linter.unusedVariables false
set_option linter.unusedSimpArgs false

/-- a function of the reference that goes on, or says -1 -/
def Fwd (p : ByteArray) (f : Int → Int) : Prop := ∀ x : Int, 0 ≤ x → f x = -1 ∨ (x < f x ∧ f x ≤ p.size)
theorem zatom_fwd (p : ByteArray) (k : Nat) : Fwd p (zAtom (zgK p k) p) := by
  intro x h0
  by_cases h1 : x ≤ p.size
  · have h := zAtomK_rel (p := p) k h0
    unfold Says at h
    cases hk : (lAtom (lgK p k) p x).ok
    · left; rw [h, hk]; rfl
    · right
      have g := lg_atom p k x h0 h1 hk
      rw [h, hk]; exact g
  · left
    have hb : atB p x = -1 := atB_out (by omega)
    unfold zAtom rSet
    rw [hb, if_neg (by decide), if_neg (by decide), if_neg (by decide), if_neg (by decide), if_pos (by decide)]
    exact okI_f _
theorem zPieceL_fwd (p : ByteArray) : ∀ (f : Nat) (x : Int), x ≤ p.size → x ≤ zPieceL p f x ∧ zPieceL p f x ≤ p.size
  | 0, x, h => ⟨Int.le_refl _, h⟩
  | f + 1, x, h => by
    rw [zPieceL_s]
    split
    · rename_i c
      have := atB_lt (s := p) (i := x) (mark_in c.2)
      have := zPieceL_fwd p f (x + 1) (by omega)
      omega
    · omega
theorem zPieceL_neg (p : ByteArray) (f : Nat) : zPieceL p f (-1) = -1 := by
  cases f with
  | zero => rfl
  | succ f => rw [zPieceL_s, if_neg (by omega)]
theorem zpiece_fwd (p : ByteArray) (k : Nat) : Fwd p (zPiece (zAtom (zgK p k) p) p) := by
  intro x h0
  unfold zPiece
  rcases zatom_fwd p k x h0 with h | h
  · left; rw [h]; exact zPieceL_neg p _
  · right
    have := zPieceL_fwd p (p.size + 5) (zAtom (zgK p k) p x) h.2
    omega

set_option maxRecDepth 20000 in
set_option maxHeartbeats 1000000 in
theorem zpiece_any (p : ByteArray) (k d : Nat) (hp : p.size ≤ 80000) (hA : AtmC p d (zAtom (zgK p k) p)) : PceC p d (zPiece (zAtom (zgK p k) p) p) := by
  intro i w hi
  have AT := hid (fun w => hA i w hi)
  have hf := zatom_fwd p k i (by omega)
  unfold zPiece
  generalize zAtom (zgK p k) p i = a at AT hf ⊢
  have ha1 : -1 ≤ a := by omega
  have ha2 : a ≤ p.size := by omega
  have ZS := hid (fun (c : Int) (w : World) => zsuffix_any c w)
  generalize hV : zPieceL p (p.size + 5) a = V
  have HV := hid hV
  clear hV hA hf
  go_enter Tryz.func84, Tryz.ntmps84
  go_wp2_with (first
    | (go_at_call 90; refine (AT.out _).mono ?_; rintro e w' ⟨rfl, hw⟩; rw [hw]; clear hw))
  go_loopw [7] (fun x7 wr => ∃ (y : Int) (F : Nat), x7 = .int .i64 y ∧ -1 ≤ y ∧ y ≤ p.size ∧ (p.size : Int) + 2 ≤ F + y ∧ zPieceL p F y = V ∧ wr = w)
      (fun x _ => (100000 - intOf x).toNat)
  case atStart => exact ⟨a, p.size + 5, rfl, ha1, ha2, by omega, HV.out, rfl⟩
  case round =>
    obtain ⟨y, F, rfl, hy1, hy2, hF, hrec, rfl⟩ := hrel
    obtain ⟨F, rfl⟩ : ∃ k, F = k + 1 := ⟨F - 1, by omega⟩
    rw [zPieceL_s] at hrec
    clear HV
    by_cases h0 : 0 ≤ y
    · obtain ⟨j, rfl⟩ : ∃ j : Nat, y = j := ⟨y.toNat, by omega⟩
      by_cases hj : j < p.size
      · have hb := atB_ix hj
        have hbl : p[j].toNat < 256 := p[j].toNat_lt
        have hj1 : (j : Int) < (p.size : Int) := by omega
        rw [hb] at hrec
        have ZX := hid (fun w => ZS.out (p[j].toNat : Int) w)
        generalize isMark (p[j].toNat : Int) = mk at ZX hrec
        clear hb
        cases mk
        · rw [if_neg (by simp)] at hrec
          have HR := hid hrec
          clear hrec
          go_wp2_with (first
            | (go_at_call 91; refine (ZX.out _).mono ?_; rintro e w' ⟨rfl, hw⟩; rw [hw]; clear hw))
          go_ret
          exact ⟨by rw [← HR.out]; rfl, rfl⟩
        · rw [if_pos ⟨h0, rfl⟩] at hrec
          have HR := hid hrec
          clear hrec
          go_wp2_with (first
            | (go_at_call 91; refine (ZX.out _).mono ?_; rintro e w' ⟨rfl, hw⟩; rw [hw]; clear hw))
          go_roundw
          case rel => exact ⟨(j : Int) + 1, F, rfl, by omega, by omega, by omega, HR.out, by first | rfl | trivial⟩
          case measure => simp [intOf]; omega
      · have hj1 : ¬ (j : Int) < (p.size : Int) := by omega
        rw [atB_out (by omega), if_neg (by intro q; exact absurd q.2 (by decide))] at hrec
        have HR := hid hrec
        clear hrec
        go_wp2
        go_ret
        exact ⟨by rw [← HR.out]; rfl, rfl⟩
    · rw [if_neg (fun q => h0 q.1)] at hrec
      have HR := hid hrec
      clear hrec
      go_wp2
      go_ret
      exact ⟨by rw [← HR.out]; rfl, rfl⟩

set_option maxRecDepth 20000 in
set_option maxHeartbeats 1000000 in
theorem zpattern_any (p : ByteArray) (k d : Nat) (hp : p.size ≤ 80000) (hP : PceC p d (zPiece (zAtom (zgK p k) p) p)) : PatC p d (zpK p k) := by
  intro i w hi
  have PC := hid hP
  have FW := hid (zpiece_fwd p k)
  show Calls _ _ _ _ (fun e w' => e = .returned (.int .i64 (zPat (zPiece (zAtom (zgK p k) p) p) p i)) ∧ w' = w)
  generalize zPiece (zAtom (zgK p k) p) p = pc at PC FW ⊢
  have PI := hid (fun w => PC.out i w hi)
  have hf := FW.out i (by omega)
  unfold zPat
  generalize pc i = a at PI hf ⊢
  have ha1 : -1 ≤ a := by omega
  have ha2 : a ≤ p.size := by omega
  generalize hV : zPatL pc p (p.size + 5) a = V
  have HV := hid hV
  clear hV hP hf
  go_enter Tryz.func61, Tryz.ntmps61
  go_wp2_with (first
    | (go_at_call 84; refine (PI.out _).mono ?_; rintro e w' ⟨rfl, hw⟩; rw [hw]; clear hw))
  go_loopw [1, 7, 8] (fun x1 _ _ wr => ∃ (y : Int) (F : Nat), x1 = .int .i64 y ∧ -1 ≤ y ∧ y ≤ p.size ∧ (p.size : Int) + 2 ≤ F + y ∧ zPatL pc p F y = V ∧ wr = w)
      (fun x _ _ _ => (100000 - intOf x).toNat)
  case atStart => exact ⟨a, p.size + 5, rfl, ha1, ha2, by omega, HV.out, rfl⟩
  case round =>
    obtain ⟨y, F, rfl, hy1, hy2, hF, hrec, rfl⟩ := hrel
    obtain ⟨F, rfl⟩ : ∃ k, F = k + 1 := ⟨F - 1, by omega⟩
    rw [zPatL_s] at hrec
    clear HV PI
    by_cases h0 : 0 ≤ y
    · obtain ⟨j, rfl⟩ : ∃ j : Nat, y = j := ⟨y.toNat, by omega⟩
      by_cases hj : j < p.size
      · have hb := atB_ix hj
        have hbl : p[j].toNat < 256 := p[j].toNat_lt
        have hj1 : (j : Int) < (p.size : Int) := by omega
        rw [if_pos ⟨h0, hj1⟩] at hrec
        by_cases q : p[j].toNat = 124
        · have kq : ((p[j].toNat : Int) == 124) = true := by simp [q]
          have ez : zJ p (j : Nat) = (j : Int) + 1 := by unfold zJ; rw [hb, if_pos (by omega)]
          rw [ez] at hrec
          have PJ := hid (fun w => PC.out (j + 1) w (by omega))
          have hf := FW.out ((j : Int) + 1) (by omega)
          have ej : ((j + 1 : Nat) : Int) = (j : Int) + 1 := by omega
          rw [ej] at PJ
          generalize pc ((j : Int) + 1) = v at PJ hf hrec
          clear hb q PC FW ez
          by_cases hv : v < 0
          · rw [if_pos hv] at hrec
            have HR := hid hrec
            clear hrec
            go_wp2_with (first
              | (go_at_call 84; refine (PJ.out _).mono ?_; rintro e w' ⟨rfl, hw⟩; rw [hw]; clear hw))
            go_ret
            exact ⟨by rw [← HR.out]; rfl, rfl⟩
          · rw [if_neg hv] at hrec
            have HR := hid hrec
            clear hrec
            go_wp2_with (first
              | (go_at_call 84; refine (PJ.out _).mono ?_; rintro e w' ⟨rfl, hw⟩; rw [hw]; clear hw))
            go_roundw
            case rel => exact ⟨v, F, rfl, by omega, by omega, by omega, HR.out, by first | rfl | trivial⟩
            case measure => simp [intOf]; omega
        · have kq : ((p[j].toNat : Int) == 124) = false := by simp; omega
          have ez : zJ p (j : Nat) = (j : Int) := by unfold zJ; rw [hb, if_neg (by omega)]
          rw [ez] at hrec
          have PJ := hid (fun w => PC.out j w (by omega))
          have hf := FW.out (j : Int) (by omega)
          generalize pc (j : Int) = v at PJ hf hrec
          clear hb q PC FW ez
          by_cases hv : v < 0
          · rw [if_pos hv] at hrec
            have HR := hid hrec
            clear hrec
            go_wp2_with (first
              | (go_at_call 84; refine (PJ.out _).mono ?_; rintro e w' ⟨rfl, hw⟩; rw [hw]; clear hw))
            go_ret
            exact ⟨by rw [← HR.out]; rfl, rfl⟩
          · rw [if_neg hv] at hrec
            have HR := hid hrec
            clear hrec
            go_wp2_with (first
              | (go_at_call 84; refine (PJ.out _).mono ?_; rintro e w' ⟨rfl, hw⟩; rw [hw]; clear hw))
            go_roundw
            case rel => exact ⟨v, F, rfl, by omega, by omega, by omega, HR.out, by first | rfl | trivial⟩
            case measure => simp [intOf]; omega
      · have hj1 : ¬ (j : Int) < (p.size : Int) := by omega
        rw [if_neg (fun q => hj1 q.2)] at hrec
        have HR := hid hrec
        clear hrec
        go_wp2
        go_ret
        exact ⟨by rw [← HR.out]; rfl, rfl⟩
    · rw [if_neg (fun q => h0 q.1)] at hrec
      have HR := hid hrec
      clear hrec
      go_wp2
      go_ret
      exact ⟨by rw [← HR.out]; rfl, rfl⟩
/-- the reference's pattern, from no brackets on -/
theorem zpat_all (p : ByteArray) (hp : p.size ≤ 80000) : ∀ (k d : Nat), d + k = 6 → PatC p d (zpK p k)
  | 0, d, h => zpattern_any p 0 d hp (zpiece_any p 0 d hp (zatom_any p 0 d hp h (fun k' e => by omega)))
  | k + 1, d, h => zpattern_any p (k + 1) d hp (zpiece_any p (k + 1) d hp (zatom_any p (k + 1) d hp h (fun k' e => by
      have : k' = k := by omega
      subst this
      exact zpat_all p hp k' (d + 1) (by omega))))
end Go.Proofs.YtcpgklcimacngaaGreat
namespace Go.Proofs.YtcpgklcimacngaaGreat
open Go.RowKit
set_option linter.unusedVariables false
set_option linter.unusedSimpArgs false

/-- how many small letters stand from here on -/
def zLetL (s : ByteArray) : Nat → Int → Nat
  | 0, _ => 0
  | f + 1, x => if isSmallB (atB s x) = true then zLetL s f (x + 1) + 1 else 0
def zLet (s : ByteArray) (i : Int) : Nat := zLetL s (s.size + 2) i
theorem zLetL_s (s : ByteArray) (f : Nat) (x : Int) : zLetL s (f + 1) x = if isSmallB (atB s x) = true then zLetL s f (x + 1) + 1 else 0 := rfl
theorem small_in {c : Int} (h : isSmallB c = true) : c ≠ -1 := by intro e; rw [e] at h; revert h; decide
theorem zLetL_le (s : ByteArray) : ∀ (f : Nat) (x : Int), 0 ≤ x → x ≤ s.size → x + zLetL s f x ≤ s.size
  | 0, x, _, h => by simp [zLetL]; exact h
  | f + 1, x, h0, h => by
    rw [zLetL_s]
    split
    · rename_i c
      have := atB_lt (s := s) (i := x) (small_in c)
      have := zLetL_le s f (x + 1) (by omega) (by omega)
      omega
    · simp; exact h
set_option maxRecDepth 20000 in
set_option maxHeartbeats 1000000 in
theorem zletters_any (s : ByteArray) (i : Nat) (w : World) (hs : s.size ≤ 80000) (hi : i ≤ s.size + 1) :
    Calls Tryz.prog 60 #[.string s, .int .i64 i] w fun e w' => e = .returned (.int .i64 (zLet s i : Nat)) ∧ w' = w := by
  have ZS := hid (fun (c : Int) (w : World) => zsmall_any c w)
  unfold zLet
  generalize hV : zLetL s (s.size + 2) i = V
  have HV := hid hV
  clear hV
  go_enter Tryz.func60, Tryz.ntmps60
  go_wp2
  go_loopw [5] (fun x5 wr => ∃ (n F : Nat), x5 = .int .i64 n ∧ i + n ≤ s.size + 1 ∧ s.size + 2 ≤ F + i + n ∧ n + zLetL s F ((i : Int) + n) = V ∧ wr = w)
      (fun x _ => 200000 - (intOf x).toNat)
  case atStart => exact ⟨0, s.size + 2, rfl, by omega, by omega, by rw [← HV.out]; simp, rfl⟩
  case round =>
    obtain ⟨n, F, rfl, hn, hF, hrec, rfl⟩ := hrel
    obtain ⟨F, rfl⟩ : ∃ k, F = k + 1 := ⟨F - 1, by omega⟩
    rw [zLetL_s] at hrec
    clear HV
    by_cases hj : i + n < s.size
    · have hb : atB s ((i : Int) + n) = s[i + n].toNat := by rw [← atB_ix hj]; congr 1
      have hbl : s[i + n].toNat < 256 := s[i + n].toNat_lt
      have hj1 : (i : Int) + (n : Int) < (s.size : Int) := by omega
      have h33 : ((i : Int) + (n : Int)).toNat = i + n := by omega
      rw [hb] at hrec
      have ZX := hid (fun w => ZS.out (s[i + n].toNat : Int) w)
      generalize isSmallB (s[i + n].toNat : Int) = mk at ZX hrec
      clear hb
      cases mk
      · rw [if_neg (by simp)] at hrec
        have HR : Hid (n = V) := by unfold Hid; omega
        clear hrec
        go_wp2_with (first
          | (go_at_call 83; refine (ZX.out _).mono ?_; rintro e w' ⟨rfl, hw⟩; rw [hw]; clear hw))
        go_ret
        exact ⟨by rw [← HR.out]; rfl, rfl⟩
      · rw [if_pos rfl] at hrec
        have HR : Hid (n + 1 + zLetL s F ((i : Int) + ((n + 1 : Nat) : Int)) = V) := by
          unfold Hid
          rw [show (i : Int) + ((n + 1 : Nat) : Int) = (i : Int) + n + 1 by omega]; omega
        clear hrec
        go_wp2_with (first
          | (go_at_call 83; refine (ZX.out _).mono ?_; rintro e w' ⟨rfl, hw⟩; rw [hw]; clear hw))
        go_roundw
        case rel => exact ⟨n + 1, F, by go_num, by omega, by omega, HR.out, by first | rfl | trivial⟩
        case measure => simp [intOf]; omega
    · have hj1 : ¬ (i : Int) + (n : Int) < (s.size : Int) := by omega
      rw [atB_out (by omega), if_neg (by decide)] at hrec
      have HR : Hid (n = V) := by unfold Hid; omega
      clear hrec
      go_wp2
      go_ret
      exact ⟨by rw [← HR.out]; rfl, rfl⟩
/-- behind the name or head that begins here -/
def zSym (s : ByteArray) (i : Int) : Int :=
  if (s.size : Int) ≤ i then -1
  else if isCapB (atB s i) = true then (if 8 < 1 + (zLet s (i + 1) : Int) then -1 else i + 1 + zLet s (i + 1))
  else (if (zLet s i : Int) = 0 ∨ 8 < (zLet s i : Int) then -1 else i + zLet s i)
set_option maxRecDepth 20000 in
set_option maxHeartbeats 1000000 in
theorem zsymbol_any (s : ByteArray) (i : Nat) (w : World) (hs : s.size ≤ 80000) (hi : i ≤ 100000) :
    Calls Tryz.prog 62 #[.string s, .int .i64 i] w fun e w' => e = .returned (.int .i64 (zSym s i)) ∧ w' = w := by
  unfold zSym
  by_cases h1 : i < s.size
  · have hb := atB_ix h1
    have hbl : s[i].toNat < 256 := s[i].toNat_lt
    have h11 : ¬ (s.size : Int) ≤ (i : Int) := by omega
    have h12 : (i : Int) < (s.size : Int) := by omega
    have ZG := hid (fun w => zgreat_any (s[i].toNat : Int) w)
    rw [if_neg h11, hb]
    generalize isCapB (s[i].toNat : Int) = cp at ZG ⊢
    clear hb
    cases cp
    · rw [if_neg (by simp)]
      have ZL := hid (fun w => zletters_any s i w hs (by omega))
      have hle := zLetL_le s (s.size + 2) i (by omega) (by omega)
      have hle2 : (i : Int) + (zLet s i : Nat) ≤ s.size := hle
      clear hle
      generalize zLet s (i : Nat) = n at ZL hle2 ⊢
      by_cases q : n = 0
      · subst q
        rw [if_pos (.inl rfl)]
        go_enter Tryz.func62, Tryz.ntmps62
        go_wp2_with (first
          | (go_at_call 43; refine (ZG.out _).mono ?_; rintro e w' ⟨rfl, hw⟩; rw [hw]; clear hw)
          | (go_at_call 60; refine (ZL.out _).mono ?_; rintro e w' ⟨rfl, hw⟩; rw [hw]; clear hw))
        go_ret
        exact ⟨rfl, rfl⟩
      · have k1 : (((i : Int) + (n : Int)) == (i : Int)) = false := by simp; omega
        have k2 : ¬ (i : Int) + (n : Int) = (i : Int) := by omega
        have k3 : (i : Int) + (n : Int) - (i : Int) = (n : Int) := by omega
        by_cases q8 : 8 < n
        · have k8 : (8 : Int) < (n : Int) := by omega
          rw [if_pos (.inr k8)]
          go_enter Tryz.func62, Tryz.ntmps62
          go_wp2_with (first
            | (go_at_call 43; refine (ZG.out _).mono ?_; rintro e w' ⟨rfl, hw⟩; rw [hw]; clear hw)
            | (go_at_call 60; refine (ZL.out _).mono ?_; rintro e w' ⟨rfl, hw⟩; rw [hw]; clear hw))
          go_ret
          exact ⟨rfl, rfl⟩
        · have k8 : ¬ (8 : Int) < (n : Int) := by omega
          rw [if_neg (by omega)]
          go_enter Tryz.func62, Tryz.ntmps62
          go_wp2_with (first
            | (go_at_call 43; refine (ZG.out _).mono ?_; rintro e w' ⟨rfl, hw⟩; rw [hw]; clear hw)
            | (go_at_call 60; refine (ZL.out _).mono ?_; rintro e w' ⟨rfl, hw⟩; rw [hw]; clear hw))
          go_ret
          exact ⟨rfl, rfl⟩
    · rw [if_pos rfl]
      have ZL := hid (fun w => zletters_any s (i + 1) w hs (by omega))
      have ei : ((i + 1 : Nat) : Int) = (i : Int) + 1 := by omega
      rw [ei] at ZL
      have hle := zLetL_le s (s.size + 2) ((i : Int) + 1) (by omega) (by omega)
      have hle2 : (i : Int) + 1 + (zLet s ((i : Int) + 1) : Nat) ≤ s.size := hle
      clear hle
      generalize zLet s ((i : Int) + 1) = n at ZL hle2 ⊢
      have k1 : (((i : Int) + 1 + (n : Int)) == (i : Int)) = false := by simp; omega
      have k2 : ¬ (i : Int) + 1 + (n : Int) = (i : Int) := by omega
      have k3 : (i : Int) + 1 + (n : Int) - (i : Int) = 1 + (n : Int) := by omega
      by_cases q8 : 8 < 1 + n
      · have k8 : (8 : Int) < 1 + (n : Int) := by omega
        rw [if_pos k8]
        go_enter Tryz.func62, Tryz.ntmps62
        go_wp2_with (first
          | (go_at_call 43; refine (ZG.out _).mono ?_; rintro e w' ⟨rfl, hw⟩; rw [hw]; clear hw)
          | (go_at_call 60; refine (ZL.out _).mono ?_; rintro e w' ⟨rfl, hw⟩; rw [hw]; clear hw))
        go_ret
        exact ⟨rfl, rfl⟩
      · have k8 : ¬ (8 : Int) < 1 + (n : Int) := by omega
        rw [if_neg k8]
        go_enter Tryz.func62, Tryz.ntmps62
        go_wp2_with (first
          | (go_at_call 43; refine (ZG.out _).mono ?_; rintro e w' ⟨rfl, hw⟩; rw [hw]; clear hw)
          | (go_at_call 60; refine (ZL.out _).mono ?_; rintro e w' ⟨rfl, hw⟩; rw [hw]; clear hw))
        go_ret
        exact ⟨rfl, rfl⟩
  · have h11 : (s.size : Int) ≤ (i : Int) := by omega
    rw [if_pos h11]
    go_enter Tryz.func62, Tryz.ntmps62
    go_wp2
    go_ret
    exact ⟨rfl, rfl⟩
end Go.Proofs.YtcpgklcimacngaaGreat
namespace Go.Proofs.YtcpgklcimacngaaGreat
open Go.RowKit
set_option linter.unusedVariables false
set_option linter.unusedSimpArgs false

def pre4 : ByteArray := ⟨#[97, 61, 120, 40]⟩
def post5 : ByteArray := ⟨#[41, 10, 83, 58, 10]⟩
/-- a pattern in brackets behind an x, as a specification -/
def specX (b : ByteArray) : ByteArray := pre4 ++ b ++ post5
section
variable (b : ByteArray)
end
theorem read_ok {s : ByteArray} {i : Int} (h : (rRead s i).ok = true) : (lchK s 6 i).ok = true ∧ (rRead s i).next = (lchK s 6 i).next := by
  have hk := lk_chK s 6 i []
  exact ⟨by rw [← h]; exact hk.ok.symm, hk.next⟩
section
variable {b p q : ByteArray} {L M : Lang}
end
end Go.Proofs.YtcpgklcimacngaaGreat
namespace Go.Proofs.YtcpgklcimacngaaGreat
open Go.RowKit
set_option linter.unusedVariables false
set_option linter.unusedSimpArgs false

def openT : ByteArray := ⟨#[40]⟩
def closeT : ByteArray := ⟨#[41]⟩
/-- the patterns that joined makes -/
def eitherT (p q : ByteArray) : ByteArray := openT ++ p ++ ⟨#[41, 124, 40]⟩ ++ q ++ closeT
def bothT (p q : ByteArray) : ByteArray := openT ++ p ++ ⟨#[41, 40]⟩ ++ q ++ closeT
def markT (m : UInt8) (p : ByteArray) : ByteArray := openT ++ p ++ ⟨#[41, m]⟩
section
variable {p q r : ByteArray} {L M : Lang}
end
end Go.Proofs.YtcpgklcimacngaaGreat
namespace Go.Proofs.YtcpgklcimacngaaGreat
open Go.RowKit
set_option linter.unusedVariables false
set_option linter.unusedSimpArgs false

def xT : ByteArray := ⟨#[120]⟩
/-- Match, as matched asks it -/
def mF (b t : ByteArray) : Bool := (matchF (specX b) 0 (xT ++ t)).1
def eF (b t : ByteArray) : Int := (matchF (specX b) 0 (xT ++ t)).2
/-- split -/
def splitF (p q t : ByteArray) (n : Nat) : Bool := (List.range (t.size + 1)).any fun i => decide (n ≤ i) && (mF p (t.extract 0 i) && mF q (t.extract i t.size))
section
variable {p q t : ByteArray} {L M : Lang}
/-- what joined asks -/
structure Joins (p q t : ByteArray) : Prop where
  either : mF (eitherT p q) t = (mF p t || mF q t)
  both : mF (bothT p q) t = splitF p q t 0
  many : mF (markT 42 p) t = (decide (t.size = 0) || splitF p (markT 42 p) t 1)
  once : mF (markT 43 p) t = splitF p (markT 42 p) t 0
  maybe : mF (markT 63 p) t = (mF p t || decide (t.size = 0))
end
end Go.Proofs.YtcpgklcimacngaaGreat
namespace Go.Proofs.YtcpgklcimacngaaGreat
open Go.RowKit
set_option linter.unusedVariables false
set_option linter.unusedSimpArgs false

/-- where a text of the language may end, if it begins at one of these places -/
def Reach (L : Lang) (t : ByteArray) (F : Nat → Prop) (j : Nat) : Prop := ∃ i, i ≤ j ∧ F i ∧ L (bytesK t i (j - i))
def On (fs : List Bool) (i : Nat) : Prop := fs[i]? = some true
/-- gs are the places that the language leads to from fs -/
structure Goes (L : Lang) (t : ByteArray) (fs gs : List Bool) : Prop where
  len : gs.length = t.size + 1
  on : ∀ j, j ≤ t.size → (On gs j ↔ Reach L t (On fs) j)
theorem On.lt {fs : List Bool} {i : Nat} (h : On fs i) : i < fs.length := (List.getElem?_eq_some_iff.1 h).1
theorem bytesK_app (t : ByteArray) (i a : Nat) : ∀ b, bytesK t i (a + b) = bytesK t i a ++ bytesK t (i + a) b
  | 0 => by simp [bytesK]
  | b + 1 => by
    rw [← Nat.add_assoc, bytesK, bytesK_app t i a b, bytesK, List.append_assoc]
    simp only [Nat.add_assoc]
theorem bytesK_len (t : ByteArray) (i : Nat) : ∀ k, i + k ≤ t.size → (bytesK t i k).length = k
  | 0, _ => rfl
  | k + 1, h => by
    rw [bytesK, dif_pos (by omega), List.length_append, bytesK_len t i k (by omega)]; rfl
/-- a text that is parted parts the places -/
theorem bytesK_split {t : ByteArray} {i n : Nat} {u v : List Nat} (hn : i + n ≤ t.size) (h : bytesK t i n = u ++ v) : ∃ a, a ≤ n ∧ u = bytesK t i a ∧ v = bytesK t (i + a) (n - a) := by
  have hl := bytesK_len t i n hn
  rw [h, List.length_append] at hl
  refine ⟨u.length, by omega, ?_⟩
  have e := bytesK_app t i u.length (n - u.length)
  rw [show u.length + (n - u.length) = n by omega, h] at e
  have l1 := bytesK_len t i u.length (by omega)
  exact List.append_inj e (by omega)
theorem reach_cat {A B : Lang} {t : ByteArray} {F : Nat → Prop} {j : Nat} (hj : j ≤ t.size) : Reach (Lang.cat A B) t F j ↔ Reach B t (fun k => k ≤ t.size ∧ Reach A t F k) j := by
  constructor
  · rintro ⟨i, hi, hf, u, v, he, ha, hb⟩
    obtain ⟨a, h1, h2, h3⟩ := bytesK_split (by omega) he
    refine ⟨i + a, by omega, ⟨by omega, i, by omega, hf, ?_⟩, ?_⟩
    · rw [show i + a - i = a by omega, ← h2]; exact ha
    · rw [show j - (i + a) = j - i - a by omega, ← h3]; exact hb
  · rintro ⟨k, hk, ⟨_, i, hi, hf, ha⟩, hb⟩
    refine ⟨i, by omega, hf, _, _, ?_, ha, hb⟩
    have := bytesK_app t i (k - i) (j - k)
    rw [show k - i + (j - k) = j - i by omega, show i + (k - i) = k by omega] at this
    exact this
theorem reach_iff {A B : Lang} (h : ∀ w, A w ↔ B w) {t : ByteArray} {F : Nat → Prop} {j : Nat} : Reach A t F j ↔ Reach B t F j := by
  constructor
  · rintro ⟨i, h1, h2, h3⟩; exact ⟨i, h1, h2, (h _).1 h3⟩
  · rintro ⟨i, h1, h2, h3⟩; exact ⟨i, h1, h2, (h _).2 h3⟩
theorem reach_from {A : Lang} {t : ByteArray} {F G : Nat → Prop} (h : ∀ k, k ≤ t.size → (F k ↔ G k)) {j : Nat} (hj : j ≤ t.size) : Reach A t F j ↔ Reach A t G j := by
  constructor
  · rintro ⟨i, h1, h2, h3⟩; exact ⟨i, h1, (h i (by omega)).1 h2, h3⟩
  · rintro ⟨i, h1, h2, h3⟩; exact ⟨i, h1, (h i (by omega)).2 h2, h3⟩
theorem Goes.cat {A B : Lang} {t : ByteArray} {fs gs hs : List Bool} (h : Goes A t fs gs) (k : Goes B t gs hs) : Goes (Lang.cat A B) t fs hs := by
  refine ⟨k.len, fun j hj => ?_⟩
  rw [k.on j hj, reach_cat hj]
  refine reach_from (fun q hq => ?_) hj
  rw [h.on q hq]
  exact ⟨fun z => ⟨hq, z⟩, fun z => z.2⟩
theorem Goes.iff {A B : Lang} {t : ByteArray} {fs gs : List Bool} (h : Goes A t fs gs) (e : ∀ w, A w ↔ B w) : Goes B t fs gs :=
  ⟨h.len, fun j hj => by rw [h.on j hj]; exact reach_iff e⟩
/-- two sets joined -/
structure Un (xs bs cs : List Bool) : Prop where
  len : cs.length = xs.length
  on : ∀ j, On cs j ↔ On xs j ∨ (j < xs.length ∧ On bs j)
theorem Goes.alt {A B : Lang} {t : ByteArray} {fs gs hs cs : List Bool} (h : Goes A t fs gs) (k : Goes B t fs hs) (u : Un gs hs cs) : Goes (Lang.alt A B) t fs cs := by
  refine ⟨u.len.trans h.len, fun j hj => ?_⟩
  rw [u.on, h.on j hj, k.on j hj]
  have hl := h.len
  constructor
  · rintro (⟨i, h1, h2, h3⟩ | ⟨_, i, h1, h2, h3⟩)
    · exact ⟨i, h1, h2, .inl h3⟩
    · exact ⟨i, h1, h2, .inr h3⟩
  · rintro ⟨i, h1, h2, h3 | h3⟩
    · exact .inl ⟨i, h1, h2, h3⟩
    · exact .inr ⟨by omega, i, h1, h2, h3⟩
theorem goes_none {t : ByteArray} {fs gs : List Bool} (hl : gs.length = t.size + 1) (h : ∀ j, ¬ On gs j) : Goes noL t fs gs :=
  ⟨hl, fun j hj => ⟨fun q => (h j q).elim, fun ⟨i, _, _, q⟩ => q.elim⟩⟩
/-- the language of a row of pieces -/
def epsL : Lang := fun w => w = []
def catL : List Lang → Lang
  | [] => epsL
  | A :: As => Lang.cat A (catL As)
theorem goes_eps {t : ByteArray} {fs : List Bool} (hl : fs.length = t.size + 1) : Goes epsL t fs fs := by
  refine ⟨hl, fun j hj => ⟨fun h => ⟨j, Nat.le_refl _, h, by rw [Nat.sub_self]; rfl⟩, ?_⟩⟩
  rintro ⟨i, h1, h2, h3⟩
  have : (bytesK t i (j - i)).length = 0 := by rw [show bytesK t i (j - i) = [] from h3]; rfl
  rw [bytesK_len t i (j - i) (by omega)] at this
  rw [show j = i by omega]; exact h2
theorem cat_eps (A : Lang) (w : List Nat) : Lang.cat A epsL w ↔ A w := by
  constructor
  · rintro ⟨u, v, rfl, h1, h2⟩; rw [show v = [] from h2, List.append_nil]; exact h1
  · intro h; exact ⟨w, [], by simp, h, rfl⟩
theorem cat_assoc (A B C : Lang) (w : List Nat) : Lang.cat (Lang.cat A B) C w ↔ Lang.cat A (Lang.cat B C) w := by
  constructor
  · rintro ⟨_, z, rfl, ⟨u, v, rfl, h1, h2⟩, h3⟩; exact ⟨u, v ++ z, by simp, h1, v, z, rfl, h2, h3⟩
  · rintro ⟨u, _, rfl, h1, v, z, rfl, h2, h3⟩; exact ⟨u ++ v, z, by simp, ⟨u, v, rfl, h1, h2⟩, h3⟩
theorem cat_iff {A A' B B' : Lang} (h : ∀ w, A w ↔ A' w) (k : ∀ w, B w ↔ B' w) (w : List Nat) : Lang.cat A B w ↔ Lang.cat A' B' w := by
  constructor
  · rintro ⟨u, v, e, h1, h2⟩; exact ⟨u, v, e, (h u).1 h1, (k v).1 h2⟩
  · rintro ⟨u, v, e, h1, h2⟩; exact ⟨u, v, e, (h u).2 h1, (k v).2 h2⟩
theorem catL_snoc : ∀ (As : List Lang) (A : Lang) (w : List Nat), catL (As ++ [A]) w ↔ Lang.cat (catL As) A w
  | [], A, w => by
    show Lang.cat A epsL w ↔ Lang.cat epsL A w
    rw [cat_eps]
    constructor
    · intro h; exact ⟨[], w, rfl, rfl, h⟩
    · rintro ⟨u, v, rfl, h1, h2⟩; rw [show u = [] from h1]; exact h2
  | B :: As, A, w => by
    show Lang.cat B (catL (As ++ [A])) w ↔ Lang.cat (Lang.cat B (catL As)) A w
    rw [cat_assoc]
    exact cat_iff (fun _ => Iff.rfl) (catL_snoc As A) w
end Go.Proofs.YtcpgklcimacngaaGreat
