import Derived.Test.YtcpgklcimacngaaGreatRm2
import Derived.Deep.OwnRows
namespace Go.Proofs.YtcpgklcimacngaaGreat
open Go.RowKit
set_option linter.unusedVariables false
set_option linter.unusedSimpArgs false

theorem withF_has {ws : List Int} (h : WOk ws) {lo hi : Nat} (h1 : lo ≤ hi) (h2 : hi < 256) : WOk (withF ws lo hi) ∧ ∀ c, hasB (withF ws lo hi) c = (hasB ws c || decide (lo ≤ c ∧ c ≤ hi)) := by
  obtain ⟨q1, q2⟩ := withN_ok h (lo := lo) (hi + 1 - lo) (by omega)
  have e : withF ws lo hi = withN ws lo (hi + 1 - lo) := by
    unfold withF
    congr 1; omega
  rw [e]
  refine ⟨q1, fun c => ?_⟩
  rw [hasB_tb q1, q2, hasB_tb h]
  congr 1
  rw [Bool.eq_iff_iff, decide_eq_true_eq, decide_eq_true_eq]
  omega
theorem rRange_le {a : ByteArray} {i : Int} (h0 : 0 ≤ i) (h : (rRange a i).2.2.2 = true) : (rRange a i).1 ≤ (rRange a i).2.1 := by
  unfold rRange at h ⊢
  split
  · rename_i e; rw [if_pos e] at h; cases h
  · rename_i e; rw [if_neg e] at h
    split
    · exact Int.le_refl _
    · rename_i e2; rw [if_neg e2] at h
      split
      · rename_i e3; rw [if_pos e3] at h; cases h
      · rename_i e3; rw [if_neg e3] at h
        split
        · rename_i e4; rw [if_pos e4] at h; cases h
        · rename_i e4; dsimp only; omega
theorem rEndsL_end {a : ByteArray} {i : Int} : ∀ (f : Nat) (next : Int) (ws : List Int), 0 ≤ next → (rEndsL a i f next ws).2.2 = true → next + 1 ≤ (rEndsL a i f next ws).2.1
  | 0, next, ws, _, h => by simp [rEndsL] at h
  | f + 1, next, ws, h0, h => by
    rw [rEndsL_s] at h ⊢
    by_cases c1 : next = i ∨ atB a next ≠ 93
    · rw [if_pos c1] at h ⊢
      by_cases hr : (rRange a next).2.2.2 = false
      · rw [if_pos hr] at h; cases h
      · rw [if_neg hr] at h ⊢
        obtain ⟨b1, b2, b3, b4, b5, b6, b7⟩ := rRange_bd a next h0
        have b8 := b7 (by simpa using hr)
        have := rEndsL_end f _ _ (by omega) h
        omega
    · rw [if_neg c1]; dsimp only; omega
/-- one step through the ranges -/
theorem ends_step {a : ByteArray} {i0 : Int} {f : Nat} {next : Int} {ws : List Int} (h0 : 0 ≤ next) (hw : WOk ws) (hok : (rEndsL a i0 f next ws).2.2 = true) (hn : (rEndsL a i0 f next ws).2.1 = a.size) :
    (next + 1 = a.size ∧ (rEndsL a i0 f next ws).1 = ws) ∨ (next + 1 < a.size ∧ ∃ lo hi nx : Nat, rRange a next = ((lo : Int), (hi : Int), (nx : Int), true) ∧ next < nx ∧ (nx : Int) + 1 ≤ a.size ∧ WOk (withF ws lo hi) ∧ (∀ c, hasB (withF ws lo hi) c = (hasB ws c || decide (lo ≤ c ∧ c ≤ hi))) ∧ lo ≤ 255 ∧ hi ≤ 255 ∧ ∃ f', rEndsL a i0 f' nx (withF ws lo hi) = rEndsL a i0 f next ws) := by
  cases f with
  | zero => simp [rEndsL] at hok
  | succ f =>
    rw [rEndsL_s] at hok hn ⊢
    by_cases c1 : next = i0 ∨ atB a next ≠ 93
    · rw [if_pos c1] at hok hn ⊢
      by_cases hr : (rRange a next).2.2.2 = false
      · rw [if_pos hr] at hok; cases hok
      · rw [if_neg hr] at hok hn ⊢
        have hr' : (rRange a next).2.2.2 = true := by simpa using hr
        obtain ⟨b1, b2, b3, b4, b5, b6, b7⟩ := rRange_bd a next h0
        have b8 := b7 hr'
        have hle := rRange_le h0 hr'
        have hend := rEndsL_end (i := i0) f (rRange a next).2.2.1 _ (by omega) hok
        rw [hn] at hend
        obtain ⟨lo, hlo⟩ : ∃ n : Nat, (rRange a next).1 = n := ⟨(rRange a next).1.toNat, by omega⟩
        obtain ⟨hi', hhi⟩ : ∃ n : Nat, (rRange a next).2.1 = n := ⟨(rRange a next).2.1.toNat, by omega⟩
        obtain ⟨nx, hnx⟩ : ∃ n : Nat, (rRange a next).2.2.1 = n := ⟨(rRange a next).2.2.1.toNat, by omega⟩
        obtain ⟨q1, q2⟩ := withF_has hw (lo := lo) (hi := hi') (by omega) (by omega)
        refine .inr ⟨by omega, lo, hi', nx, ?_, by omega, by omega, q1, q2, by omega, by omega, f, ?_⟩
        · rw [← hlo, ← hhi, ← hnx, ← hr']
        · rw [hlo, hhi, hnx]
    · rw [if_neg c1] at hok hn ⊢
      dsimp only at hn ⊢
      exact .inl ⟨by omega, rfl⟩
theorem ends_ok {a : ByteArray} {i : Int} : ∀ (f : Nat) (next : Int) (ws : List Int), 0 ≤ next → WOk ws → WOk (rEndsL a i f next ws).1
  | 0, next, ws, _, h => h
  | f + 1, next, ws, h0, h => by
    rw [rEndsL_s]
    split
    · split
      · exact zero4_ok
      · rename_i hr
        have hr' : (rRange a next).2.2.2 = true := by simpa using hr
        obtain ⟨b1, b2, b3, b4, b5, b6, b7⟩ := rRange_bd a next h0
        have hle := rRange_le h0 hr'
        obtain ⟨lo, hlo⟩ : ∃ n : Nat, (rRange a next).1 = n := ⟨(rRange a next).1.toNat, by omega⟩
        obtain ⟨hi', hhi⟩ : ∃ n : Nat, (rRange a next).2.1 = n := ⟨(rRange a next).2.1.toNat, by omega⟩
        rw [hlo, hhi]
        exact ends_ok f _ _ (by omega) (withF_has h (lo := lo) (hi := hi') (by omega) (by omega)).1
    · exact h

set_option maxRecDepth 20000 in
set_option maxHeartbeats 2000000 in
theorem zhas_br (a : ByteArray) (c : Nat) (w : World) (hs : a.size ≤ 80000) (h1 : 1 < a.size) (hc : c < 256) (h91 : atB a 0 = 91) (nt : Bool) (hnt : (atB a 1 == 94) = nt) (i0 : Nat) (hi0 : i0 = if nt = true then 2 else 1) (E : List Int × Int × Bool) (hE : rEnds a i0 = E) (hok : E.2.2 = true) (hend : E.2.1 = a.size) :
    Calls Tryz.prog 101 #[.string a, .int .u8 c] w fun e w' => e = .returned (.bool (hasB E.1 c != nt)) ∧ w' = w := by
  have h0 : 0 < a.size := by omega
  have b0 := atB_ix h0
  have b1 := atB_ix h1
  have z0 : atB a 0 = (a[0].toNat : Int) := b0
  have z1 : atB a 1 = (a[1].toNat : Int) := b1
  rw [z0] at h91
  rw [z1] at hnt
  have k1 : ((a[0].toNat : Int) == 46) = false := by simp [h91]
  have k2 : ((a[0].toNat : Int) == 92) = false := by simp [h91]
  have k3 : ((a[0].toNat : Int) == 91) = true := by simp [h91]
  have hl0 : a[0].toNat < 256 := a[0].toNat_lt
  have hl1 : a[1].toNat < 256 := a[1].toNat_lt
  have p0 : (0 : Int) < (a.size : Int) := by omega
  have p1 : (1 : Int) < (a.size : Int) := by omega
  have ZE := hid (fun (i : Nat) (w : World) (h : i ≤ 100000) => zends_any a i w (by omega) h)
  have HE : Hid (rEndsL a i0 (a.size + 5) i0 zero4 = E) := hE
  have HOK := hid hok
  have HEND := hid hend
  have HZ : Hid (hasB zero4 c = false) := by unfold Hid; rw [hasB_tb zero4_ok, zero4_tb]
  have CC : ((c : Int) : Int) < 256 := by omega
  clear hE hok hend b0 b1 z0 z1 h91
  cases nt
  · simp only [Bool.false_eq_true, if_false] at hi0
    subst hi0
    go_enter Tryz.func101, Tryz.ntmps101
    go_wp2
    go_loopw [7, 9] (fun x7 x9 wr => ∃ (f next : Nat) (ws : List Int), x7 = .int .i64 next ∧ x9 = .bool (hasB ws c) ∧ wr = w ∧ WOk ws ∧ next ≤ a.size ∧ rEndsL a ((1 : Nat) : Int) f next ws = E)
        (fun x _ _ => 100000 - (intOf x).toNat)
    case atStart => exact ⟨a.size + 5, 1, zero4, rfl, by rw [HZ.out], rfl, zero4_ok, by omega, HE.out⟩
    case round =>
      obtain ⟨f, next, ws, rfl, rfl, rfl, hw, hnl, hrec⟩ := hrel
      have hst := ends_step (a := a) (i0 := ((1 : Nat) : Int)) (f := f) (next := (next : Int)) (ws := ws) (by omega) hw (by rw [hrec]; exact HOK.out) (by rw [hrec]; exact HEND.out)
      rw [hrec] at hst
      clear HE hrec HZ
      rcases hst with ⟨q1, q2⟩ | ⟨q1, lo, hi, nx, q2, q3, q4, q5, q6, q7, q8, f', q9⟩
      · have k4 : ¬ (next : Int) < (a.size : Int) - 1 := by omega
        have HQ := hid q2
        clear q2 q1
        generalize hgb : hasB ws c = hb
        have HGB := hid hgb
        clear hgb
        go_wp2
        go_ret
        exact ⟨by rw [HQ.out, HGB.out]; cases hb <;> rfl, rfl⟩
      · have k4 : (next : Int) < (a.size : Int) - 1 := by omega
        have ZX := hid (fun w => ZE.out next w (by omega))
        rw [q2] at ZX
        have HQ6 := hid (q6 c)
        have HQ9 := hid q9
        have HW2 := hid q5
        have ZY : Hid (∀ w : World, Calls Tryz.prog 100 #[.string a, .int .i64 next] w fun e w' => e = .returned (.tuple #[.int .i64 nx, .int .i64 lo, .int .i64 hi]) ∧ w' = w) := ZX.out
        have hnx : (0 : Int) ≤ (nx : Int) := by omega
        clear q2 q6 q9 q5 ZX
        generalize hh2 : hasB (withF ws lo hi) c = hb2 at HQ6
        have HH2 := hid hh2
        clear hh2
        generalize hasB ws c = hb1 at HQ6
        cases hb1
        · by_cases c1 : lo ≤ c
          · have d1 : (lo : Int) ≤ (c : Int) := by omega
            by_cases c2 : c ≤ hi
            · have d2 : (c : Int) ≤ (hi : Int) := by omega
              have HB : Hid (hb2 = true) := by unfold Hid; rw [HQ6.out, decide_eq_true ⟨c1, c2⟩]; rfl
              go_wp2_with (first
                | (go_at_call 100; refine (ZY.out _).mono ?_; rintro e w' ⟨rfl, hw⟩; rw [hw]; clear hw))
              go_roundw
              case rel => exact ⟨f', nx, _, rfl, by rw [HH2.out, HB.out], by first | rfl | trivial, HW2.out, by omega, HQ9.out⟩
              case measure => simp [intOf]; omega
            · have d2 : ¬ (c : Int) ≤ (hi : Int) := by omega
              have HB : Hid (hb2 = false) := by unfold Hid; rw [HQ6.out, decide_eq_false (fun q => c2 q.2)]; rfl
              go_wp2_with (first
                | (go_at_call 100; refine (ZY.out _).mono ?_; rintro e w' ⟨rfl, hw⟩; rw [hw]; clear hw))
              go_roundw
              case rel => exact ⟨f', nx, _, rfl, by rw [HH2.out, HB.out], by first | rfl | trivial, HW2.out, by omega, HQ9.out⟩
              case measure => simp [intOf]; omega
          · have d1 : ¬ (lo : Int) ≤ (c : Int) := by omega
            have HB : Hid (hb2 = false) := by unfold Hid; rw [HQ6.out, decide_eq_false (fun q => c1 q.1)]; rfl
            go_wp2_with (first
              | (go_at_call 100; refine (ZY.out _).mono ?_; rintro e w' ⟨rfl, hw⟩; rw [hw]; clear hw))
            go_roundw
            case rel => exact ⟨f', nx, _, rfl, by rw [HH2.out, HB.out], by first | rfl | trivial, HW2.out, by omega, HQ9.out⟩
            case measure => simp [intOf]; omega
        · have HB : Hid (hb2 = true) := by unfold Hid; rw [HQ6.out]; rfl
          go_wp2_with (first
            | (go_at_call 100; refine (ZY.out _).mono ?_; rintro e w' ⟨rfl, hw⟩; rw [hw]; clear hw))
          go_roundw
          case rel => exact ⟨f', nx, _, rfl, by rw [HH2.out, HB.out], by first | rfl | trivial, HW2.out, by omega, HQ9.out⟩
          case measure => simp [intOf]; omega
  · simp only [if_true] at hi0
    subst hi0
    go_enter Tryz.func101, Tryz.ntmps101
    go_wp2
    go_loopw [7, 9] (fun x7 x9 wr => ∃ (f next : Nat) (ws : List Int), x7 = .int .i64 next ∧ x9 = .bool (hasB ws c) ∧ wr = w ∧ WOk ws ∧ next ≤ a.size ∧ rEndsL a ((2 : Nat) : Int) f next ws = E)
        (fun x _ _ => 100000 - (intOf x).toNat)
    case atStart => exact ⟨a.size + 5, 2, zero4, rfl, by rw [HZ.out], rfl, zero4_ok, by omega, HE.out⟩
    case round =>
      obtain ⟨f, next, ws, rfl, rfl, rfl, hw, hnl, hrec⟩ := hrel
      have hst := ends_step (a := a) (i0 := ((2 : Nat) : Int)) (f := f) (next := (next : Int)) (ws := ws) (by omega) hw (by rw [hrec]; exact HOK.out) (by rw [hrec]; exact HEND.out)
      rw [hrec] at hst
      clear HE hrec HZ
      rcases hst with ⟨q1, q2⟩ | ⟨q1, lo, hi, nx, q2, q3, q4, q5, q6, q7, q8, f', q9⟩
      · have k4 : ¬ (next : Int) < (a.size : Int) - 1 := by omega
        have HQ := hid q2
        clear q2 q1
        generalize hgb : hasB ws c = hb
        have HGB := hid hgb
        clear hgb
        go_wp2
        go_ret
        exact ⟨by rw [HQ.out, HGB.out]; cases hb <;> rfl, rfl⟩
      · have k4 : (next : Int) < (a.size : Int) - 1 := by omega
        have ZX := hid (fun w => ZE.out next w (by omega))
        rw [q2] at ZX
        have HQ6 := hid (q6 c)
        have HQ9 := hid q9
        have HW2 := hid q5
        have ZY : Hid (∀ w : World, Calls Tryz.prog 100 #[.string a, .int .i64 next] w fun e w' => e = .returned (.tuple #[.int .i64 nx, .int .i64 lo, .int .i64 hi]) ∧ w' = w) := ZX.out
        have hnx : (0 : Int) ≤ (nx : Int) := by omega
        clear q2 q6 q9 q5 ZX
        generalize hh2 : hasB (withF ws lo hi) c = hb2 at HQ6
        have HH2 := hid hh2
        clear hh2
        generalize hasB ws c = hb1 at HQ6
        cases hb1
        · by_cases c1 : lo ≤ c
          · have d1 : (lo : Int) ≤ (c : Int) := by omega
            by_cases c2 : c ≤ hi
            · have d2 : (c : Int) ≤ (hi : Int) := by omega
              have HB : Hid (hb2 = true) := by unfold Hid; rw [HQ6.out, decide_eq_true ⟨c1, c2⟩]; rfl
              go_wp2_with (first
                | (go_at_call 100; refine (ZY.out _).mono ?_; rintro e w' ⟨rfl, hw⟩; rw [hw]; clear hw))
              go_roundw
              case rel => exact ⟨f', nx, _, rfl, by rw [HH2.out, HB.out], by first | rfl | trivial, HW2.out, by omega, HQ9.out⟩
              case measure => simp [intOf]; omega
            · have d2 : ¬ (c : Int) ≤ (hi : Int) := by omega
              have HB : Hid (hb2 = false) := by unfold Hid; rw [HQ6.out, decide_eq_false (fun q => c2 q.2)]; rfl
              go_wp2_with (first
                | (go_at_call 100; refine (ZY.out _).mono ?_; rintro e w' ⟨rfl, hw⟩; rw [hw]; clear hw))
              go_roundw
              case rel => exact ⟨f', nx, _, rfl, by rw [HH2.out, HB.out], by first | rfl | trivial, HW2.out, by omega, HQ9.out⟩
              case measure => simp [intOf]; omega
          · have d1 : ¬ (lo : Int) ≤ (c : Int) := by omega
            have HB : Hid (hb2 = false) := by unfold Hid; rw [HQ6.out, decide_eq_false (fun q => c1 q.1)]; rfl
            go_wp2_with (first
              | (go_at_call 100; refine (ZY.out _).mono ?_; rintro e w' ⟨rfl, hw⟩; rw [hw]; clear hw))
            go_roundw
            case rel => exact ⟨f', nx, _, rfl, by rw [HH2.out, HB.out], by first | rfl | trivial, HW2.out, by omega, HQ9.out⟩
            case measure => simp [intOf]; omega
        · have HB : Hid (hb2 = true) := by unfold Hid; rw [HQ6.out]; rfl
          go_wp2_with (first
            | (go_at_call 100; refine (ZY.out _).mono ?_; rintro e w' ⟨rfl, hw⟩; rw [hw]; clear hw))
          go_roundw
          case rel => exact ⟨f', nx, _, rfl, by rw [HH2.out, HB.out], by first | rfl | trivial, HW2.out, by omega, HQ9.out⟩
          case measure => simp [intOf]; omega

set_option maxRecDepth 20000 in
set_option maxHeartbeats 2000000 in
theorem zhas_any (a : ByteArray) (c : Nat) (w : World) (hs : a.size ≤ 80000) (hc : c < 256) (h40 : atB a 0 ≠ 40) (hok : (rSet a 0).2.2 = true) (hend : (rSet a 0).2.1 = a.size) :
    Calls Tryz.prog 101 #[.string a, .int .u8 c] w fun e w' => e = .returned (.bool (hasB (rSet a 0).1 c)) ∧ w' = w := by
  have hcl := rSet_clean hok
  have h0 : 0 < a.size := by
    have hb := rSet_bd a 0 (by omega)
    have hin : atB a 0 ≠ -1 := by
      intro e
      unfold rSet at hok
      rw [e, if_neg (by decide), if_neg (by decide), if_neg (by decide), if_pos (by decide)] at hok
      cases hok
    have := atB_lt hin; omega
  have b0 : atB a 0 = (a[0].toNat : Int) := atB_ix h0
  have hl0 : a[0].toNat < 256 := a[0].toNat_lt
  have p0 : (0 : Int) < (a.size : Int) := by omega
  have ex : ∀ n : Nat, n < 256 → WOk (withF zero4 n n) ∧ hasB (withF zero4 n n) c = ((c : Int) == (n : Int)) := fun n hn => by
    obtain ⟨q1, q2⟩ := has_range (Nat.le_refl n) hn
    refine ⟨q1, ?_⟩
    rw [q2, Bool.eq_iff_iff, decide_eq_true_eq, beq_iff_eq]; omega
  by_cases c46 : atB a 0 = 46
  · rw [rSet_dot c46] at hend ⊢
    obtain ⟨q1, q2⟩ := ex 10 (by omega)
    rw [show ((10 : Nat) : Int) = 10 from rfl] at q1 q2
    have HV : Hid (hasB (oppN (withF zero4 10 10) 4) c = ((c : Int) != 10)) := by
      unfold Hid; rw [has_opp q1 hc, q2]; rfl
    rw [b0] at c46
    have k1 : ((a[0].toNat : Int) == 46) = true := by simp [c46]
    clear hcl ex q1 q2 hok b0 c46 hend
    dsimp only
    rw [HV.out]
    go_enter Tryz.func101, Tryz.ntmps101
    go_wp2
    go_ret
    exact ⟨rfl, rfl⟩
  · by_cases c91 : atB a 0 = 91
    · rw [rSet_br c91] at hok hend ⊢
      have h1 : 1 < a.size := by
        have := rBr_bd a 1 (by omega) (by omega)
        have := this.2.2 hok; omega
      unfold rBr at hok hend ⊢
      by_cases c94 : atB a (0 + 1) = 94
      · rw [if_pos c94] at hok hend ⊢
        have h2 := zhas_br a c w hs h1 hc c91 true (by rw [show (1 : Int) = 0 + 1 from rfl, c94]; rfl) 2 rfl _ rfl hok hend
        have hw : WOk (rEnds a ((2 : Nat) : Int)).1 := ends_ok _ _ _ (by omega) zero4_ok
        rw [show (0 : Int) + 1 + 1 = ((2 : Nat) : Int) from rfl]
        dsimp only
        rw [has_opp hw hc]
        refine h2.mono ?_
        rintro e w' ⟨he, hw'⟩
        refine ⟨?_, hw'⟩
        rw [he]; cases hasB (rEnds a ((2 : Nat) : Int)).1 c <;> rfl
      · rw [if_neg c94] at hok hend ⊢
        have h2 := zhas_br a c w hs h1 hc c91 false (by rw [show (1 : Int) = 0 + 1 from rfl]; simpa using c94) 1 rfl _ rfl hok hend
        refine h2.mono ?_
        rintro e w' ⟨he, hw'⟩
        refine ⟨?_, hw'⟩
        rw [he, show (0 : Int) + 1 = ((1 : Nat) : Int) from rfl]
        cases hasB (rEnds a ((1 : Nat) : Int)).1 c <;> rfl
    · by_cases c92 : atB a 0 = 92
      · rw [rSet_mark c92] at hok hend ⊢
        dsimp only at hok hend ⊢
        rw [show (0 : Int) + 1 = 1 from rfl] at hok hend ⊢
        have h1 : 1 < a.size := by
          by_cases q : 1 < a.size
          · exact q
          · exfalso
            unfold rMark at hok
            rw [atB_out (by omega), if_neg (by decide), if_neg (by decide), if_pos (by decide)] at hok
            cases hok
        have b1 : atB a 1 = (a[1].toNat : Int) := atB_ix h1
        have hl1 : a[1].toNat < 256 := a[1].toNat_lt
        have ZM := hid (fun w => zmarked_any a[1].toNat w (by omega))
        rw [mkF_mark, b1] at hok ⊢
        have hm : (mkF (a[1].toNat : Int)).2 = true := by
          cases z : (mkF (a[1].toNat : Int)).2
          · rw [z, if_neg (by simp)] at hok; cases hok
          · rfl
        rw [if_pos hm]
        have hmb : ∃ n : Nat, n < 256 ∧ (mkF (a[1].toNat : Int)).1 = n := by
          unfold mkF
          split
          · exact ⟨10, by omega, rfl⟩
          · split
            · exact ⟨9, by omega, rfl⟩
            · exact ⟨a[1].toNat, by omega, rfl⟩
        obtain ⟨n, hn, he⟩ := hmb
        obtain ⟨q1, q2⟩ := ex n hn
        dsimp only
        rw [he, q2]
        rw [he, hm] at ZM
        rw [b0] at c92
        have k1 : ((a[0].toNat : Int) == 46) = false := by simp [c92]
        have k2 : ((a[0].toNat : Int) == 92) = true := by simp [c92]
        have p1 : (1 : Int) < (a.size : Int) := by omega
        clear hcl ex q1 q2 hok b0 b1 c92 c46 c91 hend hm he h40
        go_enter Tryz.func101, Tryz.ntmps101
        go_wp2_with (first
          | (go_at_call 95; refine (ZM.out _).mono ?_; rintro e w' ⟨rfl, hw⟩; rw [hw]; clear hw))
        go_ret
        exact ⟨rfl, rfl⟩
      · have hp : isPlainB (atB a 0) = true := by
          cases z : isPlainB (atB a 0)
          · rw [rSet_no c46 c91 c92 z] at hok; cases hok
          · rfl
        rw [rSet_plain hp] at hend ⊢
        rw [b0] at c46 c91 c92 ⊢
        obtain ⟨q1, q2⟩ := ex a[0].toNat hl0
        dsimp only
        rw [q2]
        have k1 : ((a[0].toNat : Int) == 46) = false := by simpa using c46
        have k2 : ((a[0].toNat : Int) == 92) = false := by simpa using c92
        have k3 : ((a[0].toNat : Int) == 91) = false := by simpa using c91
        clear hcl ex q1 q2 hok b0 c92 c46 c91 hend h40 hp
        go_enter Tryz.func101, Tryz.ntmps101
        go_wp2
        go_ret
        refine ⟨ret_bool ?_, rfl⟩
        rw [Bool.eq_iff_iff, beq_iff_eq, beq_iff_eq]; exact eq_comm
end Go.Proofs.YtcpgklcimacngaaGreat
namespace Go.Proofs.YtcpgklcimacngaaGreat
open Go.RowKit
set_option linter.unusedVariables false
set_option linter.unusedSimpArgs false

abbrev bsl (g n : Nat) : Value := .slice (some ⟨g, 0, none⟩) n n
def BSet (w : World) (g : Nat) (fs : List Bool) : Prop := w.heap[g]? = some (.cells (bools fs).toArray 4 (0, 0))
theorem BSet.fresh {w w' : World} {g : Nat} {fs : List Bool} (h : BSet w g fs) (m : Fresh w w') : BSet w' g fs := m.at h (fun x => x)
theorem BSet.lt {w : World} {g : Nat} {fs : List Bool} (h : BSet w g fs) : g < w.heap.size := heap_lt h
theorem BSet.cell {w : World} {g : Nat} {fs : List Bool} (h : BSet w g fs) {j : Nat} (hj : j < fs.length) : w.cell? ⟨g, j, none⟩ = some (.bool (fs.getD j false)) := by
  rw [cellOf h, List.getElem?_toArray, List.getElem?_map, List.getElem?_eq_getElem hj]
  simp [hj]
theorem BSet.frozen {w : World} {g : Nat} {fs : List Bool} (h : BSet w g fs) (j : Nat) : w.frozen? ⟨g, j, none⟩ = false := frozenOf h j
theorem BSet.put {w : World} {g : Nat} {fs : List Bool} (h : BSet w g fs) (j : Nat) (b : Bool) : BSet (w.setCell ⟨g, j, none⟩ (.bool b)) g (fs.set j b) := by
  unfold BSet
  rw [Proofs.YtcpgklcimacngaaGreat.heap_setCell_same h]
  congr 2
  apply Array.ext_getElem?
  intro k
  simp [bools, List.map_set]
theorem made_bools (n : Nat) : madeCells #[.bool false] n = (bools (List.replicate n false)).toArray := by
  unfold madeCells
  apply Array.ext_getElem?
  intro i
  by_cases h : i < n <;> simp [h, Nat.mod_one]
theorem on_getD {fs : List Bool} {i : Nat} : On fs i ↔ fs.getD i false = true := by
  unfold On
  rw [List.getD_eq_getElem?_getD]
  cases fs[i]? with
  | none => simp
  | some b => simp
def orI (xs ys : List Bool) (n i : Nat) : List Bool := (List.range n).map fun j => decide (j < i) && (xs.getD j false || ys.getD j false)
theorem orI_len (xs ys : List Bool) (n i : Nat) : (orI xs ys n i).length = n := by simp [orI]
theorem orI_zero (xs ys : List Bool) (n : Nat) : orI xs ys n 0 = List.replicate n false := by
  apply List.ext_getElem?
  intro j
  by_cases h : j < n
  · simp [orI, h]
  · simp [orI, h]
theorem orI_set (xs ys : List Bool) {n i : Nat} (hi : i < n) : (orI xs ys n i).set i (xs.getD i false || ys.getD i false) = orI xs ys n (i + 1) := by
  apply List.ext_getElem
  · simp [orI]
  · intro j h1 h2
    rw [List.getElem_set]
    simp only [orI, List.getElem_map, List.getElem_range]
    by_cases e : i = j
    · subst e; simp
    · rw [if_neg e]
      congr 1
      rw [Bool.eq_iff_iff, decide_eq_true_eq, decide_eq_true_eq]; omega
def moI (xs ys : List Bool) (i : Nat) : Bool := (List.range i).any fun j => ys.getD j false && !xs.getD j false
theorem moI_succ (xs ys : List Bool) (i : Nat) : moI xs ys (i + 1) = (moI xs ys i || (ys.getD i false && !xs.getD i false)) := by
  unfold moI; rw [List.range_succ, List.any_append]; simp
theorem or_un {xs ys : List Bool} {n : Nat} (h : xs.length = n) : Un xs ys (orI xs ys n n) := by
  refine ⟨by rw [orI_len, h], fun j => ?_⟩
  rw [on_getD, on_getD, on_getD]
  by_cases hj : j < n
  · have : (orI xs ys n n).getD j false = (xs.getD j false || ys.getD j false) := by
      simp [orI, hj]
    rw [this, Bool.or_eq_true]
    constructor
    · rintro (q | q)
      · exact .inl q
      · exact .inr ⟨by omega, q⟩
    · rintro (q | ⟨_, q⟩)
      · exact .inl q
      · exact .inr q
  · have e1 : (orI xs ys n n).getD j false = false := by simp [orI, hj]
    have e2 : xs.getD j false = false := by
      rw [List.getD_eq_getElem?_getD, List.getElem?_eq_none (by omega)]; rfl
    rw [e1, e2]
    constructor
    · intro q; cases q
    · rintro (q | ⟨q, _⟩)
      · cases q
      · omega

set_option maxRecDepth 20000 in
set_option maxHeartbeats 2000000 in
theorem zunion_any (w : World) (ga gb n : Nat) (xs ys : List Bool) (ha : BSet w ga xs) (hb : BSet w gb ys) (la : xs.length = n) (lb : ys.length = n) (hn : n ≤ 1000) :
    Calls Tryz.prog 49 #[bsl ga n, bsl gb n] w fun e w' => e = .returned (.tuple #[bsl w.heap.size n, .bool (moI xs ys n)]) ∧ Fresh w w' ∧ BSet w' w.heap.size (orI xs ys n n) := by
  have HA := hid ha
  have HB := hid hb
  have LA := hid la
  have LB := hid lb
  have hga := ha.lt
  have hgb := hb.lt
  have mk := fun w => run_make_row' (P := Tryz.prog) 69 4 (.bool false) 1 Tryz.underlying69 (by kernel_rfl) rfl .i64 .i64 n (by omega) (by omega) w
  clear ha hb la lb
  go_enter Tryz.func49, Tryz.ntmps49
  go_wp2
  go_loopw [7, 8] (fun x7 x8 wr => ∃ i : Nat, x8 = .int .i64 i ∧ i ≤ n ∧ x7 = .bool (moI xs ys i) ∧ BSet wr w.heap.size (orI xs ys n i) ∧ Fresh w wr)
      (fun _ x _ => 1001 - (intOf x).toNat)
  case atStart =>
    refine ⟨0, rfl, by omega, rfl, ?_, (Mod.refl _ w).alloc _⟩
    rw [orI_zero, made_bools]; exact heap_alloc_at _ _
  case round =>
    obtain ⟨i, rfl, hi, rfl, hC, hfr⟩ := hrel
    have HME := hid (meas (B := 1001) i (by omega))
    have HF := hid hfr
    have HC := hid hC
    clear mk
    by_cases hlt : i < n
    · have k1 : (i : Int) < (n : Int) := by omega
      have c1 := (HA.out.fresh hfr).cell (j := i) (by rw [LA.out]; exact hlt)
      have c2 := (HB.out.fresh hfr).cell (j := i) (by rw [LB.out]; exact hlt)
      have c3 := hC.cell (j := i) (by rw [orI_len]; exact hlt)
      have z3 := hC.frozen i
      have HS := hid (orI_set xs ys hlt)
      have HM := hid (moI_succ xs ys i)
      have n1 : ga ≠ w.heap.size := by omega
      have n2 : gb ≠ w.heap.size := by omega
      have n3 : w.heap.size ≠ ga := by omega
      have n4 : w.heap.size ≠ gb := by omega
      generalize (orI xs ys n i).getD i false = xo at c3
      generalize xs.getD i false = xa at c1 HS HM
      generalize ys.getD i false = yb at c2 HS HM
      generalize moI xs ys i = mo at HM
      clear hC hfr
      cases xa <;> cases yb <;> cases mo
      all_goals
        go_wp2
        go_roundw
        case rel =>
          refine ⟨i + 1, by go_num, by omega, by rw [HM.out]; rfl, ?_, HF.out.setCell (by simp) _⟩
          rw [← HS.out]; exact HC.out.put _ _
        case measure => exact HME.out
    · have k1 : ¬ (i : Int) < (n : Int) := by omega
      have hin : i = n := by omega
      subst hin
      go_wp2
      go_ret2
      exact ⟨rfl, HF.out, HC.out⟩
/-- one byte further -/
def onI (H : Nat → Bool) (fs : List Bool) (n i : Nat) : List Bool := (List.range n).map fun j => decide (0 < j ∧ j ≤ i) && (fs.getD (j - 1) false && H (j - 1))
theorem onI_len (H : Nat → Bool) (fs : List Bool) (n i : Nat) : (onI H fs n i).length = n := by simp [onI]
theorem onI_zero (H : Nat → Bool) (fs : List Bool) (n : Nat) : onI H fs n 0 = List.replicate n false := by
  apply List.ext_getElem?
  intro j
  by_cases h : j < n
  · have : decide (0 < j ∧ j ≤ 0) = false := decide_eq_false (by omega)
    simp only [onI, List.getElem?_map, List.getElem?_range h, Option.map_some, this, Bool.false_and]
    simp [h]
  · simp [onI, h]
theorem onI_set (H : Nat → Bool) (fs : List Bool) {n i : Nat} (hi : i + 1 < n) : (onI H fs n i).set (i + 1) (fs.getD i false && H i) = onI H fs n (i + 1) := by
  apply List.ext_getElem
  · simp [onI]
  · intro j h1 h2
    rw [List.getElem_set]
    simp only [onI, List.getElem_map, List.getElem_range]
    by_cases e : i + 1 = j
    · subst e; simp
    · rw [if_neg e]
      congr 1
      rw [Bool.eq_iff_iff, decide_eq_true_eq, decide_eq_true_eq]; omega
theorem bytesK_one {t : ByteArray} {i : Nat} (h : i < t.size) : bytesK t i 1 = [t[i].toNat] := by
  show [] ++ (if h : i + 0 < t.size then [t[i + 0].toNat] else []) = _
  rw [dif_pos (by omega)]; simp
theorem on_goes {ws : List Int} {t : ByteArray} {fs : List Bool} {H : Nat → Bool} (hH : ∀ j (hj : j < t.size), H j = hasB ws t[j].toNat) : Goes (Lang.byte fun c => hasB ws c = true) t fs (onI H fs (t.size + 1) t.size) := by
  refine ⟨onI_len _ _ _ _, fun j hj => ?_⟩
  have e : (onI H fs (t.size + 1) t.size).getD j false = (decide (0 < j ∧ j ≤ t.size) && (fs.getD (j - 1) false && H (j - 1))) := by
    have : j < t.size + 1 := by omega
    rw [List.getD_eq_getElem?_getD]
    simp only [onI, List.getElem?_map, List.getElem?_range this, Option.map_some, Option.getD_some]
  rw [on_getD, e, Bool.and_eq_true, Bool.and_eq_true, decide_eq_true_eq]
  constructor
  · rintro ⟨⟨h0, _⟩, h1, h2⟩
    refine ⟨j - 1, by omega, on_getD.2 h1, t[j - 1].toNat, ?_, ?_⟩
    · show hasB ws t[j - 1].toNat = true
      rw [← hH (j - 1) (by omega)]; exact h2
    · rw [show j - (j - 1) = 1 by omega, bytesK_one (by omega)]
  · rintro ⟨i, hi, hf, c, hc, he⟩
    have hl := bytesK_len t i (j - i) (by omega)
    rw [he] at hl
    simp at hl
    have hj1 : j = i + 1 := by omega
    subst hj1
    rw [show i + 1 - i = 1 by omega, bytesK_one (by omega)] at he
    simp at he
    refine ⟨⟨by omega, by omega⟩, by simpa using on_getD.1 hf, ?_⟩
    rw [show i + 1 - 1 = i by omega, hH i (by omega), he]; exact hc

def SetRet (L : Lang) (t : ByteArray) (fs : List Bool) (g : Nat) (w : World) (e : Ending) (w' : World) : Prop :=
  ∃ g' gs, e = .returned (bsl g' (t.size + 1)) ∧ Fresh w w' ∧ BSet w' g' gs ∧ Goes L t fs gs
/-- what a function of sets of places does -/
def SetC (f : Nat) (p : ByteArray) (L : Lang) : Prop := ∀ (t : ByteArray) (g : Nat) (fs : List Bool) (w : World), t.size ≤ 210 → BSet w g fs → fs.length = t.size + 1 →
  Calls Tryz.prog f #[.string p, .string t, bsl g (t.size + 1)] w fun e w' => SetRet L t fs g w e w'

set_option maxRecDepth 20000 in
set_option maxHeartbeats 2000000 in
theorem zone_byte (a : ByteArray) (hs : a.size ≤ 80000) (h40 : atB a 0 ≠ 40) (hok : (rSet a 0).2.2 = true) (hend : (rSet a 0).2.1 = a.size) : SetC 97 a (Lang.byte fun c => hasB (rSet a 0).1 c = true) := by
  intro t g fs w ht hg hl
  have HG := hid hg
  have HL := hid hl
  have hgl := hg.lt
  have HA := hid (fun (c : Nat) (w : World) (hc : c < 256) => zhas_any a c w hs hc h40 hok hend)
  have h0 : 0 < a.size := by
    have hin : atB a 0 ≠ -1 := by
      intro e
      unfold rSet at hok
      rw [e, if_neg (by decide), if_neg (by decide), if_neg (by decide), if_pos (by decide)] at hok
      cases hok
    have := atB_lt hin; omega
  have b0 : atB a 0 = (a[0].toNat : Int) := atB_ix h0
  have hl0 : a[0].toNat < 256 := a[0].toNat_lt
  have p0 : (0 : Int) < (a.size : Int) := by omega
  rw [b0] at h40
  have k40 : ((a[0].toNat : Int) == 40) = false := by simpa using h40
  have mk := fun w => run_make_row' (P := Tryz.prog) 69 4 (.bool false) 1 Tryz.underlying69 (by kernel_rfl) rfl .i64 .i64 (t.size + 1) (by omega) (by omega) w
  simp only [Int.natCast_add, Int.cast_ofNat_Int] at mk
  generalize (rSet a 0).1 = ws at HA ⊢
  generalize hH : (fun j : Nat => if h : j < t.size then hasB ws t[j].toNat else false) = H
  have HH : Hid (∀ j (hj : j < t.size), H j = hasB ws t[j].toNat) := fun j hj => by rw [← hH]; simp [hj]
  clear hg hl hok hend b0 hH h40
  go_enter Tryz.func97, Tryz.ntmps97
  go_wp2
  go_loopw [8] (fun x8 wr => ∃ i : Nat, x8 = .int .i64 i ∧ i ≤ t.size ∧ BSet wr w.heap.size (onI H fs (t.size + 1) i) ∧ Fresh w wr)
      (fun x _ => 1001 - (intOf x).toNat)
  case atStart =>
    refine ⟨0, rfl, by omega, ?_, (Mod.refl _ w).alloc _⟩
    rw [onI_zero, made_bools]; exact heap_alloc_at _ _
  case round =>
    obtain ⟨i, rfl, hi, hC, hfr⟩ := hrel
    have HME := hid (meas (B := 1001) i (by omega))
    have HF := hid hfr
    have HC := hid hC
    clear mk
    by_cases hlt : i < t.size
    · have k1 : (i : Int) < (t.size : Int) := by omega
      have k2 : (i : Int) < (t.size : Int) + 1 := by omega
      have k3 : (i : Int) + 1 < (t.size : Int) + 1 := by omega
      have c1 := (HG.out.fresh hfr).cell (j := i) (by rw [HL.out]; omega)
      have c3 := hC.cell (j := i + 1) (by rw [onI_len]; omega)
      have z3 := hC.frozen (i + 1)
      have HS := hid (onI_set H fs (n := t.size + 1) (i := i) (by omega))
      have hbl : t[i].toNat < 256 := t[i].toNat_lt
      have HX := hid (fun w => HA.out t[i].toNat w hbl)
      have HHi := hid (HH.out i hlt)
      have n1 : g ≠ w.heap.size := by omega
      have n3 : w.heap.size ≠ g := by omega
      rw [← HHi.out] at HX
      generalize (onI H fs (t.size + 1) i).getD (i + 1) false = xo at c3
      generalize fs.getD i false = xa at c1 HS
      generalize H i = yb at HX HS
      clear hC hfr HHi
      cases xa <;> cases yb
      all_goals
        go_wp2_with (first
          | (go_at_call 101; refine (HX.out _).mono ?_; rintro e w' ⟨rfl, hw⟩; rw [hw]; clear hw))
        go_roundw
        case rel =>
          refine ⟨i + 1, by go_num, by omega, ?_, HF.out.setCell (by simp) _⟩
          rw [← HS.out]; exact HC.out.put _ _
        case measure => exact HME.out
    · have k1 : ¬ (i : Int) < (t.size : Int) := by omega
      have hin : i = t.size := by omega
      have HI := hid hin
      clear hin
      go_wp2
      go_ret
      refine ⟨w.heap.size, _, rfl, HF.out, HC.out, ?_⟩
      rw [HI.out]; exact on_goes HH.out
end Go.Proofs.YtcpgklcimacngaaGreat
