import Derived.Test.YtjcknghdgfcboaaLc2
import Derived.Laws.Bits64
import Derived.Laws.Bits64b
import Derived.WalkSmall
import Derived.Test.YtjcknghdgfcboaaRm1
namespace Go.Proofs.Ytjcknghdgfcboaa
open Go.RowKit
set_option linter.unusedVariables false
set_option linter.unusedSimpArgs false

/-- four words -/
structure WOk (ws : List Int) : Prop where
  len : ws.length = 4
  rng : ∀ k : Nat, 0 ≤ ws.getD k 0 ∧ ws.getD k 0 < 18446744073709551616
def tb (ws : List Int) (c : Nat) : Bool := (ws.getD (c / 64) 0).toNat.testBit (c % 64)
theorem hasB_tb {ws : List Int} (h : WOk ws) (c : Nat) : hasB ws c = tb ws c := by
  have hr := h.rng (c / 64)
  unfold hasB tb
  have e : ws[c / 64]?.getD 0 = ws.getD (c / 64) 0 := rfl
  rw [e]
  generalize ws.getD (c / 64) 0 = x at hr
  obtain ⟨n, rfl⟩ : ∃ n : Nat, x = n := ⟨x.toNat, by omega⟩
  have e2 : ((n : Int) / 2 ^ (c % 64)) = ((n / 2 ^ (c % 64) : Nat) : Int) := by push_cast; rfl
  have hle : n / 2 ^ (c % 64) ≤ n := Nat.div_le_self _ _
  rw [e2, Int.toNat_natCast, Nat.testBit_eq_decide_div_mod_eq]
  generalize n / 2 ^ (c % 64) = m at hle ⊢
  rw [and_one_u64 _ (by omega) (by omega), Bool.eq_iff_iff, beq_iff_eq, decide_eq_true_eq]
  omega
theorem zero4_ok : WOk zero4 := ⟨rfl, fun k => by
  match k with
  | 0 => decide
  | 1 => decide
  | 2 => decide
  | 3 => decide
  | k + 4 => simp [zero4]⟩
theorem zero4_tb (c : Nat) : tb zero4 c = false := by
  unfold tb
  have : zero4.getD (c / 64) 0 = 0 := by
    match c / 64 with
    | 0 => rfl
    | 1 => rfl
    | 2 => rfl
    | 3 => rfl
    | k + 4 => simp [zero4]
  rw [this]; simp
theorem two_lt {k : Nat} (h : k < 64) : 2 ^ k < 18446744073709551616 := by
  have := Nat.pow_lt_pow_right (a := 2) (by omega) h
  simpa using this
theorem setBit_ok {ws : List Int} (h : WOk ws) {n : Nat} (hn : n < 256) : WOk (setBit ws n) ∧ ∀ c, tb (setBit ws n) c = (tb ws c || decide (c = n)) := by
  have hr := h.rng (n / 64)
  have hl := h.len
  have hk : n % 64 < 64 := Nat.mod_lt _ (by omega)
  have hp := two_lt hk
  have e0 : setBit ws n = ws.set (n / 64) (((ws.getD (n / 64) 0).toNat ||| 2 ^ (n % 64) : Nat) : Int) := by
    unfold setBit
    have e1 : ((n : Int) / 64).toNat = n / 64 := by omega
    have e2 : ((n : Int) % 64).toNat = n % 64 := by omega
    rw [e1, e2]
    congr 1
    have e3 : IntKind.u64.wrap (2 ^ (n % 64)) = ((2 ^ (n % 64) : Nat) : Int) := by
      rw [IntKind.wrap_u64]
      have : ((2 : Int) ^ (n % 64)) = ((2 ^ (n % 64) : Nat) : Int) := by push_cast; rfl
      rw [this]
      generalize 2 ^ (n % 64) = P at hp ⊢
      omega
    have e4 : ws[n / 64]?.getD 0 = ((ws.getD (n / 64) 0).toNat : Int) := by
      have : ws[n / 64]?.getD 0 = ws.getD (n / 64) 0 := rfl
      rw [this]; omega
    rw [e3, e4, bits_or_u64_nat _ _ (by omega) hp]
  rw [e0]
  have hor : ((ws.getD (n / 64) 0).toNat ||| 2 ^ (n % 64)) < 18446744073709551616 := by
    have := Nat.or_lt_two_pow (n := 64) (x := (ws.getD (n / 64) 0).toNat) (y := 2 ^ (n % 64)) (by omega) (by omega)
    omega
  refine ⟨⟨by rw [List.length_set]; exact hl, fun k => ?_⟩, fun c => ?_⟩
  · by_cases q : n / 64 = k
    · rw [← q]
      have : (ws.set (n / 64) (((ws.getD (n / 64) 0).toNat ||| 2 ^ (n % 64) : Nat) : Int)).getD (n / 64) 0 = (((ws.getD (n / 64) 0).toNat ||| 2 ^ (n % 64) : Nat) : Int) := by
        rw [List.getD, List.getElem?_set_self (by omega)]; rfl
      rw [this]; omega
    · have : (ws.set (n / 64) (((ws.getD (n / 64) 0).toNat ||| 2 ^ (n % 64) : Nat) : Int)).getD k 0 = ws.getD k 0 := by
        rw [List.getD, List.getElem?_set_ne q]; rfl
      rw [this]; exact h.rng k
  · unfold tb
    by_cases q : n / 64 = c / 64
    · have : (ws.set (n / 64) (((ws.getD (n / 64) 0).toNat ||| 2 ^ (n % 64) : Nat) : Int)).getD (c / 64) 0 = (((ws.getD (c / 64) 0).toNat ||| 2 ^ (n % 64) : Nat) : Int) := by
        rw [← q, List.getD, List.getElem?_set_self (by omega)]; rfl
      rw [this, Int.toNat_natCast, Nat.testBit_or, Nat.testBit_two_pow]
      congr 1
      rw [Bool.eq_iff_iff, decide_eq_true_eq, decide_eq_true_eq]
      omega
    · have : (ws.set (n / 64) (((ws.getD (n / 64) 0).toNat ||| 2 ^ (n % 64) : Nat) : Int)).getD (c / 64) 0 = ws.getD (c / 64) 0 := by
        rw [List.getD, List.getElem?_set_ne q]; rfl
      rw [this]
      have : decide (c = n) = false := by simp; intro e; exact q (by rw [e])
      rw [this, Bool.or_false]
theorem withN_ok {ws : List Int} (h : WOk ws) {lo : Nat} : ∀ n, lo + n ≤ 256 → WOk (withN ws lo n) ∧ ∀ c, tb (withN ws lo n) c = (tb ws c || decide (lo ≤ c ∧ c < lo + n))
  | 0, _ => ⟨h, fun c => by
      have : decide (lo ≤ c ∧ c < lo + 0) = false := decide_eq_false (by omega)
      rw [this, Bool.or_false]; rfl⟩
  | n + 1, hn => by
    obtain ⟨h1, h2⟩ := withN_ok h (lo := lo) n (by omega)
    have e : ((lo : Int) + (n : Int)) = ((lo + n : Nat) : Int) := by omega
    obtain ⟨h3, h4⟩ := setBit_ok h1 (n := lo + n) (by omega)
    unfold withN
    rw [e]
    refine ⟨h3, fun c => ?_⟩
    rw [h4, h2, Bool.or_assoc]
    congr 1
    rw [Bool.eq_iff_iff, Bool.or_eq_true, decide_eq_true_eq, decide_eq_true_eq, decide_eq_true_eq]
    omega
theorem has_range {lo hi : Nat} (h1 : lo ≤ hi) (h2 : hi < 256) : WOk (withF zero4 lo hi) ∧ ∀ c, hasB (withF zero4 lo hi) c = decide (lo ≤ c ∧ c ≤ hi) := by
  obtain ⟨q1, q2⟩ := withN_ok zero4_ok (lo := lo) (hi + 1 - lo) (by omega)
  have e : withF zero4 lo hi = withN zero4 lo (hi + 1 - lo) := by
    unfold withF
    congr 1; omega
  rw [e]
  refine ⟨q1, fun c => ?_⟩
  rw [hasB_tb q1, q2, zero4_tb, Bool.false_or, Bool.eq_iff_iff, decide_eq_true_eq, decide_eq_true_eq]
  omega
theorem flip_ok {n : Nat} (h : n < 18446744073709551616) : flip64 n = ((18446744073709551615 ^^^ n : Nat) : Int) := by
  unfold flip64
  have e : (if IntKind.u64.signed = true then (-1 : Int) else IntKind.u64.max) = ((18446744073709551615 : Nat) : Int) := by decide
  rw [e, bits_xor_u64_nat _ _ (by omega) h]
theorem has_opp {ws : List Int} (h : WOk ws) {c : Nat} (hc : c < 256) : hasB (oppN ws 4) c = !hasB ws c := by
  obtain ⟨a, b, d, e, rfl⟩ := four h.len
  have ra := h.rng 0
  have rb := h.rng 1
  have rd := h.rng 2
  have re := h.rng 3
  simp only [List.getD_cons_zero, List.getD_cons_succ] at ra rb rd re
  obtain ⟨a, rfl⟩ : ∃ n : Nat, a = n := ⟨a.toNat, by omega⟩
  obtain ⟨b, rfl⟩ : ∃ n : Nat, b = n := ⟨b.toNat, by omega⟩
  obtain ⟨d, rfl⟩ : ∃ n : Nat, d = n := ⟨d.toNat, by omega⟩
  obtain ⟨e, rfl⟩ : ∃ n : Nat, e = n := ⟨e.toNat, by omega⟩
  have e1 : oppN [(a : Int), (b : Int), (d : Int), (e : Int)] 4 = [flip64 a, flip64 b, flip64 d, flip64 e] := rfl
  rw [e1, flip_ok (by omega), flip_ok (by omega), flip_ok (by omega), flip_ok (by omega)]
  have xl : ∀ n : Nat, n < 18446744073709551616 → 18446744073709551615 ^^^ n < 18446744073709551616 := fun n hn => by
    have := Nat.xor_lt_two_pow (n := 64) (x := 18446744073709551615) (y := n) (by omega) (by omega)
    omega
  have la := xl a (by omega)
  have lb := xl b (by omega)
  have ld := xl d (by omega)
  have le := xl e (by omega)
  have h2 : WOk [((18446744073709551615 ^^^ a : Nat) : Int), ((18446744073709551615 ^^^ b : Nat) : Int), ((18446744073709551615 ^^^ d : Nat) : Int), ((18446744073709551615 ^^^ e : Nat) : Int)] := ⟨rfl, fun k => by
    match k with
    | 0 => simp only [List.getD_cons_zero]; omega
    | 1 => simp only [List.getD_cons_succ, List.getD_cons_zero]; omega
    | 2 => simp only [List.getD_cons_succ, List.getD_cons_zero]; omega
    | 3 => simp only [List.getD_cons_succ, List.getD_cons_zero]; omega
    | k + 4 => simp⟩
  rw [hasB_tb h, hasB_tb h2]
  unfold tb
  have key : ∀ n : Nat, (18446744073709551615 ^^^ n).testBit (c % 64) = !n.testBit (c % 64) := fun n => by
    have hm : (18446744073709551615 : Nat).testBit (c % 64) = true := by
      have := Nat.testBit_two_pow_sub_one 64 (c % 64)
      rw [show (2 : Nat) ^ 64 - 1 = 18446744073709551615 from rfl] at this
      rw [this]; simp; omega
    rw [Nat.testBit_xor, hm]; simp
  have hq : c / 64 < 4 := by omega
  match hcc : c / 64, hq with
  | 0, _ => simp only [List.getD_cons_zero, Int.toNat_natCast]; exact key a
  | 1, _ => simp only [List.getD_cons_succ, List.getD_cons_zero, Int.toNat_natCast]; exact key b
  | 2, _ => simp only [List.getD_cons_succ, List.getD_cons_zero, Int.toNat_natCast]; exact key d
  | 3, _ => simp only [List.getD_cons_succ, List.getD_cons_zero, Int.toNat_natCast]; exact key e
end Go.Proofs.Ytjcknghdgfcboaa
namespace Go.Proofs.Ytjcknghdgfcboaa
open Go.RowKit
set_option linter.unusedVariables false
set_option linter.unusedSimpArgs false

theorem withF_has {ws : List Int} (h : WOk ws) {lo hi : Nat} (h1 : lo ≤ hi) (h2 : hi < 256) : WOk (withF ws lo hi) ∧ ∀ c, hasB (withF ws lo hi) c = (hasB ws c || decide (lo ≤ c ∧ c ≤ hi)) := by
  obtain ⟨q1, q2⟩ := withN_ok h (lo := lo) (hi + 1 - lo) (by omega)
  have e : withF ws lo hi = withN ws lo (hi + 1 - lo) := by
    unfold withF
    congr 1; omega
  rw [e]
  refine ⟨q1, fun c => ?_⟩
  rw [hasB_tb q1, q2, hasB_tb h]
  congr 1
  rw [Bool.eq_iff_iff, decide_eq_true_eq, decide_eq_true_eq]
  omega
theorem rRange_le {a : ByteArray} {i : Int} (h0 : 0 ≤ i) (h : (rRange a i).2.2.2 = true) : (rRange a i).1 ≤ (rRange a i).2.1 := by
  unfold rRange at h ⊢
  split
  · rename_i e; rw [if_pos e] at h; cases h
  · rename_i e; rw [if_neg e] at h
    split
    · exact Int.le_refl _
    · rename_i e2; rw [if_neg e2] at h
      split
      · rename_i e3; rw [if_pos e3] at h; cases h
      · rename_i e3; rw [if_neg e3] at h
        split
        · rename_i e4; rw [if_pos e4] at h; cases h
        · rename_i e4; dsimp only; omega
theorem rEndsL_end {a : ByteArray} {i : Int} : ∀ (f : Nat) (next : Int) (ws : List Int), 0 ≤ next → (rEndsL a i f next ws).2.2 = true → next + 1 ≤ (rEndsL a i f next ws).2.1
  | 0, next, ws, _, h => by simp [rEndsL] at h
  | f + 1, next, ws, h0, h => by
    rw [rEndsL_s] at h ⊢
    by_cases c1 : next = i ∨ atB a next ≠ 93
    · rw [if_pos c1] at h ⊢
      by_cases hr : (rRange a next).2.2.2 = false
      · rw [if_pos hr] at h; cases h
      · rw [if_neg hr] at h ⊢
        obtain ⟨b1, b2, b3, b4, b5, b6, b7⟩ := rRange_bd a next h0
        have b8 := b7 (by simpa using hr)
        have := rEndsL_end f _ _ (by omega) h
        omega
    · rw [if_neg c1]; dsimp only; omega
/-- one step through the ranges -/
theorem ends_step {a : ByteArray} {i0 : Int} {f : Nat} {next : Int} {ws : List Int} (h0 : 0 ≤ next) (hw : WOk ws) (hok : (rEndsL a i0 f next ws).2.2 = true) (hn : (rEndsL a i0 f next ws).2.1 = a.size) :
    (next + 1 = a.size ∧ (rEndsL a i0 f next ws).1 = ws) ∨ (next + 1 < a.size ∧ ∃ lo hi nx : Nat, rRange a next = ((lo : Int), (hi : Int), (nx : Int), true) ∧ next < nx ∧ (nx : Int) + 1 ≤ a.size ∧ WOk (withF ws lo hi) ∧ (∀ c, hasB (withF ws lo hi) c = (hasB ws c || decide (lo ≤ c ∧ c ≤ hi))) ∧ lo ≤ 255 ∧ hi ≤ 255 ∧ ∃ f', rEndsL a i0 f' nx (withF ws lo hi) = rEndsL a i0 f next ws) := by
  cases f with
  | zero => simp [rEndsL] at hok
  | succ f =>
    rw [rEndsL_s] at hok hn ⊢
    by_cases c1 : next = i0 ∨ atB a next ≠ 93
    · rw [if_pos c1] at hok hn ⊢
      by_cases hr : (rRange a next).2.2.2 = false
      · rw [if_pos hr] at hok; cases hok
      · rw [if_neg hr] at hok hn ⊢
        have hr' : (rRange a next).2.2.2 = true := by simpa using hr
        obtain ⟨b1, b2, b3, b4, b5, b6, b7⟩ := rRange_bd a next h0
        have b8 := b7 hr'
        have hle := rRange_le h0 hr'
        have hend := rEndsL_end (i := i0) f (rRange a next).2.2.1 _ (by omega) hok
        rw [hn] at hend
        obtain ⟨lo, hlo⟩ : ∃ n : Nat, (rRange a next).1 = n := ⟨(rRange a next).1.toNat, by omega⟩
        obtain ⟨hi', hhi⟩ : ∃ n : Nat, (rRange a next).2.1 = n := ⟨(rRange a next).2.1.toNat, by omega⟩
        obtain ⟨nx, hnx⟩ : ∃ n : Nat, (rRange a next).2.2.1 = n := ⟨(rRange a next).2.2.1.toNat, by omega⟩
        obtain ⟨q1, q2⟩ := withF_has hw (lo := lo) (hi := hi') (by omega) (by omega)
        refine .inr ⟨by omega, lo, hi', nx, ?_, by omega, by omega, q1, q2, by omega, by omega, f, ?_⟩
        · rw [← hlo, ← hhi, ← hnx, ← hr']
        · rw [hlo, hhi, hnx]
    · rw [if_neg c1] at hok hn ⊢
      dsimp only at hn ⊢
      exact .inl ⟨by omega, rfl⟩
theorem ends_ok {a : ByteArray} {i : Int} : ∀ (f : Nat) (next : Int) (ws : List Int), 0 ≤ next → WOk ws → WOk (rEndsL a i f next ws).1
  | 0, next, ws, _, h => h
  | f + 1, next, ws, h0, h => by
    rw [rEndsL_s]
    split
    · split
      · exact zero4_ok
      · rename_i hr
        have hr' : (rRange a next).2.2.2 = true := by simpa using hr
        obtain ⟨b1, b2, b3, b4, b5, b6, b7⟩ := rRange_bd a next h0
        have hle := rRange_le h0 hr'
        obtain ⟨lo, hlo⟩ : ∃ n : Nat, (rRange a next).1 = n := ⟨(rRange a next).1.toNat, by omega⟩
        obtain ⟨hi', hhi⟩ : ∃ n : Nat, (rRange a next).2.1 = n := ⟨(rRange a next).2.1.toNat, by omega⟩
        rw [hlo, hhi]
        exact ends_ok f _ _ (by omega) (withF_has h (lo := lo) (hi := hi') (by omega) (by omega)).1
    · exact h

set_option maxRecDepth 20000 in
set_option maxHeartbeats 2000000 in
theorem zhas_br (a : ByteArray) (c : Nat) (w : World) (hs : a.size ≤ 80000) (h1 : 1 < a.size) (hc : c < 256) (h91 : atB a 0 = 91) (nt : Bool) (hnt : (atB a 1 == 94) = nt) (i0 : Nat) (hi0 : i0 = if nt = true then 2 else 1) (E : List Int × Int × Bool) (hE : rEnds a i0 = E) (hok : E.2.2 = true) (hend : E.2.1 = a.size) :
    Calls Try.prog 71 #[.string a, .int .u8 c] w fun e w' => e = .returned (.bool (hasB E.1 c != nt)) ∧ w' = w := by
  have h0 : 0 < a.size := by omega
  have b0 := atB_ix h0
  have b1 := atB_ix h1
  have z0 : atB a 0 = (a[0].toNat : Int) := b0
  have z1 : atB a 1 = (a[1].toNat : Int) := b1
  rw [z0] at h91
  rw [z1] at hnt
  have k1 : ((a[0].toNat : Int) == 46) = false := by simp [h91]
  have k2 : ((a[0].toNat : Int) == 92) = false := by simp [h91]
  have k3 : ((a[0].toNat : Int) == 91) = true := by simp [h91]
  have hl0 : a[0].toNat < 256 := a[0].toNat_lt
  have hl1 : a[1].toNat < 256 := a[1].toNat_lt
  have p0 : (0 : Int) < (a.size : Int) := by omega
  have p1 : (1 : Int) < (a.size : Int) := by omega
  have ZE := hid (fun (i : Nat) (w : World) (h : i ≤ 100000) => zends_any a i w (by omega) h)
  have HE : Hid (rEndsL a i0 (a.size + 5) i0 zero4 = E) := hE
  have HOK := hid hok
  have HEND := hid hend
  have HZ : Hid (hasB zero4 c = false) := by unfold Hid; rw [hasB_tb zero4_ok, zero4_tb]
  have CC : ((c : Int) : Int) < 256 := by omega
  clear hE hok hend b0 b1 z0 z1 h91
  cases nt
  · simp only [Bool.false_eq_true, if_false] at hi0
    subst hi0
    go_enter Try.func71, Try.ntmps71
    go_wp2
    go_loopw [7, 9] (fun x7 x9 wr => ∃ (f next : Nat) (ws : List Int), x7 = .int .i64 next ∧ x9 = .bool (hasB ws c) ∧ wr = w ∧ WOk ws ∧ next ≤ a.size ∧ rEndsL a ((1 : Nat) : Int) f next ws = E)
        (fun x _ _ => 100000 - (intOf x).toNat)
    case atStart => exact ⟨a.size + 5, 1, zero4, rfl, by rw [HZ.out], rfl, zero4_ok, by omega, HE.out⟩
    case round =>
      obtain ⟨f, next, ws, rfl, rfl, rfl, hw, hnl, hrec⟩ := hrel
      have hst := ends_step (a := a) (i0 := ((1 : Nat) : Int)) (f := f) (next := (next : Int)) (ws := ws) (by omega) hw (by rw [hrec]; exact HOK.out) (by rw [hrec]; exact HEND.out)
      rw [hrec] at hst
      clear HE hrec HZ
      rcases hst with ⟨q1, q2⟩ | ⟨q1, lo, hi, nx, q2, q3, q4, q5, q6, q7, q8, f', q9⟩
      · have k4 : ¬ (next : Int) < (a.size : Int) - 1 := by omega
        have HQ := hid q2
        clear q2 q1
        generalize hgb : hasB ws c = hb
        have HGB := hid hgb
        clear hgb
        go_wp2
        go_ret
        exact ⟨by rw [HQ.out, HGB.out]; cases hb <;> rfl, rfl⟩
      · have k4 : (next : Int) < (a.size : Int) - 1 := by omega
        have ZX := hid (fun w => ZE.out next w (by omega))
        rw [q2] at ZX
        have HQ6 := hid (q6 c)
        have HQ9 := hid q9
        have HW2 := hid q5
        have ZY : Hid (∀ w : World, Calls Try.prog 70 #[.string a, .int .i64 next] w fun e w' => e = .returned (.tuple #[.int .i64 nx, .int .i64 lo, .int .i64 hi]) ∧ w' = w) := ZX.out
        have hnx : (0 : Int) ≤ (nx : Int) := by omega
        clear q2 q6 q9 q5 ZX
        generalize hh2 : hasB (withF ws lo hi) c = hb2 at HQ6
        have HH2 := hid hh2
        clear hh2
        generalize hasB ws c = hb1 at HQ6
        cases hb1
        · by_cases c1 : lo ≤ c
          · have d1 : (lo : Int) ≤ (c : Int) := by omega
            by_cases c2 : c ≤ hi
            · have d2 : (c : Int) ≤ (hi : Int) := by omega
              have HB : Hid (hb2 = true) := by unfold Hid; rw [HQ6.out, decide_eq_true ⟨c1, c2⟩]; rfl
              go_wp2_with (first
                | (go_at_call 70; refine (ZY.out _).mono ?_; rintro e w' ⟨rfl, hw⟩; rw [hw]; clear hw))
              go_roundw
              case rel => exact ⟨f', nx, _, rfl, by rw [HH2.out, HB.out], by first | rfl | trivial, HW2.out, by omega, HQ9.out⟩
              case measure => simp [intOf]; omega
            · have d2 : ¬ (c : Int) ≤ (hi : Int) := by omega
              have HB : Hid (hb2 = false) := by unfold Hid; rw [HQ6.out, decide_eq_false (fun q => c2 q.2)]; rfl
              go_wp2_with (first
                | (go_at_call 70; refine (ZY.out _).mono ?_; rintro e w' ⟨rfl, hw⟩; rw [hw]; clear hw))
              go_roundw
              case rel => exact ⟨f', nx, _, rfl, by rw [HH2.out, HB.out], by first | rfl | trivial, HW2.out, by omega, HQ9.out⟩
              case measure => simp [intOf]; omega
          · have d1 : ¬ (lo : Int) ≤ (c : Int) := by omega
            have HB : Hid (hb2 = false) := by unfold Hid; rw [HQ6.out, decide_eq_false (fun q => c1 q.1)]; rfl
            go_wp2_with (first
              | (go_at_call 70; refine (ZY.out _).mono ?_; rintro e w' ⟨rfl, hw⟩; rw [hw]; clear hw))
            go_roundw
            case rel => exact ⟨f', nx, _, rfl, by rw [HH2.out, HB.out], by first | rfl | trivial, HW2.out, by omega, HQ9.out⟩
            case measure => simp [intOf]; omega
        · have HB : Hid (hb2 = true) := by unfold Hid; rw [HQ6.out]; rfl
          go_wp2_with (first
            | (go_at_call 70; refine (ZY.out _).mono ?_; rintro e w' ⟨rfl, hw⟩; rw [hw]; clear hw))
          go_roundw
          case rel => exact ⟨f', nx, _, rfl, by rw [HH2.out, HB.out], by first | rfl | trivial, HW2.out, by omega, HQ9.out⟩
          case measure => simp [intOf]; omega
  · simp only [if_true] at hi0
    subst hi0
    go_enter Try.func71, Try.ntmps71
    go_wp2
    go_loopw [7, 9] (fun x7 x9 wr => ∃ (f next : Nat) (ws : List Int), x7 = .int .i64 next ∧ x9 = .bool (hasB ws c) ∧ wr = w ∧ WOk ws ∧ next ≤ a.size ∧ rEndsL a ((2 : Nat) : Int) f next ws = E)
        (fun x _ _ => 100000 - (intOf x).toNat)
    case atStart => exact ⟨a.size + 5, 2, zero4, rfl, by rw [HZ.out], rfl, zero4_ok, by omega, HE.out⟩
    case round =>
      obtain ⟨f, next, ws, rfl, rfl, rfl, hw, hnl, hrec⟩ := hrel
      have hst := ends_step (a := a) (i0 := ((2 : Nat) : Int)) (f := f) (next := (next : Int)) (ws := ws) (by omega) hw (by rw [hrec]; exact HOK.out) (by rw [hrec]; exact HEND.out)
      rw [hrec] at hst
      clear HE hrec HZ
      rcases hst with ⟨q1, q2⟩ | ⟨q1, lo, hi, nx, q2, q3, q4, q5, q6, q7, q8, f', q9⟩
      · have k4 : ¬ (next : Int) < (a.size : Int) - 1 := by omega
        have HQ := hid q2
        clear q2 q1
        generalize hgb : hasB ws c = hb
        have HGB := hid hgb
        clear hgb
        go_wp2
        go_ret
        exact ⟨by rw [HQ.out, HGB.out]; cases hb <;> rfl, rfl⟩
      · have k4 : (next : Int) < (a.size : Int) - 1 := by omega
        have ZX := hid (fun w => ZE.out next w (by omega))
        rw [q2] at ZX
        have HQ6 := hid (q6 c)
        have HQ9 := hid q9
        have HW2 := hid q5
        have ZY : Hid (∀ w : World, Calls Try.prog 70 #[.string a, .int .i64 next] w fun e w' => e = .returned (.tuple #[.int .i64 nx, .int .i64 lo, .int .i64 hi]) ∧ w' = w) := ZX.out
        have hnx : (0 : Int) ≤ (nx : Int) := by omega
        clear q2 q6 q9 q5 ZX
        generalize hh2 : hasB (withF ws lo hi) c = hb2 at HQ6
        have HH2 := hid hh2
        clear hh2
        generalize hasB ws c = hb1 at HQ6
        cases hb1
        · by_cases c1 : lo ≤ c
          · have d1 : (lo : Int) ≤ (c : Int) := by omega
            by_cases c2 : c ≤ hi
            · have d2 : (c : Int) ≤ (hi : Int) := by omega
              have HB : Hid (hb2 = true) := by unfold Hid; rw [HQ6.out, decide_eq_true ⟨c1, c2⟩]; rfl
              go_wp2_with (first
                | (go_at_call 70; refine (ZY.out _).mono ?_; rintro e w' ⟨rfl, hw⟩; rw [hw]; clear hw))
              go_roundw
              case rel => exact ⟨f', nx, _, rfl, by rw [HH2.out, HB.out], by first | rfl | trivial, HW2.out, by omega, HQ9.out⟩
              case measure => simp [intOf]; omega
            · have d2 : ¬ (c : Int) ≤ (hi : Int) := by omega
              have HB : Hid (hb2 = false) := by unfold Hid; rw [HQ6.out, decide_eq_false (fun q => c2 q.2)]; rfl
              go_wp2_with (first
                | (go_at_call 70; refine (ZY.out _).mono ?_; rintro e w' ⟨rfl, hw⟩; rw [hw]; clear hw))
              go_roundw
              case rel => exact ⟨f', nx, _, rfl, by rw [HH2.out, HB.out], by first | rfl | trivial, HW2.out, by omega, HQ9.out⟩
              case measure => simp [intOf]; omega
          · have d1 : ¬ (lo : Int) ≤ (c : Int) := by omega
            have HB : Hid (hb2 = false) := by unfold Hid; rw [HQ6.out, decide_eq_false (fun q => c1 q.1)]; rfl
            go_wp2_with (first
              | (go_at_call 70; refine (ZY.out _).mono ?_; rintro e w' ⟨rfl, hw⟩; rw [hw]; clear hw))
            go_roundw
            case rel => exact ⟨f', nx, _, rfl, by rw [HH2.out, HB.out], by first | rfl | trivial, HW2.out, by omega, HQ9.out⟩
            case measure => simp [intOf]; omega
        · have HB : Hid (hb2 = true) := by unfold Hid; rw [HQ6.out]; rfl
          go_wp2_with (first
            | (go_at_call 70; refine (ZY.out _).mono ?_; rintro e w' ⟨rfl, hw⟩; rw [hw]; clear hw))
          go_roundw
          case rel => exact ⟨f', nx, _, rfl, by rw [HH2.out, HB.out], by first | rfl | trivial, HW2.out, by omega, HQ9.out⟩
          case measure => simp [intOf]; omega

set_option maxRecDepth 20000 in
set_option maxHeartbeats 2000000 in
theorem zhas_any (a : ByteArray) (c : Nat) (w : World) (hs : a.size ≤ 80000) (hc : c < 256) (h40 : atB a 0 ≠ 40) (hok : (rSet a 0).2.2 = true) (hend : (rSet a 0).2.1 = a.size) :
    Calls Try.prog 71 #[.string a, .int .u8 c] w fun e w' => e = .returned (.bool (hasB (rSet a 0).1 c)) ∧ w' = w := by
  have hcl := rSet_clean hok
  have h0 : 0 < a.size := by
    have hb := rSet_bd a 0 (by omega)
    have hin : atB a 0 ≠ -1 := by
      intro e
      unfold rSet at hok
      rw [e, if_neg (by decide), if_neg (by decide), if_neg (by decide), if_pos (by decide)] at hok
      cases hok
    have := atB_lt hin; omega
  have b0 : atB a 0 = (a[0].toNat : Int) := atB_ix h0
  have hl0 : a[0].toNat < 256 := a[0].toNat_lt
  have p0 : (0 : Int) < (a.size : Int) := by omega
  have ex : ∀ n : Nat, n < 256 → WOk (withF zero4 n n) ∧ hasB (withF zero4 n n) c = ((c : Int) == (n : Int)) := fun n hn => by
    obtain ⟨q1, q2⟩ := has_range (Nat.le_refl n) hn
    refine ⟨q1, ?_⟩
    rw [q2, Bool.eq_iff_iff, decide_eq_true_eq, beq_iff_eq]; omega
  by_cases c46 : atB a 0 = 46
  · rw [rSet_dot c46] at hend ⊢
    obtain ⟨q1, q2⟩ := ex 10 (by omega)
    rw [show ((10 : Nat) : Int) = 10 from rfl] at q1 q2
    have HV : Hid (hasB (oppN (withF zero4 10 10) 4) c = ((c : Int) != 10)) := by
      unfold Hid; rw [has_opp q1 hc, q2]; rfl
    rw [b0] at c46
    have k1 : ((a[0].toNat : Int) == 46) = true := by simp [c46]
    clear hcl ex q1 q2 hok b0 c46 hend
    dsimp only
    rw [HV.out]
    go_enter Try.func71, Try.ntmps71
    go_wp2
    go_ret
    exact ⟨rfl, rfl⟩
  · by_cases c91 : atB a 0 = 91
    · rw [rSet_br c91] at hok hend ⊢
      have h1 : 1 < a.size := by
        have := rBr_bd a 1 (by omega) (by omega)
        have := this.2.2 hok; omega
      unfold rBr at hok hend ⊢
      by_cases c94 : atB a (0 + 1) = 94
      · rw [if_pos c94] at hok hend ⊢
        have h2 := zhas_br a c w hs h1 hc c91 true (by rw [show (1 : Int) = 0 + 1 from rfl, c94]; rfl) 2 rfl _ rfl hok hend
        have hw : WOk (rEnds a ((2 : Nat) : Int)).1 := ends_ok _ _ _ (by omega) zero4_ok
        rw [show (0 : Int) + 1 + 1 = ((2 : Nat) : Int) from rfl]
        dsimp only
        rw [has_opp hw hc]
        refine h2.mono ?_
        rintro e w' ⟨he, hw'⟩
        refine ⟨?_, hw'⟩
        rw [he]; cases hasB (rEnds a ((2 : Nat) : Int)).1 c <;> rfl
      · rw [if_neg c94] at hok hend ⊢
        have h2 := zhas_br a c w hs h1 hc c91 false (by rw [show (1 : Int) = 0 + 1 from rfl]; simpa using c94) 1 rfl _ rfl hok hend
        refine h2.mono ?_
        rintro e w' ⟨he, hw'⟩
        refine ⟨?_, hw'⟩
        rw [he, show (0 : Int) + 1 = ((1 : Nat) : Int) from rfl]
        cases hasB (rEnds a ((1 : Nat) : Int)).1 c <;> rfl
    · by_cases c92 : atB a 0 = 92
      · rw [rSet_mark c92] at hok hend ⊢
        dsimp only at hok hend ⊢
        rw [show (0 : Int) + 1 = 1 from rfl] at hok hend ⊢
        have h1 : 1 < a.size := by
          by_cases q : 1 < a.size
          · exact q
          · exfalso
            unfold rMark at hok
            rw [atB_out (by omega), if_neg (by decide), if_neg (by decide), if_pos (by decide)] at hok
            cases hok
        have b1 : atB a 1 = (a[1].toNat : Int) := atB_ix h1
        have hl1 : a[1].toNat < 256 := a[1].toNat_lt
        have ZM := hid (fun w => zmarked_any a[1].toNat w (by omega))
        rw [mkF_mark, b1] at hok ⊢
        have hm : (mkF (a[1].toNat : Int)).2 = true := by
          cases z : (mkF (a[1].toNat : Int)).2
          · rw [z, if_neg (by simp)] at hok; cases hok
          · rfl
        rw [if_pos hm]
        have hmb : ∃ n : Nat, n < 256 ∧ (mkF (a[1].toNat : Int)).1 = n := by
          unfold mkF
          split
          · exact ⟨10, by omega, rfl⟩
          · split
            · exact ⟨9, by omega, rfl⟩
            · exact ⟨a[1].toNat, by omega, rfl⟩
        obtain ⟨n, hn, he⟩ := hmb
        obtain ⟨q1, q2⟩ := ex n hn
        dsimp only
        rw [he, q2]
        rw [he, hm] at ZM
        rw [b0] at c92
        have k1 : ((a[0].toNat : Int) == 46) = false := by simp [c92]
        have k2 : ((a[0].toNat : Int) == 92) = true := by simp [c92]
        have p1 : (1 : Int) < (a.size : Int) := by omega
        clear hcl ex q1 q2 hok b0 b1 c92 c46 c91 hend hm he h40
        go_enter Try.func71, Try.ntmps71
        go_wp2_with (first
          | (go_at_call 62; refine (ZM.out _).mono ?_; rintro e w' ⟨rfl, hw⟩; rw [hw]; clear hw))
        go_ret
        exact ⟨rfl, rfl⟩
      · have hp : isPlainB (atB a 0) = true := by
          cases z : isPlainB (atB a 0)
          · rw [rSet_no c46 c91 c92 z] at hok; cases hok
          · rfl
        rw [rSet_plain hp] at hend ⊢
        rw [b0] at c46 c91 c92 ⊢
        obtain ⟨q1, q2⟩ := ex a[0].toNat hl0
        dsimp only
        rw [q2]
        have k1 : ((a[0].toNat : Int) == 46) = false := by simpa using c46
        have k2 : ((a[0].toNat : Int) == 92) = false := by simpa using c92
        have k3 : ((a[0].toNat : Int) == 91) = false := by simpa using c91
        clear hcl ex q1 q2 hok b0 c92 c46 c91 hend h40 hp
        go_enter Try.func71, Try.ntmps71
        go_wp2
        go_ret
        refine ⟨ret_bool ?_, rfl⟩
        rw [Bool.eq_iff_iff, beq_iff_eq, beq_iff_eq]; exact eq_comm
end Go.Proofs.Ytjcknghdgfcboaa
