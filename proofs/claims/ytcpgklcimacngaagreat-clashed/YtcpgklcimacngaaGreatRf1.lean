import Derived.Test.YtcpgklcimacngaaGreatLa9
namespace Go.Proofs.YtcpgklcimacngaaGreat
open Go.RowKit
set_option linter.unusedVariables false
set_option linter.unusedSimpArgs false

theorem zsmall_any (c : Int) (w : World) : Calls Tryz.prog 83 #[.int .u8 c] w fun e w' => e = .returned (.bool (isSmallB c)) ∧ w' = w := by
  go_enter Tryz.func83, Tryz.ntmps83
  go_wp2
  all_goals (go_ret; exact ⟨ret_bool (by rw [Bool.eq_iff_iff]; simp [isSmallB]; omega), rfl⟩)
theorem zgreat_any (c : Int) (w : World) : Calls Tryz.prog 43 #[.int .u8 c] w fun e w' => e = .returned (.bool (isCapB c)) ∧ w' = w := by
  go_enter Tryz.func43, Tryz.ntmps43
  go_wp2
  all_goals (go_ret; exact ⟨ret_bool (by rw [Bool.eq_iff_iff]; simp [isCapB]; omega), rfl⟩)
theorem zsuffix_any (c : Int) (w : World) : Calls Tryz.prog 91 #[.int .u8 c] w fun e w' => e = .returned (.bool (isMark c)) ∧ w' = w := by
  go_enter Tryz.func91, Tryz.ntmps91
  go_wp2
  all_goals (go_ret; exact ⟨ret_bool (by rw [Bool.eq_iff_iff]; simp_all [isMark]), rfl⟩)
/-- the byte that a \ and this byte stand for -/
def mkF (c : Int) : Int × Bool := if c = 110 then (10, true) else if c = 116 then (9, true) else (c, !(!isPrB c || isSmallB c || isCapB c || isDigB c))
set_option maxRecDepth 20000 in
set_option maxHeartbeats 2000000 in
theorem zmarked_any (c : Nat) (w : World) (hc : c ≤ 255) : Calls Tryz.prog 95 #[.int .u8 c] w fun e w' => e = .returned (.tuple #[.int .i64 (mkF c).1, .bool (mkF c).2]) ∧ w' = w := by
  by_cases h1 : c = 110
  · subst h1
    go_enter Tryz.func95, Tryz.ntmps95
    go_wp2
    go_ret2
    exact ⟨rfl, rfl⟩
  · by_cases h2 : c = 116
    · subst h2
      go_enter Tryz.func95, Tryz.ntmps95
      go_wp2
      go_ret2
      exact ⟨rfl, rfl⟩
    · have k1 : ((c : Int) == 110) = false := by simp; omega
      have k2 : ((c : Int) == 116) = false := by simp; omega
      have k3 : ¬ (c : Int) = 110 := by omega
      have k4 : ¬ (c : Int) = 116 := by omega
      have HM : Hid (mkF c = ((c : Int), !(!isPrB c || isSmallB c || isCapB c || isDigB c))) := by unfold Hid mkF; rw [if_neg k3, if_neg k4]
      rw [HM.out]
      clear HM
      have hpr : isPrB (c : Int) = (decide (32 ≤ c) && decide (c ≤ 126)) := by unfold isPrB; rw [Bool.eq_iff_iff]; simp; omega
      have hdg : isDigB (c : Int) = (decide (48 ≤ c) && decide (c ≤ 57)) := by unfold isDigB; rw [Bool.eq_iff_iff]; simp; omega
      have HPR := hid hpr
      have HDG := hid hdg
      clear hpr hdg
      generalize hsm : isSmallB (c : Int) = sm
      generalize hgr : isCapB (c : Int) = gr
      have ZS := hid (fun w => zsmall_any (c : Int) w)
      have ZG := hid (fun w => zgreat_any (c : Int) w)
      rw [hsm] at ZS
      rw [hgr] at ZG
      clear hsm hgr
      go_enter Tryz.func95, Tryz.ntmps95
      go_wp2_with (first
        | (go_at_call 83; refine (ZS.out _).mono ?_; rintro e w' ⟨rfl, hw⟩; rw [hw]; clear hw)
        | (go_at_call 43; refine (ZG.out _).mono ?_; rintro e w' ⟨rfl, hw⟩; rw [hw]; clear hw))
      all_goals
        go_ret2
        refine ⟨?_, rfl⟩
        rw [HPR.out, HDG.out]
        simp_all
      all_goals first
        | (intros; omega)
        | (rw [Bool.eq_iff_iff]; simp; omega)
/-- End, as the reference says it -/
theorem mkF_mark {s : ByteArray} {i : Int} : rMark s i = if (mkF (atB s i)).2 = true then ((mkF (atB s i)).1, i + 1, true) else (0, i, false) := by
  unfold rMark mkF
  split
  · rfl
  · split
    · rfl
    · split
      · rename_i h; rw [if_neg (by rw [h]; simp)]
      · rename_i h; rw [if_pos (by simpa using h)]
def okI (b : Bool) (x : Int) : Int := if b = true then x else -1
def okV (b : Bool) (x : Int) : Int := if b = true then x else 0
set_option maxRecDepth 20000 in
set_option maxHeartbeats 4000000 in
theorem zend_any (p : ByteArray) (i : Nat) (w : World) (hp : p.size ≤ 100000) (hi : i ≤ 200000) :
    Calls Tryz.prog 107 #[.string p, .int .i64 i] w fun e w' => e = .returned (.tuple #[.int .i64 (okV (rEnd p i).2.2 (rEnd p i).1), .int .i64 (okI (rEnd p i).2.2 (rEnd p i).2.1)]) ∧ w' = w := by
  by_cases h1 : i < p.size
  · have hb : atB p (i : Nat) = p[i].toNat := by unfold atB; rw [dif_pos ⟨by omega, by simpa using h1⟩]; simp
    have hbl : p[i].toNat < 256 := p[i].toNat_lt
    have h11 : ¬ (p.size : Int) ≤ (i : Int) := by omega
    have h12 : (i : Int) < (p.size : Int) := by omega
    by_cases h2 : p[i].toNat = 92
    · have hE : rEnd p i = rMark p (i + 1) := by unfold rEnd; rw [hb, h2, if_pos (by decide)]
      rw [hE, mkF_mark]
      have k92 : ((p[i].toNat : Int) == 92) = true := by simp [h2]
      by_cases h3 : i + 1 < p.size
      · have hb2 : atB p ((i : Int) + 1) = p[i + 1].toNat := by
          have : atB p ((i + 1 : Nat) : Int) = p[i + 1].toNat := by unfold atB; rw [dif_pos ⟨by omega, by simpa using h3⟩]; simp
          rw [← this]; rfl
        have hbl2 : p[i + 1].toNat < 256 := p[i + 1].toNat_lt
        have h31 : ¬ (p.size : Int) ≤ (i : Int) + 1 := by omega
        have h32 : (i : Int) + 1 < (p.size : Int) := by omega
        have h33 : ((i : Int) + 1).toNat = i + 1 := by omega
        rw [hb2]
        have ZM := hid (fun w => zmarked_any p[i + 1].toNat w (by omega))
        generalize mkF (p[i + 1].toNat : Int) = m at ZM ⊢
        obtain ⟨v, ok⟩ := m
        dsimp only at ZM ⊢
        clear hE hb hb2
        cases ok
        · go_enter Tryz.func107, Tryz.ntmps107
          go_wp2_with (first
            | (go_at_call 95; refine (ZM.out _).mono ?_; rintro e w' ⟨rfl, hw⟩; rw [hw]; clear hw))
          go_ret2
          exact ⟨rfl, rfl⟩
        · go_enter Tryz.func107, Tryz.ntmps107
          go_wp2_with (first
            | (go_at_call 95; refine (ZM.out _).mono ?_; rintro e w' ⟨rfl, hw⟩; rw [hw]; clear hw))
          go_ret2
          exact ⟨by simp [okV, okI]; omega, rfl⟩
      · have h31 : (p.size : Int) ≤ (i : Int) + 1 := by omega
        have hb2 : atB p ((i : Int) + 1) = -1 := by unfold atB; rw [dif_neg (by omega)]
        rw [hb2, show mkF (-1) = (-1, false) from by decide]
        clear hE hb hb2
        go_enter Tryz.func107, Tryz.ntmps107
        go_wp2
        go_ret2
        exact ⟨rfl, rfl⟩
    · have k92 : ((p[i].toNat : Int) == 92) = false := by simp; omega
      have hE : rEnd p i = if p[i].toNat = 93 ∨ p[i].toNat = 94 ∨ p[i].toNat = 45 ∨ p[i].toNat < 32 ∨ 126 < p[i].toNat then (0, (i : Int), false) else ((p[i].toNat : Int), (i : Int) + 1, true) := by
        unfold rEnd
        rw [hb, if_neg (by omega)]
        by_cases q : p[i].toNat = 93 ∨ p[i].toNat = 94 ∨ p[i].toNat = 45
        · rw [if_pos (by omega), if_pos (by omega)]
        · rw [if_neg (by omega)]
          by_cases q2 : isPrB (p[i].toNat : Int) = false
          · rw [if_pos q2, if_pos (by unfold isPrB at q2; rw [Bool.and_eq_false_iff, decide_eq_false_iff_not, decide_eq_false_iff_not] at q2; omega)]
          · have q3 : isPrB (p[i].toNat : Int) = true := by simpa using q2
            unfold isPrB at q3
            rw [Bool.and_eq_true, decide_eq_true_eq, decide_eq_true_eq] at q3
            rw [if_neg q2, if_neg (by omega)]
      rw [hE]
      clear hE hb
      generalize hn : p[i].toNat = n at *
      have HN := hid hn
      by_cases q : n = 93 ∨ n = 94 ∨ n = 45 ∨ n < 32 ∨ 126 < n
      · rw [if_pos q]
        go_enter Tryz.func107, Tryz.ntmps107
        go_wp2
        all_goals first
          | (exfalso; omega)
          | (go_ret2; exact ⟨rfl, rfl⟩)
          | (exfalso; simp_all; done)
          | (exfalso; simp_all; omega)
      · rw [if_neg q]
        go_enter Tryz.func107, Tryz.ntmps107
        go_wp2
        all_goals first
          | (exfalso; omega)
          | (go_ret2; exact ⟨rfl, rfl⟩)
          | (exfalso; simp_all; done)
          | (exfalso; simp_all; omega)
  · have h11 : (p.size : Int) ≤ (i : Int) := by omega
    have hE : rEnd p i = (0, (i : Int), false) := by
      have hb : atB p (i : Nat) = -1 := by unfold atB; rw [dif_neg (by omega)]
      unfold rEnd
      rw [hb, if_neg (by decide), if_neg (by decide), if_pos (by decide)]
    rw [hE]
    clear hE
    go_enter Tryz.func107, Tryz.ntmps107
    go_wp2
    go_ret2
    exact ⟨rfl, rfl⟩
end Go.Proofs.YtcpgklcimacngaaGreat
