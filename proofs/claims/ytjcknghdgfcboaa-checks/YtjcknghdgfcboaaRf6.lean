import Derived.Test.YtjcknghdgfcboaaRf4
import Derived.Test.YtjcknghdgfcboaaLb2
namespace Go.Proofs.Ytjcknghdgfcboaa
open Go.RowKit
set_option linter.unusedVariables false
set_option linter.unusedSimpArgs false

/-- how many small letters stand from here on -/
def zLetL (s : ByteArray) : Nat → Int → Nat
  | 0, _ => 0
  | f + 1, x => if isSmallB (atB s x) = true then zLetL s f (x + 1) + 1 else 0
def zLet (s : ByteArray) (i : Int) : Nat := zLetL s (s.size + 2) i
theorem zLetL_s (s : ByteArray) (f : Nat) (x : Int) : zLetL s (f + 1) x = if isSmallB (atB s x) = true then zLetL s f (x + 1) + 1 else 0 := rfl
theorem small_in {c : Int} (h : isSmallB c = true) : c ≠ -1 := by intro e; rw [e] at h; revert h; decide
theorem zLetL_le (s : ByteArray) : ∀ (f : Nat) (x : Int), 0 ≤ x → x ≤ s.size → x + zLetL s f x ≤ s.size
  | 0, x, _, h => by simp [zLetL]; exact h
  | f + 1, x, h0, h => by
    rw [zLetL_s]
    split
    · rename_i c
      have := atB_lt (s := s) (i := x) (small_in c)
      have := zLetL_le s f (x + 1) (by omega) (by omega)
      omega
    · simp; exact h
set_option maxRecDepth 20000 in
set_option maxHeartbeats 1000000 in
theorem zletters_any (s : ByteArray) (i : Nat) (w : World) (hs : s.size ≤ 80000) (hi : i ≤ s.size + 1) :
    Calls Try.prog 41 #[.string s, .int .i64 i] w fun e w' => e = .returned (.int .i64 (zLet s i : Nat)) ∧ w' = w := by
  have ZS := hid (fun (c : Int) (w : World) => zsmall_any c w)
  unfold zLet
  generalize hV : zLetL s (s.size + 2) i = V
  have HV := hid hV
  clear hV
  go_enter Try.func41, Try.ntmps41
  go_wp2
  go_loopw [5] (fun x5 wr => ∃ (n F : Nat), x5 = .int .i64 n ∧ i + n ≤ s.size + 1 ∧ s.size + 2 ≤ F + i + n ∧ n + zLetL s F ((i : Int) + n) = V ∧ wr = w)
      (fun x _ => 200000 - (intOf x).toNat)
  case atStart => exact ⟨0, s.size + 2, rfl, by omega, by omega, by rw [← HV.out]; simp, rfl⟩
  case round =>
    obtain ⟨n, F, rfl, hn, hF, hrec, rfl⟩ := hrel
    obtain ⟨F, rfl⟩ : ∃ k, F = k + 1 := ⟨F - 1, by omega⟩
    rw [zLetL_s] at hrec
    clear HV
    by_cases hj : i + n < s.size
    · have hb : atB s ((i : Int) + n) = s[i + n].toNat := by rw [← atB_ix hj]; congr 1
      have hbl : s[i + n].toNat < 256 := s[i + n].toNat_lt
      have hj1 : (i : Int) + (n : Int) < (s.size : Int) := by omega
      have h33 : ((i : Int) + (n : Int)).toNat = i + n := by omega
      rw [hb] at hrec
      have ZX := hid (fun w => ZS.out (s[i + n].toNat : Int) w)
      generalize isSmallB (s[i + n].toNat : Int) = mk at ZX hrec
      clear hb
      cases mk
      · rw [if_neg (by simp)] at hrec
        have HR : Hid (n = V) := by unfold Hid; omega
        clear hrec
        go_wp2_with (first
          | (go_at_call 51; refine (ZX.out _).mono ?_; rintro e w' ⟨rfl, hw⟩; rw [hw]; clear hw))
        go_ret
        exact ⟨by rw [← HR.out]; rfl, rfl⟩
      · rw [if_pos rfl] at hrec
        have HR : Hid (n + 1 + zLetL s F ((i : Int) + ((n + 1 : Nat) : Int)) = V) := by
          unfold Hid
          rw [show (i : Int) + ((n + 1 : Nat) : Int) = (i : Int) + n + 1 by omega]; omega
        clear hrec
        go_wp2_with (first
          | (go_at_call 51; refine (ZX.out _).mono ?_; rintro e w' ⟨rfl, hw⟩; rw [hw]; clear hw))
        go_roundw
        case rel => exact ⟨n + 1, F, by go_num, by omega, by omega, HR.out, by first | rfl | trivial⟩
        case measure => simp [intOf]; omega
    · have hj1 : ¬ (i : Int) + (n : Int) < (s.size : Int) := by omega
      rw [atB_out (by omega), if_neg (by decide)] at hrec
      have HR : Hid (n = V) := by unfold Hid; omega
      clear hrec
      go_wp2
      go_ret
      exact ⟨by rw [← HR.out]; rfl, rfl⟩
/-- behind the name or head that begins here -/
def zSym (s : ByteArray) (i : Int) : Int :=
  if (s.size : Int) ≤ i then -1
  else if isCapB (atB s i) = true then (if 8 < 1 + (zLet s (i + 1) : Int) then -1 else i + 1 + zLet s (i + 1))
  else (if (zLet s i : Int) = 0 ∨ 8 < (zLet s i : Int) then -1 else i + zLet s i)
set_option maxRecDepth 20000 in
set_option maxHeartbeats 1000000 in
theorem zsymbol_any (s : ByteArray) (i : Nat) (w : World) (hs : s.size ≤ 80000) (hi : i ≤ 100000) :
    Calls Try.prog 43 #[.string s, .int .i64 i] w fun e w' => e = .returned (.int .i64 (zSym s i)) ∧ w' = w := by
  unfold zSym
  by_cases h1 : i < s.size
  · have hb := atB_ix h1
    have hbl : s[i].toNat < 256 := s[i].toNat_lt
    have h11 : ¬ (s.size : Int) ≤ (i : Int) := by omega
    have h12 : (i : Int) < (s.size : Int) := by omega
    have ZG := hid (fun w => zgreat_any (s[i].toNat : Int) w)
    rw [if_neg h11, hb]
    generalize isCapB (s[i].toNat : Int) = cp at ZG ⊢
    clear hb
    cases cp
    · rw [if_neg (by simp)]
      have ZL := hid (fun w => zletters_any s i w hs (by omega))
      have hle := zLetL_le s (s.size + 2) i (by omega) (by omega)
      have hle2 : (i : Int) + (zLet s i : Nat) ≤ s.size := hle
      clear hle
      generalize zLet s (i : Nat) = n at ZL hle2 ⊢
      by_cases q : n = 0
      · subst q
        rw [if_pos (.inl rfl)]
        go_enter Try.func43, Try.ntmps43
        go_wp2_with (first
          | (go_at_call 28; refine (ZG.out _).mono ?_; rintro e w' ⟨rfl, hw⟩; rw [hw]; clear hw)
          | (go_at_call 41; refine (ZL.out _).mono ?_; rintro e w' ⟨rfl, hw⟩; rw [hw]; clear hw))
        go_ret
        exact ⟨rfl, rfl⟩
      · have k1 : (((i : Int) + (n : Int)) == (i : Int)) = false := by simp; omega
        have k2 : ¬ (i : Int) + (n : Int) = (i : Int) := by omega
        have k3 : (i : Int) + (n : Int) - (i : Int) = (n : Int) := by omega
        by_cases q8 : 8 < n
        · have k8 : (8 : Int) < (n : Int) := by omega
          rw [if_pos (.inr k8)]
          go_enter Try.func43, Try.ntmps43
          go_wp2_with (first
            | (go_at_call 28; refine (ZG.out _).mono ?_; rintro e w' ⟨rfl, hw⟩; rw [hw]; clear hw)
            | (go_at_call 41; refine (ZL.out _).mono ?_; rintro e w' ⟨rfl, hw⟩; rw [hw]; clear hw))
          go_ret
          exact ⟨rfl, rfl⟩
        · have k8 : ¬ (8 : Int) < (n : Int) := by omega
          rw [if_neg (by omega)]
          go_enter Try.func43, Try.ntmps43
          go_wp2_with (first
            | (go_at_call 28; refine (ZG.out _).mono ?_; rintro e w' ⟨rfl, hw⟩; rw [hw]; clear hw)
            | (go_at_call 41; refine (ZL.out _).mono ?_; rintro e w' ⟨rfl, hw⟩; rw [hw]; clear hw))
          go_ret
          exact ⟨rfl, rfl⟩
    · rw [if_pos rfl]
      have ZL := hid (fun w => zletters_any s (i + 1) w hs (by omega))
      have ei : ((i + 1 : Nat) : Int) = (i : Int) + 1 := by omega
      rw [ei] at ZL
      have hle := zLetL_le s (s.size + 2) ((i : Int) + 1) (by omega) (by omega)
      have hle2 : (i : Int) + 1 + (zLet s ((i : Int) + 1) : Nat) ≤ s.size := hle
      clear hle
      generalize zLet s ((i : Int) + 1) = n at ZL hle2 ⊢
      have k1 : (((i : Int) + 1 + (n : Int)) == (i : Int)) = false := by simp; omega
      have k2 : ¬ (i : Int) + 1 + (n : Int) = (i : Int) := by omega
      have k3 : (i : Int) + 1 + (n : Int) - (i : Int) = 1 + (n : Int) := by omega
      by_cases q8 : 8 < 1 + n
      · have k8 : (8 : Int) < 1 + (n : Int) := by omega
        rw [if_pos k8]
        go_enter Try.func43, Try.ntmps43
        go_wp2_with (first
          | (go_at_call 28; refine (ZG.out _).mono ?_; rintro e w' ⟨rfl, hw⟩; rw [hw]; clear hw)
          | (go_at_call 41; refine (ZL.out _).mono ?_; rintro e w' ⟨rfl, hw⟩; rw [hw]; clear hw))
        go_ret
        exact ⟨rfl, rfl⟩
      · have k8 : ¬ (8 : Int) < 1 + (n : Int) := by omega
        rw [if_neg k8]
        go_enter Try.func43, Try.ntmps43
        go_wp2_with (first
          | (go_at_call 28; refine (ZG.out _).mono ?_; rintro e w' ⟨rfl, hw⟩; rw [hw]; clear hw)
          | (go_at_call 41; refine (ZL.out _).mono ?_; rintro e w' ⟨rfl, hw⟩; rw [hw]; clear hw))
        go_ret
        exact ⟨rfl, rfl⟩
  · have h11 : (s.size : Int) ≤ (i : Int) := by omega
    rw [if_pos h11]
    go_enter Try.func43, Try.ntmps43
    go_wp2
    go_ret
    exact ⟨rfl, rfl⟩
end Go.Proofs.Ytjcknghdgfcboaa
namespace Go.Proofs.Ytjcknghdgfcboaa
open Go.RowKit
set_option linter.unusedVariables false
set_option linter.unusedSimpArgs false

theorem atB_app (a b : ByteArray) (i : Int) : atB (a ++ b) i = if i < a.size then atB a i else atB b (i - a.size) := by
  by_cases h0 : 0 ≤ i
  · obtain ⟨n, rfl⟩ : ∃ n : Nat, i = n := ⟨i.toNat, by omega⟩
    by_cases h : (n : Int) < a.size
    · have h1 : n < a.size := by omega
      have h2 : n < (a ++ b).size := by rw [ByteArray.size_append]; omega
      rw [if_pos h]
      unfold atB
      rw [dif_pos ⟨h0, by simpa using h2⟩, dif_pos ⟨h0, by simpa using h1⟩]
      simp only [Int.toNat_natCast]
      rw [ByteArray.getElem_append_left h1]
    · rw [if_neg h]
      unfold atB
      by_cases h3 : n < (a ++ b).size
      · have h4 : n - a.size < b.size := by rw [ByteArray.size_append] at h3; omega
        have e : ((n : Int) - a.size).toNat = n - a.size := by omega
        rw [dif_pos ⟨h0, by simpa using h3⟩, dif_pos ⟨by omega, by rw [e]; exact h4⟩]
        simp only [Int.toNat_natCast, e]
        rw [ByteArray.getElem_append_right (by omega)]
      · rw [dif_neg (by rw [ByteArray.size_append] at h3; simp; omega), dif_neg (by rw [ByteArray.size_append] at h3; omega)]
  · unfold atB
    split
    · rename_i h1; exact absurd h1.1 h0
    · split
      · split
        · rename_i h1; exact absurd h1.1 h0
        · rfl
      · rename_i h1; omega
def pre4 : ByteArray := ⟨#[97, 61, 120, 40]⟩
def post5 : ByteArray := ⟨#[41, 10, 83, 58, 10]⟩
def pre3 : ByteArray := ⟨#[97, 61, 120]⟩
def post4 : ByteArray := ⟨#[10, 83, 58, 10]⟩
/-- a pattern in brackets behind an x, as a specification -/
def specX (b : ByteArray) : ByteArray := pre4 ++ b ++ post5
def specY (b : ByteArray) : ByteArray := pre3 ++ b ++ post4
section
variable (b : ByteArray)
theorem specX_size : (specX b).size = b.size + 9 := by
  unfold specX
  rw [ByteArray.size_append, ByteArray.size_append]
  show 4 + b.size + 5 = _
  omega
theorem specX_pre {j : Int} (h : j < 4) : atB (specX b) j = atB pre4 j := by
  unfold specX
  have e : pre4.size = 4 := rfl
  rw [atB_app, if_pos (by rw [ByteArray.size_append, e]; omega), atB_app, if_pos (by rw [e]; exact h)]
theorem specX_mid {j : Int} (h0 : 0 ≤ j) (h : j < b.size) : atB (specX b) (4 + j) = atB b j := by
  unfold specX
  have e : pre4.size = 4 := rfl
  rw [atB_app, if_pos (by rw [ByteArray.size_append, e]; omega), atB_app, if_neg (by rw [e]; omega), e]
  congr 1; omega
theorem specX_post {j : Int} (h0 : 0 ≤ j) : atB (specX b) (4 + b.size + j) = atB post5 j := by
  unfold specX
  have e : pre4.size = 4 := rfl
  rw [atB_app, if_neg (by rw [ByteArray.size_append, e]; omega), ByteArray.size_append, e]
  congr 1; omega
theorem specY_pre {j : Int} (h : j < 3) : atB (specY b) j = atB pre3 j := by
  unfold specY
  have e : pre3.size = 3 := rfl
  rw [atB_app, if_pos (by rw [ByteArray.size_append, e]; omega), atB_app, if_pos (by rw [e]; exact h)]
theorem specY_mid {j : Int} (h0 : 0 ≤ j) (h : j < b.size) : atB (specY b) (3 + j) = atB b j := by
  unfold specY
  have e : pre3.size = 3 := rfl
  rw [atB_app, if_pos (by rw [ByteArray.size_append, e]; omega), atB_app, if_neg (by rw [e]; omega), e]
  congr 1; omega
end
theorem rLinesL_pre (s : ByteArray) : ∀ (f : Nat) (i : Int) (acc : List Ln), (rLinesL s f i acc).2.2 = true → ∃ rest, (rLinesL s f i acc).1 = acc ++ rest
  | 0, i, acc, h => by cases h
  | f + 1, i, acc, h => by
    unfold rLinesL at h ⊢
    split
    · rename_i c
      rw [if_pos c] at h
      split
      · rename_i c2; rw [if_pos c2] at h; cases h
      · rename_i c2
        rw [if_neg c2] at h
        obtain ⟨rest, hr⟩ := rLinesL_pre s f _ _ h
        exact ⟨_, by rw [hr, List.append_assoc]⟩
    · exact ⟨[], by simp⟩
def fA : List Int := [97, 0, 0, 0, 0, 0, 0, 0]
theorem rWord_a {s : ByteArray} (h0 : atB s 0 = 97) (h1 : atB s 1 = 61) : rWord s 0 = (⟨0, fA⟩, 1, true) := by
  have e : rWordL s 0 9 1 (zero8.set 0 97) = (fA, 1) := by
    unfold rWordL
    rw [if_pos (by decide)]
    have h1' : atB s (0 + ((1 : Nat) : Int)) = 61 := h1
    rw [h1', if_neg (by decide)]
    rfl
  unfold rWord
  rw [h0, if_neg (by decide), e]
/-- the first line is the rule a -/
theorem rule_zero {s : ByteArray} (h0 : atB s 0 = 97) (h1 : atB s 1 = 61) (hok : (rLines s).2.2 = true) :
    (rRead s 2).ok = true ∧ atB s (rRead s 2).next = 10 ∧ ∃ rest, (rLines s).1 = ⟨⟨0, fA⟩, false, (rRead s 2).ns, (rRead s 2).st, (rRead s 2).en, []⟩ :: rest := by
  have hlt := atB_lt (s := s) (i := 0) (by omega)
  have hw := rWord_a h0 h1
  have hL : rLine s 0 = rRule s 1 ⟨0, fA⟩ := by
    unfold rLine
    rw [hw]
    dsimp only
    rw [if_neg (by decide), if_neg (by decide)]
  have hR : (rRule s 1 ⟨0, fA⟩).2.2 = true → (rRead s 2).ok = true ∧ atB s (rRead s 2).next = 10 ∧ rRule s 1 ⟨0, fA⟩ = (⟨⟨0, fA⟩, false, (rRead s 2).ns, (rRead s 2).st, (rRead s 2).en, []⟩, (rRead s 2).next + 1, true) := by
    intro h
    unfold rRule at h ⊢
    rw [h1, if_neg (by decide)] at h ⊢
    have e2 : (1 : Int) + 1 = 2 := rfl
    rw [e2] at h ⊢
    by_cases c1 : (rRead s 2).ok = false
    · rw [if_pos c1] at h; cases h
    · rw [if_neg c1] at h ⊢
      by_cases c2 : atB s (rRead s 2).next ≠ 10
      · rw [if_pos c2] at h; cases h
      · rw [if_neg c2]
        refine ⟨by simpa using c1, ?_, rfl⟩
        by_cases q : atB s (rRead s 2).next = 10
        · exact q
        · exact absurd q c2
  unfold rLines at hok ⊢
  change (rLinesL s (s.size + 4 + 1) 0 []).2.2 = true at hok
  show _ ∧ _ ∧ ∃ rest, (rLinesL s (s.size + 4 + 1) 0 []).1 = _
  unfold rLinesL at hok ⊢
  rw [if_pos hlt.2] at hok ⊢
  rw [hL] at hok ⊢
  by_cases c : (rRule s 1 ⟨0, fA⟩).2.2 = false
  · rw [if_pos c] at hok; cases hok
  · rw [if_neg c] at hok ⊢
    obtain ⟨q1, q2, q3⟩ := hR (by simpa using c)
    obtain ⟨rest, hr⟩ := rLinesL_pre s _ _ _ hok
    refine ⟨q1, q2, rest, ?_⟩
    rw [hr, q3]; rfl
theorem form_ok {s : ByteArray} (h : (checkF s).1 = 0 ∨ (checkF s).1 = 5) : (rLines s).2.2 = true := by
  cases e : (rLines s).2.2
  · unfold checkF at h
    rw [e] at h
    split at h
    · rcases h with h | h <;> (revert h; decide)
    · rw [if_pos rfl] at h
      rcases h with h | h <;> (dsimp only at h; omega)
  · rfl
theorem read_ok {s : ByteArray} {i : Int} (h : (rRead s i).ok = true) : (lchK s 6 i).ok = true ∧ (rRead s i).next = (lchK s 6 i).next := by
  have hk := lk_chK s 6 i []
  exact ⟨by rw [← h]; exact hk.ok.symm, hk.next⟩
/-- in its brackets a pattern is read as a whole -/
structure IsPat (p : ByteArray) (L : Lang) : Prop where
  ok : (lchK (specX p) 5 4).ok = true
  next : (lchK (specX p) 5 4).next = 4 + p.size
  lang : (lchK (specX p) 5 4).lang = L
section
variable {b p q : ByteArray} {L M : Lang}
theorem specX_3 (b : ByteArray) : atB (specX b) 3 = 40 := (specX_pre b (j := 3) (by omega)).trans (by decide)
theorem specX_2 (b : ByteArray) : atB (specX b) 2 = 120 := (specX_pre b (j := 2) (by omega)).trans (by decide)
theorem specX_inner (hr : (rRead (specX b) 2).ok = true) : (lchK (specX b) 5 4).ok = true ∧ atB (specX b) (lchK (specX b) 5 4).next = 41 := by
  have h2 := (read_ok hr).1
  have ax := atom_x (lgK (specX b) 6) (specX_2 b)
  have px : lPiece (lAtom (lgK (specX b) 6) (specX b)) (specX b) 2 = ⟨3, true, xL⟩ := by
    have e : (2 : Int) + 1 = 3 := rfl
    rw [e] at ax
    rw [← ax]
    exact piece_plain (by rw [ax]) (by rw [ax]; dsimp only; rw [specX_3]; decide)
  have hb := choice_ok h2
  have h3 := branch_ok2 hb (by rw [px]; dsimp only; rw [specX_3]; decide)
  rw [px] at h3
  have h4 := piece_ok h3
  unfold lAtom at h4
  rw [if_pos (specX_3 b)] at h4
  have h4 : (lGroup (lchK (specX b) 5) (specX b) 3).ok = true := h4
  unfold lGroup at h4
  have e : (3 : Int) + 1 = 4 := rfl
  rw [e] at h4
  by_cases c1 : (lchK (specX b) 5 4).ok = false
  · rw [if_pos c1] at h4; cases h4
  · rw [if_neg c1] at h4
    refine ⟨by simpa using c1, ?_⟩
    by_cases c2 : atB (specX b) (lchK (specX b) 5 4).next = 41
    · exact c2
    · rw [if_pos c2] at h4; cases h4
theorem specX_close (b : ByteArray) : atB (specX b) (4 + b.size) = 41 := by
  have := specX_post b (j := 0) (by omega)
  rw [show (4 : Int) + b.size + 0 = 4 + b.size by omega] at this
  rw [this]; decide
theorem specX_nl (b : ByteArray) : atB (specX b) (5 + b.size) = 10 := by
  have := specX_post b (j := 1) (by omega)
  rw [show (4 : Int) + b.size + 1 = 5 + b.size by omega] at this
  rw [this]; decide
theorem specX_whole (h : IsPat b L) : lchK (specX b) 6 2 = ⟨5 + b.size, true, Lang.cat xL L⟩ := by
  have ax := atom_x (lgK (specX b) 6) (specX_2 b)
  have e : (2 : Int) + 1 = 3 := rfl
  rw [e] at ax
  have px : lPiece (lAtom (lgK (specX b) 6) (specX b)) (specX b) 2 = ⟨3, true, xL⟩ := by
    rw [← ax]
    exact piece_plain (by rw [ax]) (by rw [ax]; dsimp only; rw [specX_3]; decide)
  have ag : lAtom (lgK (specX b) 6) (specX b) 3 = ⟨5 + b.size, true, L⟩ := by
    unfold lAtom
    rw [if_pos (specX_3 b)]
    show lGroup (lchK (specX b) 5) (specX b) 3 = _
    unfold lGroup
    have e : (3 : Int) + 1 = 4 := rfl
    rw [e, h.ok, h.next, h.lang, if_neg (by simp), if_neg (by rw [specX_close]; simp)]
    congr 1; omega
  have pg : lPiece (lAtom (lgK (specX b) 6) (specX b)) (specX b) 3 = ⟨5 + b.size, true, L⟩ := by
    rw [← ag]
    exact piece_plain (by rw [ag]) (by rw [ag]; dsimp only; rw [specX_nl]; decide)
  have bb : lBranch (lPiece (lAtom (lgK (specX b) 6) (specX b)) (specX b)) (specX b) 2 = ⟨5 + b.size, true, Lang.cat xL L⟩ := by
    rw [branch_two (by rw [px]) (by rw [px]; dsimp only; rw [specX_3]; decide) (by rw [px]; dsimp only; rw [pg]) (by rw [px]; dsimp only; rw [pg]; dsimp only; rw [specX_nl]; decide), px]
    dsimp only
    rw [pg]
  unfold lchK
  rw [choice_one (by rw [bb]; dsimp only; rw [specX_nl]; decide), bb]
/-- what isPattern asks makes it one -/
theorem isPat_of (h1 : (checkF (specX p)).1 = 0) (h2 : (checkF (specY p)).1 = 0 ∨ (checkF (specY p)).1 = 5) : IsPat p (lchK (specX p) 5 4).lang := by
  obtain ⟨r1, _, _⟩ := rule_zero ((specX_pre p (j := 0) (by omega)).trans (by decide)) ((specX_pre p (j := 1) (by omega)).trans (by decide)) (form_ok (.inl h1))
  obtain ⟨r2, n2, _⟩ := rule_zero ((specY_pre p (j := 0) (by omega)).trans (by decide)) ((specY_pre p (j := 1) (by omega)).trans (by decide)) (form_ok h2)
  obtain ⟨k1, k2⟩ := specX_inner r1
  have g := lg_chK (specX p) 5 4 (by omega) (by rw [specX_size]; omega) k1
  have cl := lch_clean k1
  have le : (lchK (specX p) 5 4).next ≤ 4 + p.size := by
    by_cases q : 5 + p.size < (lchK (specX p) 5 4).next
    · have := cl (5 + p.size) (by omega) q
      rw [specX_nl] at this; omega
    · by_cases q2 : (lchK (specX p) 5 4).next = 5 + p.size
      · rw [q2, specX_nl] at k2; omega
      · omega
  refine ⟨k1, ?_, rfl⟩
  by_cases q : (lchK (specX p) 5 4).next = 4 + p.size
  · exact q
  · exfalso
    obtain ⟨n, hn⟩ : ∃ n : Nat, (lchK (specX p) 5 4).next = 4 + n := ⟨((lchK (specX p) 5 4).next - 4).toNat, by omega⟩
    have hnp : n < p.size := by omega
    have al : Alike (specX p) 4 (specY p) 3 n := fun j hj => by rw [specX_mid p (by omega) (by omega), specY_mid p (by omega) (by omega)]
    have st : atB (specY p) (3 + n) = 41 := by
      rw [specY_mid p (by omega) (by omega), ← specX_mid p (by omega) (by omega), ← hn]; exact k2
    have sm := loc_chK (specX p) (specY p) (show 5 ≤ 6 by omega) 4 3 n (by omega) (by rw [specX_size]; omega) (by omega) al (by rw [st]; decide) k1 (by omega)
    have ah := ahead_x (s := specY p) (k := 6) (i := 2) (by omega) ((specY_pre p (j := 2) (by omega)).trans (by decide)) sm.ok
    have e : (2 : Int) + 1 = 3 := rfl
    rw [e, sm.next, hn, show (4 : Int) + n - 4 + 3 = 3 + n by omega] at ah
    rw [(read_ok r2).2, ah, st] at n2
    omega
/-- a pattern in brackets within another text -/
theorem group_in {s : ByteArray} {i : Int} {k : Nat} (hp : IsPat p L) (hk : k ≤ 5) (h0 : 0 ≤ i) (hi : atB s i = 40) (hmid : ∀ j : Nat, j < p.size → atB s (i + 1 + j) = atB p j) (hend : atB s (i + 1 + p.size) = 41) (hok : (lgK s (k + 1) i).ok = true) :
    lgK s (k + 1) i = ⟨i + p.size + 2, true, L⟩ := by
  have hlt := atB_lt (s := s) (i := i) (by omega)
  have hok : (lGroup (lchK s k) s i).ok = true := hok
  show lGroup (lchK s k) s i = _
  unfold lGroup at hok ⊢
  by_cases c1 : (lchK s k (i + 1)).ok = false
  · rw [if_pos c1] at hok; cases hok
  · have c1' : (lchK s k (i + 1)).ok = true := by simpa using c1
    rw [if_neg c1] at hok ⊢
    by_cases c2 : atB s (lchK s k (i + 1)).next ≠ 41
    · rw [if_pos c2] at hok; cases hok
    · rw [if_neg c2]
      have c2' : atB s (lchK s k (i + 1)).next = 41 := by
        by_cases q : atB s (lchK s k (i + 1)).next = 41
        · exact q
        · exact absurd q c2
      have g := lg_chK s k (i + 1) (by omega) (by omega) c1'
      have up := loc_chK s s hk (i + 1) (i + 1) ((lchK s k (i + 1)).next - (i + 1)).toNat (by omega) (by omega) (by omega) (fun j _ => rfl) (by rw [show i + 1 + (((lchK s k (i + 1)).next - (i + 1)).toNat : Int) = (lchK s k (i + 1)).next by omega, c2']; decide) c1' (by omega)
      have al : Alike (specX p) 4 s (i + 1) p.size := fun j hj => by rw [specX_mid p (by omega) (by omega), hmid j hj]
      have ac := loc_chK (specX p) s (Nat.le_refl 5) 4 (i + 1) p.size (by omega) (by rw [specX_size]; omega) (by omega) al (by rw [hend]; decide) hp.ok (by rw [hp.next]; omega)
      have n1 := up.next
      have n2 := ac.next
      have l1 := up.lang
      have l2 := ac.lang
      rw [hp.lang] at l2
      rw [hp.next] at n2
      rw [n2] at n1
      rw [← l1, l2]
      congr 1; omega
end
end Go.Proofs.Ytjcknghdgfcboaa
