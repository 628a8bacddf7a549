import Derived.Test.YtcpgklcimacngaaGreatRf5
import Derived.Test.YtcpgklcimacngaaGreatMu7
namespace Go.Proofs.YtcpgklcimacngaaGreat
open Go.RowKit
set_option linter.unusedVariables false
set_option linter.unusedSimpArgs false

/-- m letters stand here that are a name or a head, and no more -/
structure Wordy (u : ByteArray) (x : Int) (m : Nat) : Prop where
  pos : 1 ≤ m
  le : m ≤ 8
  first : isSmallB (atB u x) = true ∨ isCapB (atB u x) = true
  rest : ∀ k : Nat, 1 ≤ k → k < m → isSmallB (atB u (x + k)) = true
  stop : isSmallB (atB u (x + m)) = false

theorem small_cap {c : Int} (h : isCapB c = true) : isSmallB c = false := by
  unfold isCapB at h
  unfold isSmallB
  rw [Bool.and_eq_true, decide_eq_true_eq, decide_eq_true_eq] at h
  rw [Bool.and_eq_false_iff, decide_eq_false_iff_not, decide_eq_false_iff_not]
  omega
theorem zLetL_spec (s : ByteArray) : ∀ (f : Nat) (x : Int), (s.size : Int) + 1 ≤ f + x → (∀ k : Nat, k < zLetL s f x → isSmallB (atB s (x + k)) = true) ∧ isSmallB (atB s (x + zLetL s f x)) = false
  | 0, x, h => by
    refine ⟨fun k hk => by simp [zLetL] at hk, ?_⟩
    rw [atB_out (by simp [zLetL]; omega)]; decide
  | f + 1, x, h => by
    rw [zLetL_s]
    by_cases c : isSmallB (atB s x) = true
    · rw [if_pos c]
      obtain ⟨h1, h2⟩ := zLetL_spec s f (x + 1) (by omega)
      refine ⟨fun k hk => ?_, ?_⟩
      · cases k with
        | zero => simpa using c
        | succ k =>
          have := h1 k (by omega)
          rw [show x + ((k + 1 : Nat) : Int) = x + 1 + k by omega]; exact this
      · rw [show x + ((zLetL s f (x + 1) + 1 : Nat) : Int) = x + 1 + zLetL s f (x + 1) by omega]; exact h2
    · rw [if_neg c]
      refine ⟨fun k hk => by omega, by simpa using c⟩
theorem zLet_spec (s : ByteArray) {x : Int} (h0 : 0 ≤ x) : (∀ k : Nat, k < zLet s x → isSmallB (atB s (x + k)) = true) ∧ isSmallB (atB s (x + zLet s x)) = false := zLetL_spec s _ x (by omega)
theorem zLet_is {s : ByteArray} {x : Int} {m : Nat} (h0 : 0 ≤ x) (h : ∀ k : Nat, k < m → isSmallB (atB s (x + k)) = true) (hs : isSmallB (atB s (x + m)) = false) : zLet s x = m := by
  obtain ⟨h1, h2⟩ := zLet_spec s h0
  rcases Nat.lt_trichotomy (zLet s x) m with q | q | q
  · rw [h _ q] at h2; cases h2
  · exact q
  · rw [h1 m q] at hs; cases hs
theorem zSym_some {u : ByteArray} {x : Int} (h0 : 0 ≤ x) (h : 0 ≤ zSym u x) : ∃ m, Wordy u x m ∧ zSym u x = x + m := by
  unfold zSym at h ⊢
  by_cases c0 : (u.size : Int) ≤ x
  · rw [if_pos c0] at h; omega
  · rw [if_neg c0] at h ⊢
    by_cases c1 : isCapB (atB u x) = true
    · rw [if_pos c1] at h ⊢
      obtain ⟨h1, h2⟩ := zLet_spec u (x := x + 1) (by omega)
      by_cases c2 : 8 < 1 + (zLet u (x + 1) : Int)
      · rw [if_pos c2] at h; omega
      · rw [if_neg c2]
        refine ⟨zLet u (x + 1) + 1, ⟨by omega, by omega, .inr c1, fun k k1 k2 => ?_, ?_⟩, by omega⟩
        · have := h1 (k - 1) (by omega)
          rw [show x + (k : Int) = x + 1 + ((k - 1 : Nat) : Int) by omega]; exact this
        · rw [show x + ((zLet u (x + 1) + 1 : Nat) : Int) = x + 1 + zLet u (x + 1) by omega]; exact h2
    · rw [if_neg c1] at h ⊢
      obtain ⟨h1, h2⟩ := zLet_spec u (x := x) h0
      by_cases c2 : (zLet u x : Int) = 0 ∨ 8 < (zLet u x : Int)
      · rw [if_pos c2] at h; omega
      · rw [if_neg c2]
        refine ⟨zLet u x, ⟨by omega, by omega, .inl ?_, fun k k1 k2 => h1 k k2, h2⟩, rfl⟩
        have := h1 0 (by omega); simpa using this
theorem zSym_of {u : ByteArray} {x : Int} {m : Nat} (h0 : 0 ≤ x) (h : Wordy u x m) : zSym u x = x + m := by
  have hp := h.pos
  have hl := h.le
  have hin : ¬ (u.size : Int) ≤ x := fun q => by
    have e := atB_out (p := u) (i := x) q
    have := h.first
    rw [e] at this
    revert this; decide
  unfold zSym
  rw [if_neg hin]
  by_cases c1 : isCapB (atB u x) = true
  · have e : zLet u (x + 1) = m - 1 := zLet_is (by omega) (fun k hk => by
      have := h.rest (k + 1) (by omega) (by omega)
      rw [show x + 1 + (k : Int) = x + ((k + 1 : Nat) : Int) by omega]; exact this) (by
      rw [show x + 1 + ((m - 1 : Nat) : Int) = x + m by omega]; exact h.stop)
    rw [if_pos c1, e, if_neg (by omega)]; omega
  · have c2 : isSmallB (atB u x) = true := by
      rcases h.first with q | q
      · exact q
      · exact absurd q c1
    have e : zLet u x = m := zLet_is h0 (fun k hk => by
      by_cases k0 : k = 0
      · subst k0; simpa using c2
      · exact h.rest k (by omega) hk) h.stop
    rw [if_neg c1, e, if_neg (by omega)]
theorem rWordL_stop (s : ByteArray) (i : Int) : ∀ (f n : Nat) (ls : List Int), n ≤ 8 → 9 ≤ f + n → (rWordL s i f n ls).2 = i + 8 ∨ isSmallB (atB s (rWordL s i f n ls).2) = false
  | 0, n, ls, h1, h2 => by omega
  | f + 1, n, ls, h1, h2 => by
    unfold rWordL
    split
    · split
      · exact rWordL_stop s i f (n + 1) _ (by omega) (by omega)
      · right; rename_i q; simpa using q
    · left; rfl
theorem rWord_stop {s : ByteArray} {i : Int} (h : (rWord s i).2.2 = true) : (rWord s i).2.1 = i + 8 ∨ isSmallB (atB s (rWord s i).2.1) = false := by
  unfold rWord at h ⊢
  split
  · rename_i e; rw [if_pos e] at h; cases h
  · exact rWordL_stop s i 9 1 _ (by omega) (by omega)
/-- a word that is no longer is read to its end -/
theorem rWord_of {s : ByteArray} {i : Int} {m : Nat} (h : Wordy s i m) : (rWord s i).2.2 = true ∧ (rWord s i).2.1 = i + m ∧ WordAt s i m (rWord s i).1 := by
  have hok : (rWord s i).2.2 = true := by
    unfold rWord
    have : (!isSmallB (atB s i) && !isCapB (atB s i)) = false := by
      rcases h.first with q | q <;> rw [q] <;> simp
    rw [if_neg (by rw [this]; simp)]
  obtain ⟨n, hw, hn⟩ := rWord_at s i hok
  have hp := hw.pos
  have hl := hw.le
  have hp' := h.pos
  have hl' := h.le
  have e : n = m := by
    rcases Nat.lt_trichotomy n m with q | q | q
    · rcases rWord_stop hok with z | z
      · omega
      · rw [hn, h.rest n (by omega) q] at z; cases z
    · exact q
    · have z := h.stop
      rw [hw.rest m (by omega) q] at z; cases z
  subst e
  exact ⟨hok, hn, hw⟩
theorem WordAt.wordy {s : ByteArray} {i : Int} {m : Nat} {d : Wd} (h : WordAt s i m d) (hs : isSmallB (atB s (i + m)) = false) : Wordy s i m := ⟨h.pos, h.le, h.first, h.rest, hs⟩
/-- bytes of a piece of a text -/
theorem atB_part {s : ByteArray} {a e : Nat} (he : e ≤ s.size) {k : Int} (h0 : 0 ≤ k) (hk : a + k < e) : atB (s.extract a e) k = atB s (a + k) := by
  obtain ⟨n, rfl⟩ : ∃ n : Nat, k = n := ⟨k.toNat, by omega⟩
  exact atB_ext s a e n he (by omega)
theorem part_size {s : ByteArray} {a e : Nat} (he : e ≤ s.size) : (s.extract a e).size = e - a := by rw [ByteArray.size_extract]; omega
section
variable {s : ByteArray} {a e : Nat}
theorem wordy_up (he : e < s.size) (h10 : atB s (e : Nat) = 10) {x : Int} {m : Nat} (h0 : 0 ≤ x) (h : Wordy (s.extract a e) x m) : Wordy s (a + x) m ∧ a + x + m ≤ e := by
  have hp := h.pos
  have hsz := part_size (s := s) (a := a) (e := e) (by omega)
  have hin : ∀ k : Nat, k < m → a + x + k < e := fun k hk => by
    have hc : atB (s.extract a e) (x + k) ≠ -1 := by
      by_cases k0 : k = 0
      · subst k0
        intro q
        have := h.first
        simp only [Int.natCast_zero, Int.add_zero] at q
        rw [q] at this
        revert this; decide
      · exact small_in (h.rest k (by omega) hk)
    have := atB_lt hc
    omega
  have hb : ∀ k : Nat, k < m → atB (s.extract a e) (x + k) = atB s (a + x + k) := fun k hk => by
    rw [atB_part (by omega) (by omega) (by have := hin k hk; omega), Int.add_assoc]
  have hlast := hin (m - 1) (by omega)
  refine ⟨⟨h.pos, h.le, ?_, fun k k1 k2 => ?_, ?_⟩, by omega⟩
  · have := hb 0 (by omega)
    simp only [Int.natCast_zero, Int.add_zero] at this
    rw [← this]; exact h.first
  · rw [← hb k k2]; exact h.rest k k1 k2
  · by_cases q : a + x + m < e
    · have := h.stop
      rw [atB_part (by omega) (by omega) (by omega)] at this
      rw [Int.add_assoc]; exact this
    · rw [show (a : Int) + x + m = (e : Nat) by omega, h10]; decide
theorem wordy_down (he : e < s.size) (h10 : atB s (e : Nat) = 10) {x : Int} {m : Nat} (h0 : 0 ≤ x) (h : Wordy s (a + x) m) (hm : a + x + m ≤ e) : Wordy (s.extract a e) x m := by
  have hp := h.pos
  have hsz := part_size (s := s) (a := a) (e := e) (by omega)
  have hb : ∀ k : Nat, k < m → atB (s.extract a e) (x + k) = atB s (a + x + k) := fun k hk => by
    rw [atB_part (by omega) (by omega) (by omega), Int.add_assoc]
  refine ⟨h.pos, h.le, ?_, fun k k1 k2 => ?_, ?_⟩
  · have := hb 0 (by omega)
    simp only [Int.natCast_zero, Int.add_zero] at this
    rw [this]; exact h.first
  · rw [hb k k2]; exact h.rest k k1 k2
  · by_cases q : a + x + m < e
    · rw [atB_part (by omega) (by omega) (by omega), ← Int.add_assoc]; exact h.stop
    · rw [atB_out (by omega)]; decide
end
theorem ext_mid (s : ByteArray) (a e b c : Nat) (he : e ≤ s.size) (hc : a + c ≤ e) : (s.extract a e).extract b c = s.extract (a + b) (a + c) := by
  apply ByteArray.ext
  simp only [ByteArray.data_extract, Array.extract_extract]
  have : s.size = s.data.size := rfl
  congr 1
  omega
end Go.Proofs.YtcpgklcimacngaaGreat
namespace Go.Proofs.YtcpgklcimacngaaGreat
open Go.RowKit
set_option linter.unusedVariables false
set_option linter.unusedSimpArgs false

/-- a line of the reference -/
structure ZLn where
  rule : Bool
  skip : Bool
  name : ByteArray
  pat : ByteArray
  syms : List ByteArray
  places : List Int
def zProdL (s : ByteArray) : Nat → Int → List ByteArray → List Int → Option (List ByteArray × List Int)
  | 0, _, _, _ => none
  | f + 1, i, a, b =>
    if i < s.size then
      if atB s i = 32 then
        if zSym s (i + 1) < 0 then none
        else zProdL s f (zSym s (i + 1)) (a ++ [s.extract (i + 1).toNat (zSym s (i + 1)).toNat]) (b ++ [i + 1])
      else none
    else some (a, b)
theorem zProdL_s (s : ByteArray) (f : Nat) (i : Int) (a : List ByteArray) (b : List Int) : zProdL s (f + 1) i a b = if i < s.size then
      if atB s i = 32 then
        if zSym s (i + 1) < 0 then none
        else zProdL s f (zSym s (i + 1)) (a ++ [s.extract (i + 1).toNat (zSym s (i + 1)).toNat]) (b ++ [i + 1])
      else none
    else some (a, b) := rfl
/-- what line says of a rule -/
def zRuleOk (s : ByteArray) (n : Nat) : Bool := decide (n ≤ 8) && decide (n < s.size) && (atB s n == 61 || atB s n == 126)
def zLine (s : ByteArray) : Option ZLn :=
  if 0 < zLet s 0 then
    if zRuleOk s (zLet s 0) = true ∧ zpK s 6 ((zLet s 0 : Nat) + 1) = s.size then some ⟨true, atB s (zLet s 0) == 126, s.extract 0 (zLet s 0), s.extract (zLet s 0 + 1) s.size, [], []⟩ else none
  else if 0 ≤ zSym s 0 ∧ atB s (zSym s 0) = 58 then
    (zProdL s (s.size + 5) (zSym s 0 + 1) [] []).map (fun l => ⟨false, false, s.extract 0 (zSym s 0).toNat, ⟨#[]⟩, l.1, l.2⟩)
  else none

/-- symbols, as the reference has them -/
def SymRel (s : ByteArray) (ds : List Wd) (ns : List ByteArray) : Prop :=
  ds.length = ns.length ∧ ∀ (k : Nat) (d : Wd) (n : ByteArray), ds[k]? = some d → ns[k]? = some n → ∃ j m : Nat, WordAt s j m d ∧ j + m ≤ s.size ∧ n = s.extract j (j + m)
structure ZRel (s : ByteArray) (i : Nat) (x : Ln) (z : ZLn) : Prop where
  rule : z.rule = ruleB x
  skip : z.skip = x.skip
  place : x.front.place = i
  name : ∃ m, WordAt s i m x.front ∧ i + m ≤ s.size ∧ z.name = s.extract i (i + m)
  pat : z.rule = true → ∃ L, lchK z.pat 6 0 = ⟨z.pat.size, true, L⟩ ∧ z.pat.size ≤ s.size ∧ ∀ t, ruleMatch x t = true ↔ L (bytesOf t)
  syms : SymRel s x.syms z.syms
  places : z.places = x.syms.map (fun d : Wd => d.place - (i : Int))
  nos : z.rule = true → z.syms = []
  noskip : z.rule = false → z.skip = false
section
variable {s : ByteArray} {a e : Nat}
theorem alike_part (he : e ≤ s.size) {x : Nat} : Alike s (a + x : Nat) (s.extract a e) (x : Nat) (e - a - x) := fun j hj => by
  rw [atB_part he (by omega) (by omega)]
  congr 1; omega
theorem alike_part' (he : e ≤ s.size) {x : Nat} : Alike (s.extract a e) (x : Nat) s (a + x : Nat) (e - a - x) := fun j hj => by
  rw [atB_part he (by omega) (by omega)]
  congr 1; omega
/-- a row of words, as the reference reads it -/
theorem zProdL_of (he : e < s.size) (h10 : atB s (e : Nat) = 10) : ∀ {p : Nat} {ds : List Wd} {ns : List ByteArray}, PN s p ds ns e → a ≤ p → ∀ (f : Nat) (A : List ByteArray) (B : List Int), e + 2 ≤ f + p →
    zProdL (s.extract a e) f ((p - a : Nat) : Int) A B = some (A ++ ns, B ++ ds.map (fun d : Wd => d.place - (a : Int))) := by
  have hsz := part_size (s := s) (a := a) (e := e) (by omega)
  intro p ds ns h
  refine PN.ind (q := e) (M := fun p ds ns => a ≤ p → ∀ (f : Nat) (A : List ByteArray) (B : List Int), e + 2 ≤ f + p → zProdL (s.extract a e) f ((p - a : Nat) : Int) A B = some (A ++ ns, B ++ ds.map (fun d : Wd => d.place - (a : Int)))) ?_ ?_ ds p ns h
  · intro hp f A B hf
    obtain ⟨f, rfl⟩ : ∃ k, f = k + 1 := ⟨f - 1, by omega⟩
    rw [zProdL_s, if_neg (by omega)]; simp
  · intro p m d ds ns h32 hw hle h ih hp f A B hf
    have hpe := h.le
    have hpos := hw.pos
    obtain ⟨f, rfl⟩ : ∃ k, f = k + 1 := ⟨f - 1, by omega⟩
    have hstop : isSmallB (atB s (((p + 1 : Nat) : Int) + m)) = false := by
      rcases h.next with q | q
      · rw [show ((p + 1 : Nat) : Int) + m = (e : Nat) by omega, h10]; decide
      · rw [show ((p + 1 : Nat) : Int) + m = ((p + 1 + m : Nat) : Int) by omega, q]; decide
    have wd := hw.wordy hstop
    rw [show ((p + 1 : Nat) : Int) = a + (((p - a : Nat) : Int) + 1) by omega] at wd
    have wu := wordy_down he h10 (by omega) wd (by omega)
    have zs := zSym_of (by omega) wu
    have b32 : atB (s.extract a e) ((p - a : Nat) : Int) = 32 := by
      rw [atB_part (by omega) (by omega) (by omega), show (a : Int) + ((p - a : Nat) : Int) = (p : Nat) by omega]; exact h32
    have hlt : ((p - a : Nat) : Int) < ((s.extract a e).size : Int) := by omega
    rw [zProdL_s, if_pos hlt, if_pos b32, zs, if_neg (by omega)]
    have en : ((p - a : Nat) : Int) + 1 + m = ((p + 1 + m - a : Nat) : Int) := by omega
    rw [en, ih (by omega) f _ _ (by omega)]
    have ex : (s.extract a e).extract (((p - a : Nat) : Int) + 1).toNat (((p + 1 + m - a : Nat) : Int)).toNat = s.extract (p + 1) (p + 1 + m) := by
      rw [ext_mid s a e _ _ (by omega) (by omega)]
      congr 1 <;> omega
    have hpl := hw.place
    rw [ex]
    simp only [List.append_assoc, List.singleton_append, List.map_cons, Option.some.injEq, Prod.mk.injEq, List.append_cancel_left_eq, List.cons.injEq, and_true, true_and]
    omega
/-- .. and back -/
theorem rProdL_of (he : e < s.size) (h10 : atB s (e : Nat) = 10) (d : Wd) : ∀ (g f : Nat) (x : Nat) (A : List ByteArray) (B : List Int) (S : List Wd), a + x ≤ e → (s.size : Int) + 2 ≤ f + (a + x) → (zProdL (s.extract a e) g (x : Nat) A B).isSome = true →
    (rProdL s d f ((a + x : Nat) : Int) S).2.2 = true := by
  have hsz := part_size (s := s) (a := a) (e := e) (by omega)
  intro g
  induction g with
  | zero => intro f x A B S h1 h2 h3; simp [zProdL] at h3
  | succ g ih =>
    intro f x A B S h1 h2 h3
    obtain ⟨f, rfl⟩ : ∃ k, f = k + 1 := ⟨f - 1, by omega⟩
    rw [zProdL_s] at h3
    unfold rProdL
    by_cases c1 : a + x < e
    · have hlt : ((x : Nat) : Int) < ((s.extract a e).size : Int) := by omega
      rw [if_pos hlt] at h3
      by_cases c2 : atB (s.extract a e) (x : Nat) = 32
      · rw [if_pos c2] at h3
        rw [atB_part (by omega) (by omega) (by omega)] at c2
        have c2' : atB s ((a + x : Nat) : Int) = 32 := by rw [← c2]; congr 1
        rw [if_pos c2']
        by_cases c3 : zSym (s.extract a e) ((x : Int) + 1) < 0
        · rw [if_pos c3] at h3; cases h3
        · rw [if_neg c3] at h3
          obtain ⟨m, hw, hm⟩ := zSym_some (by omega) (by omega : 0 ≤ zSym (s.extract a e) ((x : Int) + 1))
          obtain ⟨wu, hle⟩ := wordy_up he h10 (by omega) hw
          obtain ⟨r1, r2, r3⟩ := rWord_of wu
          have ex : ((a + x : Nat) : Int) + 1 = (a : Int) + ((x : Int) + 1) := by omega
          rw [ex, if_neg (by rw [r1]; simp), r2]
          have en : (a : Int) + ((x : Int) + 1) + m = ((a + (x + 1 + m) : Nat) : Int) := by omega
          rw [en]
          rw [hm, show (x : Int) + 1 + m = ((x + 1 + m : Nat) : Int) by omega] at h3
          exact ih f (x + 1 + m) _ _ _ (by omega) (by omega) h3
      · rw [if_neg c2] at h3; cases h3
    · have hx : a + x = e := by omega
      rw [hx, h10, if_neg (by omega), if_neg (by omega)]
theorem symRel_of {p q : Nat} {ds : List Wd} {ns : List ByteArray} (h : PN s p ds ns q) : SymRel s ds ns := by
  refine PN.ind (q := q) (M := fun p ds ns => SymRel s ds ns) ?_ ?_ ds p ns h
  · exact ⟨rfl, fun k d n h1 => by simp at h1⟩
  · intro p m d ds ns h32 hw hle h ih
    refine ⟨by simp [ih.1], fun k d' n' h1 h2 => ?_⟩
    cases k with
    | zero => simp at h1 h2; subst h1 h2; exact ⟨p + 1, m, hw, hle, rfl⟩
    | succ k => simp at h1 h2; exact ih.2 k d' n' h1 h2
end
/-- a line that is read, as the reference reads it -/
theorem zline_of {s : ByteArray} {i : Nat} (h : (rLine s i).2.2 = true) : ∃ e : Nat, e < s.size ∧ i < e ∧ atB s (e : Nat) = 10 ∧ (rLine s i).2.1 = ((e + 1 : Nat) : Int) ∧ Clean s i e ∧ ∃ z, zLine (s.extract i e) = some z ∧ ZRel s i (rLine s i).1 z := by
  obtain ⟨e, he, hie, h10, hnx, hL⟩ := rLine_at s i h
  have hcl := hL.clean
  refine ⟨e, he, hie, h10, hnx, hcl, ?_⟩
  have hsz := part_size (s := s) (a := i) (e := e) (by omega)
  unfold rLine at h ⊢
  cases hw : (rWord s i).2.2
  · rw [if_pos hw] at h; cases h
  · rw [if_neg (by simp [hw])] at h ⊢
    obtain ⟨m, hwd, hn⟩ := rWord_at s i hw
    have hin := hwd.in'
    have hpos := hwd.pos
    have hhd := hwd.head
    have hpl := hwd.place
    unfold rLine at hnx
    rw [if_neg (by simp [hw])] at hnx
    generalize (rWord s i).1 = d at *
    rw [hn] at h hnx ⊢
    cases hh : headB d
    · rw [hh] at h hnx
      simp only [Bool.false_eq_true, if_false] at h hnx ⊢
      unfold rRule at h hnx ⊢
      by_cases c1 : atB s ((i : Int) + m) ≠ 61 ∧ atB s ((i : Int) + m) ≠ 126
      · rw [if_pos c1] at h; cases h
      · rw [if_neg c1] at h hnx ⊢
        cases c2 : (rRead s ((i : Int) + m + 1)).ok
        · rw [if_pos c2] at h; cases h
        · rw [if_neg (by simp [c2])] at h hnx ⊢
          by_cases c3 : atB s (rRead s ((i : Int) + m + 1)).next = 10
          · rw [if_neg (by simpa using c3)] at h hnx ⊢
            have hm61 : atB s ((i : Int) + m) = 61 ∨ atB s ((i : Int) + m) = 126 := by
              by_cases q : atB s ((i : Int) + m) = 61
              · exact .inl q
              · by_cases q2 : atB s ((i : Int) + m) = 126
                · exact .inr q2
                · exact absurd ⟨q, q2⟩ c1
            have hne : (rRead s ((i : Int) + m + 1)).next = e := by dsimp only at hnx; omega
            have hsm : isSmallB (atB s i) = true := by
              rcases hwd.first with h1 | h1
              · exact h1
              · rw [← hhd, hh] at h1; cases h1
            obtain ⟨l1, l2⟩ := read_ok c2
            have hime : i + m < e := by
              have := atB_in (s := s) (i := (i : Int) + m) (by rcases hm61 with q | q <;> omega)
              have g := lg_chK s 6 ((i : Int) + m + 1) (by omega) (by omega) l1
              omega
            have hb : atB (s.extract i e) (m : Nat) = atB s ((i : Int) + m) := atB_part (by omega) (by omega) (by omega)
            have hlet : zLet (s.extract i e) 0 = m := zLet_is (by omega) (fun k hk => by
              rw [atB_part (by omega) (by omega) (by omega)]
              by_cases k0 : k = 0
              · subst k0; simpa using hsm
              · have := hwd.rest k (by omega) hk
                rw [show (i : Int) + (0 + (k : Int)) = (i : Int) + k by omega]; exact this) (by
              rw [Int.zero_add, hb]
              rcases hm61 with q | q <;> rw [q] <;> decide)
            have hloc := loc_chK s (s.extract i e) (Nat.le_refl 6) ((i : Int) + m + 1) ((m : Int) + 1) (e - i - (m + 1)) (by omega) (by omega) (by omega)
              (by have := alike_part (s := s) (a := i) (e := e) (by omega) (x := m + 1); intro j hj; have q := this j hj; rw [show (i : Int) + m + 1 = ((i + (m + 1) : Nat) : Int) by omega, show (m : Int) + 1 = ((m + 1 : Nat) : Int) by omega]; exact q)
              (by rw [atB_out (by omega)]; decide) l1 (by omega)
            have hsz2 : ((s.extract i e).size : Int) = e - i := by omega
            have hz : lchK (s.extract i e) 6 ((m : Int) + 1) = ⟨(s.extract i e).size, true, (lchK s 6 ((i : Int) + m + 1)).lang⟩ := by
              rw [lr_eta hloc.ok, hloc.lang, hloc.next]
              congr 1; omega
            have hzp : zpK (s.extract i e) 6 ((m : Int) + 1) = (s.extract i e).size := by
              have q := (zpK_rel (p := s.extract i e) 6 (i := (m : Int) + 1) (by omega) (by omega)).good (by rw [hz])
              rw [hz] at q; exact q
            have hro : zRuleOk (s.extract i e) m = true := by
              unfold zRuleOk
              have hle := hwd.le
              rw [decide_eq_true (by omega), decide_eq_true (by omega), hb]
              rcases hm61 with q | q <;> rw [q] <;> decide
            refine ⟨⟨true, atB (s.extract i e) m == 126, (s.extract i e).extract 0 m, (s.extract i e).extract (m + 1) (s.extract i e).size, [], []⟩, ?_, ?_⟩
            · unfold zLine
              rw [hlet, if_pos (by omega), if_pos ⟨hro, hzp⟩]
            · have ep : (s.extract i e).extract (m + 1) (s.extract i e).size = s.extract (i + m + 1) e := by
                rw [ext_mid s i e _ _ (by omega) (by omega)]; congr 1; omega
              have psz := part_size (s := s) (a := i + m + 1) (e := e) (by omega)
              refine ⟨?_, ?_, hpl, ⟨m, hwd, by omega, ?_⟩, fun _ => ?_, ⟨rfl, fun k d' n' q => by simp at q⟩, rfl, fun _ => rfl, fun q => (by cases q)⟩
              · show true = !headB d
                rw [hh]; rfl
              · show (atB (s.extract i e) m == 126) = (atB s ((i : Int) + m) == 126)
                rw [hb]
              · dsimp only
                rw [ext_mid s i e _ _ (by omega) (by omega), Nat.add_zero]
              · dsimp only
                rw [ep]
                have hloc2 := loc_chK s (s.extract (i + m + 1) e) (Nat.le_refl 6) ((i : Int) + m + 1) 0 (e - (i + m + 1)) (by omega) (by omega) (by omega)
                  (by have := alike_part (s := s) (a := i + m + 1) (e := e) (by omega) (x := 0); intro j hj; have q := this j hj; rw [show (i : Int) + m + 1 = ((i + m + 1 + 0 : Nat) : Int) by omega, show (0 : Int) = ((0 : Nat) : Int) by omega]; exact q)
                  (by rw [atB_out (by omega)]; decide) l1 (by omega)
                refine ⟨(lchK s 6 ((i : Int) + m + 1)).lang, ?_, by omega, fun t => match_lang c2 d _ t⟩
                rw [lr_eta hloc2.ok, hloc2.lang, hloc2.next]
                congr 1; omega
          · rw [if_pos c3] at h; cases h
    · rw [hh] at h hnx
      simp only [if_true] at h hnx ⊢
      unfold rProd at h hnx ⊢
      by_cases c1 : atB s ((i : Int) + m) = 58
      · rw [if_neg (by simpa using c1)] at h hnx ⊢
        have e1 : (i : Int) + m + 1 = ((i + m + 1 : Nat) : Int) := by omega
        rw [e1] at h hnx ⊢
        obtain ⟨ds, ns, q, h1, h2, h3⟩ := rProdL_at s d _ _ _ h
        rw [h3] at hnx ⊢
        have hqe : q = e := by dsimp only at hnx; omega
        subst hqe
        have hle := h1.le
        have hcap : isCapB (atB s i) = true := by rw [← hhd]; exact hh
        have wd := hwd.wordy (by rw [c1]; decide)
        have wu := wordy_down (a := i) he h10 (x := 0) (by omega) (by rw [Int.add_zero]; exact wd) (by omega)
        have zs := zSym_of (by omega) wu
        rw [Int.zero_add] at zs
        have hb : atB (s.extract i q) (m : Nat) = 58 := by rw [atB_part (by omega) (by omega) (by omega)]; exact c1
        have hlet : zLet (s.extract i q) 0 = 0 := zLet_is (by omega) (fun k hk => by omega) (by
          rw [atB_part (by omega) (by omega) (by omega)]
          simp only [Int.natCast_zero, Int.add_zero]
          exact small_cap hcap)
        have hzp := zProdL_of (a := i) he h10 h1 (by omega) ((s.extract i q).size + 5) [] [] (by omega)
        rw [show ((i + m + 1 - i : Nat) : Int) = (m : Int) + 1 by omega] at hzp
        refine ⟨⟨false, false, (s.extract i q).extract 0 m, ⟨#[]⟩, ns, ds.map (fun d : Wd => d.place - (i : Int))⟩, ?_, ?_⟩
        · unfold zLine
          rw [hlet, if_neg (by omega), zs, if_pos ⟨by omega, hb⟩, hzp]
          rfl
        · refine ⟨?_, rfl, hpl, ⟨m, hwd, by omega, ?_⟩, fun q => (by cases q), ?_, ?_, fun q => (by cases q), fun _ => rfl⟩
          · show false = !headB d
            rw [hh]; rfl
          · dsimp only
            rw [ext_mid s i q _ _ (by omega) (by omega), Nat.add_zero]
          · show SymRel s ([] ++ ds) ns
            rw [List.nil_append]; exact symRel_of h1
          · rfl
      · rw [if_pos (by simpa using c1)] at h; cases h
/-- a line that the reference reads is read -/
theorem rline_of {s : ByteArray} {i e : Nat} (he : e < s.size) (hie : i ≤ e) (h10 : atB s (e : Nat) = 10) (h : (zLine (s.extract i e)).isSome = true) : (rLine s i).2.2 = true := by
  have hsz := part_size (s := s) (a := i) (e := e) (by omega)
  unfold zLine at h
  by_cases c0 : 0 < zLet (s.extract i e) 0
  · rw [if_pos c0] at h
    obtain ⟨q1, q2⟩ := zLet_spec (s.extract i e) (x := 0) (by omega)
    generalize zLet (s.extract i e) 0 = n at *
    by_cases c1 : zRuleOk (s.extract i e) n = true ∧ zpK (s.extract i e) 6 ((n : Nat) + 1) = (s.extract i e).size
    · obtain ⟨c1, c2⟩ := c1
      unfold zRuleOk at c1
      rw [Bool.and_eq_true, Bool.and_eq_true, decide_eq_true_eq, decide_eq_true_eq, Bool.or_eq_true] at c1
      obtain ⟨⟨h8, hns⟩, hch⟩ := c1
      have hb : atB (s.extract i e) (n : Nat) = atB s ((i : Int) + n) := atB_part (by omega) (by omega) (by omega)
      have hm61 : atB s ((i : Int) + n) = 61 ∨ atB s ((i : Int) + n) = 126 := by
        rw [hb] at hch
        rcases hch with q | q
        · left; simpa using q
        · right; simpa using q
      have hsml : ∀ k : Nat, k < n → isSmallB (atB s ((i : Int) + k)) = true := fun k hk => by
        have := q1 k hk
        rw [atB_part (by omega) (by omega) (by omega)] at this
        rw [show (i : Int) + (0 + (k : Int)) = (i : Int) + k by omega] at this; exact this
      have wd : Wordy s i n := ⟨by omega, h8, .inl (by have := hsml 0 (by omega); simpa using this), fun k k1 k2 => hsml k k2, by rcases hm61 with q | q <;> rw [q] <;> decide⟩
      obtain ⟨r1, r2, r3⟩ := rWord_of wd
      have hh : headB (rWord s i).1 = false := by
        rw [r3.head]
        have := hsml 0 (by omega)
        simp only [Int.natCast_zero, Int.add_zero] at this
        cases z : isCapB (atB s i)
        · rfl
        · rw [small_cap z] at this; cases this
      have hok : (lchK (s.extract i e) 6 ((n : Int) + 1)).ok = true ∧ (lchK (s.extract i e) 6 ((n : Int) + 1)).next = (s.extract i e).size := by
        have rel := zpK_rel (p := s.extract i e) 6 (i := (n : Int) + 1) (by omega) (by omega)
        cases z : (lchK (s.extract i e) 6 ((n : Int) + 1)).ok
        · rcases rel.bad z with b | ⟨_, b, _⟩
          · rw [c2] at b; omega
          · rw [c2] at b; omega
        · exact ⟨rfl, by rw [← rel.good z]; exact c2⟩
      have hloc := loc_chK (s.extract i e) s (Nat.le_refl 6) ((n : Int) + 1) ((i : Int) + n + 1) (e - i - (n + 1)) (by omega) (by omega) (by omega)
        (by have := alike_part' (s := s) (a := i) (e := e) (by omega) (x := n + 1); intro j hj; have q := this j hj; rw [show (i : Int) + n + 1 = ((i + (n + 1) : Nat) : Int) by omega, show (n : Int) + 1 = ((n + 1 : Nat) : Int) by omega]; exact q)
        (by rw [show (i : Int) + n + 1 + ((e - i - (n + 1) : Nat) : Int) = (e : Nat) by omega, h10]; decide) hok.1 (by omega)
      have lk := lk_chK s 6 ((i : Int) + n + 1) []
      have c2' : (rRead s ((i : Int) + n + 1)).ok = true := by unfold rRead; rw [lk.ok]; exact hloc.ok
      have c3' : (rRead s ((i : Int) + n + 1)).next = (e : Nat) := by
        unfold rRead; rw [lk.next, hloc.next, hok.2]; omega
      unfold rLine
      rw [if_neg (by rw [r1]; simp), hh, if_neg (by simp), r2]
      unfold rRule
      rw [if_neg (by rcases hm61 with q | q <;> omega), if_neg (by rw [c2']; simp), c3', h10, if_neg (by simp)]
    · rw [if_neg c1] at h; cases h
  · rw [if_neg c0] at h
    obtain ⟨q1, q2⟩ := zLet_spec (s.extract i e) (x := 0) (by omega)
    have z0 : zLet (s.extract i e) 0 = 0 := by omega
    rw [z0] at q2
    by_cases c1 : 0 ≤ zSym (s.extract i e) 0 ∧ atB (s.extract i e) (zSym (s.extract i e) 0) = 58
    · rw [if_pos c1] at h
      obtain ⟨m, hw, hm⟩ := zSym_some (by omega) c1.1
      obtain ⟨wu, hle⟩ := wordy_up he h10 (by omega) hw
      rw [Int.add_zero] at wu hle
      obtain ⟨r1, r2, r3⟩ := rWord_of wu
      rw [Int.zero_add] at hm
      rw [hm] at c1 h
      have hlt := atB_in (s := s.extract i e) (i := (m : Int)) (by omega)
      have hb : atB s ((i : Int) + m) = 58 := by
        rw [← atB_part (s := s) (a := i) (e := e) (by omega) (by omega) (by omega)]; exact c1.2
      have hh : headB (rWord s i).1 = true := by
        rw [r3.head]
        have hf := hw.first
        simp only [Int.natCast_zero, Int.add_zero] at q2
        rw [q2] at hf
        rw [atB_part (by omega) (by omega) (by omega), Int.add_zero] at hf
        rcases hf with z | z
        · cases z
        · exact z
      unfold rLine
      rw [if_neg (by rw [r1]; simp), hh, if_pos rfl, r2]
      unfold rProd
      rw [hb, if_neg (by simp)]
      have key := rProdL_of (a := i) he h10 (rWord s i).1 ((s.extract i e).size + 5) (s.size + 5) (m + 1) [] [] [] (by omega) (by omega) (by
        rw [show ((m + 1 : Nat) : Int) = (m : Int) + 1 by omega]
        simpa using h)
      rw [show (i : Int) + m + 1 = ((i + (m + 1) : Nat) : Int) by omega]
      exact key
    · rw [if_neg c1] at h; cases h
end Go.Proofs.YtcpgklcimacngaaGreat
