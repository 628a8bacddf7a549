import Derived.Test.YtjcknghdgfcboaaRl5
import Derived.Test.YtjcknghdgfcboaaRi5
namespace Go.Proofs.Ytjcknghdgfcboaa
open Go.RowKit
set_option linter.unusedVariables false
set_option linter.unusedSimpArgs false

section
variable {s T : ByteArray} {i i' : Int} {n : Nat}
theorem rWord_first {s : ByteArray} {i : Int} : (rWord s i).2.2 = true ↔ isSmallB (atB s i) = true ∨ isCapB (atB s i) = true := by
  unfold rWord
  by_cases c : (!isSmallB (atB s i) && !isCapB (atB s i)) = true
  · rw [if_pos c]
    rw [Bool.and_eq_true, Bool.not_eq_true', Bool.not_eq_true'] at c
    rw [c.1, c.2]; simp
  · rw [if_neg c]
    refine ⟨fun _ => ?_, fun _ => rfl⟩
    cases h1 : isSmallB (atB s i)
    · cases h2 : isCapB (atB s i)
      · rw [h1, h2] at c; simp at c
      · exact .inr rfl
    · exact .inl rfl
theorem rWord_bad {s : ByteArray} {i : Int} (h : (rWord s i).2.2 = false) : (rWord s i).2.1 = i := by
  unfold rWord at h ⊢
  split
  · rfl
  · rename_i e; rw [if_neg e] at h; cases h
theorem rWord_detb (h : Alike s i T i' n) (hn : 0 < n) : (rWord T i').2.2 = (rWord s i).2.2 := by
  have a := h.at0 hn
  have e : (rWord T i').2.2 = true ↔ (rWord s i).2.2 = true := by rw [rWord_first, rWord_first, a]
  cases h1 : (rWord T i').2.2 <;> cases h2 : (rWord s i).2.2
  · rfl
  · rw [h1, h2] at e; simp at e
  · rw [h1, h2] at e; simp at e
  · rfl
theorem rWord_det (h : Alike s i T i' n) (hok : (rWord s i).2.2 = true) (hn : (rWord s i).2.1 < i + n) : (rWord T i').2.2 = true ∧ (rWord T i').2.1 = (rWord s i).2.1 - i + i' ∧ headB (rWord T i').1 = headB (rWord s i).1 := by
  obtain ⟨m, hw, hm⟩ := rWord_at s i hok
  have p1 := hw.pos
  have p2 := hw.le
  have hok' : (rWord T i').2.2 = true := by rw [rWord_detb h (by omega)]; exact hok
  obtain ⟨m', hw', hm'⟩ := rWord_at T i' hok'
  have p3 := hw'.pos
  have p4 := hw'.le
  have hat : ∀ k : Nat, k ≤ m → atB T (i' + k) = atB s (i + k) := fun k hk => by
    have := h.atK (x := i + k) (by omega) (by omega)
    rw [show i + (k : Int) - i + i' = i' + k by omega] at this; exact this
  have e : m' = m := by
    rcases Nat.lt_trichotomy m' m with q | q | q
    · rcases rWord_stop hok' with z | z
      · omega
      · rw [hm', hat m' (by omega), hw.rest m' (by omega) q] at z; cases z
    · exact q
    · rcases rWord_stop hok with z | z
      · omega
      · rw [hm, ← hat m (by omega), hw'.rest m (by omega) q] at z; cases z
  refine ⟨hok', by omega, ?_⟩
  rw [hw'.head, hw.head, h.at0 (by omega)]
theorem rProdL_s (s : ByteArray) (d : Wd) (f : Nat) (next : Int) (syms : List Wd) : rProdL s d (f + 1) next syms = if atB s next = 32 then
      if (rWord s (next + 1)).2.2 = false then (zeroLn, (rWord s (next + 1)).2.1, false)
      else rProdL s d f (rWord s (next + 1)).2.1 (syms ++ [(rWord s (next + 1)).1])
    else if atB s next ≠ 10 then (zeroLn, next, false)
    else (⟨d, false, [], 0, 0, syms⟩, next + 1, true) := rfl
theorem rWord_cl {s : ByteArray} {i : Int} : Clean s i (rWord s i).2.1 ∧ i ≤ (rWord s i).2.1 := by
  cases h : (rWord s i).2.2
  · rw [rWord_bad h]; exact ⟨Clean.nil, Int.le_refl _⟩
  · obtain ⟨m, hw, hm⟩ := rWord_at s i h
    rw [hm]; exact ⟨hw.clean, by omega⟩
/-- where a row of words fails -/
theorem prodL_cl {s : ByteArray} (d : Wd) : ∀ (f : Nat) (x : Int) (S : List Wd), (rProdL s d f x S).2.2 = false → Clean s x (rProdL s d f x S).2.1 ∧ x ≤ (rProdL s d f x S).2.1
  | 0, x, S, h => ⟨Clean.nil, Int.le_refl _⟩
  | f + 1, x, S, h => by
    rw [rProdL_s] at h ⊢
    by_cases c : atB s x = 32
    · rw [if_pos c] at h ⊢
      have w := rWord_cl (s := s) (i := x + 1)
      have c1 := (Clean.one (s := s) (i := x) (by omega)).trans w.1
      by_cases c2 : (rWord s (x + 1)).2.2 = false
      · rw [if_pos c2] at h ⊢
        exact ⟨c1, by dsimp only; omega⟩
      · rw [if_neg c2] at h ⊢
        have := prodL_cl d f _ _ h
        exact ⟨c1.trans this.1, by omega⟩
    · rw [if_neg c] at h ⊢
      by_cases c2 : atB s x ≠ 10
      · rw [if_pos c2] at h ⊢
        exact ⟨Clean.nil, Int.le_refl _⟩
      · rw [if_neg c2] at h; cases h
theorem read_next (s : ByteArray) (i : Int) : (rRead s i).next = (lchK s 6 i).next ∧ (rRead s i).ok = (lchK s 6 i).ok := ⟨(lk_chK s 6 i []).next, (lk_chK s 6 i []).ok⟩
/-- where a line fails -/
theorem line_cl {s : ByteArray} {i : Int} (h0 : 0 ≤ i) (h : (rLine s i).2.2 = false) : Clean s i (rLine s i).2.1 ∧ i ≤ (rLine s i).2.1 := by
  have w := rWord_cl (s := s) (i := i)
  unfold rLine at h ⊢
  by_cases c : (rWord s i).2.2 = false
  · rw [if_pos c]; exact w
  · rw [if_neg c] at h ⊢
    have hb := (rWord_bd s i h0).2.2 (by simpa using c)
    by_cases c1 : headB (rWord s i).1 = true
    · rw [if_pos c1] at h ⊢
      unfold rProd at h ⊢
      by_cases c2 : atB s (rWord s i).2.1 ≠ 58
      · rw [if_pos c2]; exact w
      · rw [if_neg c2] at h ⊢
        have c2' : atB s (rWord s i).2.1 = 58 := by
          by_cases q : atB s (rWord s i).2.1 = 58
          · exact q
          · exact absurd q c2
        have := prodL_cl _ _ _ _ h
        exact ⟨(w.1.trans (Clean.one (by omega))).trans this.1, by omega⟩
    · rw [if_neg c1] at h ⊢
      unfold rRule at h ⊢
      by_cases c2 : atB s (rWord s i).2.1 ≠ 61 ∧ atB s (rWord s i).2.1 ≠ 126
      · rw [if_pos c2]; exact w
      · rw [if_neg c2] at h ⊢
        have c2' : atB s (rWord s i).2.1 = 61 ∨ atB s (rWord s i).2.1 = 126 := by
          by_cases q : atB s (rWord s i).2.1 = 61
          · exact .inl q
          · by_cases q2 : atB s (rWord s i).2.1 = 126
            · exact .inr q2
            · exact absurd ⟨q, q2⟩ c2
        have hlt := atB_lt (s := s) (i := (rWord s i).2.1) (by rcases c2' with q | q <;> omega)
        have cc := cln_chK s 6 ((rWord s i).2.1 + 1)
        have lo := lo_chK s 6 ((rWord s i).2.1 + 1) (by omega) (by omega)
        have rn := (read_next s ((rWord s i).2.1 + 1)).1
        rw [← rn] at cc lo
        have k1 := (w.1.trans (Clean.one (by rcases c2' with q | q <;> omega))).trans cc
        by_cases c3 : (rRead s ((rWord s i).2.1 + 1)).ok = false
        · rw [if_pos c3]; exact ⟨k1, by dsimp only; omega⟩
        · rw [if_neg c3] at h ⊢
          by_cases c4 : atB s (rRead s ((rWord s i).2.1 + 1)).next ≠ 10
          · rw [if_pos c4]; exact ⟨k1, by dsimp only; omega⟩
          · rw [if_neg c4] at h; cases h
theorem prodL_det (d d' : Wd) (h0 : 0 ≤ i) : ∀ (f : Nat) (x : Int) (S : List Wd), i ≤ x → (s.size : Int) + 2 ≤ f + x → (rProdL s d f x S).2.2 = false → Alike s i T i' n → (rProdL s d f x S).2.1 < i + n → i + n ≤ s.size → ∀ (f' : Nat) (S' : List Wd), (rProdL T d' f' (x - i + i') S').2.2 = false
  | 0, x, S, hi, hf, h, ha, hn, hin, f', S' => by have : x < i + n := hn; omega
  | f + 1, x, S, hi, hf, h, ha, hn, hin, f', S' => by
    cases f' with
    | zero => rfl
    | succ f' =>
      have hlo := (prodL_cl d (f + 1) x S h).2
      have a1 := ha.atK (x := x) hi (by omega)
      rw [rProdL_s] at h hn hlo ⊢
      rw [a1]
      by_cases c : atB s x = 32
      · rw [if_pos c] at h hn hlo ⊢
        have hlt := atB_lt (s := s) (i := x) (by omega)
        have w := rWord_cl (s := s) (i := x + 1)
        have hx2 := alike_on ha (x := x + 1) (by omega)
        rw [show x + 1 - i + i' = x - i + i' + 1 by omega] at hx2
        by_cases c2 : (rWord s (x + 1)).2.2 = false
        · rw [if_pos c2] at hn
          have hb := rWord_detb hx2 (by dsimp only at hn; omega)
          rw [if_pos (by rw [hb]; exact c2)]
        · rw [if_neg c2] at h hn hlo
          have lo2 := (prodL_cl d f _ _ h).2
          have dd := rWord_det hx2 (by simpa using c2) (by omega)
          rw [if_neg (by rw [dd.1]; simp), dd.2.1, show (rWord s (x + 1)).2.1 - (x + 1) + (x - i + i' + 1) = (rWord s (x + 1)).2.1 - i + i' by omega]
          exact prodL_det d d' h0 f _ _ (by omega) (by omega) h ha hn hin f' _
      · rw [if_neg c] at h ⊢
        by_cases c2 : atB s x ≠ 10
        · rw [if_pos c2]
        · rw [if_neg c2] at h; cases h
/-- a line that fails fails in every text that is alike up to there -/
theorem line_det (h0 : 0 ≤ i) (h0' : 0 ≤ i') (h : (rLine s i).2.2 = false) (ha : Alike s i T i' n) (hn : (rLine s i).2.1 < i + n) (hin : i + n ≤ s.size) : (rLine T i').2.2 = false := by
  have lo := (line_cl h0 h).2
  unfold rLine at h hn lo ⊢
  by_cases c : (rWord s i).2.2 = false
  · rw [if_pos c] at hn lo
    rw [if_pos (by rw [rWord_detb ha (by omega)]; exact c)]
  · rw [if_neg c] at h hn lo
    have hok : (rWord s i).2.2 = true := by simpa using c
    have hb := (rWord_bd s i h0).2.2 hok
    have hlt : (rWord s i).2.1 < i + n := by
      by_cases c1 : headB (rWord s i).1 = true
      · rw [if_pos c1] at h hn
        unfold rProd at h hn
        by_cases c2 : atB s (rWord s i).2.1 ≠ 58
        · rw [if_pos c2] at hn; exact hn
        · rw [if_neg c2] at h hn
          have := (prodL_cl _ _ _ _ h).2; omega
      · rw [if_neg c1] at h hn
        unfold rRule at h hn
        by_cases c2 : atB s (rWord s i).2.1 ≠ 61 ∧ atB s (rWord s i).2.1 ≠ 126
        · rw [if_pos c2] at hn; exact hn
        · rw [if_neg c2] at h hn
          have hlt := atB_lt (s := s) (i := (rWord s i).2.1) (fun z => c2 (by rw [z]; decide))
          have lo := lo_chK s 6 ((rWord s i).2.1 + 1) (by omega) (by omega)
          rw [← (read_next s ((rWord s i).2.1 + 1)).1] at lo
          by_cases c3 : (rRead s ((rWord s i).2.1 + 1)).ok = false
          · rw [if_pos c3] at hn; dsimp only at hn; omega
          · rw [if_neg c3] at h hn
            by_cases c4 : atB s (rRead s ((rWord s i).2.1 + 1)).next ≠ 10
            · rw [if_pos c4] at hn; dsimp only at hn; omega
            · rw [if_neg c4] at h; cases h
    obtain ⟨d1, d2, d3⟩ := rWord_det ha hok hlt
    have a1 := ha.atK (x := (rWord s i).2.1) (by omega) hlt
    rw [if_neg (by rw [d1]; simp), d3, d2]
    by_cases c1 : headB (rWord s i).1 = true
    · rw [if_pos c1] at h hn ⊢
      unfold rProd at h hn ⊢
      rw [a1]
      by_cases c2 : atB s (rWord s i).2.1 ≠ 58
      · rw [if_pos c2]
      · rw [if_neg c2] at h hn ⊢
        rw [show (rWord s i).2.1 - i + i' + 1 = (rWord s i).2.1 + 1 - i + i' by omega]
        exact prodL_det _ _ h0 (s.size + 5) _ _ (by omega) (by omega) h ha hn hin _ _
    · rw [if_neg c1] at h hn ⊢
      unfold rRule at h hn ⊢
      rw [a1]
      by_cases c2 : atB s (rWord s i).2.1 ≠ 61 ∧ atB s (rWord s i).2.1 ≠ 126
      · rw [if_pos c2]
      · rw [if_neg c2] at h hn ⊢
        have hlt2 := atB_lt (s := s) (i := (rWord s i).2.1) (fun z => c2 (by rw [z]; decide))
        have lo := lo_chK s 6 ((rWord s i).2.1 + 1) (by omega) (by omega)
        obtain ⟨r1, r2⟩ := read_next s ((rWord s i).2.1 + 1)
        have hx2 := alike_on ha (x := (rWord s i).2.1 + 1) (by omega)
        have hp : (lchK s 6 ((rWord s i).2.1 + 1)).next < i + n := by
          rw [← r1]
          by_cases c3 : (rRead s ((rWord s i).2.1 + 1)).ok = false
          · rw [if_pos c3] at hn; exact hn
          · rw [if_neg c3] at h hn
            by_cases c4 : atB s (rRead s ((rWord s i).2.1 + 1)).next ≠ 10
            · rw [if_pos c4] at hn; exact hn
            · rw [if_neg c4] at h; cases h
        have dd := det_chK s T 6 ((rWord s i).2.1 + 1) ((rWord s i).2.1 + 1 - i + i') _ (by omega) (by omega) (by omega) (by omega) hx2 (by omega)
        rw [show (rWord s i).2.1 - i + i' + 1 = (rWord s i).2.1 + 1 - i + i' by omega]
        obtain ⟨t1, t2⟩ := read_next T ((rWord s i).2.1 + 1 - i + i')
        have e1 : (rRead T ((rWord s i).2.1 + 1 - i + i')).ok = (rRead s ((rWord s i).2.1 + 1)).ok := by rw [t2, r2]; exact dd.1
        have e2 : (rRead T ((rWord s i).2.1 + 1 - i + i')).next = (rRead s ((rWord s i).2.1 + 1)).next - i + i' := by rw [t1, r1, dd.2]; omega
        have a2 := ha.atK (x := (rRead s ((rWord s i).2.1 + 1)).next) (by omega) (by omega)
        rw [e1, e2, a2]
        by_cases c3 : (rRead s ((rWord s i).2.1 + 1)).ok = false
        · rw [if_pos c3]
        · rw [if_neg c3] at h ⊢
          by_cases c4 : atB s (rRead s ((rWord s i).2.1 + 1)).next ≠ 10
          · rw [if_pos c4]
          · rw [if_neg c4] at h; cases h
end
end Go.Proofs.Ytjcknghdgfcboaa
namespace Go.Proofs.Ytjcknghdgfcboaa
open Go.RowKit
set_option linter.unusedVariables false
set_option linter.unusedSimpArgs false

/-- v stands here, then closing bytes, then the line ends -/
structure SufL (T : ByteArray) (x : Int) (v : ByteArray) (c : Nat) : Prop where
  has : Has T x v
  close : ∀ j : Nat, j < c → atB T (x + v.size + j) = 41
  stop : atB T (x + v.size + c) = 10
theorem SufL.suf {T : ByteArray} {x : Int} {v : ByteArray} {c : Nat} (h : SufL T x v c) : Suf T x v c := ⟨h.has, h.close, by rw [h.stop]; decide⟩
def vEq : ByteArray := ⟨#[61, 97]⟩
def vCol : ByteArray := ⟨#[58]⟩
theorem v6_ways {v : ByteArray} (h : v ∈ V6) : v ∈ ways := by
  simp only [V6, vNone, vA, vBr, vABr, vTBr, vT, List.mem_cons, List.not_mem_nil, or_false] at h
  simp only [ways, List.mem_cons, List.not_mem_nil, or_false]
  rcases h with h | h | h | h | h | h <;> subst h <;> simp
theorem has_eq {T : ByteArray} {x : Int} (h : Has T x vEq) : atB T x = 61 ∧ atB T (x + 1) = 97 := ⟨by have := h 0 (by decide); simp only [Int.natCast_zero, Int.add_zero] at this; rw [this]; decide, h 1 (by decide)⟩
theorem has_col {T : ByteArray} {x : Int} (h : Has T x vCol) : atB T x = 58 := by have := h 0 (by decide); simp only [Int.natCast_zero, Int.add_zero] at this; rw [this]; decide
theorem chK_a {T : ByteArray} {x : Int} (k : Nat) (h1 : atB T x = 97) (h2 : stopC (atB T (x + 1)) = true) : (lchK T k x).ok = true ∧ (lchK T k x).next = x + 1 := by
  have hr := rSet_plain (s := T) (i := x) (by rw [h1]; decide)
  have ea : ∃ L, lAtom (lgK T k) T x = ⟨x + 1, true, L⟩ := by
    unfold lAtom
    rw [if_neg (by rw [h1]; decide), hr, if_neg (by simp)]
    exact ⟨_, rfl⟩
  obtain ⟨L, ea⟩ := ea
  unfold lchK lChoice lBranch lPiece
  rw [ea, piece_halt _ ⟨x + 1, true, L⟩ (stopC_mark h2), branch_halt _ ⟨x + 1, true, L⟩ (stopC_beg h2), choice_halt _ ⟨x + 1, true, L⟩ (stopC_bar h2)]
  exact ⟨rfl, rfl⟩
/-- a row of words that is broken off can be ended -/
theorem prodL_comp {s : ByteArray} {i m : Int} (h0 : 0 ≤ i) (hms : m ≤ s.size) (d : Wd) : ∀ (f : Nat) (x : Int) (S : List Wd), i ≤ x → x ≤ m → (rProdL s d f x S).2.2 = false → m ≤ (rProdL s d f x S).2.1 →
    ∃ v, (v = vNone ∨ v = vA) ∧ ∀ (T : ByteArray) (i' : Int), 0 ≤ i' → Alike s i T i' (m - i).toNat → Has T (i' + (m - i)) v → atB T (i' + (m - i) + v.size) = 10 → ∀ (d' : Wd) (f' : Nat) (S' : List Wd), (T.size : Int) + 2 ≤ f' + (x - i + i') →
      (rProdL T d' f' (x - i + i') S').2.2 = true ∧ (rProdL T d' f' (x - i + i') S').2.1 = i' + (m - i) + v.size + 1 := by
  have base : ∀ x : Int, x = m → ∃ v, (v = vNone ∨ v = vA) ∧ ∀ (T : ByteArray) (i' : Int), 0 ≤ i' → Alike s i T i' (m - i).toNat → Has T (i' + (m - i)) v → atB T (i' + (m - i) + v.size) = 10 → ∀ (d' : Wd) (f' : Nat) (S' : List Wd), (T.size : Int) + 2 ≤ f' + (x - i + i') →
      (rProdL T d' f' (x - i + i') S').2.2 = true ∧ (rProdL T d' f' (x - i + i') S').2.1 = i' + (m - i) + v.size + 1 := by
    intro x hx
    refine ⟨vNone, .inl rfl, fun T i' h0' ha hv h10 d' f' S' hf' => ?_⟩
    have hz := vNone_size
    have hlt := atB_lt (s := T) (i := i' + (m - i) + vNone.size) (by omega)
    obtain ⟨f', rfl⟩ : ∃ y, f' = y + 1 := ⟨f' - 1, by omega⟩
    rw [rProdL_s, show x - i + i' = i' + (m - i) + (vNone.size : Int) by omega, h10, if_neg (by decide), if_neg (by simp)]
    exact ⟨rfl, rfl⟩
  intro f
  induction f with
  | zero =>
    intro x S hi hx h hm
    have hm' : m ≤ x := hm
    exact base x (by omega)
  | succ f ih =>
    intro x S hi hx h hm
    by_cases e : x = m
    · exact base x e
    · rw [rProdL_s] at h hm
      by_cases c : atB s x = 32
      · rw [if_pos c] at h hm
        by_cases e1 : m = x + 1
        · refine ⟨vA, .inr rfl, fun T i' h0' ha hv h10 d' f' S' hf' => ?_⟩
          have hz : (vA.size : Int) = 1 := by decide
          have a1 := ha.atK (x := x) hi (by omega)
          have b1 := has_a hv
          have l1 := atB_lt (s := T) (i := i' + (m - i) + vA.size) (by omega)
          obtain ⟨f', rfl⟩ : ∃ y, f' = y + 1 + 1 := ⟨f' - 2, by omega⟩
          have wd : Wordy T (x - i + i' + 1) 1 := ⟨by omega, by omega, .inl (by rw [show x - i + i' + 1 = i' + (m - i) by omega, b1]; decide), fun k k1 k2 => by omega, by rw [show x - i + i' + 1 + ((1 : Nat) : Int) = i' + (m - i) + vA.size by omega, h10]; decide⟩
          obtain ⟨r1, r2, r3⟩ := rWord_of wd
          rw [rProdL_s, a1, if_pos c, if_neg (by rw [r1]; simp), r2, show x - i + i' + 1 + ((1 : Nat) : Int) = i' + (m - i) + vA.size by omega, rProdL_s, h10, if_neg (by decide), if_neg (by simp)]
          exact ⟨rfl, rfl⟩
        · by_cases c2 : (rWord s (x + 1)).2.2 = false
          · rw [if_pos c2, rWord_bad c2] at hm; omega
          · rw [if_neg c2] at h hm
            have hok : (rWord s (x + 1)).2.2 = true := by simpa using c2
            by_cases q : m ≤ (rWord s (x + 1)).2.1
            · obtain ⟨m1, hw, hm1⟩ := rWord_at s (x + 1) hok
              have p1 := hw.pos
              have p2 := hw.le
              refine ⟨vNone, .inl rfl, fun T i' h0' ha hv h10 d' f' S' hf' => ?_⟩
              have hz := vNone_size
              have a1 := ha.atK (x := x) hi (by omega)
              have l1 := atB_lt (s := T) (i := i' + (m - i) + vNone.size) (by omega)
              obtain ⟨f', rfl⟩ : ∃ y, f' = y + 1 + 1 := ⟨f' - 2, by omega⟩
              obtain ⟨j, hj⟩ : ∃ j : Nat, (j : Int) = m - (x + 1) := ⟨(m - (x + 1)).toNat, by omega⟩
              have hat : ∀ k : Nat, k < j → atB T (x - i + i' + 1 + k) = atB s (x + 1 + k) := fun k hk => by
                have := ha.atK (x := x + 1 + k) (by omega) (by omega)
                rw [show x + 1 + (k : Int) - i + i' = x - i + i' + 1 + k by omega] at this; exact this
              have wd : Wordy T (x - i + i' + 1) j := ⟨by omega, by omega, by have := hat 0 (by omega); simp only [Int.natCast_zero, Int.add_zero] at this; rw [this]; exact hw.first, fun k k1 k2 => by rw [hat k k2]; exact hw.rest k k1 (by omega), by rw [show x - i + i' + 1 + (j : Int) = i' + (m - i) + vNone.size by omega, h10]; decide⟩
              obtain ⟨r1, r2, r3⟩ := rWord_of wd
              rw [rProdL_s, a1, if_pos c, if_neg (by rw [r1]; simp), r2, show x - i + i' + 1 + (j : Int) = i' + (m - i) + vNone.size by omega, rProdL_s, h10, if_neg (by decide), if_neg (by simp)]
              exact ⟨rfl, rfl⟩
            · have wl := rWord_cl (s := s) (i := x + 1)
              have hb := (rWord_bd s (x + 1) (by omega)).2.2 hok
              obtain ⟨v, hv6, hT⟩ := ih _ _ (by omega) (by omega) h hm
              refine ⟨v, hv6, fun T i' h0' ha hv h10 d' f' S' hf' => ?_⟩
              have hin := in_text ha h0 (by omega) hi (x := x) (by omega)
              have hx2 := alike_on ha (x := x + 1) (by omega)
              rw [show x + 1 - i + i' = x - i + i' + 1 by omega] at hx2
              have dd := rWord_det hx2 hok (by omega)
              obtain ⟨f', rfl⟩ : ∃ y, f' = y + 1 := ⟨f' - 1, by omega⟩
              rw [rProdL_s, hin.1, if_pos c, if_neg (by rw [dd.1]; simp), dd.2.1, show (rWord s (x + 1)).2.1 - (x + 1) + (x - i + i' + 1) = (rWord s (x + 1)).2.1 - i + i' by omega]
              exact hT T i' h0' ha hv h10 d' f' _ (by omega)
      · rw [if_neg c] at h hm
        by_cases c2 : atB s x ≠ 10
        · rw [if_pos c2] at hm; dsimp only at hm; omega
        · rw [if_neg c2] at h; cases h
/-- a line that is broken off before it fails can be ended -/
theorem line_comp {s : ByteArray} {i m : Int} (h0 : 0 ≤ i) (h : (rLine s i).2.2 = false) (him : i < m) (hm : m ≤ (rLine s i).2.1) (hms : m ≤ s.size) :
    ∃ v, v ∈ ways ∧ ∃ c, c ≤ 6 ∧ ∀ (T : ByteArray) (i' : Int), 0 ≤ i' → Alike s i T i' (m - i).toNat → SufL T (i' + (m - i)) v c → (rLine T i').2.2 = true ∧ (rLine T i').2.1 = i' + (m - i) + v.size + c + 1 := by
  unfold rLine at h hm
  by_cases c : (rWord s i).2.2 = false
  · rw [if_pos c, rWord_bad c] at hm; omega
  · rw [if_neg c] at h hm
    have hok : (rWord s i).2.2 = true := by simpa using c
    obtain ⟨m0, hw, hm0⟩ := rWord_at s i hok
    have p1 := hw.pos
    have p2 := hw.le
    have hin := hw.in'
    have hhd := hw.head
    by_cases q : m ≤ i + m0
    · -- in the name
      obtain ⟨j, hj⟩ : ∃ j : Nat, (j : Int) = m - i := ⟨(m - i).toNat, by omega⟩
      have wordy : ∀ (T : ByteArray) (i' : Int), Alike s i T i' (m - i).toNat → isSmallB (atB T (i' + (m - i))) = false → Wordy T i' j ∧ atB T i' = atB s i := fun T i' ha hs => by
        have hat : ∀ k : Nat, k < j → atB T (i' + k) = atB s (i + k) := fun k hk => by
          have := ha.atK (x := i + k) (by omega) (by omega)
          rw [show i + (k : Int) - i + i' = i' + k by omega] at this; exact this
        have a0 := ha.at0 (by omega)
        exact ⟨⟨by omega, by omega, by rw [a0]; exact hw.first, fun k k1 k2 => by rw [hat k k2]; exact hw.rest k k1 (by omega), by rw [hj]; exact hs⟩, a0⟩
      cases hc : isCapB (atB s i)
      · refine ⟨vEq, by simp [ways, vEq], 0, by omega, fun T i' h0' ha hs => ?_⟩
        have hz : (vEq.size : Int) = 2 := by decide
        obtain ⟨b1, b2⟩ := has_eq hs.has
        have b3 := hs.stop
        obtain ⟨wd, a0⟩ := wordy T i' ha (by rw [b1]; decide)
        obtain ⟨r1, r2, r3⟩ := rWord_of wd
        have hh : headB (rWord T i').1 = false := by rw [r3.head, a0]; exact hc
        have ck := chK_a (T := T) (x := i' + (m - i) + 1) 6 b2 (by rw [show i' + (m - i) + 1 + 1 = i' + (m - i) + vEq.size + ((0 : Nat) : Int) by omega, b3]; decide)
        obtain ⟨t1, t2⟩ := read_next T (i' + (m - i) + 1)
        unfold rLine
        rw [if_neg (by rw [r1]; simp), hh, if_neg (by simp), r2, hj]
        unfold rRule
        rw [if_neg (by rw [b1]; omega), if_neg (by rw [t2, ck.1]; simp), t1, ck.2, show i' + (m - i) + 1 + 1 = i' + (m - i) + vEq.size + ((0 : Nat) : Int) by omega, b3, if_neg (by simp)]
        exact ⟨rfl, rfl⟩
      · refine ⟨vCol, by simp [ways, vCol], 0, by omega, fun T i' h0' ha hs => ?_⟩
        have hz : (vCol.size : Int) = 1 := by decide
        have b1 := has_col hs.has
        have b3 := hs.stop
        obtain ⟨wd, a0⟩ := wordy T i' ha (by rw [b1]; decide)
        obtain ⟨r1, r2, r3⟩ := rWord_of wd
        have hh : headB (rWord T i').1 = true := by rw [r3.head, a0]; exact hc
        unfold rLine
        rw [if_neg (by rw [r1]; simp), hh, if_pos rfl, r2, hj]
        unfold rProd
        rw [if_neg (by rw [b1]; simp), show i' + (m - i) + 1 = i' + (m - i) + vCol.size + ((0 : Nat) : Int) by omega]
        show (rProdL T _ (T.size + 4 + 1) _ []).2.2 = true ∧ _
        rw [rProdL_s, b3, if_neg (by decide), if_neg (by simp)]
        exact ⟨rfl, rfl⟩
    · have word : ∀ (T : ByteArray) (i' : Int), Alike s i T i' (m - i).toNat → (rWord T i').2.2 = true ∧ (rWord T i').2.1 = i' + m0 ∧ headB (rWord T i').1 = isCapB (atB s i) ∧ atB T (i' + m0) = atB s (i + m0) := fun T i' ha => by
        have dd := rWord_det ha hok (by omega)
        have a1 := ha.atK (x := i + m0) (by omega) (by omega)
        rw [show i + (m0 : Int) - i + i' = i' + m0 by omega] at a1
        exact ⟨dd.1, by rw [dd.2.1, hm0]; omega, by rw [dd.2.2, hhd], a1⟩
      rw [hm0] at h hm
      cases hc : isCapB (atB s i)
      · rw [hhd, hc, if_neg (by simp)] at h hm
        unfold rRule at h hm
        by_cases c2 : atB s (i + m0) ≠ 61 ∧ atB s (i + m0) ≠ 126
        · rw [if_pos c2] at hm; dsimp only at hm; omega
        · rw [if_neg c2] at h hm
          obtain ⟨r1, r2⟩ := read_next s (i + m0 + 1)
          have hp : m ≤ (lchK s 6 (i + m0 + 1)).next := by
            rw [← r1]
            by_cases c3 : (rRead s (i + m0 + 1)).ok = false
            · rw [if_pos c3] at hm; exact hm
            · rw [if_neg c3] at h hm
              by_cases c4 : atB s (rRead s (i + m0 + 1)).next ≠ 10
              · rw [if_pos c4] at hm; exact hm
              · rw [if_neg c4] at h; cases h
          obtain ⟨v, hv, cc, hcc, hT⟩ := comp_chK s 6 (i + m0 + 1) m (by omega) (by omega) hms hp
          refine ⟨v, v6_ways hv, cc, hcc, fun T i' h0' ha hs => ?_⟩
          obtain ⟨w1, w2, w3, w4⟩ := word T i' ha
          have hx2 := alike_on ha (x := i + m0 + 1) (by omega)
          rw [show (m - i).toNat - (i + m0 + 1 - i).toNat = (m - (i + m0 + 1)).toNat by omega, show i + m0 + 1 - i + i' = i' + m0 + 1 by omega] at hx2
          have ee : i' + m0 + 1 + (m - (i + m0 + 1)) = i' + (m - i) := by omega
          obtain ⟨y1, y2⟩ := hT T (i' + m0 + 1) (by omega) hx2 (by rw [ee]; exact hs.suf)
          rw [ee] at y2
          dsimp only at y1 y2
          obtain ⟨t1, t2⟩ := read_next T (i' + m0 + 1)
          unfold rLine
          rw [if_neg (by rw [w1]; simp), w3, hc, if_neg (by simp), w2]
          unfold rRule
          rw [w4, if_neg c2, if_neg (by rw [t2, y1]; simp), t1, y2, hs.stop, if_neg (by simp)]
          exact ⟨rfl, rfl⟩
      · rw [hhd, hc, if_pos rfl] at h hm
        unfold rProd at h hm
        by_cases c2 : atB s (i + m0) ≠ 58
        · rw [if_pos c2] at hm; dsimp only at hm; omega
        · rw [if_neg c2] at h hm
          obtain ⟨v, hv, hT⟩ := prodL_comp h0 hms _ _ _ _ (by omega) (by omega) h hm
          refine ⟨v, v6_ways (by rcases hv with rfl | rfl <;> simp [V6]), 0, by omega, fun T i' h0' ha hs => ?_⟩
          obtain ⟨w1, w2, w3, w4⟩ := word T i' ha
          have st := hs.stop
          rw [Int.natCast_zero, Int.add_zero] at st
          have y := hT T i' h0' ha hs.has st (rWord T i').1 (T.size + 5) [] (by omega)
          rw [show i + m0 + 1 - i + i' = i' + m0 + 1 by omega] at y
          unfold rLine
          rw [if_neg (by rw [w1]; simp), w3, hc, if_pos rfl, w2]
          unfold rProd
          rw [w4, if_neg c2, Int.natCast_zero, Int.add_zero]
          exact y
end Go.Proofs.Ytjcknghdgfcboaa
