import Derived.Test.YteneagnhihcljaaGreatDoorLx3
import Derived.Test.YteneagnhihcljaaGreatDoorGt2
import Derived.Test.YteneagnhihcljaaGreatDoorSm6
namespace Go.Proofs.YteneagnhihcljaaGreatDoor
open Go.RowKit
set_option linter.unusedVariables false
set_option linter.unusedSimpArgs false

/-- From p on stand words, a blank ahead of each, up to q; and their names. -/
def PN (s : ByteArray) : Nat → List Wd → List ByteArray → Nat → Prop
  | p, [], [], q => p = q
  | p, d :: ds, n :: ns, q => atB s p = 32 ∧ ∃ m, WordAt s ((p + 1 : Nat) : Int) m d ∧ p + 1 + m ≤ s.size ∧ n = s.extract (p + 1) (p + 1 + m) ∧ PN s (p + 1 + m) ds ns q
  | _, [], _ :: _, _ => False
  | _, _ :: _, [], _ => False
theorem PN.nil {s : ByteArray} (p : Nat) : PN s p [] [] p := rfl
theorem PN.cons {s : ByteArray} {p m q : Nat} {d : Wd} {ds : List Wd} {ns : List ByteArray} (h32 : atB s p = 32) (hw : WordAt s ((p + 1 : Nat) : Int) m d) (hle : p + 1 + m ≤ s.size) (h : PN s (p + 1 + m) ds ns q) :
    PN s p (d :: ds) (s.extract (p + 1) (p + 1 + m) :: ns) q := ⟨h32, m, hw, hle, rfl, h⟩
theorem PN.ind {s : ByteArray} {q : Nat} {M : Nat → List Wd → List ByteArray → Prop} (hn : M q [] [])
    (hc : ∀ (p m : Nat) (d : Wd) (ds : List Wd) (ns : List ByteArray), atB s p = 32 → WordAt s ((p + 1 : Nat) : Int) m d → p + 1 + m ≤ s.size → PN s (p + 1 + m) ds ns q → M (p + 1 + m) ds ns → M p (d :: ds) (s.extract (p + 1) (p + 1 + m) :: ns)) :
    ∀ (ds : List Wd) (p : Nat) (ns : List ByteArray), PN s p ds ns q → M p ds ns
  | [], p, [], h => by
    have : p = q := h
    subst this; exact hn
  | [], p, n :: ns, h => False.elim h
  | d :: ds, p, [], h => False.elim h
  | d :: ds, p, n :: ns, h => by
    obtain ⟨h32, m, hw, hle, rfl, h2⟩ := h
    exact hc p m d ds ns h32 hw hle h2 (PN.ind hn hc ds _ ns h2)
theorem PN.next {s : ByteArray} {p q : Nat} : ∀ {ds : List Wd} {ns : List ByteArray}, PN s p ds ns q → p = q ∨ atB s p = 32
  | [], [], h => .inl h
  | [], _ :: _, h => False.elim h
  | _ :: _, [], h => False.elim h
  | _ :: _, _ :: _, h => .inr h.1
theorem PN.le {s : ByteArray} {p q : Nat} {ds : List Wd} {ns : List ByteArray} (h : PN s p ds ns q) : p ≤ q := by
  refine PN.ind (M := fun p _ _ => p ≤ q) (Nat.le_refl _) ?_ ds p ns h
  intro p m d ds ns _ _ _ _ ih; omega
theorem PN.clean {s : ByteArray} {p q : Nat} {ds : List Wd} {ns : List ByteArray} (h : PN s p ds ns q) : Clean s p q := by
  refine PN.ind (M := fun (p : Nat) _ _ => Clean s p q) Clean.nil ?_ ds p ns h
  intro p m d ds ns h32 hw hle h ih
  refine Clean.trans (j := (p : Int) + 1) (Clean.one (by omega)) (Clean.trans (j := ((p + 1 + m : Nat) : Int)) ?_ ih)
  intro k h1 h2
  have := hw.byte (k - ((p : Int) + 1)).toNat (by omega)
  have e : (((p + 1 : Nat) : Int) + ((k - ((p : Int) + 1)).toNat : Int)) = k := by omega
  rw [e] at this; omega
theorem atB_in {s : ByteArray} {i : Int} (h : 0 ≤ atB s i) : 0 ≤ i ∧ i < s.size := by
  unfold atB at h
  split at h
  · rename_i h1; omega
  · omega
theorem WordAt.in' {s : ByteArray} {i : Int} {m : Nat} {d : Wd} (h : WordAt s i m d) : 0 ≤ i ∧ i + m ≤ s.size := by
  have h1 := h.byte 0 (by have := h.pos; omega)
  have h2 := h.byte (m - 1) (by have := h.pos; omega)
  have h3 := atB_in (s := s) (i := i + ((0 : Nat) : Int)) (by omega)
  have h4 := atB_in (s := s) (i := i + ((m - 1 : Nat) : Int)) (by omega)
  have := h.pos
  omega
theorem rProdL_at (s : ByteArray) (d : Wd) : ∀ (f : Nat) (next : Nat) (syms : List Wd), (rProdL s d f next syms).2.2 = true →
    ∃ ds ns q, PN s next ds ns q ∧ atB s (q : Nat) = 10 ∧ rProdL s d f next syms = (⟨d, false, [], 0, 0, syms ++ ds⟩, ((q + 1 : Nat) : Int), true)
  | 0, next, syms, h => by simp [rProdL] at h
  | f + 1, next, syms, h => by
    unfold rProdL at h ⊢
    by_cases h32 : atB s next = 32
    · rw [if_pos h32] at h ⊢
      cases hw : (rWord s (next + 1)).2.2
      · rw [if_pos hw] at h; cases h
      · rw [if_neg (by simp [hw])] at h ⊢
        obtain ⟨m, hwd, hnx⟩ := rWord_at s (next + 1) hw
        have hin := hwd.in'
        have e : (rWord s (next + 1)).2.1 = ((next + 1 + m : Nat) : Int) := by rw [hnx]; omega
        rw [e] at h ⊢
        obtain ⟨ds, ns, q, h1, h2, h3⟩ := rProdL_at s d f _ _ h
        refine ⟨(rWord s (next + 1)).1 :: ds, _, q, PN.cons h32 (by simpa using hwd) (by omega) h1, h2, ?_⟩
        rw [h3]; simp
    · rw [if_neg h32] at h ⊢
      by_cases h10 : atB s next = 10
      · rw [if_neg (by simpa using h10)]
        exact ⟨[], [], next, PN.nil _, h10, by simp⟩
      · rw [if_pos h10] at h; cases h

/-- the keep's words of a row of words -/
theorem words_at (s : ByteArray) (a e : Nat) (he : e ≤ s.size) : ∀ {p q : Nat} {ds : List Wd} {ns : List ByteArray}, PN s p ds ns q → q = e → a ≤ p → ∀ (f : Nat) (acc : List ByteArray), e + 1 ≤ f + p →
    wordsL (s.extract a e) f (if p < e then p + 1 - a else p - a) acc = acc ++ ns := by
  intro p q ds ns h hq
  have hsz : (s.extract a e).size = e - a := by rw [ByteArray.size_extract]; omega
  refine PN.ind (M := fun p _ ns => a ≤ p → ∀ (f : Nat) (acc : List ByteArray), e + 1 ≤ f + p → wordsL (s.extract a e) f (if p < e then p + 1 - a else p - a) acc = acc ++ ns) ?_ ?_ ds p ns h
  · intro ha f acc hf
    rw [if_neg (by omega)]
    cases f with
    | zero => simp [wordsL]
    | succ f => unfold wordsL; rw [if_neg (by omega)]; simp
  · intro p m d ds ns h32 hw hle h ih ha f acc hf
    have hpq := h.le
    have hm := hw.pos
    rw [if_pos (by omega)]
    obtain ⟨f, rfl⟩ : ∃ g, f = g + 1 := ⟨f - 1, by omega⟩
    unfold wordsL
    have hx : (s.extract a e).extract (p + 1 - a) (s.extract a e).size = s.extract (p + 1) e := by
      rw [hsz]
      apply ByteArray.ext
      simp only [ByteArray.data_extract, Array.extract_extract]
      have : s.size = s.data.size := rfl
      congr 1 <;> omega
    have hup : upToF (s.extract (p + 1) e) 32 32 = m := by
      refine upTo_at s (p + 1) e m 32 32 he (by omega) ?_ ?_
      · intro k hk
        have := hw.byte k hk
        exact ⟨by omega, by omega⟩
      · rcases h.next with h9 | h9
        · left; omega
        · right; left; rw [← h9]; congr 1
    rw [hx, hup, if_pos (show p + 1 - a < (s.extract a e).size by omega), if_pos (show 0 < m by omega)]
    have hex : (s.extract a e).extract (p + 1 - a) (p + 1 - a + m) = s.extract (p + 1) (p + 1 + m) := by
      apply ByteArray.ext
      simp only [ByteArray.data_extract, Array.extract_extract]
      have : s.size = s.data.size := rfl
      congr 1 <;> omega
    rw [hex]
    have := ih (by omega) f (acc ++ [s.extract (p + 1) (p + 1 + m)]) (by omega)
    have e2 : (if p + 1 - a + m < (s.extract a e).size then p + 1 - a + m + 1 else p + 1 - a + m) = (if p + 1 + m < e then p + 1 + m + 1 - a else p + 1 + m - a) := by
      rw [hsz]
      by_cases hh : p + 1 + m < e
      · rw [if_pos (by omega), if_pos hh]; omega
      · rw [if_neg (by omega), if_neg hh]; omega
    rw [e2, this]; simp
end Go.Proofs.YteneagnhihcljaaGreatDoor
namespace Go.Proofs.YteneagnhihcljaaGreatDoor
open Go.RowKit
set_option linter.unusedVariables false
set_option linter.unusedSimpArgs false

theorem WordAt.clean {s : ByteArray} {i : Int} {m : Nat} {d : Wd} (h : WordAt s i m d) : Clean s i (i + m) := by
  intro k h1 h2
  have := h.byte (k - i).toNat (by omega)
  have e : i + ((k - i).toNat : Int) = k := by omega
  rw [e] at this; omega
theorem WordAt.head {s : ByteArray} {i : Int} {m : Nat} {d : Wd} (h : WordAt s i m d) : headB d = isCapB (atB s i) := by
  unfold headB
  rw [h.ls]
  have := h.pos
  simp [List.range, List.range.loop, show 0 < m by omega]

/-- What a line that can be read says, from i up to its end e. -/
structure RuleAt (s : ByteArray) (i : Nat) (x : Ln) (e m : Nat) : Prop where
  hw : WordAt s i m x.front
  hs : isSmallB (atB s i) = true
  hr : ruleB x = true
  hle : i + m < e
  hc : Clean s i e
  hm : atB s ((i : Int) + m) = 61 ∨ atB s ((i : Int) + m) = 126
  hk : x.skip = (atB s ((i : Int) + m) == 126)
  hsy : x.syms = []
structure ProdAt (s : ByteArray) (i : Nat) (x : Ln) (e m : Nat) (ns : List ByteArray) : Prop where
  hw : WordAt s i m x.front
  hs : isCapB (atB s i) = true
  hr : ruleB x = false
  hc : Clean s i e
  hm : atB s ((i : Int) + m) = 58
  hp : PN s (i + m + 1) x.syms ns e
def LineAt (s : ByteArray) (i : Nat) (x : Ln) (e : Nat) : Prop := (∃ m, RuleAt s i x e m) ∨ (∃ m ns, ProdAt s i x e m ns)
theorem LineAt.clean {s : ByteArray} {i e : Nat} {x : Ln} (h : LineAt s i x e) : Clean s i e := by
  rcases h with ⟨m, h⟩ | ⟨m, ns, h⟩
  · exact h.hc
  · exact h.hc

theorem rLine_at (s : ByteArray) (i : Nat) (h : (rLine s i).2.2 = true) : ∃ e : Nat, e < s.size ∧ i < e ∧ atB s (e : Nat) = 10 ∧ (rLine s i).2.1 = ((e + 1 : Nat) : Int) ∧ LineAt s i (rLine s i).1 e := by
  unfold rLine at h ⊢
  cases hw : (rWord s i).2.2
  · rw [if_pos hw] at h; cases h
  · rw [if_neg (by simp [hw])] at h ⊢
    obtain ⟨m, hwd, hnx⟩ := rWord_at s i hw
    have hin := hwd.in'
    have hpos := hwd.pos
    have hhd := hwd.head
    generalize (rWord s i).1 = d at *
    rw [hnx] at h ⊢
    cases hh : headB d
    · rw [hh] at h
      simp only [Bool.false_eq_true, if_false] at h ⊢
      unfold rRule at h ⊢
      by_cases c1 : atB s ((i : Int) + m) ≠ 61 ∧ atB s ((i : Int) + m) ≠ 126
      · rw [if_pos c1] at h; cases h
      · rw [if_neg c1] at h ⊢
        cases c2 : (rRead s ((i : Int) + m + 1)).ok
        · rw [if_pos c2] at h; cases h
        · rw [if_neg (by simp [c2])] at h ⊢
          by_cases c3 : atB s (rRead s ((i : Int) + m + 1)).next = 10
          · rw [if_neg (by simpa using c3)] at h ⊢
            have cl := rRead_clean c2
            have hlt := atB_in (s := s) (i := (rRead s ((i : Int) + m + 1)).next) (by omega)
            have hgt : (i : Int) + m + 1 ≤ (rRead s ((i : Int) + m + 1)).next := by
              by_cases hq : (rRead s ((i : Int) + m + 1)).next < (i : Int) + m + 1
              · exfalso
                have hg := (good_chK s 6) ((i : Int) + m + 1) [] (by omega) (by
                  have : 0 ≤ atB s ((i : Int) + m) := by
                    by_cases q : atB s ((i : Int) + m) = 61
                    · omega
                    · by_cases q2 : atB s ((i : Int) + m) = 126
                      · omega
                      · exact absurd ⟨q, q2⟩ c1
                  have := atB_in this; omega)
                have := hg.lo
                unfold rRead at hq; omega
              · omega
            refine ⟨(rRead s ((i : Int) + m + 1)).next.toNat, by omega, by omega, ?_, by dsimp only; omega, ?_⟩
            · rw [Int.toNat_of_nonneg (by omega)]; exact c3
            · have hm61 : atB s ((i : Int) + m) = 61 ∨ atB s ((i : Int) + m) = 126 := by
                by_cases q : atB s ((i : Int) + m) = 61
                · exact .inl q
                · by_cases q2 : atB s ((i : Int) + m) = 126
                  · exact .inr q2
                  · exact absurd ⟨q, q2⟩ c1
              refine .inl ⟨m, hwd, ?_, ?_, by omega, ?_, hm61, rfl, rfl⟩
              · rcases hwd.first with h1 | h1
                · exact h1
                · rw [← hhd, hh] at h1; cases h1
              · show (!headB d) = true
                rw [hh]; rfl
              · rw [Int.toNat_of_nonneg (by omega)]
                exact (hwd.clean.trans (Clean.one (by rcases hm61 with q | q <;> omega))).trans cl
          · rw [if_pos c3] at h; cases h
    · rw [hh] at h
      simp only [if_true] at h ⊢
      unfold rProd at h ⊢
      by_cases c1 : atB s ((i : Int) + m) = 58
      · rw [if_neg (by simpa using c1)] at h ⊢
        have e1 : (i : Int) + m + 1 = ((i + m + 1 : Nat) : Int) := by omega
        rw [e1] at h ⊢
        obtain ⟨ds, ns, q, h1, h2, h3⟩ := rProdL_at s d _ _ _ h
        rw [h3]
        have := atB_in (s := s) (i := (q : Nat)) (by omega)
        have hle := h1.le
        refine ⟨q, by omega, by omega, h2, rfl, ?_⟩
        refine .inr ⟨m, ns, hwd, by rw [← hhd]; exact hh, ?_, ?_, c1, by simpa using h1⟩
        · show (!headB d) = false
          rw [hh]; rfl
        · exact (hwd.clean.trans (Clean.one (by omega))).trans (by rw [e1]; exact h1.clean)
      · rw [if_pos c1] at h; cases h
end Go.Proofs.YteneagnhihcljaaGreatDoor
namespace Go.Proofs.YteneagnhihcljaaGreatDoor
open Go.RowKit
set_option linter.unusedVariables false
set_option linter.unusedSimpArgs false

theorem atB_zero (s : ByteArray) (a e : Nat) (he : e ≤ s.size) (h : a < e) : atB (s.extract a e) 0 = atB s a := by
  have := atB_ext s a e 0 he (by omega); simpa using this
theorem ext_pre (s : ByteArray) (a e c : Nat) (he : e ≤ s.size) (hc : a + c ≤ e) : (s.extract a e).extract 0 c = s.extract a (a + c) := by
  apply ByteArray.ext
  simp only [ByteArray.data_extract, Array.extract_extract]
  have : s.size = s.data.size := rfl
  congr 1; omega
theorem ext_suf (s : ByteArray) (a e c : Nat) (he : e ≤ s.size) (hc : a + c ≤ e) : (s.extract a e).extract c (s.extract a e).size = s.extract (a + c) e := by
  apply ByteArray.ext
  rw [ByteArray.size_extract]
  simp only [ByteArray.data_extract, Array.extract_extract]
  have : s.size = s.data.size := rfl
  congr 1; omega

theorem take_rule_at (s : ByteArray) (i e m : Nat) (d : Wd) (x : LO) (he : e ≤ s.size) (hw : WordAt s i m d) (hs : isSmallB (atB s i) = true) (hle : i + m < e) (hm : atB s ((i : Int) + m) = 61 ∨ atB s ((i : Int) + m) = 126) :
    takeF (s.extract i e) x = { x with rules := x.rules ++ [s.extract i (i + m)], skip := x.skip ++ [atB s ((i : Int) + m) == 126] } := by
  have hsz : (s.extract i e).size = e - i := by rw [ByteArray.size_extract]; omega
  have hup : upToF (s.extract i e) 61 126 = m := by
    refine upTo_at s i e m 61 126 he (by omega) ?_ (.inr hm)
    intro k hk; have := hw.byte k hk; exact ⟨by omega, by omega⟩
  unfold takeF
  rw [if_neg (by omega), atB_zero s i e he (by omega), if_pos (by simpa [isSmallB] using hs), hup, ext_pre s i e m he (by omega), atB_ext s i e m he (by omega)]
  simp [hsz, show m < e - i by omega]
theorem take_prod_at (s : ByteArray) (i e m : Nat) (d : Wd) (ds : List Wd) (ns : List ByteArray) (x : LO) (he : e ≤ s.size) (hw : WordAt s i m d) (hs : isCapB (atB s i) = true) (hm : atB s ((i : Int) + m) = 58) (hp : PN s (i + m + 1) ds ns e) :
    takeF (s.extract i e) x = { x with
      heads := if findF x.heads (s.extract i (i + m)) < 0 then x.heads ++ [s.extract i (i + m)] else x.heads
      head := x.head ++ [if findF x.heads (s.extract i (i + m)) < 0 then (x.heads.length : Int) else findF x.heads (s.extract i (i + m))]
      names := x.names ++ [ns] } := by
  have hple := hp.le
  have hsz : (s.extract i e).size = e - i := by rw [ByteArray.size_extract]; omega
  have hup : upToF (s.extract i e) 58 58 = m := by
    refine upTo_at s i e m 58 58 he (by omega) ?_ (.inr (.inl hm))
    intro k hk; have := hw.byte k hk; exact ⟨by omega, by omega⟩
  have hcap := cap_bd hs
  have hws : wordsF (s.extract (i + m) e) = s.extract (i + m) (i + m + 1) :: ns := by
    have hs2 : (s.extract (i + m) e).size = e - (i + m) := by rw [ByteArray.size_extract]; omega
    unfold wordsF
    have hup2 : upToF (s.extract (i + m) e) 32 32 = 1 := by
      refine upTo_at s (i + m) e 1 32 32 he (by omega) ?_ ?_
      · intro k hk
        have : k = 0 := by omega
        subst this
        have e1 : (((i + m : Nat) : Int) + ((0 : Nat) : Int)) = (i : Int) + m := by omega
        rw [e1, hm]; exact ⟨by omega, by omega⟩
      · rcases hp.next with h9 | h9
        · left; omega
        · right; left; rw [← h9]; congr 1
    conv => lhs; unfold wordsL
    have e0 : (s.extract (i + m) e).extract 0 (s.extract (i + m) e).size = s.extract (i + m) e := ext_all _
    rw [e0, hup2, if_pos (show 0 < (s.extract (i + m) e).size by omega), if_pos (show 0 < 1 by omega)]
    have := words_at s (i + m) e he hp rfl (by omega) (s.extract (i + m) e).size [s.extract (i + m) (i + m + 1)] (by omega)
    have e2 : (if 0 + 1 < (s.extract (i + m) e).size then 0 + 1 + 1 else 0 + 1) = (if i + m + 1 < e then i + m + 1 + 1 - (i + m) else i + m + 1 - (i + m)) := by
      rw [hs2]
      by_cases hh : i + m + 1 < e
      · rw [if_pos (by omega), if_pos hh]; omega
      · rw [if_neg (by omega), if_neg hh]; omega
    rw [e2]
    have e3 : ([] : List ByteArray) ++ [(s.extract (i + m) e).extract 0 (0 + 1)] = [s.extract (i + m) (i + m + 1)] := by
      rw [Nat.zero_add, ext_pre s (i + m) e 1 he (by omega)]; rfl
    rw [e3, this]; rfl
  unfold takeF
  rw [if_neg (by omega), atB_zero s i e he (by omega), if_neg (by omega), hup, ext_pre s i e m he (by omega), ext_suf s i e m he (by omega), hws]
  rfl

theorem findF_mem {l : List ByteArray} {t : ByteArray} (h : ¬ findF l t < 0) : ∃ y ∈ l, y.toList = t.toList := by
  unfold findF at h
  by_cases hq : l.findIdx (fun x => x.toList == t.toList) < l.length
  · have := List.findIdx_getElem (w := hq)
    exact ⟨_, List.getElem_mem hq, by simpa using this⟩
  · rw [if_neg hq] at h; omega

/-- The name of line x is among these. -/
def Named (s : ByteArray) (x : Ln) (l : List ByteArray) : Prop := ∃ i m : Nat, WordAt s i m x.front ∧ ∃ y ∈ l, y.toList = (s.extract i (i + m)).toList
theorem Named.mono {s : ByteArray} {x : Ln} {l l' : List ByteArray} (h : Named s x l) (hl : ∀ y ∈ l, y ∈ l') : Named s x l' := by
  obtain ⟨i, m, h1, y, h2, h3⟩ := h
  exact ⟨i, m, h1, y, hl y h2, h3⟩
/-- t is the name of one of these words. -/
def WordOf (s : ByteArray) (ds : List Wd) (t : ByteArray) : Prop := ∃ d ∈ ds, ∃ j m : Nat, WordAt s j m d ∧ t = s.extract j (j + m)
theorem PN.words {s : ByteArray} {p q : Nat} {ds : List Wd} {ns : List ByteArray} (h : PN s p ds ns q) : ∀ t ∈ ns, WordOf s ds t := by
  refine PN.ind (M := fun _ ds ns => ∀ t ∈ ns, WordOf s ds t) ?_ ?_ ds p ns h
  · intro t ht; simp at ht
  · intro p m d ds ns h32 hw hle h ih t ht
    simp at ht
    rcases ht with rfl | ht
    · exact ⟨d, by simp, p + 1, m, hw, rfl⟩
    · obtain ⟨d', h1, h2⟩ := ih t ht
      exact ⟨d', by simp [h1], h2⟩
theorem PN.places {s : ByteArray} {p q : Nat} {ds : List Wd} {ns : List ByteArray} (h : PN s p ds ns q) : ∀ d ∈ ds, 0 ≤ d.place := by
  refine PN.ind (M := fun _ ds _ => ∀ d ∈ ds, 0 ≤ d.place) ?_ ?_ ds p ns h
  · intro t ht; simp at ht
  · intro p m d ds ns h32 hw hle h ih t ht
    simp at ht
    rcases ht with rfl | ht
    · rw [hw.place]; omega
    · exact ih t ht

structure Inv (s : ByteArray) (lns : List Ln) (x : LO) : Prop where
  rules : x.rules.length = (lns.filter ruleB).length
  skip : x.skip = (lns.filter ruleB).map Ln.skip
  count : x.names.length = (lns.filter (fun y => !ruleB y)).length
  named : ∀ y ∈ lns, if ruleB y then Named s y x.rules else Named s y x.heads
  words : ∀ l ∈ x.names, ∀ t ∈ l, ∃ y ∈ lns, WordOf s y.syms t
  places : ∀ y ∈ lns, 0 ≤ y.front.place ∧ ∀ d ∈ y.syms, 0 ≤ d.place

theorem inv_line {s : ByteArray} {lns : List Ln} {x : LO} {y : Ln} {i e : Nat} (h : Inv s lns x) (he : e ≤ s.size) (hl : LineAt s i y e) : Inv s (lns ++ [y]) (takeF (s.extract i e) x) := by
  rcases hl with ⟨m, hw, hs, hr, hle, hc, hm, hk, hsy⟩ | ⟨m, ns, hw, hs, hr, hc, hm, hp⟩
  · rw [take_rule_at s i e m _ x he hw hs hle hm]
    refine ⟨?_, ?_, ?_, ?_, ?_, ?_⟩
    · simp [h.rules, List.filter_cons, hr]
    · simp [h.skip, List.filter_cons, hr, hk]
    · simp [h.count, List.filter_cons, hr]
    · intro z hz
      simp only [List.mem_append, List.mem_singleton] at hz
      rcases hz with hz | rfl
      · have := h.named z hz
        split
        · rename_i hq; rw [if_pos hq] at this; exact this.mono (fun y hy => by simp [hy])
        · rename_i hq; rw [if_neg hq] at this; exact this
      · rw [if_pos hr]; exact ⟨i, m, hw, s.extract i (i + m), by simp, rfl⟩
    · intro l hl t ht
      obtain ⟨z, hz, hw⟩ := h.words l hl t ht
      exact ⟨z, by simp [hz], hw⟩
    · intro z hz
      simp only [List.mem_append, List.mem_singleton] at hz
      rcases hz with hz | rfl
      · exact h.places z hz
      · exact ⟨by rw [hw.place]; omega, by rw [hsy]; intro d hd; cases hd⟩
  · rw [take_prod_at s i e m _ _ ns x he hw hs hm hp]
    refine ⟨?_, ?_, ?_, ?_, ?_, ?_⟩
    · simp [h.rules, List.filter_cons, hr]
    · simp [h.skip, List.filter_cons, hr]
    · simp [h.count, List.filter_cons, hr]
    · intro z hz
      simp only [List.mem_append, List.mem_singleton] at hz
      rcases hz with hz | rfl
      · have := h.named z hz
        split
        · rename_i hq; rw [if_pos hq] at this; exact this
        · rename_i hq; rw [if_neg hq] at this
          refine this.mono (fun y hy => ?_)
          dsimp only
          split
          · simp [hy]
          · exact hy
      · rw [if_neg (by simp [hr])]
        dsimp only
        split
        · exact ⟨i, m, hw, s.extract i (i + m), by simp, rfl⟩
        · rename_i hq
          obtain ⟨y, h1, h2⟩ := findF_mem hq
          exact ⟨i, m, hw, y, h1, h2⟩
    · intro l hl t ht
      simp only [List.mem_append, List.mem_singleton] at hl
      rcases hl with hl | rfl
      · obtain ⟨z, hz, hw⟩ := h.words l hl t ht
        exact ⟨z, by simp [hz], hw⟩
      · exact ⟨y, by simp, hp.words t ht⟩
    · intro z hz
      simp only [List.mem_append, List.mem_singleton] at hz
      rcases hz with hz | rfl
      · exact h.places z hz
      · exact ⟨by rw [hw.place]; omega, hp.places⟩

theorem inv_lines (s : ByteArray) : ∀ (f i : Nat) (acc : List Ln) (g : Nat) (x : LO), (rLinesL s f i acc).2.2 = true → i ≤ s.size → s.size + 1 ≤ g + i → Inv s acc x → Inv s (rLinesL s f i acc).1 (lineL s g i x)
  | 0, i, acc, g, x, h, hi, hg, hI => by simp [rLinesL] at h
  | f + 1, i, acc, g, x, h, hi, hg, hI => by
    obtain ⟨g, rfl⟩ : ∃ k, g = k + 1 := ⟨g - 1, by omega⟩
    unfold rLinesL at h ⊢
    unfold lineL
    by_cases hlt : i < s.size
    · rw [if_pos (by omega)] at h ⊢
      rw [if_pos hlt]
      cases hok : (rLine s i).2.2
      · rw [if_pos hok] at h; cases h
      · rw [if_neg (by simp [hok])] at h ⊢
        obtain ⟨e, he1, he2, he3, he4, he5⟩ := rLine_at s i hok
        rw [he4] at h ⊢
        have hcl : Clean s i e := he5.clean
        have hup : upToF (s.extract i s.size) 10 10 = e - i := by
          refine upTo_at s i s.size (e - i) 10 10 (by omega) (by omega) ?_ ?_
          · intro k hk
            have := hcl ((i : Int) + k) (by omega) (by omega)
            exact ⟨by omega, by omega⟩
          · right; left
            have e1 : (i : Int) + ((e - i : Nat) : Int) = (e : Nat) := by omega
            rw [e1]; exact he3
        rw [hup, show i + (e - i) = e by omega, if_pos he1]
        exact inv_lines s f (e + 1) _ g _ h (by omega) (by omega) (inv_line hI (by omega) he5)
    · rw [if_neg (by omega)] at h ⊢
      rw [if_neg hlt]
      exact hI
end Go.Proofs.YteneagnhihcljaaGreatDoor
namespace Go.Proofs.YteneagnhihcljaaGreatDoor
open Go.RowKit
set_option linter.unusedVariables false
set_option linter.unusedSimpArgs false

theorem syms_none {lns : List Ln} {syms : List Wd} (hp : ∀ d ∈ syms, 0 ≤ d.place) : ∀ (f j : Nat), symsL lns syms f j = none → syms.length + 1 ≤ f + j → ∀ k (hk : k < syms.length), j ≤ k → symB lns syms[k] = true
  | 0, j, h, hf, k, hk, hjk => by omega
  | f + 1, j, h, hf, k, hk, hjk => by
    unfold symsL at h
    have hj : j < syms.length := by omega
    rw [List.getElem?_eq_getElem hj] at h
    simp only [] at h
    cases hs : symB lns syms[j]
    · rw [hs] at h; simp at h
    · rw [hs] at h
      simp only [if_true] at h
      by_cases e : j = k
      · subst e; exact hs
      · exact syms_none hp f (j + 1) h (by omega) k hk (by omega)
theorem wrong_none {lns : List Ln} (hp : ∀ y ∈ lns, 0 ≤ y.front.place ∧ ∀ d ∈ y.syms, 0 ≤ d.place) : ∀ (f i : Nat), wrongL lns f i = -1 → lns.length + 1 ≤ f + i → ∀ k (hk : k < lns.length), i ≤ k → symsBad lns lns[k].syms = none
  | 0, i, h, hf, k, hk, hik => by omega
  | f + 1, i, h, hf, k, hk, hik => by
    unfold wrongL at h
    have hi : i < lns.length := by omega
    rw [List.getElem?_eq_getElem hi] at h
    simp only [] at h
    have hpi := hp lns[i] (List.getElem_mem hi)
    by_cases c : (ruleB lns[i] && aheadB lns i) = true
    · rw [if_pos c] at h; omega
    · rw [if_neg c] at h
      cases hs : symsBad lns lns[i].syms with
      | some p =>
        rw [hs] at h
        simp only [] at h
        exfalso
        have : ∀ (f j : Nat), symsL lns lns[i].syms f j = some p → 0 ≤ p := by
          intro f
          induction f with
          | zero => intro j h; simp [symsL] at h
          | succ f ih =>
            intro j h
            unfold symsL at h
            split at h
            · rename_i d hd
              split at h
              · exact ih _ h
              · simp at h
                rw [← h]
                exact hpi.2 d (List.mem_of_getElem? hd)
            · cases h
        have := this _ _ hs
        omega
      | none =>
        rw [hs] at h
        simp only [] at h
        by_cases e : i = k
        · subst e; exact hs
        · exact wrong_none hp f (i + 1) h (by omega) k hk (by omega)
theorem check_parts {s : ByteArray} (h : checkF s = (0, 0)) : s.size ≤ 800 ∧ (rLines s).2.2 = true ∧ wrongName (rLines s).1 = -1 ∧ hasProd (rLines s).1 = true ∧ tooMany (rLines s).1 = -1 := by
  unfold checkF at h
  split at h
  · simp at h
  · rename_i h1
    split at h
    · simp at h
    · rename_i h2
      split at h
      · simp at h
      · rename_i h3
        split at h
        · simp at h
        · rename_i h4
          split at h
          · simp at h
          · split at h
            · simp at h
            · rename_i h5
              exact ⟨by omega, by simpa using h2, by simpa using h4, by simpa using h5, by simpa using h3⟩
theorem inv_zero {s : ByteArray} : Inv s [] zeroLO := by
  refine ⟨rfl, rfl, rfl, ?_, ?_, ?_⟩
  · intro y hy; simp at hy
  · intro l hl; simp [zeroLO] at hl
  · intro y hy; simp at hy
theorem linesInv {s : ByteArray} (h : checkF s = (0, 0)) : Inv s (rLines s).1 (linesX s) := by
  obtain ⟨h1, h2, h3, h4, h5⟩ := check_parts h
  have h2' : (rLinesL s (s.size + 5) ((0 : Nat) : Int) []).2.2 = true := h2
  exact inv_lines s (s.size + 5) 0 [] (s.size + 1) zeroLO h2' (by omega) (by omega) inv_zero
end Go.Proofs.YteneagnhihcljaaGreatDoor
namespace Go.Proofs.YteneagnhihcljaaGreatDoor
open Go.RowKit
set_option linter.unusedVariables false
set_option linter.unusedSimpArgs false

end Go.Proofs.YteneagnhihcljaaGreatDoor
namespace Go.Proofs.YteneagnhihcljaaGreatDoor
open Go.RowKit
set_option linter.unusedVariables false
set_option linter.unusedSimpArgs false

end Go.Proofs.YteneagnhihcljaaGreatDoor
namespace Go.Proofs.YteneagnhihcljaaGreatDoor
open Go.RowKit
set_option linter.unusedVariables false
set_option linter.unusedSimpArgs false

theorem listL_any (a : List Bool) (t : Nat) : ∀ k, (listL a k).any (· == (t : Int)) = (decide (t < k) && a.getD t false)
  | 0 => by simp [listL]
  | k + 1 => by
    have ih := listL_any a t k
    unfold listL
    by_cases e : t = k
    · subst e
      cases hq : a.getD t false
      · simp only [Bool.false_eq_true, if_false, ih, hq, Bool.and_false]
      · simp only [if_true, List.any_append, List.any_cons, List.any_nil, ih, hq]
        simp
    · have h1 : (((k : Nat) : Int) == (t : Int)) = false := by simp; omega
      have h2 : decide (t < k + 1) = decide (t < k) := by simp only [decide_eq_decide]; omega
      rw [h2]
      split
      · rw [List.any_append, ih]; simp [h1]
      · exact ih
theorem listT_any {a : List Bool} (ha : a.length = 9) (t : Nat) : (listT a).any (· == (t : Int)) = a.getD t false := by
  unfold listT
  rw [listL_any]
  by_cases h : t < 9
  · simp [h]
  · have : a.getD t false = false := by simp [List.getElem?_eq_none (show a.length ≤ t by omega)]
    rw [this]; simp
section
variable {ps : List Pr} {R H : Nat} {hs : List Hd}
end
end Go.Proofs.YteneagnhihcljaaGreatDoor
