import Derived.Test.YtcaanpcediednaaCk7
namespace Go.Proofs.Ytcaanpcediednaa
open Go.RowKit
set_option linter.unusedVariables false
set_option linter.unusedSimpArgs false

theorem bestL_bd (lns : List Ln) (t : ByteArray) (i : Nat) : ∀ (f k : Nat) (b : Int × Int), 0 ≤ b.1 → (i : Int) ≤ b.2 → (b.2 ≤ i ∨ b.2 ≤ t.size) → 0 ≤ (bestL lns t i f k b).1 ∧ (i : Int) ≤ (bestL lns t i f k b).2 ∧ ((bestL lns t i f k b).2 ≤ i ∨ (bestL lns t i f k b).2 ≤ t.size)
  | 0, _, b, h1, h2, h3 => ⟨h1, h2, h3⟩
  | f + 1, k, b, h1, h2, h3 => by
    unfold bestL; split
    · rename_i x hx
      have := longF_bd x.ns x.st x.en t i
      refine bestL_bd lns t i f (k + 1) _ ?_ ?_ ?_ <;> split <;> (try dsimp only) <;> omega
    · exact ⟨h1, h2, h3⟩
theorem bestF_bd (lns : List Ln) (t : ByteArray) (i : Nat) : 0 ≤ (bestF lns t i).1 ∧ (i : Int) ≤ (bestF lns t i).2 ∧ ((bestF lns t i).2 ≤ i ∨ (bestF lns t i).2 ≤ t.size) := bestL_bd lns t i _ _ _ (by simp) (by simp) (by simp)

structure Tk where
  r : Int
  a : Int
  b : Int
def Tk.cells (x : Tk) : List Value := [.int .i64 x.r, .int .i64 x.a, .int .i64 x.b]
def cutL (lns : List Ln) (t : ByteArray) : Nat → Nat → List Tk → List Tk × Int × Int
  | 0, _, _ => ([], 9, 0)
  | f + 1, i, toks =>
    if i < t.size then
      if (bestF lns t i).2 ≤ i then ([], 9, i)
      else cutL lns t f (bestF lns t i).2.toNat (if skipB lns (bestF lns t i).1 then toks else toks ++ [⟨(bestF lns t i).1, i, (bestF lns t i).2⟩])
    else (toks, 0, 0)
def cutF (lns : List Ln) (t : ByteArray) : List Tk × Int × Int := cutL lns t (t.size + 1) 0 []
abbrev ToksAt := RowAt Tk.cells 3 42

theorem infoTok : (Try.prog.info? 42).map (fun i => (i.zero, i.size, i.bytes)) = some (some (.agg (tokArr 0 0 0)), 3, 24) := by kernel_rfl
theorem infoTok' : ∃ i, Try.prog.info? 42 = some i ∧ i.zero = some (.agg (tokArr 0 0 0)) ∧ i.size = 3 ∧ i.bytes = 24 := by
  have h := infoTok
  cases hq : Try.prog.info? 42 with
  | none => simp [hq] at h
  | some i => simp [hq] at h; exact ⟨i, rfl, h.1, h.2.1, h.2.2⟩

set_option maxRecDepth 20000 in
set_option maxHeartbeats 4000000 in
theorem cut_any (w : World) (v : Value) (xs : List LV) (t : ByteArray) (hL : LinesAt w v xs) (hn : xs.length ≤ 1000) (ht : t.size ≤ 200) :
    Calls Try.prog 9 #[v, .string t] w fun e w' => ∃ v', e = .returned (.tuple #[v', .int .i64 (cutF (xs.map LV.ln) t).2.1, .int .i64 (cutF (xs.map LV.ln) t).2.2]) ∧ Fresh w w' ∧ ToksAt w' v' (cutF (xs.map LV.ln) t).1 := by
  obtain ⟨ao, cap, hv⟩ := own_form hL.own
  subst hv
  have HL := hid hL
  obtain ⟨i0, hi0, hz0, hz1, hz2⟩ := infoTok'
  generalize hR : cutF (xs.map LV.ln) t = R
  have HR : Hid (cutL (xs.map LV.ln) t (t.size + 1) 0 [] = R) := hR
  clear hL hR
  go_enter Try.func9, Try.ntmps9
  go_wp2
  go_loopw [7, 8] (fun x7 x8 wr => ∃ (f i : Nat) (ts : List Tk), x8 = .int .i64 i ∧ cutL (xs.map LV.ln) t f i ts = R ∧ t.size + 1 ≤ f + i ∧ i ≤ t.size ∧ ts.length ≤ i ∧ wr.ownsRow w.heap.size 42 3 x7 ts.length (flatC Tk.cells ts) ∧ Fresh w wr)
      (fun _ x _ => 201 - (intOf x).toNat)
  case atStart => exact ⟨_, 0, [], rfl, HR.out, by omega, by omega, by simp, World.ownsRow_nil _ _ _ _, Mod.refl _ _⟩
  case round =>
    obtain ⟨f, i, ts, rfl, hR, hfu, hi, hts, hown, hfr⟩ := hrel
    obtain ⟨f, rfl⟩ : ∃ g, f = g + 1 := ⟨f - 1, by omega⟩
    unfold cutL at hR
    have HO := hid hown
    have HOB := hid hown.lt
    obtain ⟨ro, rc, hro⟩ := own_form hown
    clear hown
    subst hro
    by_cases hlt : i < t.size
    · rw [if_pos hlt] at hR
      obtain ⟨b1, b2, b3⟩ := bestF_bd (xs.map LV.ln) t i
      have HL1 := hid (HL.out.fresh hfr)
      have LG := hid (lexLongest_any wr _ xs t i HL1.out hn ht (by omega))
      generalize bestF (xs.map LV.ln) t i = bf at hR LG b1 b2 b3
      obtain ⟨br, bt⟩ := bf
      dsimp only at hR LG b1 b2 b3
      obtain ⟨r, rfl⟩ : ∃ r : Nat, br = r := ⟨br.toNat, by omega⟩
      obtain ⟨to, rfl⟩ : ∃ r : Nat, bt = r := ⟨bt.toNat, by omega⟩
      by_cases hle : (to : Int) ≤ i
      · rw [if_pos hle] at hR
        have HRR := hid hR
        clear hR
        go_wp2_with (first
          | (go_at_call 15; refine LG.out.mono ?_; rintro e w2 ⟨rfl, hf2⟩))
        go_ret3
        exact ⟨.slice none 0 0, by rw [← HRR.out]; rfl, (hfr.trans hf2).alloc _, by rw [← HRR.out]; exact RowAt.nil _ _ _ _⟩
      · rw [if_neg hle] at hR
        simp only [Int.toNat_natCast] at hR
        have HME : Hid (201 - (intOf (.int .i64 (to : Int))).toNat < 201 - (intOf (.int .i64 (i : Int))).toNat) := by unfold Hid; simp [intOf]; omega
        have hto : to ≤ t.size := by omega
        have hit : i < to := by omega
        have hle' : (i : Int) < to := by omega
        have SKP := hid (fun w hL => isSkipped_any w (.slice ao xs.length cap) xs r hL hn)
        clear b3 hle
        cases hsk : skipB (xs.map LV.ln) r
        · rw [hsk] at hR
          simp only [Bool.false_eq_true, if_false] at hR
          rw [hsk] at SKP
          have HRR := hid hR
          clear hR
          go_wp2_with (first
            | (go_at_call 15; refine LG.out.mono ?_; rintro e w2 ⟨rfl, hf2⟩; have HL2 := hid ((HL1.out.fresh hf2).fresh ((Mod.refl _ w2).alloc (.cells (tokArr r i to) 42 (0, 0)))); have hz : wr.heap.size ≤ w2.heap.size := hf2.size; have HO1 := hid (ownsRow_other HO.out (fun g hg => hf2.block g (HOB.out g hg).2 (fun x => x))))
            | (go_at_call 16; refine (SKP.out _ HL2.out).mono ?_; rintro e w' ⟨rfl, hw⟩; rw [hw]; clear hw)
            | (at_builtin; refine wpList_append_mine _ rfl _ _ 22 rfl w.heap.size 42 i0 _ 3 24 Try.underlying22 hi0 hz0 hz1 hz2 rfl (by decide) _ _ _ rfl ((HO1.out.alloc _).alloc _) ⟨w2.heap.size + 1, 0, none⟩ 1 1 (Tk.cells ⟨r, i, to⟩) rfl rfl ?c1 ?c2 ?c3 ?c4 ?c5 ?_))
          case c1 => exact new_cells2 rfl
          case c2 => intro u hu; simp [Tk.cells] at hu; rcases hu with rfl | rfl | rfl <;> rfl
          case c3 => unfold maxLen; omega
          case c4 => omega
          case c5 => have := hfr.size; simp; omega
          intro v' w3 hown3 hgrow hblk
          have fr3 : Fresh w w3 := Mod.grown (S := fun _ => False) (((hfr.trans hf2).alloc _).alloc _) hgrow (fun k hk hlt => by have := (HOB.out k hk).1; omega)
          have q1 : w3.heap[w2.heap.size]? = some (.cells (tokArr r i to) 42 (0, 0)) := by
            rw [hgrow.block _ (by simp; omega) (fun e => by have := (HOB.out _ e.symm).2; omega)]
            exact heap_alloc_prev (heap_alloc_at _ _)
          have k5 := cellOf q1
          have HO3 := hid hown3
          clear hown3 hgrow hblk q1
          go_wp2
          go_roundw
          case rel =>
            refine ⟨f, to, ts ++ [⟨r, i, to⟩], rfl, HRR.out, by omega, by omega, by simp; omega, ?_, fr3⟩
            rw [flat_snoc, List.length_append, List.length_singleton]; exact HO3.out
          case measure => exact HME.out
        · rw [hsk] at hR
          simp only [if_true] at hR
          rw [hsk] at SKP
          have HRR := hid hR
          clear hR
          go_wp2_with (first
            | (go_at_call 15; refine LG.out.mono ?_; rintro e w2 ⟨rfl, hf2⟩; have HL2 := hid ((HL1.out.fresh hf2).fresh ((Mod.refl _ w2).alloc (.cells (tokArr r i to) 42 (0, 0)))); have hz : wr.heap.size ≤ w2.heap.size := hf2.size; have HO1 := hid (ownsRow_other HO.out (fun g hg => hf2.block g (HOB.out g hg).2 (fun x => x))))
            | (go_at_call 16; refine (SKP.out _ HL2.out).mono ?_; rintro e w' ⟨rfl, hw⟩; rw [hw]; clear hw))
          go_roundw
          case rel => exact ⟨f, to, ts, rfl, HRR.out, by omega, by omega, by omega, HO1.out.alloc _, (hfr.trans hf2).alloc _⟩
          case measure => exact HME.out
    · rw [if_neg hlt] at hR
      have HRR := hid hR
      clear hR
      go_wp2
      go_ret3
      refine ⟨_, by rw [← HRR.out]; rfl, hfr, ?_⟩
      rw [← HRR.out]
      exact ⟨ownsRow_base HO.out (Nat.zero_le _), fun x _ => rfl⟩

/-- the tokens, the error, the place -/
def lexF (s t : ByteArray) : List Tk × Int × Int := if errF s t ≠ 0 then ([], errF s t, 0) else cutF (rulesOf s) t
set_option maxRecDepth 20000 in
set_option maxHeartbeats 4000000 in
theorem lex_any (s t : ByteArray) (w : World) (hs : s.size ≤ maxLen) (ht : t.size ≤ maxLen) :
    Calls Try.prog 4 #[.string s, .string t] w fun e w' => ∃ v', e = .returned (.tuple #[v', .int .i64 (lexF s t).2.1, .int .i64 (lexF s t).2.2]) ∧ Fresh w w' ∧ ToksAt w' v' (lexF s t).1 := by
  have RR := hid (fun w => readRules_any s t w hs ht)
  unfold maxLen at hs ht
  generalize hM : lexF s t = M
  unfold lexF at hM
  by_cases h0 : errF s t = 0
  · rw [if_neg (by simp [h0])] at hM
    have H0 := hid h0
    have ht2 : t.size ≤ 200 := by
      by_cases h : 200 < t.size
      · unfold errF at h0; rw [if_pos h] at h0; cases h0
      · omega
    have HM := hid hM
    clear h0 hM
    go_enter Try.func4, Try.ntmps4
    go_wp2_with (first
      | (go_at_call 8; refine (RR.out _).mono ?_; rintro e w1 ⟨v, xs, rfl, hf1, hL, hx1, hx2⟩; rw [H0.out]; have HX := hid (hx2 H0.out); have HL := hid hL; clear hL hx2)
      | (go_at_call 9; refine (cut_any _ v xs t HL.out hx1 ht2).mono ?_; rw [HX.out, HM.out]; rintro e w2 ⟨v', rfl, hf2, hT⟩))
    go_ret3
    exact ⟨v', rfl, hf1.trans hf2, hT⟩
  · rw [if_pos h0] at hM
    have HM := hid hM
    have c0 : (errF s t != 0) = true := by simpa using h0
    clear hM h0
    go_enter Try.func4, Try.ntmps4
    go_wp2_with (first
      | (go_at_call 8; refine (RR.out _).mono ?_; rintro e w1 ⟨v, xs, rfl, hf1, hL, hx1, hx2⟩; have HX := hid hx2; clear hL hx2))
    go_ret3
    exact ⟨_, by rw [← HM.out]; rfl, hf1, by rw [← HM.out]; exact RowAt.nil _ _ _ _⟩
end Go.Proofs.Ytcaanpcediednaa
namespace Go.Proofs.Ytcaanpcediednaa
open Go.RowKit
set_option linter.unusedVariables false
set_option linter.unusedSimpArgs false

theorem atB_at (s : ByteArray) (j : Nat) (h : j < s.size) : atB s j = ((s[j].toNat : Nat) : Int) := by simp [atB, h]
/-- how many bytes stand ahead of the first that is a or b -/
def upToF (s : ByteArray) (a b : Int) : Nat := (List.range s.size).findIdx (fun j : Nat => (atB s j == a) || (atB s j == b))
theorem upToF_le (s : ByteArray) (a b : Int) : upToF s a b ≤ s.size := by
  have := List.findIdx_le_length (xs := List.range s.size) (p := fun j : Nat => (atB s j == a) || (atB s j == b))
  simpa [upToF] using this

/-- v is a slice of these strings (it may begin in the middle of a row). -/
def StrsAt (w : World) (v : Value) (l : List ByteArray) : Prop :=
  ∃ a c, v = .slice a l.length c ∧ ∀ j (hj : j < l.length), ∃ g o, a = some ⟨g, o, none⟩ ∧ w.cell? ⟨g, o + j, none⟩ = some (.string l[j])
def findF (l : List ByteArray) (s : ByteArray) : Int := if l.findIdx (fun x => x.toList == s.toList) < l.length then (l.findIdx (fun x => x.toList == s.toList) : Int) else -1

end Go.Proofs.Ytcaanpcediednaa
namespace Go.Proofs.Ytcaanpcediednaa
open Go.RowKit
set_option linter.unusedVariables false
set_option linter.unusedSimpArgs false

theorem ext_ext (s : ByteArray) (k n m : Nat) (hk : k ≤ s.size) (h : m ≤ s.size - k) : (s.extract k s.size).extract n m = s.extract (k + n) (k + m) := by
  apply ByteArray.ext
  simp only [ByteArray.data_extract, Array.extract_extract]
  congr 1
  have : s.size = s.data.size := rfl
  omega
theorem ext_size (s : ByteArray) (k : Nat) : (s.extract k s.size).size = s.size - k := by
  simp [ByteArray.size_extract]

def wordsL (s0 : ByteArray) : Nat → Nat → List ByteArray → List ByteArray
  | 0, _, acc => acc
  | f + 1, k, acc =>
    if k < s0.size then
      wordsL s0 f (if k + upToF (s0.extract k s0.size) 32 32 < s0.size then k + upToF (s0.extract k s0.size) 32 32 + 1 else k + upToF (s0.extract k s0.size) 32 32)
        (if 0 < upToF (s0.extract k s0.size) 32 32 then acc ++ [s0.extract k (k + upToF (s0.extract k s0.size) 32 32)] else acc)
    else acc
def wordsF (s0 : ByteArray) : List ByteArray := wordsL s0 (s0.size + 1) 0 []
theorem ext_all (s : ByteArray) : s.extract 0 s.size = s := by
  apply ByteArray.ext; simp [ByteArray.data_extract]

theorem infoStr : (Try.prog.info? 9).map (fun i => (i.zero, i.size, i.bytes)) = some (some (.string ⟨#[]⟩), 1, 16) := by kernel_rfl
theorem infoStr' : ∃ i, Try.prog.info? 9 = some i ∧ i.zero = some (.string ⟨#[]⟩) ∧ i.size = 1 ∧ i.bytes = 16 := by
  have h := infoStr
  cases hq : Try.prog.info? 9 with
  | none => simp [hq] at h
  | some i => simp [hq] at h; exact ⟨i, rfl, h.1, h.2.1, h.2.2⟩

end Go.Proofs.Ytcaanpcediednaa
