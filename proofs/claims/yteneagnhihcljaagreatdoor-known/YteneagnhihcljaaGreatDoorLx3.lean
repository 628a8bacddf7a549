import Derived.Test.YteneagnhihcljaaGreatDoorGt2
import Derived.Test.YteneagnhihcljaaGreatDoorSh1
import Derived.Deep.QuietTactic
import Derived.BigQuiet
import Derived.Deep.RegionWith
namespace Go.Proofs.YteneagnhihcljaaGreatDoor
open Go.RowKit
set_option linter.unusedVariables false
set_option linter.unusedSimpArgs false

theorem bestL_bd (lns : List Ln) (t : ByteArray) (i : Nat) : ∀ (f k : Nat) (b : Int × Int), 0 ≤ b.1 → (i : Int) ≤ b.2 → (b.2 ≤ i ∨ b.2 ≤ t.size) → 0 ≤ (bestL lns t i f k b).1 ∧ (i : Int) ≤ (bestL lns t i f k b).2 ∧ ((bestL lns t i f k b).2 ≤ i ∨ (bestL lns t i f k b).2 ≤ t.size)
  | 0, _, b, h1, h2, h3 => ⟨h1, h2, h3⟩
  | f + 1, k, b, h1, h2, h3 => by
    unfold bestL; split
    · rename_i x hx
      have := longF_bd x.ns x.st x.en t i
      refine bestL_bd lns t i f (k + 1) _ ?_ ?_ ?_ <;> split <;> (try dsimp only) <;> omega
    · exact ⟨h1, h2, h3⟩
theorem bestF_bd (lns : List Ln) (t : ByteArray) (i : Nat) : 0 ≤ (bestF lns t i).1 ∧ (i : Int) ≤ (bestF lns t i).2 ∧ ((bestF lns t i).2 ≤ i ∨ (bestF lns t i).2 ≤ t.size) := bestL_bd lns t i _ _ _ (by simp) (by simp) (by simp)

structure Tk where
  r : Int
  a : Int
  b : Int
def Tk.cells (x : Tk) : List Value := [.int .i64 x.r, .int .i64 x.a, .int .i64 x.b]
def cutL (lns : List Ln) (t : ByteArray) : Nat → Nat → List Tk → List Tk × Int × Int
  | 0, _, _ => ([], 9, 0)
  | f + 1, i, toks =>
    if i < t.size then
      if (bestF lns t i).2 ≤ i then ([], 9, i)
      else cutL lns t f (bestF lns t i).2.toNat (if skipB lns (bestF lns t i).1 then toks else toks ++ [⟨(bestF lns t i).1, i, (bestF lns t i).2⟩])
    else (toks, 0, 0)
def cutF (lns : List Ln) (t : ByteArray) : List Tk × Int × Int := cutL lns t (t.size + 1) 0 []
abbrev ToksAt := RowAt Tk.cells 3 78

theorem infoTok : (Tryz.prog.info? 78).map (fun i => (i.zero, i.size, i.bytes)) = some (some (.agg (tokArr 0 0 0)), 3, 24) := by kernel_rfl
theorem infoTok' : ∃ i, Tryz.prog.info? 78 = some i ∧ i.zero = some (.agg (tokArr 0 0 0)) ∧ i.size = 3 ∧ i.bytes = 24 := by
  have h := infoTok
  cases hq : Tryz.prog.info? 78 with
  | none => simp [hq] at h
  | some i => simp [hq] at h; exact ⟨i, rfl, h.1, h.2.1, h.2.2⟩

set_option maxRecDepth 20000 in
set_option maxHeartbeats 4000000 in
theorem cut_any (w : World) (v : Value) (xs : List LV) (t : ByteArray) (hL : LinesAt w v xs) (hn : xs.length ≤ 1000) (ht : t.size ≤ 200) :
    Calls Tryz.prog 12 #[v, .string t] w fun e w' => ∃ v', e = .returned (.tuple #[v', .int .i64 (cutF (xs.map LV.ln) t).2.1, .int .i64 (cutF (xs.map LV.ln) t).2.2]) ∧ Fresh w w' ∧ ToksAt w' v' (cutF (xs.map LV.ln) t).1 := by
  obtain ⟨ao, cap, hv⟩ := own_form hL.own
  subst hv
  have HL := hid hL
  obtain ⟨i0, hi0, hz0, hz1, hz2⟩ := infoTok'
  generalize hR : cutF (xs.map LV.ln) t = R
  have HR : Hid (cutL (xs.map LV.ln) t (t.size + 1) 0 [] = R) := hR
  clear hL hR
  go_enter Tryz.func12, Tryz.ntmps12
  go_wp2
  go_loopw [7, 8] (fun x7 x8 wr => ∃ (f i : Nat) (ts : List Tk), x8 = .int .i64 i ∧ cutL (xs.map LV.ln) t f i ts = R ∧ t.size + 1 ≤ f + i ∧ i ≤ t.size ∧ ts.length ≤ i ∧ wr.ownsRow w.heap.size 78 3 x7 ts.length (flatC Tk.cells ts) ∧ Fresh w wr)
      (fun _ x _ => 201 - (intOf x).toNat)
  case atStart => exact ⟨_, 0, [], rfl, HR.out, by omega, by omega, by simp, World.ownsRow_nil _ _ _ _, Mod.refl _ _⟩
  case round =>
    obtain ⟨f, i, ts, rfl, hR, hfu, hi, hts, hown, hfr⟩ := hrel
    obtain ⟨f, rfl⟩ : ∃ g, f = g + 1 := ⟨f - 1, by omega⟩
    unfold cutL at hR
    have HO := hid hown
    have HOB := hid hown.lt
    obtain ⟨ro, rc, hro⟩ := own_form hown
    clear hown
    subst hro
    by_cases hlt : i < t.size
    · rw [if_pos hlt] at hR
      obtain ⟨b1, b2, b3⟩ := bestF_bd (xs.map LV.ln) t i
      have HL1 := hid (HL.out.fresh hfr)
      have LG := hid (lexLongest_any wr _ xs t i HL1.out hn ht (by omega))
      generalize bestF (xs.map LV.ln) t i = bf at hR LG b1 b2 b3
      obtain ⟨br, bt⟩ := bf
      dsimp only at hR LG b1 b2 b3
      obtain ⟨r, rfl⟩ : ∃ r : Nat, br = r := ⟨br.toNat, by omega⟩
      obtain ⟨to, rfl⟩ : ∃ r : Nat, bt = r := ⟨bt.toNat, by omega⟩
      by_cases hle : (to : Int) ≤ i
      · rw [if_pos hle] at hR
        have HRR := hid hR
        clear hR
        go_wp2_with (first
          | (go_at_call 28; refine LG.out.mono ?_; rintro e w2 ⟨rfl, hf2⟩))
        go_ret3
        exact ⟨.slice none 0 0, by rw [← HRR.out]; rfl, (hfr.trans hf2).alloc _, by rw [← HRR.out]; exact RowAt.nil _ _ _ _⟩
      · rw [if_neg hle] at hR
        simp only [Int.toNat_natCast] at hR
        have HME : Hid (201 - (intOf (.int .i64 (to : Int))).toNat < 201 - (intOf (.int .i64 (i : Int))).toNat) := by unfold Hid; simp [intOf]; omega
        have hto : to ≤ t.size := by omega
        have hit : i < to := by omega
        have hle' : (i : Int) < to := by omega
        have SKP := hid (fun w hL => isSkipped_any w (.slice ao xs.length cap) xs r hL hn)
        clear b3 hle
        cases hsk : skipB (xs.map LV.ln) r
        · rw [hsk] at hR
          simp only [Bool.false_eq_true, if_false] at hR
          rw [hsk] at SKP
          have HRR := hid hR
          clear hR
          go_wp2_with (first
            | (go_at_call 28; refine LG.out.mono ?_; rintro e w2 ⟨rfl, hf2⟩; have HL2 := hid ((HL1.out.fresh hf2).fresh ((Mod.refl _ w2).alloc (.cells (tokArr r i to) 78 (0, 0)))); have hz : wr.heap.size ≤ w2.heap.size := hf2.size; have HO1 := hid (ownsRow_other HO.out (fun g hg => hf2.block g (HOB.out g hg).2 (fun x => x))))
            | (go_at_call 29; refine (SKP.out _ HL2.out).mono ?_; rintro e w' ⟨rfl, hw⟩; rw [hw]; clear hw)
            | (at_builtin; refine wpList_append_mine _ rfl _ _ 24 rfl w.heap.size 78 i0 _ 3 24 Tryz.underlying24 hi0 hz0 hz1 hz2 rfl (by decide) _ _ _ rfl ((HO1.out.alloc _).alloc _) ⟨w2.heap.size + 1, 0, none⟩ 1 1 (Tk.cells ⟨r, i, to⟩) rfl rfl ?c1 ?c2 ?c3 ?c4 ?c5 ?_))
          case c1 => exact new_cells2 rfl
          case c2 => intro u hu; simp [Tk.cells] at hu; rcases hu with rfl | rfl | rfl <;> rfl
          case c3 => unfold maxLen; omega
          case c4 => omega
          case c5 => have := hfr.size; simp; omega
          intro v' w3 hown3 hgrow hblk
          have fr3 : Fresh w w3 := Mod.grown (S := fun _ => False) (((hfr.trans hf2).alloc _).alloc _) hgrow (fun k hk hlt => by have := (HOB.out k hk).1; omega)
          have q1 : w3.heap[w2.heap.size]? = some (.cells (tokArr r i to) 78 (0, 0)) := by
            rw [hgrow.block _ (by simp; omega) (fun e => by have := (HOB.out _ e.symm).2; omega)]
            exact heap_alloc_prev (heap_alloc_at _ _)
          have k5 := cellOf q1
          have HO3 := hid hown3
          clear hown3 hgrow hblk q1
          go_wp2
          go_roundw
          case rel =>
            refine ⟨f, to, ts ++ [⟨r, i, to⟩], rfl, HRR.out, by omega, by omega, by simp; omega, ?_, fr3⟩
            rw [flat_snoc, List.length_append, List.length_singleton]; exact HO3.out
          case measure => exact HME.out
        · rw [hsk] at hR
          simp only [if_true] at hR
          rw [hsk] at SKP
          have HRR := hid hR
          clear hR
          go_wp2_with (first
            | (go_at_call 28; refine LG.out.mono ?_; rintro e w2 ⟨rfl, hf2⟩; have HL2 := hid ((HL1.out.fresh hf2).fresh ((Mod.refl _ w2).alloc (.cells (tokArr r i to) 78 (0, 0)))); have hz : wr.heap.size ≤ w2.heap.size := hf2.size; have HO1 := hid (ownsRow_other HO.out (fun g hg => hf2.block g (HOB.out g hg).2 (fun x => x))))
            | (go_at_call 29; refine (SKP.out _ HL2.out).mono ?_; rintro e w' ⟨rfl, hw⟩; rw [hw]; clear hw))
          go_roundw
          case rel => exact ⟨f, to, ts, rfl, HRR.out, by omega, by omega, by omega, HO1.out.alloc _, (hfr.trans hf2).alloc _⟩
          case measure => exact HME.out
    · rw [if_neg hlt] at hR
      have HRR := hid hR
      clear hR
      go_wp2
      go_ret3
      refine ⟨_, by rw [← HRR.out]; rfl, hfr, ?_⟩
      rw [← HRR.out]
      exact ⟨ownsRow_base HO.out (Nat.zero_le _), fun x _ => rfl⟩

end Go.Proofs.YteneagnhihcljaaGreatDoor
namespace Go.Proofs.YteneagnhihcljaaGreatDoor
open Go.RowKit
set_option linter.unusedVariables false
set_option linter.unusedSimpArgs false

theorem atB_at (s : ByteArray) (j : Nat) (h : j < s.size) : atB s j = ((s[j].toNat : Nat) : Int) := by simp [atB, h]
/-- how many bytes stand ahead of the first that is a or b -/
def upToF (s : ByteArray) (a b : Int) : Nat := (List.range s.size).findIdx (fun j : Nat => (atB s j == a) || (atB s j == b))
def findF (l : List ByteArray) (s : ByteArray) : Int := if l.findIdx (fun x => x.toList == s.toList) < l.length then (l.findIdx (fun x => x.toList == s.toList) : Int) else -1

end Go.Proofs.YteneagnhihcljaaGreatDoor
namespace Go.Proofs.YteneagnhihcljaaGreatDoor
open Go.RowKit
set_option linter.unusedVariables false
set_option linter.unusedSimpArgs false

def wordsL (s0 : ByteArray) : Nat → Nat → List ByteArray → List ByteArray
  | 0, _, acc => acc
  | f + 1, k, acc =>
    if k < s0.size then
      wordsL s0 f (if k + upToF (s0.extract k s0.size) 32 32 < s0.size then k + upToF (s0.extract k s0.size) 32 32 + 1 else k + upToF (s0.extract k s0.size) 32 32)
        (if 0 < upToF (s0.extract k s0.size) 32 32 then acc ++ [s0.extract k (k + upToF (s0.extract k s0.size) 32 32)] else acc)
    else acc
def wordsF (s0 : ByteArray) : List ByteArray := wordsL s0 (s0.size + 1) 0 []
theorem ext_all (s : ByteArray) : s.extract 0 s.size = s := by
  apply ByteArray.ext; simp [ByteArray.data_extract]

end Go.Proofs.YteneagnhihcljaaGreatDoor
namespace Go.Proofs.YteneagnhihcljaaGreatDoor
open Go.RowKit
set_option linter.unusedVariables false
set_option linter.unusedSimpArgs false

/-- What the lines of a specification say. -/
structure LO where
  rules : List ByteArray
  skip : List Bool
  heads : List ByteArray
  head : List Int
  names : List (List ByteArray)
  syms : List (List Int)
end Go.Proofs.YteneagnhihcljaaGreatDoor
namespace Go.Proofs.YteneagnhihcljaaGreatDoor
open Go.RowKit
set_option linter.unusedVariables false
set_option linter.unusedSimpArgs false

theorem btl_loop (s : ByteArray) : ∀ (f i : Nat) (acc : List UInt8), s.size - i ≤ f → ByteArray.toList.loop s i acc = acc.reverse ++ (s.data.toList.drop i) := by
  intro f
  induction f with
  | zero =>
    intro i acc h
    unfold ByteArray.toList.loop
    have : ¬ i < s.size := by omega
    rw [if_neg this, List.drop_eq_nil_of_le (by have : s.size = s.data.size := rfl; simp; omega)]; simp
  | succ f ih =>
    intro i acc h
    unfold ByteArray.toList.loop
    by_cases hi : i < s.size
    · rw [if_pos hi, ih (i + 1) _ (by omega)]
      have hi' : i < s.data.toList.length := by have : s.size = s.data.size := rfl; simp; omega
      rw [List.drop_eq_getElem_cons hi']
      have : s.get! i = s.data.toList[i] := by
        have hsz : i < s.data.size := hi
        simp only [ByteArray.get!, Array.getElem_toList]
        exact getElem!_pos s.data i hsz
      rw [this]; simp
    · rw [if_neg hi, List.drop_eq_nil_of_le (by have : s.size = s.data.size := rfl; simp; omega)]; simp
theorem btl (s : ByteArray) : s.toList = s.data.toList := by
  unfold ByteArray.toList; rw [btl_loop s s.size 0 [] (by omega)]; simp
section
variable {w W w1 : World} {b : Nat} {x : LO} {v0 v1 v2 v3 v4 v5 v' : Value} {nv sv : List Value}
abbrev UpB (b : Nat) : World → World → Prop := Mod (fun k => b ≤ k)
end

def takeF (s : ByteArray) (x : LO) : LO :=
  if s.size = 0 then x
  else if 97 ≤ atB s 0 ∧ atB s 0 ≤ 122 then
    { x with rules := x.rules ++ [s.extract 0 (upToF s 61 126)], skip := x.skip ++ [decide (upToF s 61 126 < s.size) && (atB s (upToF s 61 126) == 126)] }
  else
    { x with
      heads := if findF x.heads (s.extract 0 (upToF s 58 58)) < 0 then x.heads ++ [s.extract 0 (upToF s 58 58)] else x.heads
      head := x.head ++ [if findF x.heads (s.extract 0 (upToF s 58 58)) < 0 then (x.heads.length : Int) else findF x.heads (s.extract 0 (upToF s 58 58))]
      names := x.names ++ [(wordsF (s.extract (upToF s 58 58) s.size)).drop 1] }

attribute [local go_sem ↓] apS_rule
end Go.Proofs.YteneagnhihcljaaGreatDoor
namespace Go.Proofs.YteneagnhihcljaaGreatDoor
open Go.RowKit
set_option linter.unusedVariables false
set_option linter.unusedSimpArgs false

attribute [local go_sem ↓] apS_rule
end Go.Proofs.YteneagnhihcljaaGreatDoor
namespace Go.Proofs.YteneagnhihcljaaGreatDoor
open Go.RowKit
set_option linter.unusedVariables false
set_option linter.unusedSimpArgs false

def lineL (s0 : ByteArray) : Nat → Nat → LO → LO
  | 0, _, x => x
  | f + 1, k, x =>
    if k < s0.size then
      lineL s0 f (if k + upToF (s0.extract k s0.size) 10 10 < s0.size then k + upToF (s0.extract k s0.size) 10 10 + 1 else k + upToF (s0.extract k s0.size) 10 10)
        (takeF (s0.extract k (k + upToF (s0.extract k s0.size) 10 10)) x)
    else x
def zeroLO : LO := ⟨[], [], [], [], [], []⟩
def linesX (s : ByteArray) : LO := lineL s (s.size + 1) 0 zeroLO
end Go.Proofs.YteneagnhihcljaaGreatDoor
namespace Go.Proofs.YteneagnhihcljaaGreatDoor
open Go.RowKit
set_option linter.unusedVariables false
set_option linter.unusedSimpArgs false

section
variable {w : World} {b : Nat} {x : LO} {v0 v1 v2 v3 v4 v5 : Value} {nv sv : List Value}
end
end Go.Proofs.YteneagnhihcljaaGreatDoor
namespace Go.Proofs.YteneagnhihcljaaGreatDoor
open Go.RowKit
set_option linter.unusedVariables false
set_option linter.unusedSimpArgs false

end Go.Proofs.YteneagnhihcljaaGreatDoor
namespace Go.Proofs.YteneagnhihcljaaGreatDoor
open Go.RowKit
set_option linter.unusedVariables false
set_option linter.unusedSimpArgs false

end Go.Proofs.YteneagnhihcljaaGreatDoor
namespace Go.Proofs.YteneagnhihcljaaGreatDoor
open Go.RowKit
set_option linter.unusedVariables false
set_option linter.unusedSimpArgs false

end Go.Proofs.YteneagnhihcljaaGreatDoor
namespace Go.Proofs.YteneagnhihcljaaGreatDoor
open Go.RowKit
set_option linter.unusedVariables false
set_option linter.unusedSimpArgs false

end Go.Proofs.YteneagnhihcljaaGreatDoor
namespace Go.Proofs.YteneagnhihcljaaGreatDoor
open Go.RowKit
set_option linter.unusedVariables false
set_option linter.unusedSimpArgs false

end Go.Proofs.YteneagnhihcljaaGreatDoor
namespace Go.Proofs.YteneagnhihcljaaGreatDoor
open Go.RowKit
set_option linter.unusedVariables false
set_option linter.unusedSimpArgs false

/-- how far rule x reaches from i -/
abbrev far (x : Ln) (t : ByteArray) (i : Nat) : Int := longF x.ns x.st x.en t i
end Go.Proofs.YteneagnhihcljaaGreatDoor
namespace Go.Proofs.YteneagnhihcljaaGreatDoor
open Go.RowKit
set_option linter.unusedVariables false
set_option linter.unusedSimpArgs false

/-- The bytes from i up to j are printed ones. -/
def Clean (s : ByteArray) (i j : Int) : Prop := ∀ k, i ≤ k → k < j → 32 ≤ atB s k
theorem Clean.one {s : ByteArray} {i : Int} (h : 32 ≤ atB s i) : Clean s i (i + 1) := fun k h1 h2 => by
  have : k = i := by omega
  subst this; exact h
theorem Clean.trans {s : ByteArray} {i j k : Int} (h : Clean s i j) (h2 : Clean s j k) : Clean s i k := fun m h3 h4 => by
  by_cases e : m < j
  · exact h m h3 e
  · exact h2 m (by omega) h4
theorem Clean.nil {s : ByteArray} {i : Int} : Clean s i i := fun k h1 h2 => by omega
theorem pr_ge {c : Int} (h : isPrB c = true) : 32 ≤ c := by simp [isPrB] at h; omega
theorem plain_ge {c : Int} (h : isPlainB c = true) : 32 ≤ c := by simp [isPlainB] at h; exact pr_ge h.2

theorem rMark_clean {s : ByteArray} {i : Int} (h : (rMark s i).2.2 = true) : Clean s i (rMark s i).2.1 := by
  unfold rMark at h ⊢
  split
  · rename_i e; exact Clean.one (by omega)
  · split
    · rename_i e; exact Clean.one (by omega)
    · split
      · rename_i h1 h2 h3; rw [if_neg h1, if_neg h2, if_pos h3] at h; cases h
      · rename_i h3
        apply Clean.one
        simp at h3
        exact pr_ge h3.1.1.1
theorem rEnd_clean {s : ByteArray} {i : Int} (h : (rEnd s i).2.2 = true) : Clean s i (rEnd s i).2.1 := by
  unfold rEnd at h ⊢
  split
  · rename_i e
    rw [if_pos e] at h
    exact (Clean.one (by omega)).trans (rMark_clean h)
  · rename_i e
    rw [if_neg e] at h
    split
    · rename_i e2; rw [if_pos e2] at h; cases h
    · rename_i e2
      rw [if_neg e2] at h
      split
      · rename_i e3; rw [if_pos e3] at h; cases h
      · rename_i e3
        exact Clean.one (pr_ge (by simpa using e3))
theorem rRange_clean {s : ByteArray} {i : Int} (h : (rRange s i).2.2.2 = true) : Clean s i (rRange s i).2.2.1 := by
  unfold rRange at h ⊢
  split
  · rename_i e; rw [if_pos e] at h; cases h
  · rename_i e
    rw [if_neg e] at h
    have c1 := rEnd_clean (s := s) (i := i) (by simpa using e)
    split
    · exact c1
    · rename_i e2
      rw [if_neg e2] at h
      split
      · rename_i e3; rw [if_pos e3] at h; cases h
      · rename_i e3
        rw [if_neg e3] at h
        have c2 := rEnd_clean (s := s) (i := (rEnd s i).2.1 + 1) (by simpa using e3)
        split
        · rename_i e4; rw [if_pos e4] at h; cases h
        · exact (c1.trans (Clean.one (by omega))).trans c2
theorem rEndsL_clean {s : ByteArray} {i j : Int} : ∀ (f : Nat) (next : Int) (ws : List Int), Clean s j next → (rEndsL s i f next ws).2.2 = true → Clean s j (rEndsL s i f next ws).2.1
  | 0, next, ws, hc, h => by simp [rEndsL] at h
  | f + 1, next, ws, hc, h => by
    unfold rEndsL at h ⊢
    split
    · rename_i e
      rw [if_pos e] at h
      split
      · rename_i e2; rw [if_pos e2] at h; cases h
      · rename_i e2
        rw [if_neg e2] at h
        exact rEndsL_clean f _ _ (hc.trans (rRange_clean (by simpa using e2))) h
    · rename_i e
      have : atB s next = 93 := by
        by_cases h1 : atB s next = 93
        · exact h1
        · exact absurd (.inr h1) e
      exact hc.trans (Clean.one (by omega))
theorem rBr_clean {s : ByteArray} {i : Int} (h : (rBr s i).2.2 = true) : Clean s i (rBr s i).2.1 := by
  unfold rBr at h ⊢
  split
  · rename_i e
    rw [if_pos e] at h
    exact rEndsL_clean _ _ _ (Clean.one (by omega)) h
  · rename_i e
    rw [if_neg e] at h
    exact rEndsL_clean _ _ _ Clean.nil h
theorem rSet_clean {s : ByteArray} {i : Int} (h : (rSet s i).2.2 = true) : Clean s i (rSet s i).2.1 := by
  unfold rSet at h ⊢
  split
  · exact Clean.one (by omega)
  · rename_i e1
    rw [if_neg e1] at h
    split
    · rename_i e
      rw [if_pos e] at h
      exact (Clean.one (by omega)).trans (rBr_clean h)
    · rename_i e2
      rw [if_neg e2] at h
      split
      · rename_i e
        rw [if_pos e] at h
        exact (Clean.one (by omega)).trans (rMark_clean h)
      · rename_i e3
        rw [if_neg e3] at h
        split
        · rename_i e; rw [if_pos e] at h; cases h
        · rename_i e; exact Clean.one (plain_ge (by simpa using e))

def CleanF (s : ByteArray) (f : Int → List Node → PR) : Prop := ∀ (i : Int) (ns : List Node), (f i ns).ok = true → Clean s i (f i ns).next
theorem mark_ge {c : Int} (h : isMark c = true) : 32 ≤ c := by simp [isMark] at h; omega
theorem clean_pieceL {s : ByteArray} {i : Int} : ∀ (f : Nat) (r : PR), (r.ok = true → Clean s i r.next) → (rPieceL s f r).ok = true → Clean s i (rPieceL s f r).next
  | 0, r, hr, h => hr h
  | f + 1, r, hr, h => by
    unfold rPieceL at h ⊢
    split
    · rename_i e
      rw [if_pos e] at h
      simp only [Bool.and_eq_true] at e
      exact clean_pieceL f _ (fun _ => (hr e.1).trans (Clean.one (mark_ge e.2))) h
    · rename_i e
      rw [if_neg e] at h
      exact hr h
theorem clean_piece {a : Int → List Node → PR} {s : ByteArray} (ha : CleanF s a) : CleanF s (rPiece a s) := fun i ns h => clean_pieceL _ _ (ha i ns) h
theorem clean_branchL {p : Int → List Node → PR} {s : ByteArray} (hp : CleanF s p) {i : Int} : ∀ (f : Nat) (r : PR), (r.ok = true → Clean s i r.next) → (rBranchL p s f r).ok = true → Clean s i (rBranchL p s f r).next
  | 0, r, hr, h => hr h
  | f + 1, r, hr, h => by
    unfold rBranchL at h ⊢
    split
    · rename_i e
      rw [if_pos e] at h
      simp only [Bool.and_eq_true] at e
      refine clean_branchL hp f _ (fun hj => ?_) h
      unfold joinR at hj ⊢
      split
      · rename_i e2; exact (hr e.1).trans (hp _ _ e2)
      · rename_i e2; rw [if_neg e2] at hj; cases hj
    · rename_i e
      rw [if_neg e] at h
      exact hr h
theorem clean_branch {p : Int → List Node → PR} {s : ByteArray} (hp : CleanF s p) : CleanF s (rBranch p s) := fun i ns h => clean_branchL hp _ _ (hp i ns) h
theorem clean_choiceL {p : Int → List Node → PR} {s : ByteArray} (hp : CleanF s p) {i : Int} : ∀ (f : Nat) (r : PR), (r.ok = true → Clean s i r.next) → (rChoiceL p s f r).ok = true → Clean s i (rChoiceL p s f r).next
  | 0, r, hr, h => hr h
  | f + 1, r, hr, h => by
    unfold rChoiceL at h ⊢
    split
    · rename_i e
      rw [if_pos e] at h
      simp only [Bool.and_eq_true, beq_iff_eq] at e
      refine clean_choiceL hp f _ (fun hj => ?_) h
      unfold eitherR at hj ⊢
      split
      · rename_i e2; exact ((hr e.1).trans (Clean.one (by omega))).trans (hp _ _ e2)
      · rename_i e2; rw [if_neg e2] at hj; cases hj
    · rename_i e
      rw [if_neg e] at h
      exact hr h
theorem clean_choice {p : Int → List Node → PR} {s : ByteArray} (hp : CleanF s p) : CleanF s (rChoice p s) := fun i ns h => clean_choiceL hp _ _ (hp i ns) h
theorem clean_group {c : Int → List Node → PR} {s : ByteArray} (hc : CleanF s c) (i : Int) (ns : List Node) (hi : atB s i = 40) (h : (rGroup c s i ns).ok = true) : Clean s i (rGroup c s i ns).next := by
  unfold rGroup at h ⊢
  split
  · rename_i e; rw [if_pos e] at h; cases h
  · rename_i e
    rw [if_neg e] at h
    split
    · rename_i e2; rw [if_pos e2] at h; cases h
    · rename_i e2
      exact ((Clean.one (by omega)).trans (hc _ _ (by simpa using e))).trans (Clean.one (by omega))
theorem clean_atom' {g : Int → List Node → PR} {s : ByteArray} (hg : ∀ i ns, atB s i = 40 → (g i ns).ok = true → Clean s i (g i ns).next) : CleanF s (rAtom g s) := by
  intro i ns h
  unfold rAtom at h ⊢
  split
  · rename_i e; rw [if_pos e] at h; exact hg i ns e h
  · rename_i e
    rw [if_neg e] at h
    split
    · rename_i e2; rw [if_pos e2] at h; cases h
    · rename_i e2; exact rSet_clean (by simpa using e2)
theorem clean_gK (s : ByteArray) : ∀ (k : Nat) (i : Int) (ns : List Node), atB s i = 40 → (gK s k i ns).ok = true → Clean s i (gK s k i ns).next
  | 0, i, ns, hi, h => by simp [gK] at h
  | k + 1, i, ns, hi, h => clean_group (clean_choice (clean_branch (clean_piece (clean_atom' (clean_gK s k))))) i ns hi h
theorem rRead_clean {s : ByteArray} {i : Int} (h : (rRead s i).ok = true) : Clean s i (rRead s i).next :=
  clean_choice (clean_branch (clean_piece (clean_atom' (clean_gK s 6)))) i [] h
end Go.Proofs.YteneagnhihcljaaGreatDoor
namespace Go.Proofs.YteneagnhihcljaaGreatDoor
open Go.RowKit
set_option linter.unusedVariables false
set_option linter.unusedSimpArgs false

theorem atB_ext (s : ByteArray) (a e k : Nat) (he : e ≤ s.size) (hk : a + k < e) : atB (s.extract a e) (k : Nat) = atB s ((a : Int) + k) := by
  have h1 : k < (s.extract a e).size := by rw [ByteArray.size_extract]; omega
  have h2 : a + k < s.size := by omega
  rw [atB_at _ k h1]
  have : ((a : Int) + (k : Int)) = ((a + k : Nat) : Int) := by omega
  rw [this, atB_at s (a + k) h2, ByteArray.getElem_extract]
theorem upTo_at (s : ByteArray) (a e c : Nat) (x y : Int) (he : e ≤ s.size) (hc : a + c ≤ e) (h1 : ∀ k : Nat, k < c → atB s ((a : Int) + k) ≠ x ∧ atB s ((a : Int) + k) ≠ y)
    (h2 : a + c = e ∨ atB s ((a : Int) + c) = x ∨ atB s ((a : Int) + c) = y) : upToF (s.extract a e) x y = c := by
  have hsz : (s.extract a e).size = e - a := by rw [ByteArray.size_extract]; omega
  unfold upToF
  rw [hsz]
  by_cases hce : a + c = e
  · have hl : (List.range (e - a)).length = c := by simp; omega
    rw [List.findIdx_eq_length_of_false]
    · exact hl
    · intro j hj
      have hj' : j < e - a := by simpa using hj
      rw [atB_ext s a e j he (by omega)]
      have := h1 j (by omega)
      simp [this.1, this.2]
  · rw [List.findIdx_eq (by simp; omega)]
    simp only [List.getElem_range]
    refine ⟨?_, ?_⟩
    · rw [atB_ext s a e c he (by omega)]
      rcases h2 with h2 | h2 | h2
      · omega
      · simp [h2]
      · simp [h2]
    · intro j hj
      rw [atB_ext s a e j he (by omega)]
      have := h1 j hj
      simp [this.1, this.2]

/-- A word of m letters stands at i; its eight bytes. -/
structure WordAt (s : ByteArray) (i : Int) (m : Nat) (d : Wd) : Prop where
  pos : 1 ≤ m
  le : m ≤ 8
  first : isSmallB (atB s i) = true ∨ isCapB (atB s i) = true
  rest : ∀ k : Nat, 1 ≤ k → k < m → isSmallB (atB s (i + k)) = true
  ls : d.ls = (List.range 8).map (fun k : Nat => if k < m then atB s (i + k) else 0)
  place : d.place = i
theorem small_ge {c : Int} (h : isSmallB c = true) : 65 ≤ c ∧ c ≤ 122 := by have := small_bd h; omega
theorem cap_ge {c : Int} (h : isCapB c = true) : 65 ≤ c ∧ c ≤ 122 := by have := cap_bd h; omega
theorem WordAt.byte {s : ByteArray} {i : Int} {m : Nat} {d : Wd} (h : WordAt s i m d) (k : Nat) (hk : k < m) : 65 ≤ atB s (i + k) ∧ atB s (i + k) ≤ 122 := by
  by_cases e : k = 0
  · subst e
    have := h.first
    simp only [Int.natCast_zero, Int.add_zero] at *
    rcases this with h | h
    · exact small_ge h
    · exact cap_ge h
  · exact small_ge (h.rest k (by omega) hk)
theorem pad_set (s : ByteArray) (i : Int) (n : Nat) (hn : n < 8) :
    ((List.range 8).map (fun k : Nat => if k < n then atB s (i + k) else 0)).set n (atB s (i + n)) = (List.range 8).map (fun k : Nat => if k < n + 1 then atB s (i + k) else 0) := by
  apply List.ext_getElem
  · simp
  · intro j h1 h2
    simp only [List.length_map, List.length_range] at h2
    rw [List.getElem_set]
    simp only [List.getElem_map, List.getElem_range]
    by_cases e : n = j
    · subst e; simp
    · rw [if_neg e]
      by_cases e2 : j < n
      · rw [if_pos e2, if_pos (by omega)]
      · rw [if_neg e2, if_neg (by omega)]
theorem rWordL_at (s : ByteArray) (i : Int) : ∀ (f n : Nat) (ls : List Int), 1 ≤ n → n ≤ 8 → 9 ≤ f + n → ls = (List.range 8).map (fun k : Nat => if k < n then atB s (i + k) else 0) →
    (∀ k : Nat, 1 ≤ k → k < n → isSmallB (atB s (i + k)) = true) →
    ∃ m : Nat, 1 ≤ m ∧ m ≤ 8 ∧ (rWordL s i f n ls).2 = i + m ∧ (rWordL s i f n ls).1 = (List.range 8).map (fun k : Nat => if k < m then atB s (i + k) else 0) ∧ ∀ k : Nat, 1 ≤ k → k < m → isSmallB (atB s (i + k)) = true
  | 0, n, ls, h1, h2, h3, h4, h5 => ⟨n, h1, h2, rfl, h4, h5⟩
  | f + 1, n, ls, h1, h2, h3, h4, h5 => by
    unfold rWordL
    split
    · rename_i hn
      split
      · rename_i hsm
        refine rWordL_at s i f (n + 1) _ (by omega) (by omega) (by omega) ?_ ?_
        · rw [h4]; exact pad_set s i n hn
        · intro k hk1 hk2
          by_cases e : k = n
          · subst e; exact hsm
          · exact h5 k hk1 (by omega)
      · exact ⟨n, h1, h2, rfl, h4, h5⟩
    · rename_i hn
      have : n = 8 := by omega
      subst this
      exact ⟨8, by omega, by omega, rfl, h4, h5⟩
theorem rWord_at (s : ByteArray) (i : Int) (h : (rWord s i).2.2 = true) : ∃ m : Nat, WordAt s i m (rWord s i).1 ∧ (rWord s i).2.1 = i + m := by
  unfold rWord at h ⊢
  split
  · rename_i e; rw [if_pos e] at h; cases h
  · rename_i e
    obtain ⟨m, h1, h2, h3, h4, h5⟩ := rWordL_at s i 9 1 (zero8.set 0 (atB s i)) (by omega) (by omega) (by omega) (by simp [zero8, List.range, List.range.loop]) (by intro k h1 h2; omega)
    refine ⟨m, ⟨h1, h2, ?_, h5, h4, rfl⟩, h3⟩
    simp at e
    cases hs : isSmallB (atB s i)
    · exact .inr (e hs)
    · exact .inl rfl
/-- Two words with the same eight bytes are the same. -/
theorem word_same {s : ByteArray} {a b m n : Nat} {d d' : Wd} (h : WordAt s a m d) (h' : WordAt s b n d') (ha : a + m ≤ s.size) (hb : b + n ≤ s.size) (hl : d.ls = d'.ls) : (s.extract a (a + m)).toList = (s.extract b (b + n)).toList := by
  have hk : ∀ k : Nat, k < 8 → (if k < m then atB s ((a : Int) + k) else 0) = (if k < n then atB s ((b : Int) + k) else 0) := by
    intro k hk
    have e1 : d.ls[k]? = some (if k < m then atB s ((a : Int) + k) else 0) := by rw [h.ls]; simp [hk]
    have e2 : d'.ls[k]? = some (if k < n then atB s ((b : Int) + k) else 0) := by rw [h'.ls]; simp [hk]
    rw [hl, e2] at e1
    simpa using e1.symm
  have hmn : m = n := by
    have := h.le; have := h'.le
    by_cases e1 : m < n
    · have h1 := hk m (by omega)
      rw [if_neg (by omega), if_pos e1] at h1
      have := h'.byte m e1; omega
    · by_cases e2 : n < m
      · have h1 := hk n (by omega)
        rw [if_pos e2, if_neg (by omega)] at h1
        have := h.byte n e2; omega
      · omega
  subst hmn
  rw [btl, btl]
  have hA : (s.extract a (a + m)).size = m := by rw [ByteArray.size_extract]; omega
  have hB : (s.extract b (b + m)).size = m := by rw [ByteArray.size_extract]; omega
  apply List.ext_getElem
  · simp only [Array.length_toList]; exact hA.trans hB.symm
  · intro j h1 h2
    have hj : j < m := by rw [Array.length_toList] at h1; exact hA ▸ h1
    have h3 := hk j (by have := h.le; omega)
    rw [if_pos hj, if_pos hj] at h3
    have e1 := atB_ext s a (a + m) j ha (by omega)
    have e2 := atB_ext s b (b + m) j hb (by omega)
    rw [← e1, ← e2, atB_at _ j (by omega), atB_at _ j (by omega)] at h3
    simp only [Array.getElem_toList]
    have h4 : (s.extract a (a + m))[j].toNat = (s.extract b (b + m))[j].toNat := by omega
    exact UInt8.toNat_inj.1 h4
end Go.Proofs.YteneagnhihcljaaGreatDoor
