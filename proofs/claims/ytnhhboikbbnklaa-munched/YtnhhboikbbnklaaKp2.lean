import Derived.Test.YtnhhboikbbnklaaKp1
namespace Go.Proofs.Ytnhhboikbbnklaa
open Go.RowKit
set_option linter.unusedVariables false
set_option linter.unusedSimpArgs false

theorem ext_ext (s : ByteArray) (k n m : Nat) (hk : k ≤ s.size) (h : m ≤ s.size - k) : (s.extract k s.size).extract n m = s.extract (k + n) (k + m) := by
  apply ByteArray.ext
  simp only [ByteArray.data_extract, Array.extract_extract]
  congr 1
  have : s.size = s.data.size := rfl
  omega
theorem ext_size (s : ByteArray) (k : Nat) : (s.extract k s.size).size = s.size - k := by
  simp [ByteArray.size_extract]

def wordsL (s0 : ByteArray) : Nat → Nat → List ByteArray → List ByteArray
  | 0, _, acc => acc
  | f + 1, k, acc =>
    if k < s0.size then
      wordsL s0 f (if k + upToF (s0.extract k s0.size) 32 32 < s0.size then k + upToF (s0.extract k s0.size) 32 32 + 1 else k + upToF (s0.extract k s0.size) 32 32)
        (if 0 < upToF (s0.extract k s0.size) 32 32 then acc ++ [s0.extract k (k + upToF (s0.extract k s0.size) 32 32)] else acc)
    else acc
def wordsF (s0 : ByteArray) : List ByteArray := wordsL s0 (s0.size + 1) 0 []
theorem ext_all (s : ByteArray) : s.extract 0 s.size = s := by
  apply ByteArray.ext; simp [ByteArray.data_extract]

theorem infoStr : (Try.prog.info? 9).map (fun i => (i.zero, i.size, i.bytes)) = some (some (.string ⟨#[]⟩), 1, 16) := by kernel_rfl
theorem infoStr' : ∃ i, Try.prog.info? 9 = some i ∧ i.zero = some (.string ⟨#[]⟩) ∧ i.size = 1 ∧ i.bytes = 16 := by
  have h := infoStr
  cases hq : Try.prog.info? 9 with
  | none => simp [hq] at h
  | some i => simp [hq] at h; exact ⟨i, rfl, h.1, h.2.1, h.2.2⟩

set_option maxRecDepth 20000 in
set_option maxHeartbeats 2000000 in
theorem words_any (s0 : ByteArray) (w : World) (hs : s0.size ≤ 900) :
    Calls Try.prog 68 #[.string s0] w fun e w' => ∃ v, e = .returned v ∧ w'.ownsRow w.heap.size 9 1 v (wordsF s0).length ((wordsF s0).map Value.string) ∧ Fresh w w' := by
  obtain ⟨i0, hi0, hz0, hz1, hz2⟩ := infoStr'
  generalize hR : wordsF s0 = R
  have HR : Hid (wordsL s0 (s0.size + 1) 0 [] = R) := hR
  clear hR
  go_enter Try.func68, Try.ntmps68
  go_wp2
  go_loopw [0, 3] (fun x0 x3 wr => ∃ (f k : Nat) (acc : List ByteArray), x0 = .string (s0.extract k s0.size) ∧ wordsL s0 f k acc = R ∧ s0.size + 1 ≤ f + k ∧ k ≤ s0.size ∧ acc.length ≤ k ∧ wr.ownsRow w.heap.size 9 1 x3 acc.length (acc.map Value.string) ∧ Fresh w wr)
      (fun x _ _ => 1001 - (match x with | .string s => s0.size - s.size | _ => 0))
  case atStart => exact ⟨_, 0, [], by rw [ext_all], HR.out, by omega, by omega, by simp, World.ownsRow_nil _ _ _ _, Mod.refl _ _⟩
  case round =>
    obtain ⟨f, k, acc, rfl, hR, hfu, hk, hacc, hown, hfr⟩ := hrel
    obtain ⟨f, rfl⟩ : ∃ g, f = g + 1 := ⟨f - 1, by omega⟩
    unfold wordsL at hR
    have HO := hid hown
    have HOB := hid hown.lt
    obtain ⟨ro, rc, hro⟩ := own_form hown
    clear hown
    subst hro
    have hsz := ext_size s0 k
    have hle := upToF_le (s0.extract k s0.size) 32 32
    have UP := hid (fun w => upTo_any (s0.extract k s0.size) 32 32 w (by omega))
    have EX := hid (fun n m h => ext_ext s0 k n m hk h)
    generalize hn : upToF (s0.extract k s0.size) 32 32 = n at hR hle UP
    clear hn
    obtain ⟨s, hse⟩ : ∃ s, s = s0.extract k s0.size := ⟨_, rfl⟩
    rw [← hse] at hsz hle UP EX
    simp only [← hse]
    have HSE := hid hse
    clear hse
    have HSZ := hid hsz
    by_cases hlt : k < s0.size
    · rw [if_pos hlt] at hR
      have hpos : (0 : Int) < (s.size : Int) := by omega
      clear hsz
      by_cases hn0 : 0 < n
      · rw [if_pos hn0] at hR
        by_cases hend : k + n < s0.size
        · rw [if_pos hend] at hR
          have hns : n < s.size := by have := HSZ.out; omega
          have HRR := hid hR
          clear hR
          go_wp2_with (first
            | (go_at_call 54; refine (UP.out _).mono ?_; rintro e w' ⟨rfl, hw⟩; rw [hw]; clear hw)
            | (at_builtin; refine wpList_append_mine _ rfl _ _ 46 rfl w.heap.size 9 i0 _ 1 16 Try.underlying46 hi0 hz0 hz1 hz2 rfl (by decide) _ _ _ rfl (HO.out.alloc _) ⟨wr.heap.size, 0, none⟩ 1 1 [.string (s.extract 0 n)] rfl rfl ?c1 ?c2 ?c3 ?c4 ?c5 ?_))
          case c1 => exact new_cells rfl
          case c2 => intro u hu; simp at hu; subst hu; rfl
          case c3 => unfold maxLen; omega
          case c4 => omega
          case c5 => have := hfr.size; simp; omega
          intro v' w2 hown2 hgrow hblk
          have fr2 : Fresh w w2 := Mod.grown (S := fun _ => False) (hfr.alloc _) hgrow (fun k hk hlt => by have := (HOB.out k hk).1; omega)
          have HO2 := hid hown2
          clear hown2 hgrow hblk
          go_wp2
          go_roundw
          case rel =>
            have hq := HSZ.out
            refine ⟨f, k + n + 1, acc ++ [s0.extract k (k + n)], ?_, HRR.out, by omega, by omega, by simp; omega, ?_, fr2⟩
            · have := EX.out (k + n + 1 - k) s.size (by omega)
              have e1 : k + (k + n + 1 - k) = k + n + 1 := by omega
              have e2 : k + s.size = s0.size := by omega
              rw [e1, e2] at this
              rw [← this]; congr 2; omega
            · rw [List.map_append, List.length_append, List.length_singleton, List.map_singleton]
              have := EX.out 0 n (by omega)
              rw [Nat.add_zero] at this
              rw [← this]; exact HO2.out
          case measure => have hq := HSZ.out; simp; omega
        · rw [if_neg hend] at hR
          have hns : n = s.size := by have := HSZ.out; omega
          have hns' : ¬ n < s.size := by omega
          have HRR := hid hR
          have HNS := hid hns
          clear hR hns
          go_wp2_with (first
            | (go_at_call 54; refine (UP.out _).mono ?_; rintro e w' ⟨rfl, hw⟩; rw [hw]; clear hw)
            | (at_builtin; refine wpList_append_mine _ rfl _ _ 46 rfl w.heap.size 9 i0 _ 1 16 Try.underlying46 hi0 hz0 hz1 hz2 rfl (by decide) _ _ _ rfl (HO.out.alloc _) ⟨wr.heap.size, 0, none⟩ 1 1 [.string (s.extract 0 n)] rfl rfl ?c1 ?c2 ?c3 ?c4 ?c5 ?_))
          case c1 => exact new_cells rfl
          case c2 => intro u hu; simp at hu; subst hu; rfl
          case c3 => unfold maxLen; omega
          case c4 => omega
          case c5 => have := hfr.size; simp; omega
          intro v' w2 hown2 hgrow hblk
          have fr2 : Fresh w w2 := Mod.grown (S := fun _ => False) (hfr.alloc _) hgrow (fun k hk hlt => by have := (HOB.out k hk).1; omega)
          have HO2 := hid hown2
          clear hown2 hgrow hblk
          go_wp2
          go_roundw
          case rel =>
            have hq := HSZ.out
            refine ⟨f, k + n, acc ++ [s0.extract k (k + n)], ?_, HRR.out, by omega, by omega, by simp; omega, ?_, fr2⟩
            · have := EX.out (k + n - k) s.size (by omega)
              have e1 : k + (k + n - k) = k + n := by omega
              have e2 : k + s.size = s0.size := by omega
              rw [e1, e2] at this
              rw [← this]; congr 2; omega
            · rw [List.map_append, List.length_append, List.length_singleton, List.map_singleton]
              have := EX.out 0 n (by omega)
              rw [Nat.add_zero] at this
              rw [← this]; exact HO2.out
          case measure => have hq := HSZ.out; simp; omega
      · rw [if_neg hn0] at hR
        have hn1 : n = 0 := by omega
        subst hn1
        rw [if_pos (by omega)] at hR
        have HRR := hid hR
        clear hR
        go_wp2_with (first
          | (go_at_call 54; refine (UP.out _).mono ?_; rintro e w' ⟨rfl, hw⟩; rw [hw]; clear hw))
        go_roundw
        case rel =>
          have hq := HSZ.out
          refine ⟨f, k + 0 + 1, acc, ?_, HRR.out, by omega, by omega, by omega, HO.out, hfr⟩
          have := EX.out 1 s.size (by omega)
          have e2 : k + s.size = s0.size := by omega
          rw [e2] at this
          rw [← this]
        case measure => have hq := HSZ.out; simp; omega
    · rw [if_neg hlt] at hR
      have hz : s.size = 0 := by omega
      have hz' : ¬ (0 : Int) < (s.size : Int) := by omega
      have HRR := hid hR
      clear hR hsz
      go_wp2
      go_ret
      refine ⟨_, rfl, ?_, hfr⟩
      rw [← HRR.out]; exact HO.out
end Go.Proofs.Ytnhhboikbbnklaa
