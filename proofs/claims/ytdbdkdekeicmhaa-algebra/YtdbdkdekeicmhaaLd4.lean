import Derived.Test.YtdbdkdekeicmhaaLd1
import Derived.Laws.IdiomStrings
namespace Go.Proofs.Ytdbdkdekeicmhaa
open Go.RowKit
set_option linter.unusedVariables false
set_option linter.unusedSimpArgs false

theorem conv_one (w : World) (x : UInt8) : (convert 40 9 (.slice (some ⟨w.heap.size, 0, none⟩) 1 1)).run Try.prog (w.alloc (.cells #[.int .u8 (x.toNat : Int)] 5 (0, 0))) = .ok (.string ⟨#[x]⟩) (w.alloc (.cells #[.int .u8 (x.toNat : Int)] 5 (0, 0))) := by
  have h := run_convert_bytes_back (P := Try.prog) (w.alloc (.cells #[.int .u8 (x.toNat : Int)] 5 (0, 0))) 40 9 5 ⟨w.heap.size, 0, none⟩ 1 [x] Try.underlying40 Try.underlying5 Try.underlying9 (fun j hj => by
    have hj0 : j = 0 := by simpa using hj
    subst hj0
    have := cellOf (heap_alloc_at w (.cells #[.int .u8 (x.toNat : Int)] 5 (0, 0))) 0
    rw [show (Addr.add ⟨w.heap.size, 0, none⟩ 0 : Addr) = ⟨w.heap.size, 0, none⟩ from rfl, this]; rfl)
  exact h
theorem conv_two (w : World) (x : UInt8) : (convert 40 9 (.slice (some ⟨w.heap.size, 0, none⟩) 2 2)).run Try.prog (w.alloc (.cells #[.int .u8 92, .int .u8 (x.toNat : Int)] 5 (0, 0))) = .ok (.string ⟨#[92, x]⟩) (w.alloc (.cells #[.int .u8 92, .int .u8 (x.toNat : Int)] 5 (0, 0))) := by
  have h := run_convert_bytes_back (P := Try.prog) (w.alloc (.cells #[.int .u8 92, .int .u8 (x.toNat : Int)] 5 (0, 0))) 40 9 5 ⟨w.heap.size, 0, none⟩ 2 [92, x] Try.underlying40 Try.underlying5 Try.underlying9 (fun j hj => by
    have hj0 : j = 0 ∨ j = 1 := by simp at hj; omega
    rcases hj0 with rfl | rfl
    · have := cellOf (heap_alloc_at w (.cells #[.int .u8 92, .int .u8 (x.toNat : Int)] 5 (0, 0))) 0
      rw [show (Addr.add ⟨w.heap.size, 0, none⟩ 0 : Addr) = ⟨w.heap.size, 0, none⟩ from rfl, this]; rfl
    · have := cellOf (heap_alloc_at w (.cells #[.int .u8 92, .int .u8 (x.toNat : Int)] 5 (0, 0))) 1
      rw [show (Addr.add ⟨w.heap.size, 0, none⟩ 1 : Addr) = ⟨w.heap.size, 1, none⟩ from rfl, this]; rfl)
  exact h

set_option maxRecDepth 20000 in
set_option maxHeartbeats 2000000 in
theorem letter_any (c : Nat) (w : World) (hc : c ≤ 255) :
    Calls Try.prog 9 #[.int .u8 c] w fun e w' => ((∃ p, e = .returned (.tuple #[.string p, .bool true]) ∧ LetP p c) ∨ (∃ p, e = .returned (.tuple #[.string p, .bool false]))) ∧ Fresh w w' := by
  by_cases h1 : c = 10
  · subst h1
    go_enter Try.func9, Try.ntmps9
    go_wp2
    go_ret2
    exact ⟨.inl ⟨_, rfl, letP_mark (x := 110) (by omega) (.inl ⟨rfl, rfl⟩)⟩, Mod.refl _ w⟩
  · by_cases h2 : c = 9
    · subst h2
      go_enter Try.func9, Try.ntmps9
      go_wp2
      go_ret2
      exact ⟨.inl ⟨_, rfl, letP_mark (x := 116) (by omega) (.inr (.inl ⟨rfl, rfl⟩))⟩, Mod.refl _ w⟩
    · have k1 : ((c : Int) == 10) = false := by simp; omega
      have k2 : ((c : Int) == 9) = false := by simp; omega
      have k1' : ¬ (c : Int) = 10 := by omega
      have k2' : ¬ (c : Int) = 9 := by omega
      obtain ⟨x, hx⟩ : ∃ x : UInt8, x.toNat = c := ⟨UInt8.ofNat c, by simp; omega⟩
      have cv1 := conv_one w x
      have cv2 := conv_two w x
      rw [hx] at cv1 cv2
      by_cases h3 : (97 ≤ c ∧ c ≤ 122) ∨ (65 ≤ c ∧ c ≤ 90) ∨ (48 ≤ c ∧ c ≤ 57)
      · have HL : Hid (LetP ⟨#[x]⟩ c) := by
          have := letP_plain (x := x) (by rw [hx]; exact h3)
          rw [hx] at this; exact this
        clear hx
        rcases h3 with ⟨d1, d2⟩ | ⟨d1, d2⟩ | ⟨d1, d2⟩
        · go_enter Try.func9, Try.ntmps9
          go_wp2
          go_ret2
          exact ⟨.inl ⟨_, rfl, HL.out⟩, (Mod.refl _ w).alloc _⟩
        · have d3 : ¬ 97 ≤ c := by omega
          go_enter Try.func9, Try.ntmps9
          go_wp2
          go_ret2
          exact ⟨.inl ⟨_, rfl, HL.out⟩, (Mod.refl _ w).alloc _⟩
        · have d3 : ¬ 97 ≤ c := by omega
          have d4 : ¬ 65 ≤ c := by omega
          go_enter Try.func9, Try.ntmps9
          go_wp2
          go_ret2
          exact ⟨.inl ⟨_, rfl, HL.out⟩, (Mod.refl _ w).alloc _⟩
      · have n1 : decide (97 ≤ c) = false ∨ (decide (97 ≤ c) = true ∧ decide (c ≤ 122) = false) := by
          by_cases q : 97 ≤ c
          · exact .inr ⟨by simpa using q, by simp; omega⟩
          · exact .inl (by simpa using q)
        by_cases h4 : 32 ≤ c ∧ c ≤ 126
        · have HL : Hid (LetP ⟨#[92, x]⟩ c) := letP_mark (x := x) (by omega) (.inr (.inr ⟨hx.symm, by omega, by omega, by rw [hx]; exact h3⟩))
          clear hx
          go_enter Try.func9, Try.ntmps9
          go_wp2
          all_goals first
            | (exfalso; omega)
            | (go_ret2; exact ⟨.inl ⟨_, rfl, HL.out⟩, (Mod.refl _ w).alloc _⟩)
        · clear hx
          go_enter Try.func9, Try.ntmps9
          go_wp2
          all_goals first
            | (exfalso; omega)
            | (go_ret2; exact ⟨.inr ⟨_, rfl⟩, Mod.refl _ w⟩)
end Go.Proofs.Ytdbdkdekeicmhaa
