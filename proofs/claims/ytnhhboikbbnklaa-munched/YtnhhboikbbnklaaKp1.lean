import Derived.Test.YtnhhboikbbnklaaLx3
namespace Go.Proofs.Ytnhhboikbbnklaa
open Go.RowKit
set_option linter.unusedVariables false
set_option linter.unusedSimpArgs false

theorem atB_at (s : ByteArray) (j : Nat) (h : j < s.size) : atB s j = ((s[j].toNat : Nat) : Int) := by simp [atB, h]
/-- how many bytes stand ahead of the first that is a or b -/
def upToF (s : ByteArray) (a b : Int) : Nat := (List.range s.size).findIdx (fun j : Nat => (atB s j == a) || (atB s j == b))
theorem upToF_le (s : ByteArray) (a b : Int) : upToF s a b ≤ s.size := by
  have := List.findIdx_le_length (xs := List.range s.size) (p := fun j : Nat => (atB s j == a) || (atB s j == b))
  simpa [upToF] using this

set_option maxRecDepth 20000 in
set_option maxHeartbeats 1000000 in
theorem upTo_any (s : ByteArray) (a b : Int) (w : World) (hs : s.size ≤ 1000) :
    Calls Try.prog 54 #[.string s, .int .u8 a, .int .u8 b] w fun e w' => e = .returned (.int .i64 (upToF s a b)) ∧ w' = w := by
  go_enter Try.func54, Try.ntmps54
  go_wp2
  go_loop [7] (fun x => ∃ n : Nat, x = .int .i64 n ∧ n ≤ s.size ∧ ∀ j (hj : j < s.size), j < n → ((s[j].toNat : Int) != a) = true ∧ ((s[j].toNat : Int) != b) = true)
    (fun x => 1001 - (intOf x).toNat)
  case atStart => exact ⟨0, rfl, by omega, fun j _ h => by omega⟩
  case round =>
    obtain ⟨n, rfl, hn, hall⟩ := hrel
    have HME := hid (meas (B := 1001) n (by omega))
    have HA := hid hall
    clear hall
    by_cases hlt : n < s.size
    · have fin : Hid ((((s[n].toNat : Int) != a) = false ∨ ((s[n].toNat : Int) != b) = false) → upToF s a b = n) := by
        intro h
        unfold upToF
        rw [List.findIdx_eq (by simpa using hlt)]
        simp only [List.getElem_range]
        refine ⟨?_, ?_⟩
        · rw [atB_at s n hlt]
          rcases h with h | h
          · simp at h; simp [h]
          · simp at h; simp [h]
        · intro j hj
          rw [atB_at s j (by omega)]
          have := HA.out j (by omega) hj
          simpa using this
      generalize hc : (s[n].toNat : Int) = c at fin
      have HC := hid hc
      cases h1 : (c != a)
      · go_wp2
        go_ret
        exact ⟨ret_int (by rw [fin.out (.inl h1)]), rfl⟩
      · cases h2 : (c != b)
        · go_wp2
          go_ret
          exact ⟨ret_int (by rw [fin.out (.inr h2)]), rfl⟩
        · go_wp2
          go_round
          case rel =>
            refine ⟨n + 1, by go_num, by omega, ?_⟩
            intro j hj hjn
            by_cases e : j = n
            · subst e; rw [HC.out]; exact ⟨h1, h2⟩
            · exact HA.out j hj (by omega)
          case measure => exact HME.out
    · go_wp2
      go_ret
      refine ⟨ret_int ?_, rfl⟩
      have hns : n = s.size := by omega
      have : upToF s a b = s.size := by
        unfold upToF
        have hl : (List.range s.size).length = s.size := by simp
        refine Eq.trans ?_ hl
        apply List.findIdx_eq_length_of_false
        intro j hj
        have hj' : j < s.size := by simpa using hj
        rw [atB_at s j hj']
        have := HA.out j hj' (by omega)
        simpa using this
      rw [this, hns]

/-- v is a slice of these strings (it may begin in the middle of a row). -/
def StrsAt (w : World) (v : Value) (l : List ByteArray) : Prop :=
  ∃ a c, v = .slice a l.length c ∧ ∀ j (hj : j < l.length), ∃ g o, a = some ⟨g, o, none⟩ ∧ w.cell? ⟨g, o + j, none⟩ = some (.string l[j])
def findF (l : List ByteArray) (s : ByteArray) : Int := if l.findIdx (fun x => x.toList == s.toList) < l.length then (l.findIdx (fun x => x.toList == s.toList) : Int) else -1

set_option maxRecDepth 20000 in
set_option maxHeartbeats 1000000 in
theorem find_any (l : List ByteArray) (s : ByteArray) (v : Value) (w : World) (hl : StrsAt w v l) (hn : l.length ≤ 1000) :
    Calls Try.prog 56 #[v, .string s] w fun e w' => e = .returned (.int .i64 (findF l s)) ∧ w' = w := by
  obtain ⟨a, c, rfl, hc⟩ := hl
  have HC := hid hc
  clear hc
  go_enter Try.func56, Try.ntmps56
  go_wp2
  go_loop [5] (fun x => ∃ n : Nat, x = .int .i64 n ∧ n ≤ l.length ∧ ∀ j (hj : j < l.length), j < n → (l[j].toList == s.toList) = false)
    (fun x => 1001 - (intOf x).toNat)
  case atStart => exact ⟨0, rfl, by omega, fun j _ h => by omega⟩
  case round =>
    obtain ⟨n, rfl, hn1, hall⟩ := hrel
    have HME := hid (meas (B := 1001) n (by omega))
    have HA := hid hall
    clear hall
    by_cases hlt : n < l.length
    · obtain ⟨g, o, hao, hcell⟩ := HC.out n hlt
      subst hao
      cases h1 : (l[n].toList == s.toList)
      · go_wp2
        go_round
        case rel =>
          refine ⟨n + 1, by go_num, by omega, ?_⟩
          intro j hj hjn
          by_cases e : j = n
          · subst e; exact h1
          · exact HA.out j hj (by omega)
        case measure => exact HME.out
      · go_wp2
        go_ret
        refine ⟨ret_int ?_, rfl⟩
        have : l.findIdx (fun x => x.toList == s.toList) = n := by
          rw [List.findIdx_eq hlt]; exact ⟨h1, fun j hj => HA.out j (by omega) hj⟩
        unfold findF; rw [this, if_pos hlt]
    · go_wp2
      go_ret
      refine ⟨ret_int ?_, rfl⟩
      have : l.findIdx (fun x => x.toList == s.toList) = l.length := by
        apply List.findIdx_eq_length_of_false
        intro x hx
        obtain ⟨j, hj, rfl⟩ := List.getElem_of_mem hx
        exact HA.out j hj (by omega)
      unfold findF; rw [this, if_neg (by omega)]
end Go.Proofs.Ytnhhboikbbnklaa
