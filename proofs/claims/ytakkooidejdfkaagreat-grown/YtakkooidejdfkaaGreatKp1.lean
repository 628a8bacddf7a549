import Derived.Test.YtakkooidejdfkaaGreatLx1
namespace Go.Proofs.YtakkooidejdfkaaGreat
open Go.RowKit
set_option linter.unusedVariables false
set_option linter.unusedSimpArgs false

theorem atB_at (s : ByteArray) (j : Nat) (h : j < s.size) : atB s j = ((s[j].toNat : Nat) : Int) := by simp [atB, h]
/-- how many bytes stand ahead of the first that is a or b -/
def upToF (s : ByteArray) (a b : Int) : Nat := (List.range s.size).findIdx (fun j : Nat => (atB s j == a) || (atB s j == b))
theorem upToF_le (s : ByteArray) (a b : Int) : upToF s a b ≤ s.size := by
  have := List.findIdx_le_length (xs := List.range s.size) (p := fun j : Nat => (atB s j == a) || (atB s j == b))
  simpa [upToF] using this

set_option maxRecDepth 20000 in
set_option maxHeartbeats 1000000 in
theorem upTo_any (s : ByteArray) (a b : Int) (w : World) (hs : s.size ≤ 1000) :
    Calls Tryz.prog 33 #[.string s, .int .u8 a, .int .u8 b] w fun e w' => e = .returned (.int .i64 (upToF s a b)) ∧ w' = w := by
  go_enter Tryz.func33, Tryz.ntmps33
  go_wp2
  go_loop [7] (fun x => ∃ n : Nat, x = .int .i64 n ∧ n ≤ s.size ∧ ∀ j (hj : j < s.size), j < n → ((s[j].toNat : Int) != a) = true ∧ ((s[j].toNat : Int) != b) = true)
    (fun x => 1001 - (intOf x).toNat)
  case atStart => exact ⟨0, rfl, by omega, fun j _ h => by omega⟩
  case round =>
    obtain ⟨n, rfl, hn, hall⟩ := hrel
    have HME := hid (meas (B := 1001) n (by omega))
    have HA := hid hall
    clear hall
    by_cases hlt : n < s.size
    · have fin : Hid ((((s[n].toNat : Int) != a) = false ∨ ((s[n].toNat : Int) != b) = false) → upToF s a b = n) := by
        intro h
        unfold upToF
        rw [List.findIdx_eq (by simpa using hlt)]
        simp only [List.getElem_range]
        refine ⟨?_, ?_⟩
        · rw [atB_at s n hlt]
          rcases h with h | h
          · simp at h; simp [h]
          · simp at h; simp [h]
        · intro j hj
          rw [atB_at s j (by omega)]
          have := HA.out j (by omega) hj
          simpa using this
      generalize hc : (s[n].toNat : Int) = c at fin
      have HC := hid hc
      cases h1 : (c != a)
      · go_wp2
        go_ret
        exact ⟨ret_int (by rw [fin.out (.inl h1)]), rfl⟩
      · cases h2 : (c != b)
        · go_wp2
          go_ret
          exact ⟨ret_int (by rw [fin.out (.inr h2)]), rfl⟩
        · go_wp2
          go_round
          case rel =>
            refine ⟨n + 1, by go_num, by omega, ?_⟩
            intro j hj hjn
            by_cases e : j = n
            · subst e; rw [HC.out]; exact ⟨h1, h2⟩
            · exact HA.out j hj (by omega)
          case measure => exact HME.out
    · go_wp2
      go_ret
      refine ⟨ret_int ?_, rfl⟩
      have hns : n = s.size := by omega
      have : upToF s a b = s.size := by
        unfold upToF
        have hl : (List.range s.size).length = s.size := by simp
        refine Eq.trans ?_ hl
        apply List.findIdx_eq_length_of_false
        intro j hj
        have hj' : j < s.size := by simpa using hj
        rw [atB_at s j hj']
        have := HA.out j hj' (by omega)
        simpa using this
      rw [this, hns]

/-- v is a slice of these strings (it may begin in the middle of a row). -/
def StrsAt (w : World) (v : Value) (l : List ByteArray) : Prop :=
  ∃ a c, v = .slice a l.length c ∧ ∀ j (hj : j < l.length), ∃ g o, a = some ⟨g, o, none⟩ ∧ w.cell? ⟨g, o + j, none⟩ = some (.string l[j])
def findF (l : List ByteArray) (s : ByteArray) : Int := if l.findIdx (fun x => x.toList == s.toList) < l.length then (l.findIdx (fun x => x.toList == s.toList) : Int) else -1

set_option maxRecDepth 20000 in
set_option maxHeartbeats 1000000 in
theorem find_any (l : List ByteArray) (s : ByteArray) (v : Value) (w : World) (hl : StrsAt w v l) (hn : l.length ≤ 1000) :
    Calls Tryz.prog 35 #[v, .string s] w fun e w' => e = .returned (.int .i64 (findF l s)) ∧ w' = w := by
  obtain ⟨a, c, rfl, hc⟩ := hl
  have HC := hid hc
  clear hc
  go_enter Tryz.func35, Tryz.ntmps35
  go_wp2
  go_loop [5] (fun x => ∃ n : Nat, x = .int .i64 n ∧ n ≤ l.length ∧ ∀ j (hj : j < l.length), j < n → (l[j].toList == s.toList) = false)
    (fun x => 1001 - (intOf x).toNat)
  case atStart => exact ⟨0, rfl, by omega, fun j _ h => by omega⟩
  case round =>
    obtain ⟨n, rfl, hn1, hall⟩ := hrel
    have HME := hid (meas (B := 1001) n (by omega))
    have HA := hid hall
    clear hall
    by_cases hlt : n < l.length
    · obtain ⟨g, o, hao, hcell⟩ := HC.out n hlt
      subst hao
      cases h1 : (l[n].toList == s.toList)
      · go_wp2
        go_round
        case rel =>
          refine ⟨n + 1, by go_num, by omega, ?_⟩
          intro j hj hjn
          by_cases e : j = n
          · subst e; exact h1
          · exact HA.out j hj (by omega)
        case measure => exact HME.out
      · go_wp2
        go_ret
        refine ⟨ret_int ?_, rfl⟩
        have : l.findIdx (fun x => x.toList == s.toList) = n := by
          rw [List.findIdx_eq hlt]; exact ⟨h1, fun j hj => HA.out j (by omega) hj⟩
        unfold findF; rw [this, if_pos hlt]
    · go_wp2
      go_ret
      refine ⟨ret_int ?_, rfl⟩
      have : l.findIdx (fun x => x.toList == s.toList) = l.length := by
        apply List.findIdx_eq_length_of_false
        intro x hx
        obtain ⟨j, hj, rfl⟩ := List.getElem_of_mem hx
        exact HA.out j hj (by omega)
      unfold findF; rw [this, if_neg (by omega)]
end Go.Proofs.YtakkooidejdfkaaGreat
namespace Go.Proofs.YtakkooidejdfkaaGreat
open Go.RowKit
set_option linter.unusedVariables false
set_option linter.unusedSimpArgs false

theorem ext_ext (s : ByteArray) (k n m : Nat) (hk : k ≤ s.size) (h : m ≤ s.size - k) : (s.extract k s.size).extract n m = s.extract (k + n) (k + m) := by
  apply ByteArray.ext
  simp only [ByteArray.data_extract, Array.extract_extract]
  congr 1
  have : s.size = s.data.size := rfl
  omega
theorem ext_size (s : ByteArray) (k : Nat) : (s.extract k s.size).size = s.size - k := by
  simp [ByteArray.size_extract]

def wordsL (s0 : ByteArray) : Nat → Nat → List ByteArray → List ByteArray
  | 0, _, acc => acc
  | f + 1, k, acc =>
    if k < s0.size then
      wordsL s0 f (if k + upToF (s0.extract k s0.size) 32 32 < s0.size then k + upToF (s0.extract k s0.size) 32 32 + 1 else k + upToF (s0.extract k s0.size) 32 32)
        (if 0 < upToF (s0.extract k s0.size) 32 32 then acc ++ [s0.extract k (k + upToF (s0.extract k s0.size) 32 32)] else acc)
    else acc
def wordsF (s0 : ByteArray) : List ByteArray := wordsL s0 (s0.size + 1) 0 []
theorem ext_all (s : ByteArray) : s.extract 0 s.size = s := by
  apply ByteArray.ext; simp [ByteArray.data_extract]

theorem infoStr : (Tryz.prog.info? 9).map (fun i => (i.zero, i.size, i.bytes)) = some (some (.string ⟨#[]⟩), 1, 16) := by kernel_rfl
theorem infoStr' : ∃ i, Tryz.prog.info? 9 = some i ∧ i.zero = some (.string ⟨#[]⟩) ∧ i.size = 1 ∧ i.bytes = 16 := by
  have h := infoStr
  cases hq : Tryz.prog.info? 9 with
  | none => simp [hq] at h
  | some i => simp [hq] at h; exact ⟨i, rfl, h.1, h.2.1, h.2.2⟩

set_option maxRecDepth 20000 in
set_option maxHeartbeats 2000000 in
theorem words_any (s0 : ByteArray) (w : World) (hs : s0.size ≤ 900) :
    Calls Tryz.prog 55 #[.string s0] w fun e w' => ∃ v, e = .returned v ∧ w'.ownsRow w.heap.size 9 1 v (wordsF s0).length ((wordsF s0).map Value.string) ∧ Fresh w w' := by
  obtain ⟨i0, hi0, hz0, hz1, hz2⟩ := infoStr'
  generalize hR : wordsF s0 = R
  have HR : Hid (wordsL s0 (s0.size + 1) 0 [] = R) := hR
  clear hR
  go_enter Tryz.func55, Tryz.ntmps55
  go_wp2
  go_loopw [0, 3] (fun x0 x3 wr => ∃ (f k : Nat) (acc : List ByteArray), x0 = .string (s0.extract k s0.size) ∧ wordsL s0 f k acc = R ∧ s0.size + 1 ≤ f + k ∧ k ≤ s0.size ∧ acc.length ≤ k ∧ wr.ownsRow w.heap.size 9 1 x3 acc.length (acc.map Value.string) ∧ Fresh w wr)
      (fun x _ _ => 1001 - (match x with | .string s => s0.size - s.size | _ => 0))
  case atStart => exact ⟨_, 0, [], by rw [ext_all], HR.out, by omega, by omega, by simp, World.ownsRow_nil _ _ _ _, Mod.refl _ _⟩
  case round =>
    obtain ⟨f, k, acc, rfl, hR, hfu, hk, hacc, hown, hfr⟩ := hrel
    obtain ⟨f, rfl⟩ : ∃ g, f = g + 1 := ⟨f - 1, by omega⟩
    unfold wordsL at hR
    have HO := hid hown
    have HOB := hid hown.lt
    obtain ⟨ro, rc, hro⟩ := own_form hown
    clear hown
    subst hro
    have hsz := ext_size s0 k
    have hle := upToF_le (s0.extract k s0.size) 32 32
    have UP := hid (fun w => upTo_any (s0.extract k s0.size) 32 32 w (by omega))
    have EX := hid (fun n m h => ext_ext s0 k n m hk h)
    generalize hn : upToF (s0.extract k s0.size) 32 32 = n at hR hle UP
    clear hn
    obtain ⟨s, hse⟩ : ∃ s, s = s0.extract k s0.size := ⟨_, rfl⟩
    rw [← hse] at hsz hle UP EX
    simp only [← hse]
    have HSE := hid hse
    clear hse
    have HSZ := hid hsz
    by_cases hlt : k < s0.size
    · rw [if_pos hlt] at hR
      have hpos : (0 : Int) < (s.size : Int) := by omega
      clear hsz
      by_cases hn0 : 0 < n
      · rw [if_pos hn0] at hR
        by_cases hend : k + n < s0.size
        · rw [if_pos hend] at hR
          have hns : n < s.size := by have := HSZ.out; omega
          have HRR := hid hR
          clear hR
          go_wp2_with (first
            | (go_at_call 33; refine (UP.out _).mono ?_; rintro e w' ⟨rfl, hw⟩; rw [hw]; clear hw)
            | (at_builtin; refine wpList_append_mine _ rfl _ _ 38 rfl w.heap.size 9 i0 _ 1 16 Tryz.underlying38 hi0 hz0 hz1 hz2 rfl (by decide) _ _ _ rfl (HO.out.alloc _) ⟨wr.heap.size, 0, none⟩ 1 1 [.string (s.extract 0 n)] rfl rfl ?c1 ?c2 ?c3 ?c4 ?c5 ?_))
          case c1 => exact new_cells rfl
          case c2 => intro u hu; simp at hu; subst hu; rfl
          case c3 => unfold maxLen; omega
          case c4 => omega
          case c5 => have := hfr.size; simp; omega
          intro v' w2 hown2 hgrow hblk
          have fr2 : Fresh w w2 := Mod.grown (S := fun _ => False) (hfr.alloc _) hgrow (fun k hk hlt => by have := (HOB.out k hk).1; omega)
          have HO2 := hid hown2
          clear hown2 hgrow hblk
          go_wp2
          go_roundw
          case rel =>
            have hq := HSZ.out
            refine ⟨f, k + n + 1, acc ++ [s0.extract k (k + n)], ?_, HRR.out, by omega, by omega, by simp; omega, ?_, fr2⟩
            · have := EX.out (k + n + 1 - k) s.size (by omega)
              have e1 : k + (k + n + 1 - k) = k + n + 1 := by omega
              have e2 : k + s.size = s0.size := by omega
              rw [e1, e2] at this
              rw [← this]; congr 2; omega
            · rw [List.map_append, List.length_append, List.length_singleton, List.map_singleton]
              have := EX.out 0 n (by omega)
              rw [Nat.add_zero] at this
              rw [← this]; exact HO2.out
          case measure => have hq := HSZ.out; simp; omega
        · rw [if_neg hend] at hR
          have hns : n = s.size := by have := HSZ.out; omega
          have hns' : ¬ n < s.size := by omega
          have HRR := hid hR
          have HNS := hid hns
          clear hR hns
          go_wp2_with (first
            | (go_at_call 33; refine (UP.out _).mono ?_; rintro e w' ⟨rfl, hw⟩; rw [hw]; clear hw)
            | (at_builtin; refine wpList_append_mine _ rfl _ _ 38 rfl w.heap.size 9 i0 _ 1 16 Tryz.underlying38 hi0 hz0 hz1 hz2 rfl (by decide) _ _ _ rfl (HO.out.alloc _) ⟨wr.heap.size, 0, none⟩ 1 1 [.string (s.extract 0 n)] rfl rfl ?c1 ?c2 ?c3 ?c4 ?c5 ?_))
          case c1 => exact new_cells rfl
          case c2 => intro u hu; simp at hu; subst hu; rfl
          case c3 => unfold maxLen; omega
          case c4 => omega
          case c5 => have := hfr.size; simp; omega
          intro v' w2 hown2 hgrow hblk
          have fr2 : Fresh w w2 := Mod.grown (S := fun _ => False) (hfr.alloc _) hgrow (fun k hk hlt => by have := (HOB.out k hk).1; omega)
          have HO2 := hid hown2
          clear hown2 hgrow hblk
          go_wp2
          go_roundw
          case rel =>
            have hq := HSZ.out
            refine ⟨f, k + n, acc ++ [s0.extract k (k + n)], ?_, HRR.out, by omega, by omega, by simp; omega, ?_, fr2⟩
            · have := EX.out (k + n - k) s.size (by omega)
              have e1 : k + (k + n - k) = k + n := by omega
              have e2 : k + s.size = s0.size := by omega
              rw [e1, e2] at this
              rw [← this]; congr 2; omega
            · rw [List.map_append, List.length_append, List.length_singleton, List.map_singleton]
              have := EX.out 0 n (by omega)
              rw [Nat.add_zero] at this
              rw [← this]; exact HO2.out
          case measure => have hq := HSZ.out; simp; omega
      · rw [if_neg hn0] at hR
        have hn1 : n = 0 := by omega
        subst hn1
        rw [if_pos (by omega)] at hR
        have HRR := hid hR
        clear hR
        go_wp2_with (first
          | (go_at_call 33; refine (UP.out _).mono ?_; rintro e w' ⟨rfl, hw⟩; rw [hw]; clear hw))
        go_roundw
        case rel =>
          have hq := HSZ.out
          refine ⟨f, k + 0 + 1, acc, ?_, HRR.out, by omega, by omega, by omega, HO.out, hfr⟩
          have := EX.out 1 s.size (by omega)
          have e2 : k + s.size = s0.size := by omega
          rw [e2] at this
          rw [← this]
        case measure => have hq := HSZ.out; simp; omega
    · rw [if_neg hlt] at hR
      have hz : s.size = 0 := by omega
      have hz' : ¬ (0 : Int) < (s.size : Int) := by omega
      have HRR := hid hR
      clear hR hsz
      go_wp2
      go_ret
      refine ⟨_, rfl, ?_, hfr⟩
      rw [← HRR.out]; exact HO.out
end Go.Proofs.YtakkooidejdfkaaGreat
