import Derived.Test.YteneagnhihcljaaGreatDoorChecked
import Derived.WalkKit
import Derived.WalkSpells
import Derived.WalkLawsBesides
namespace Go.Proofs.YteneagnhihcljaaGreatDoor
open Go.RowKit
set_option linter.unusedVariables false
set_option linter.unusedSimpArgs false

/-- The byte at a place of a text, or -1. -/
def atB (s : ByteArray) (i : Int) : Int :=
  if h : 0 ≤ i ∧ i.toNat < s.size then ((s[i.toNat]'h.2).toNat : Int) else -1
def isSmallB (c : Int) : Bool := decide (97 ≤ c) && decide (c ≤ 122)
def isCapB (c : Int) : Bool := decide (65 ≤ c) && decide (c ≤ 90)
def isDigB (c : Int) : Bool := decide (48 ≤ c) && decide (c ≤ 57)
def isPrB (c : Int) : Bool := decide (32 ≤ c) && decide (c ≤ 126)
def isPlainB (c : Int) : Bool := !(c == 92 || c == 91 || c == 93 || c == 40 || c == 41 || c == 124 || c == 42 || c == 43 || c == 63 || c == 46) && isPrB c

theorem ret_int {k : IntKind} {a b : Int} (h : a = b) : Ending.returned (.int k a) = .returned (.int k b) := by rw [h]
theorem ret_bool {a b : Bool} (h : a = b) : Ending.returned (.bool a) = .returned (.bool b) := by rw [h]

theorem w64 {n : Int} (h : -9223372036854775808 ≤ n ∧ n ≤ 9223372036854775807) : wrap64 n = n := by unfold wrap64; omega

theorem at_any (s : ByteArray) (i : Int) (w : World) (hs : s.size ≤ maxLen) :
    Calls Tryz.prog 62 #[.string s, .int .i64 i] w fun e w' => e = .returned (.int .i64 (atB s i)) ∧ w' = w := by
  unfold maxLen at hs
  by_cases h0 : i < 0
  · go_enter Tryz.func62, Tryz.ntmps62
    go_wp2
    go_ret
    exact ⟨ret_int (by unfold atB; rw [dif_neg (by omega)]), rfl⟩
  · by_cases h1 : i.toNat < s.size
    · obtain ⟨k, rfl⟩ : ∃ k : Nat, i = k := ⟨i.toNat, by omega⟩
      have hk : k < s.size := by simpa using h1
      clear h1
      go_enter Tryz.func62, Tryz.ntmps62
      go_wp2
      go_ret
      exact ⟨ret_int (by
        have hb : s[k].toNat < 256 := s[k].toNat_lt
        rw [w64 (by omega)]; simp [atB, hk]), rfl⟩
    · have h2 : (s.size : Int) ≤ i := by omega
      go_enter Tryz.func62, Tryz.ntmps62
      go_wp2
      go_ret
      exact ⟨ret_int (by unfold atB; rw [dif_neg (by omega)]), rfl⟩

theorem isSmall_any (c : Int) (w : World) :
    Calls Tryz.prog 73 #[.int .i64 c] w fun e w' => e = .returned (.bool (isSmallB c)) ∧ w' = w := by
  go_enter Tryz.func73, Tryz.ntmps73
  go_wp2
  all_goals (go_ret; exact ⟨ret_bool (by rw [Bool.eq_iff_iff]; simp [isSmallB]; omega), rfl⟩)

theorem isCap_any (c : Int) (w : World) :
    Calls Tryz.prog 64 #[.int .i64 c] w fun e w' => e = .returned (.bool (isCapB c)) ∧ w' = w := by
  go_enter Tryz.func64, Tryz.ntmps64
  go_wp2
  all_goals (go_ret; exact ⟨ret_bool (by rw [Bool.eq_iff_iff]; simp [isCapB]; omega), rfl⟩)

theorem isDig_any (c : Int) (w : World) :
    Calls Tryz.prog 111 #[.int .i64 c] w fun e w' => e = .returned (.bool (isDigB c)) ∧ w' = w := by
  go_enter Tryz.func111, Tryz.ntmps111
  go_wp2
  all_goals (go_ret; exact ⟨ret_bool (by rw [Bool.eq_iff_iff]; simp [isDigB]; omega), rfl⟩)

theorem isPr_any (c : Int) (w : World) :
    Calls Tryz.prog 104 #[.int .i64 c] w fun e w' => e = .returned (.bool (isPrB c)) ∧ w' = w := by
  go_enter Tryz.func104, Tryz.ntmps104
  go_wp2
  all_goals (go_ret; exact ⟨ret_bool (by rw [Bool.eq_iff_iff]; simp [isPrB]; omega), rfl⟩)

set_option maxHeartbeats 1000000 in
theorem isPlain_any (c : Int) (w : World) :
    Calls Tryz.prog 100 #[.int .i64 c] w fun e w' => e = .returned (.bool (isPlainB c)) ∧ w' = w := by
  go_enter Tryz.func100, Tryz.ntmps100
  go_wp2_with (go_at_call 104; refine (isPr_any _ _).mono ?_; rintro e w' ⟨rfl, rfl⟩)
  all_goals (go_ret; exact ⟨ret_bool (by simp_all [isPlainB]), rfl⟩)

end Go.Proofs.YteneagnhihcljaaGreatDoor
namespace Go.Proofs.YteneagnhihcljaaGreatDoor
open Go.RowKit
set_option linter.unusedVariables false
set_option linter.unusedSimpArgs false

def beginsB (s : ByteArray) (i : Int) : Bool :=
  atB s i == 40 || atB s i == 46 || atB s i == 91 || atB s i == 92 || isPlainB (atB s i)

def rMark (s : ByteArray) (i : Int) : Int × Int × Bool :=
  if atB s i = 110 then (10, i + 1, true)
  else if atB s i = 116 then (9, i + 1, true)
  else if (!isPrB (atB s i) || isSmallB (atB s i) || isCapB (atB s i) || isDigB (atB s i)) = true then (0, i, false)
  else (atB s i, i + 1, true)

def rEnd (s : ByteArray) (i : Int) : Int × Int × Bool :=
  if atB s i = 92 then rMark s (i + 1)
  else if atB s i = 93 ∨ atB s i = 94 ∨ atB s i = 45 then (0, i, false)
  else if isPrB (atB s i) = false then (0, i, false)
  else (atB s i, i + 1, true)

/-- low, high, behind, ok -/
def rRange (s : ByteArray) (i : Int) : Int × Int × Int × Bool :=
  if (rEnd s i).2.2 = false then (0, 0, (rEnd s i).2.1, false)
  else if atB s (rEnd s i).2.1 ≠ 45 then ((rEnd s i).1, (rEnd s i).1, (rEnd s i).2.1, true)
  else if (rEnd s ((rEnd s i).2.1 + 1)).2.2 = false then (0, 0, (rEnd s ((rEnd s i).2.1 + 1)).2.1, false)
  else if (rEnd s ((rEnd s i).2.1 + 1)).1 < (rEnd s i).1 then (0, 0, (rEnd s ((rEnd s i).2.1 + 1)).2.1 - 1, false)
  else ((rEnd s i).1, (rEnd s ((rEnd s i).2.1 + 1)).1, (rEnd s ((rEnd s i).2.1 + 1)).2.1, true)

theorem atB_bd (s : ByteArray) (i : Int) : -1 ≤ atB s i ∧ atB s i ≤ 255 := by
  unfold atB; split
  · rename_i h; have := (s[i.toNat]'h.2).toNat_lt; omega
  · omega
theorem atB_lt {s : ByteArray} {i : Int} (h : atB s i ≠ -1) : 0 ≤ i ∧ i < s.size := by
  unfold atB at h; split at h
  · omega
  · omega
theorem rMark_bd (s : ByteArray) (i : Int) (h : 0 ≤ i) :
    0 ≤ (rMark s i).1 ∧ (rMark s i).1 ≤ 255 ∧ i ≤ (rMark s i).2.1 ∧ (rMark s i).2.1 ≤ i + 1 ∧ ((rMark s i).2.2 = true → (rMark s i).2.1 = i + 1 ∧ i < s.size) := by
  have hb := atB_bd s i
  unfold rMark
  split
  · have := atB_lt (s := s) (i := i) (by omega); simp; omega
  · split
    · have := atB_lt (s := s) (i := i) (by omega); simp; omega
    · split
      · simp; omega
      · rename_i h3
        have : atB s i ≠ -1 := by
          intro h4; simp [isPrB, h4] at h3
        have h5 : isPrB (atB s i) = true := by
          cases h6 : isPrB (atB s i) <;> simp [h6] at h3 ⊢
        have h7 : 32 ≤ atB s i := by unfold isPrB at h5; simp at h5; omega
        have := atB_lt this
        simp; omega
theorem rEnd_bd (s : ByteArray) (i : Int) (h : 0 ≤ i) :
    0 ≤ (rEnd s i).1 ∧ (rEnd s i).1 ≤ 255 ∧ i ≤ (rEnd s i).2.1 ∧ (rEnd s i).2.1 ≤ i + 2 ∧ ((rEnd s i).2.2 = true → i < (rEnd s i).2.1 ∧ (rEnd s i).2.1 ≤ s.size) := by
  have hb := atB_bd s i
  unfold rEnd
  split
  · have h1 := rMark_bd s (i + 1) (by omega); have := atB_lt (s := s) (i := i) (by omega)
    refine ⟨h1.1, h1.2.1, by omega, by omega, fun h2 => ?_⟩
    have := h1.2.2.2.2 h2; omega
  · split
    · simp; omega
    · split
      · simp; omega
      · rename_i h5
        have h7 : 32 ≤ atB s i := by unfold isPrB at h5; simp at h5; omega
        have := atB_lt (s := s) (i := i) (by omega)
        simp; omega

set_option maxHeartbeats 1000000 in
theorem begins_any (s : ByteArray) (i : Int) (w : World) (hs : s.size ≤ 1000) :
    Calls Tryz.prog 94 #[.string s, .int .i64 i] w fun e w' => e = .returned (.bool (beginsB s i)) ∧ w' = w := by
  go_enter Tryz.func94, Tryz.ntmps94
  go_wp2_with (first
    | (go_at_call 62; refine (at_any _ _ _ (by unfold maxLen; omega)).mono ?_; rintro e w' ⟨rfl, rfl⟩)
    | (go_at_call 100; refine (isPlain_any _ _).mono ?_; rintro e w' ⟨rfl, rfl⟩))
  all_goals (go_ret; exact ⟨ret_bool (by simp_all [beginsB]), rfl⟩)

set_option maxHeartbeats 1000000 in
theorem readMark_any (s : ByteArray) (i : Int) (w : World) (hs : s.size ≤ 1000) (h0 : 0 ≤ i) (h1 : i ≤ 10000) :
    Calls Tryz.prog 108 #[.string s, .int .i64 i] w fun e w' => e = .returned (.tuple #[.int .i64 (rMark s i).1, .int .i64 (rMark s i).2.1, .bool (rMark s i).2.2]) ∧ w' = w := by
  go_enter Tryz.func108, Tryz.ntmps108
  go_wp2_with (first
    | (go_at_call 62; refine (at_any _ _ _ (by unfold maxLen; omega)).mono ?_; rintro e w' ⟨rfl, rfl⟩)
    | (go_at_call 104; refine (isPr_any _ _).mono ?_; rintro e w' ⟨rfl, rfl⟩)
    | (go_at_call 73; refine (isSmall_any _ _).mono ?_; rintro e w' ⟨rfl, rfl⟩)
    | (go_at_call 64; refine (isCap_any _ _).mono ?_; rintro e w' ⟨rfl, rfl⟩)
    | (go_at_call 111; refine (isDig_any _ _).mono ?_; rintro e w' ⟨rfl, rfl⟩))
  all_goals (go_ret3; exact ⟨by simp_all [rMark], rfl⟩)

set_option maxHeartbeats 1000000 in
theorem readEnd_any (s : ByteArray) (i : Int) (w : World) (hs : s.size ≤ 1000) (h0 : 0 ≤ i) (h1 : i ≤ 9000) :
    Calls Tryz.prog 113 #[.string s, .int .i64 i] w fun e w' => e = .returned (.tuple #[.int .i64 (rEnd s i).1, .int .i64 (rEnd s i).2.1, .bool (rEnd s i).2.2]) ∧ w' = w := by
  go_enter Tryz.func113, Tryz.ntmps113
  go_wp2_with (first
    | (go_at_call 62; refine (at_any _ _ _ (by unfold maxLen; omega)).mono ?_; rintro e w' ⟨rfl, rfl⟩)
    | (go_at_call 104; refine (isPr_any _ _).mono ?_; rintro e w' ⟨rfl, rfl⟩)
    | (go_at_call 108; refine (readMark_any _ _ _ (by omega) (by omega) (by omega)).mono ?_; rintro e w' ⟨rfl, rfl⟩))
  all_goals (go_ret3; exact ⟨by simp_all [rEnd], rfl⟩)

theorem results_tmp4 {fn : Func} {t u v x : Tmp} (h : fn.results = #[.tmp t, .tmp u, .tmp v, .tmp x]) (tmps : Array Value) (P : Program) (w : World) :
    (results fn tmps).run P w = .ok (.tuple #[tmps.getD t undef, tmps.getD u undef, tmps.getD v undef, tmps.getD x undef]) w := by
  simp [results, h]

set_option maxHeartbeats 1000000 in
theorem readRange_any (s : ByteArray) (i : Int) (w : World) (hs : s.size ≤ 1000) (h0 : 0 ≤ i) (h1 : i ≤ 8000) :
    Calls Tryz.prog 112 #[.string s, .int .i64 i] w fun e w' => e = .returned (.tuple #[.int .i64 (rRange s i).1, .int .i64 (rRange s i).2.1, .int .i64 (rRange s i).2.2.1, .bool (rRange s i).2.2.2]) ∧ w' = w := by
  have b1 := rEnd_bd s i h0
  have b2 := rEnd_bd s ((rEnd s i).2.1 + 1) (by omega)
  obtain ⟨b11, b12, b13, b14, b15⟩ := b1
  obtain ⟨b21, b22, b23, b24, b25⟩ := b2
  go_enter Tryz.func112, Tryz.ntmps112
  go_wp2_with (first
    | (go_at_call 62; refine (at_any _ _ _ (by unfold maxLen; omega)).mono ?_; rintro e w' ⟨rfl, rfl⟩)
    | (go_at_call 113; refine (readEnd_any _ _ _ (by omega) (by omega) (by omega)).mono ?_; rintro e w' ⟨rfl, rfl⟩))
  all_goals (refine bodyPost_ret (results_tmp4 rfl _ _ _) rfl ?_; exact ⟨by first | (simp_all [rRange]; done) | (simp_all [rRange]; rw [if_neg (by omega)]; simp), rfl⟩)

end Go.Proofs.YteneagnhihcljaaGreatDoor
namespace Go.Proofs.YteneagnhihcljaaGreatDoor
open Go.RowKit
set_option linter.unusedVariables false
set_option linter.unusedSimpArgs false

theorem cellOf {w : World} {b : Nat} {c : Array Value} {e : TypeId} {f : Nat × Nat} (h : w.heap[b]? = some (.cells c e f)) (o : Nat) :
    w.cell? ⟨b, o, none⟩ = c[o]? := by simp [World.cell?, h]
theorem frozenOf {w : World} {b : Nat} {c : Array Value} {e : TypeId} (h : w.heap[b]? = some (.cells c e (0, 0))) (o : Nat) :
    w.frozen? ⟨b, o, none⟩ = false := by simp [World.frozen?, h]
theorem heap_setCell_same {w : World} {b : Nat} {c : Array Value} {e : TypeId} {f : Nat × Nat} (h : w.heap[b]? = some (.cells c e f)) (o : Nat) (v : Value) :
    (w.setCell ⟨b, o, none⟩ v).heap[b]? = some (.cells (c.setIfInBounds o v) e f) := by
  have hb := (Array.getElem?_eq_some_iff.1 h).1
  simp only [World.setCell, Array.getElem?_modify]
  simp [h]
theorem heap_setCell_other {w : World} {k : Nat} {a : Addr} (v : Value) (h : k ≠ a.block) :
    (w.setCell a v).heap[k]? = w.heap[k]? := Below.heap_setCell w a v k h
theorem heap_setCell_size (w : World) (a : Addr) (v : Value) : (w.setCell a v).heap.size = w.heap.size := by simp [World.setCell]
theorem heap_alloc_old' {w : World} {o : Obj} {k : Nat} (h : k < w.heap.size) : (w.alloc o).heap[k]? = w.heap[k]? := Below.heap_alloc w o k h
theorem heap_alloc_at (w : World) (o : Obj) : (w.alloc o).heap[w.heap.size]? = some o := heap_alloc_new w o
theorem heap_lt {w : World} {b : Nat} {o : Obj} (h : w.heap[b]? = some o) : b < w.heap.size := (Array.getElem?_eq_some_iff.1 h).1

/-- All blocks that were there are as they were, but those in S. -/
structure Mod (S : Nat → Prop) (w w' : World) : Prop where
  os : w'.os = w.os
  tape : w'.tape = w.tape
  output : w'.output = w.output
  size : w.heap.size ≤ w'.heap.size
  block : ∀ k, k < w.heap.size → ¬ S k → w'.heap[k]? = w.heap[k]?

theorem Mod.refl (S : Nat → Prop) (w : World) : Mod S w w := ⟨rfl, rfl, rfl, Nat.le_refl _, fun _ _ _ => rfl⟩
theorem Mod.trans {S : Nat → Prop} {a b c : World} (h : Mod S a b) (k : Mod S b c) : Mod S a c :=
  ⟨k.os.trans h.os, k.tape.trans h.tape, k.output.trans h.output, Nat.le_trans h.size k.size,
   fun i hi hs => (k.block i (Nat.lt_of_lt_of_le hi h.size) hs).trans (h.block i hi hs)⟩
/-- What the second step may have turned is what the first may have, or is new since a. -/
theorem Mod.trans' {S T : Nat → Prop} {a b c : World} (h : Mod S a b) (k : Mod T b c) (hT : ∀ i, i < a.heap.size → T i → S i) : Mod S a c :=
  ⟨k.os.trans h.os, k.tape.trans h.tape, k.output.trans h.output, Nat.le_trans h.size k.size,
   fun i hi hs => (k.block i (Nat.lt_of_lt_of_le hi h.size) (fun ht => hs (hT i hi ht))).trans (h.block i hi hs)⟩
theorem Mod.mono {S T : Nat → Prop} {w w' : World} (h : Mod S w w') (hS : ∀ i, i < w.heap.size → S i → T i) : Mod T w w' :=
  ⟨h.os, h.tape, h.output, h.size, fun i hi ht => h.block i hi (fun hs => ht (hS i hi hs))⟩
theorem Mod.alloc {S : Nat → Prop} {a w : World} (h : Mod S a w) (o : Obj) : Mod S a (w.alloc o) :=
  h.trans ⟨rfl, rfl, rfl, by simp, fun _ hk _ => heap_alloc_old' hk⟩
theorem Mod.setCell {S : Nat → Prop} {a w : World} (h : Mod S a w) {p : Addr} (hp : p.block < a.heap.size → S p.block) (u : Value) : Mod S a (w.setCell p u) :=
  ⟨h.os, h.tape, h.output, by simp [World.setCell]; exact h.size, fun k hk hs => by
    rw [heap_setCell_other u (by intro e; subst e; exact hs (hp hk))]; exact h.block k hk hs⟩
theorem Mod.setRow {S : Nat → Prop} {a w : World} (h : Mod S a w) {g : Nat} (hp : g < a.heap.size → S g) (cs : Array Value) : Mod S a (w.setRow g cs) :=
  ⟨h.os, h.tape, h.output, by simp; exact h.size, fun k hk hs => by
    rw [setRow_other _ _ _ _ (by intro e; subst e; exact hs (hp hk))]; exact h.block k hk hs⟩
theorem Mod.below {w w' : World} (h : Mod (fun _ => False) w w') : Below w.heap.size w w' :=
  ⟨h.os, h.tape, h.output, h.size, fun k hk => h.block k hk (fun x => x)⟩
theorem Mod.grown {S : Nat → Prop} {a w w' : World} {row : Option Nat} (h : Mod S a w) (hg : w.grownBy w' row) (hr : ∀ k, row = some k → k < a.heap.size → S k) : Mod S a w' :=
  ⟨hg.os.trans h.os, hg.tape.trans h.tape, hg.output.trans h.output, Nat.le_trans h.size hg.size, fun k hk hs =>
    (hg.block k (Nat.lt_of_lt_of_le hk h.size) (fun e => hs (hr k e.symm hk))).trans (h.block k hk hs)⟩
theorem Mod.drew {S : Nat → Prop} {a w : World} (h : Mod S a w) : Mod S a w.drew := ⟨h.os, h.tape, h.output, h.size, h.block⟩
/-- A block that stands is as it was. -/
theorem Mod.at {S : Nat → Prop} {w w' : World} (h : Mod S w w') {b : Nat} {o : Obj} (hb : w.heap[b]? = some o) (hs : ¬ S b) : w'.heap[b]? = some o :=
  (h.block b (heap_lt hb) hs).trans hb

theorem results_row2 {P : Program} {fn : Func} {p u v : Tmp} {ty : TypeId} (h : fn.results = #[.cell p ty, .tmp u, .tmp v]) (tmps : Array Value) (w : World) (g : Nat) (t : TypeId) (cs : Array Value) (fr : Nat × Nat) (d : TypeDesc)
    (hp : tmps.getD p undef = .pointer (some ⟨g, 0, none⟩)) (hg : w.heap[g]? = some (.cells cs t fr))
    (hu : P.underlying ty = some d) (hd : (match d with | .struct _ | .array _ _ => true | _ => false) = true) (hi : (P.info? ty).map (·.size) = some cs.size) :
    (results fn tmps).run P w = .ok (.tuple #[.agg cs, tmps.getD u undef, tmps.getD v undef]) w := by
  have hp' : tmps[p]?.getD undef = .pointer (some ⟨g, 0, none⟩) := by simpa using hp
  simp [results, h, hp', asAddr, run_loadVar_row w g t ty cs fr d hg hu hd hi]

/-- Nothing that stood has turned. -/
abbrev Fresh : World → World → Prop := Mod (fun _ => False)

end Go.Proofs.YteneagnhihcljaaGreatDoor
namespace Go.Proofs.YteneagnhihcljaaGreatDoor
open Go.RowKit
set_option linter.unusedVariables false
set_option linter.unusedSimpArgs false

def u64s (ws : List Int) : Array Value := (ws.map (Value.int .u64)).toArray
theorem u64s_at (ws : List Int) (i : Nat) (h : i < ws.length) : (u64s ws)[i]? = some (.int .u64 (ws.getD i 0)) := by
  simp [u64s, h]
def setBit (ws : List Int) (x : Int) : List Int :=
  ws.set (x / 64).toNat (bits BinOp.or IntKind.u64 (ws[(x / 64).toNat]?.getD 0) (IntKind.u64.wrap (2 ^ (x % 64).toNat)))
def withN (ws : List Int) (low : Int) : Nat → List Int
  | 0 => ws
  | n + 1 => setBit (withN ws low n) (low + n)
def withF (ws : List Int) (low high : Int) : List Int := withN ws low (high + 1 - low).toNat
theorem withN_len (ws : List Int) (low : Int) (n : Nat) : (withN ws low n).length = ws.length := by
  induction n with
  | zero => rfl
  | succ n ih => simp [withN, setBit, ih]
theorem u64s_set (ws : List Int) (i : Nat) (v : Int) : (u64s ws).setIfInBounds i (.int .u64 v) = u64s (ws.set i v) := by
  simp [u64s, List.map_set]

theorem four {ws : List Int} (h : ws.length = 4) : ∃ a b c d, ws = [a, b, c, d] := by
  match ws, h with
  | [a, b, c, d], _ => exact ⟨a, b, c, d, rfl⟩

set_option maxHeartbeats 1000000 in
theorem with_any (ws : List Int) (low high : Int) (w : World) (hl : ws.length = 4) (h0 : 0 ≤ low) (h1 : low ≤ 255) (h2 : 0 ≤ high) (h3 : high ≤ 255) :
    Calls Tryz.prog 109 #[.agg (u64s ws), .int .i64 low, .int .i64 high] w fun e w' => e = .returned (.agg (u64s (withF ws low high))) ∧ Fresh w w' := by
  obtain ⟨a, b, c, d, hws⟩ := four hl
  have HW : Hid (ws = [a, b, c, d]) := hws
  have e1 : u64s ws = #[.int .u64 a, .int .u64 b, .int .u64 c, .int .u64 d] := by rw [hws]; rfl
  rw [e1]
  clear hws e1
  go_enter Tryz.func109, Tryz.ntmps109
  go_wp2
  go_loopw [7] (fun i wr => ∃ n : Nat, i = .int .i64 (low + n) ∧ low + n ≤ 256 ∧ (n = 0 ∨ low + n ≤ high + 1) ∧
      wr.heap[w.heap.size]? = some (.cells (u64s (withN ws low n)) 152 (0,0)) ∧
      wr.heap[w.heap.size + 1]? = some (.cells #[.int .u64 0, .int .u64 0, .int .u64 0, .int .u64 0] 152 (0,0)) ∧ Fresh w wr)
      (fun i _ => 256 - (intOf i).toNat)
  case atStart =>
    refine ⟨0, by simp, by omega, by omega, ?_, heap_alloc2_new _ _ _, ((Mod.refl _ _).alloc _).alloc _⟩
    rw [heap_alloc2_old]; simp only [withN]; rw [HW.out]; rfl
  case round =>
    obtain ⟨n, rfl, hx1, hx2, hb0, hb1, hf⟩ := hrel
    have hl' := withN_len ws low n
    by_cases hx : low + n ≤ high
    · have hc : wr.cell? ⟨w.heap.size, ((low + n) / 64).toNat, none⟩ = some (.int .u64 ((withN ws low n).getD ((low + n) / 64).toNat 0)) := by rw [cellOf hb0, u64s_at _ _ (by omega)]
      have hz := frozenOf hb0
      have HB0 : Hid _ := hb0
      have HB1 : Hid _ := hb1
      clear hb0 hb1 hl' hl
      go_wp2
      go_roundw
      case rel =>
        refine ⟨n + 1, by go_num, by omega, by omega, ?_, ?_, hf.setCell (by simp) _⟩
        · rw [Proofs.YteneagnhihcljaaGreatDoor.heap_setCell_same HB0.out, u64s_set]; rfl
        · rw [Proofs.YteneagnhihcljaaGreatDoor.heap_setCell_other _ (by simp)]; exact HB1.out
      case measure => simp [intOf]; omega
    · obtain ⟨a', b', c', d', e'⟩ := four (ws := withN ws low n) (by omega)
      have hn : (high + 1 - low).toNat = n := by omega
      have e2 : withF ws low high = [a', b', c', d'] := by rw [← e']; unfold withF; rw [hn]
      rw [e'] at hb0
      simp only [u64s, List.map] at hb0
      have hc := fun o => cellOf hb0 o
      have hz := frozenOf hb0
      have hc1 := fun o => cellOf hb1 o
      have hz1 := frozenOf hb1
      have HB1 : Hid _ := hb1
      have E2 : Hid _ := e2
      clear hb0 hb1 hl' hl e' hn e2 
      go_wp2
      refine bodyPost_ret (results_cell_row rfl _ _ (w.heap.size + 1) 152 #[.int .u64 a', .int .u64 b', .int .u64 c', .int .u64 d'] (0, 0) _ rfl ?_ Tryz.underlying152 rfl (by kernel_rfl)) rfl ⟨?_, ?_⟩
      · rw [Proofs.YteneagnhihcljaaGreatDoor.heap_setCell_same (Proofs.YteneagnhihcljaaGreatDoor.heap_setCell_same (Proofs.YteneagnhihcljaaGreatDoor.heap_setCell_same (Proofs.YteneagnhihcljaaGreatDoor.heap_setCell_same HB1.out _ _) _ _) _ _) _ _]; rfl
      · rw [E2.out]; rfl
      · exact (((hf.setCell (by simp) _).setCell (by simp) _).setCell (by simp) _).setCell (by simp) _
end Go.Proofs.YteneagnhihcljaaGreatDoor
