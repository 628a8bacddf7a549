import Derived.Test.YteneagnhihcljaaGreatDoorTwa
namespace Go.Proofs.YteneagnhihcljaaGreatDoor
open Go.RowKit
set_option linter.unusedVariables false
set_option linter.unusedSimpArgs false

theorem bestL_rule (lns : List Ln) (t : ByteArray) (i : Nat) : ∀ (f k : Nat) (b : Int × Int), (b.2 ≤ i ∨ (0 ≤ b.1 ∧ b.1 < lns.length)) → ((bestL lns t i f k b).2 ≤ i ∨ (0 ≤ (bestL lns t i f k b).1 ∧ (bestL lns t i f k b).1 < lns.length))
  | 0, _, b, h => h
  | f + 1, k, b, h => by
    unfold bestL
    cases hq : lns[k]? with
    | none => exact h
    | some x =>
      simp only []
      refine bestL_rule lns t i f (k + 1) _ ?_
      split
      · right
        have := (List.getElem?_eq_some_iff.1 hq).1
        dsimp only; omega
      · exact h
theorem cutL_rules (lns : List Ln) (t : ByteArray) : ∀ (f i : Nat) (toks : List Tk), (∀ x ∈ toks, 0 ≤ x.r ∧ x.r < lns.length) → ∀ x ∈ (cutL lns t f i toks).1, 0 ≤ x.r ∧ x.r < lns.length
  | 0, _, _, _, x, hx => by simp [cutL] at hx
  | f + 1, i, toks, h, x, hx => by
    unfold cutL at hx
    split at hx
    · split at hx
      · simp at hx
      · rename_i hb
        refine cutL_rules lns t f _ _ ?_ x hx
        split
        · exact h
        · intro y hy
          rcases List.mem_append.1 hy with hy | hy
          · exact h y hy
          · simp only [List.mem_singleton] at hy
            subst hy
            rcases bestL_rule lns t i (lns.length + 1) 0 (0, i) (.inl (Int.le_refl _)) with h1 | h1
            · exact absurd h1 hb
            · exact h1
    · exact h x hx
theorem rules_len (s : ByteArray) : (rulesOf s).length = nR s := by unfold rulesOf nR frontsOf; rw [List.length_map]
theorem cut_kinds (s t : ByteArray) : kindsOk (nR s) ((cutF (rulesOf s) t).1.map Tk.r) = true := by
  unfold kindsOk
  rw [List.all_eq_true]
  intro k hk
  obtain ⟨x, hx, rfl⟩ := List.mem_map.1 hk
  have := cutL_rules (rulesOf s) t _ _ _ (by simp) x hx
  rw [rules_len] at this
  simp; exact this
structure ROut where
  err : Int
  toks : List Tk
  st : List St
  wanted : List Int
  place : Int
def badR (e p : Int) : ROut := ⟨e, [], [], [], p⟩
def runG (s t : ByteArray) (C : List Tk × Int × Int) : ROut :=
  if C.2.1 ≠ 0 then badR C.2.1 C.2.2
  else if 60 < C.1.length then badR 1 0
  else if (growS s (C.1.map Tk.r)).err ≠ 0 then ⟨(growS s (C.1.map Tk.r)).err, [], [], (growS s (C.1.map Tk.r)).wanted, placeF C.1 (growS s (C.1.map Tk.r)).place t.size⟩
  else ⟨0, C.1, (growS s (C.1.map Tk.r)).st, [], 0⟩
def runF (s t : ByteArray) : ROut :=
  if 200 < t.size then badR 1 0
  else if (checkF s).1 ≠ 0 then badR (checkF s).1 0
  else if clashF s ≠ [] then badR 8 0
  else runG s t (cutF (rulesOf s) t)
abbrev outA (vt vn vw : Value) (a : Int) : Array Value := #[vt, vn, vw, .int .i64 a]
theorem szOut : (Tryz.prog.info? 27).map (·.size) = some 4 := by kernel_rfl
theorem out_one (vt vn vw : Value) (a : Int) (h1 : vt.oneCell' = true) (h2 : vn.oneCell' = true) (h3 : vw.oneCell' = true) : (#[vt, vn, vw, Value.int .i64 a] : Array Value).all (·.oneCell') = true :=
  all_oneCell_toArray (cs := [vt, vn, vw, .int .i64 a]) (by intro v hv; simp only [List.mem_cons, List.not_mem_nil, or_false] at hv; rcases hv with rfl | rfl | rfl | rfl; exact h1; exact h2; exact h3; rfl)
def RunRet (s : ByteArray) (O : ROut) (w : World) (e : Ending) (w' : World) : Prop :=
  ∃ vt vn vw, e = .returned (.tuple #[.agg (outA vt vn vw O.place), .int .i64 O.err]) ∧ Fresh w w' ∧ ToksAt w' vt O.toks ∧ NdOwn w' w.heap.size vn (nodesF (tabF s) O.st) ∧ IntOwn w' w.heap.size vw O.wanted
theorem RunRet.bad {s : ByteArray} {e p : Int} {w w' : World} (hf : Fresh w w') : RunRet s (badR e p) w (.returned (.tuple #[.agg (outA (.slice none 0 0) (.slice none 0 0) (.slice none 0 0) p), .int .i64 e])) w' :=
  ⟨_, _, _, rfl, hf, RowAt.nil _ _ _ _, World.ownsRow_nil _ _ _ _, World.ownsRow_nil _ _ _ _⟩
abbrev nil3 : Array Value := outA (.slice none 0 0) (.slice none 0 0) (.slice none 0 0) 0

set_option maxRecDepth 20000 in
set_option maxHeartbeats 4000000 in
theorem run_long (s t : ByteArray) (w : World) (ht : t.size ≤ maxLen) (hl : 200 < t.size) :
    Calls Tryz.prog 5 #[.string s, .string t] w fun e w' => RunRet s (badR 1 0) w e w' := by
  unfold maxLen at ht
  have hl1 : (200 : Int) < (t.size : Int) := by omega
  go_enter Tryz.func5, Tryz.ntmps5
  go_wp2
  exact bodyPost_ret (results_row1 rfl _ _ w.heap.size 27 nil3 (0, 0) _ rfl (heap_alloc_at _ _) Tryz.underlying27 rfl szOut) rfl (RunRet.bad ((Mod.refl _ w).alloc _))

set_option maxRecDepth 20000 in
set_option maxHeartbeats 4000000 in
theorem run_bad (s t : ByteArray) (w : World) (hs : s.size ≤ maxLen) (hl : t.size ≤ 200) (hc : (checkF s).1 ≠ 0) :
    Calls Tryz.prog 5 #[.string s, .string t] w fun e w' => RunRet s (badR (checkF s).1 0) w e w' := by
  have SC := hid (fun w => sheetCheck_any s w hs)
  unfold CheckRet at SC
  have c0 : ((checkF s).1 != 0) = true := by simpa using hc
  have hl1 : ¬ (200 : Int) < (t.size : Int) := by omega
  generalize checkF s = E at SC c0 hc
  go_enter Tryz.func5, Tryz.ntmps5
  go_wp2_with (first
    | (refine wpList_store_row rfl 27 _ _ rfl w.heap.size nil3 rfl rfl _ _ hP1.out szOut rfl (out_one _ _ _ _ rfl rfl rfl) ?_)
    | (go_at_call 8; refine (SC.out _).mono ?_; rintro e w1 ⟨v, rfl, hf1, _⟩; have HF1 : Hid (Fresh w w1) := Mod.trans ((Mod.refl _ w).alloc _) hf1; have hP1 : Hid (w1.heap[w.heap.size]? = some (.cells nil3 27 (0, 0))) := hf1.at (heap_alloc_at w _) (fun x => x); clear hf1))
  refine bodyPost_ret (results_row1 rfl _ _ w.heap.size 27 nil3 (0, 0) _ rfl (setRow_heap _ _ _ _ _ _ hP1.out) Tryz.underlying27 rfl szOut) rfl (RunRet.bad ?_)
  exact HF1.out.setRow (fun h => absurd h (Nat.lt_irrefl _)) _

end Go.Proofs.YteneagnhihcljaaGreatDoor
