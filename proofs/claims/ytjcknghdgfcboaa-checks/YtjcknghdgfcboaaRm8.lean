import Derived.Test.YtjcknghdgfcboaaRm6
import Derived.Test.YtjcknghdgfcboaaRh5
namespace Go.Proofs.Ytjcknghdgfcboaa
open Go.RowKit
set_option linter.unusedVariables false
set_option linter.unusedSimpArgs false

theorem reach_zero {L : Lang} {t : ByteArray} {n j : Nat} : Reach L t (On ((List.replicate (n + 1) false).set 0 true)) j ↔ L (bytesK t 0 j) := by
  constructor
  · rintro ⟨i, h1, h2, h3⟩
    have : i = 0 := by
      unfold On at h2
      rw [List.getElem?_set] at h2
      by_cases e : 0 = i
      · exact e.symm
      · rw [if_neg e, List.getElem?_replicate] at h2
        split at h2 <;> simp at h2
    subst this
    exact h3
  · intro h
    exact ⟨0, by omega, by unfold On; simp, h⟩
def LenRet (L : Lang) (t : ByteArray) (w : World) (e : Ending) (w' : World) : Prop :=
  ∃ g gs, e = .returned (bsl g (t.size + 1)) ∧ Fresh w w' ∧ BSet w' g gs ∧ gs.length = t.size + 1 ∧ ∀ j, j ≤ t.size → (On gs j ↔ L (bytesK t 0 j))
set_option maxRecDepth 20000 in
set_option maxHeartbeats 1000000 in
theorem zlengths_any (p t : ByteArray) (L : Lang) (w : World) (hs : p.size ≤ 1000) (ht : t.size ≤ 210) (h : PatIs p L) :
    Calls Try.prog 27 #[.string p, .string t] w fun e w' => LenRet L t w e w' := by
  have TH := hid (zthrough_all p.size p L (Nat.le_refl _) hs h t)
  have mk := fun w => run_make_row' (P := Try.prog) 73 4 (.bool false) 1 Try.underlying73 (by kernel_rfl) rfl .i64 .i64 (t.size + 1) (by omega) (by omega) w
  simp only [Int.natCast_add, Int.cast_ofNat_Int] at mk
  have hB : BSet (w.alloc (.cells (madeCells #[.bool false] (t.size + 1)) 4)) w.heap.size (List.replicate (t.size + 1) false) := by
    rw [made_bools]; exact heap_alloc_at _ _
  have c0 := hB.cell (j := 0) (by simp)
  have f0 := hB.frozen 0
  have e0 : (List.replicate (t.size + 1) false).getD 0 false = false := by simp
  rw [e0] at c0
  have HB : Hid (BSet (w.alloc (.cells ((madeCells #[.bool false] (t.size + 1)).setIfInBounds 0 (.bool true)) 4)) w.heap.size ((List.replicate (t.size + 1) false).set 0 true)) := by
    unfold Hid BSet
    rw [heap_alloc_at, made_bools]
    congr 2
  have k1 : (0 : Int) < (t.size : Int) + 1 := by omega
  clear hB e0
  go_enter Try.func27, Try.ntmps27
  go_wp2_with (first
    | (go_at_call 45; refine (TH.out w.heap.size _ _ ht HB.out (by simp)).mono ?_; rintro e w1 ⟨g3, ns, rfl, q1, q2, q3⟩; have HN := hid (And.intro q1 (And.intro q2 q3)); clear q1 q2 q3))
  go_ret
  obtain ⟨q1, q2, q3⟩ := HN.out
  refine ⟨g3, ns, rfl, ((Mod.refl _ w).alloc _).trans q1, q2, q3.len, fun j hj => ?_⟩
  rw [q3.on j hj]; exact reach_zero
def MatRet (L : Lang) (t : ByteArray) (w : World) (e : Ending) (w' : World) : Prop :=
  ∃ b : Bool, e = .returned (.bool b) ∧ (b = true ↔ L (bytesOf t)) ∧ Fresh w w'
set_option maxRecDepth 20000 in
set_option maxHeartbeats 1000000 in
theorem zmatches_any (p t : ByteArray) (L : Lang) (w : World) (hs : p.size ≤ 1000) (ht : t.size ≤ 210) (h : PatIs p L) :
    Calls Try.prog 17 #[.string p, .string t] w fun e w' => MatRet L t w e w' := by
  have LE := hid (zlengths_any p t L w hs ht h)
  have k1 : (t.size : Int) < (t.size : Int) + 1 := by omega
  clear h
  go_enter Try.func17, Try.ntmps17
  go_wp2_with (first
    | (go_at_call 27; refine (LE.out).mono ?_; rintro e w1 ⟨g3, ns, rfl, q1, q2, q3, q4⟩; have hc := q2.cell (j := t.size) (by omega); have HN := hid (And.intro q1 (q4 t.size (Nat.le_refl _))); clear q1 q2 q3 q4))
  go_ret
  obtain ⟨q1, q2⟩ := HN.out
  refine ⟨_, rfl, ?_, q1⟩
  show _ ↔ L (bytesK t 0 t.size)
  rw [← q2, on_getD, List.getD_eq_getElem?_getD]
end Go.Proofs.Ytjcknghdgfcboaa
namespace Go.Proofs.Ytjcknghdgfcboaa
open Go.RowKit
set_option linter.unusedVariables false
set_option linter.unusedSimpArgs false

structure YOk (em : ByteArray → Bool) (y : ZLn × Int) : Prop where
  ne : ∀ n ∈ y.1.syms, 0 < n.size
  len : y.1.places.length = y.1.syms.length
  small : y.1.syms.length ≤ 1000
  pl : 0 ≤ y.2 ∧ y.2 ≤ 1000
  pls : ∀ p ∈ y.1.places, 0 ≤ p ∧ p ≤ 1000
  pat : y.1.rule = true → ∃ L, PatIs y.1.pat L ∧ y.1.pat.size ≤ 1000 ∧ (em y.1.pat = true ↔ L [])
theorem YOk.zok {em : ByteArray → Bool} {x : ZLV} (h : YOk em x.both) : ZOk x := ⟨h.ne, h.len, h.small, h.pl, h.pls⟩
def emptyZ (em : ByteArray → Bool) : List ZLV → Option Int
  | [] => none
  | x :: l => if em x.ln.pat = true then some x.pl else emptyZ em l
theorem sort_mem : ∀ (xs : List ZLV) (X : SP) (P : ZLV → Prop), (∀ x ∈ X.rules, P x ∧ x.ln.rule = true) → (∀ x ∈ X.prods, P x) → (∀ x ∈ xs, P x) → (∀ x ∈ (sortL X xs).1.rules, P x ∧ x.ln.rule = true) ∧ (∀ x ∈ (sortL X xs).1.prods, P x)
  | [], X, P, h1, h2, _ => ⟨h1, h2⟩
  | x :: xs, X, P, h1, h2, h3 => by
    have s1 : (∀ y ∈ (sortStep X x).rules, P y ∧ y.ln.rule = true) ∧ (∀ y ∈ (sortStep X x).prods, P y) := by
      unfold sortStep
      split
      · rename_i c
        refine ⟨fun y hy => ?_, h2⟩
        rcases List.mem_append.1 hy with hy | hy
        · exact h1 y hy
        · simp at hy; subst hy; exact ⟨h3 _ (by simp), c⟩
      · refine ⟨h1, fun y hy => ?_⟩
        rcases List.mem_append.1 hy with hy | hy
        · exact h2 y hy
        · simp at hy; subst hy; exact h3 _ (by simp)
    unfold sortL
    split
    · exact s1
    · exact sort_mem xs _ P s1.1 s1.2 (fun y hy => h3 y (by simp [hy]))
theorem sortL_bd : ∀ (xs : List ZLV) (X : SP), SPbd X → (sortL X xs).2 < 0 → (∀ x ∈ xs, 0 ≤ x.pl) → SPbd (sortL X xs).1
  | [], X, h, _, _ => h
  | x :: xs, X, h, hp, hx => by
    unfold sortL at hp ⊢
    cases ho : overZ (sortStep X x) x
    · rw [ho] at hp
      rw [if_neg (by simp)] at hp ⊢
      exact sortL_bd xs _ (sort_bd h ho) hp (fun y hy => hx y (by simp [hy]))
    · rw [ho, if_pos rfl] at hp
      have := hx x (by simp)
      dsimp only at hp
      omega
theorem noSP_bd : SPbd noSP := ⟨by simp [noSP], by simp [noSP], by simp [noSP], by simp [noSP]⟩
def symsOf (X : SP) (x : ZLV) : List Int := x.ln.syms.map (numF X)
/-- the reference's specification, whole -/
structure SpecOk (w : World) (b : Nat) (X : SP) (v0 v1 v2 v3 v4 : Value) (sv : List Value) : Prop where
  sp : SPAt w b X v0 v1 v2 v3 v4 sv
  len : sv.length ≤ X.prods.length
  syms : ∀ (i : Nat) (v : Value) (x : ZLV), sv[i]? = some v → X.prods[i]? = some x → w.ownsRow (b + 1) 3 1 v x.ln.syms.length (ints (symsOf X x)) ∧ ∀ k, v.ownBlock = some k → v4.ownBlock ≠ some k
theorem SpecOk.fresh {w w' : World} {b : Nat} {X : SP} {v0 v1 v2 v3 v4 : Value} {sv : List Value} (h : SpecOk w b X v0 v1 v2 v3 v4 sv) (m : Fresh w w') : SpecOk w' b X v0 v1 v2 v3 v4 sv :=
  ⟨h.sp.fresh m, h.len, fun i v x h1 h2 => ⟨ownsRow_other (h.syms i v x h1 h2).1 (fun g hg => m.block g ((h.syms i v x h1 h2).1.lt g hg).2 (fun x => x)), (h.syms i v x h1 h2).2⟩⟩
theorem SpecOk.add {w wr W w1 : World} {b : Nat} {X : SP} {v0 v1 v2 v3 v4 v' u : Value} {sv : List Value} {x : ZLV} (h : SpecOk w b X v0 v1 v2 v3 v4 sv) (hr : Fresh w wr) (hW : Fresh wr W) (hx : X.prods[sv.length]? = some x)
    (hu : wr.ownsRow w.heap.size 3 1 u x.ln.syms.length (ints (symsOf X x)))
    (hown : w1.ownsRow (b + 1) 46 1 v' (sv.length + 1) (sv ++ [u])) (hg : W.grownBy w1 v4.ownBlock)
    (hb : ∀ k, v'.ownBlock = some k → v4.ownBlock = some k ∨ W.heap.size ≤ k) :
    SpecOk (w1.setCell ⟨b, 4, none⟩ v') b X v0 v1 v2 v3 v' (sv ++ [u]) ∧ UpZ b w (w1.setCell ⟨b, 4, none⟩ v') := by
  obtain ⟨q1, q2⟩ := SPAt.add4 (h.sp.fresh hr) hW hown hg hb
  have hbl := h.sp.lt
  have hz1 := hr.size
  have hz2 := hW.size
  have hmod : Mod (fun k => k = b ∨ v4.ownBlock = some k) wr (w1.setCell ⟨b, 4, none⟩ v') :=
    ((hW.mono (T := fun k => k = b ∨ v4.ownBlock = some k) (fun _ _ x => x.elim)).grown hg (fun k hk _ => .inr hk)).setCell (fun _ => .inl rfl) _
  have v4lt := (h.sp.own_lt (i := 4) rfl)
  refine ⟨⟨q1, ?_, ?_⟩, (hr.mono (fun _ _ x => x.elim)).trans q2⟩
  · have := (List.getElem?_eq_some_iff.1 hx).1
    simp; omega
  · intro i v y h1 h2
    by_cases hi : i < sv.length
    · rw [List.getElem?_append_left hi] at h1
      obtain ⟨y1, y2⟩ := h.syms i v y h1 h2
      have y3 := ownsRow_other (w' := wr) y1 (fun g hg => hr.block g (y1.lt g hg).2 (fun x => x))
      refine ⟨ownsRow_other y3 (fun g hg => hmod.block g (y3.lt g hg).2 ?_), fun k hk e => ?_⟩
      · rintro (e | e)
        · have := (y1.lt g hg).1; omega
        · exact y2 g hg e
      · rcases hb k e with z | z
        · exact y2 k hk z
        · have := y1.lt k hk; omega
    · have hi2 := (List.getElem?_eq_some_iff.1 h1).1
      simp at hi2
      have e : i = sv.length := by omega
      subst e
      rw [List.getElem?_append_right (Nat.le_refl _)] at h1
      simp at h1
      subst h1
      rw [hx] at h2
      injection h2 with h2
      subst h2
      have ul := hu.lt
      refine ⟨ownsRow_base (ownsRow_other hu (fun g hg => hmod.block g (ul g hg).2 ?_)) (by omega), fun k hk e => ?_⟩
      · rintro (e | e)
        · have := ul g hg; omega
        · have := v4lt g e; have := ul g hg; omega
      · have := ul k hk
        rcases hb k e with z | z
        · have := v4lt k z; omega
        · omega
def SpecX (w : World) (b : Nat) (X : SP) : Prop := ∃ v0 v1 v2 v3 v4 sv, SpecOk w b X v0 v1 v2 v3 v4 sv ∧ sv.length = X.prods.length
def tailZ (s : ByteArray) (n : Nat) : Option Int → Int × Int
  | some p => (5, p)
  | none => if n = 0 then (6, (s.size : Int)) else (0, 0)
def readZ (em : ByteArray → Bool) (s : ByteArray) (xs : List ZLV) (fp : Int) : Int × Int :=
  if 800 < s.size then (1, 0) else if 0 ≤ fp then (2, fp) else if 0 ≤ (sortL noSP xs).2 then (3, (sortL noSP xs).2)
  else if 0 ≤ namesL (sortL noSP xs).1 xs [] then (4, namesL (sortL noSP xs).1 xs [])
  else tailZ s (sortL noSP xs).1.prods.length (emptyZ em (sortL noSP xs).1.rules)
def ReadRet (em : ByteArray → Bool) (s : ByteArray) (w : World) (e : Ending) (w' : World) : Prop :=
  ∃ (p : Value) (xs : List ZLV), (s.size ≤ 800 → xs.map ZLV.both = (zForm s).1) ∧ (∀ x ∈ xs, x.At w.heap.size w') ∧ e = .returned (.tuple #[p, .int .i64 (readZ em s xs (zForm s).2).1, .int .i64 (readZ em s xs (zForm s).2).2]) ∧ Fresh w w' ∧
    ((readZ em s xs (zForm s).2).1 = 0 → ∃ b, w.heap.size ≤ b ∧ p = .pointer (some ⟨b, 0, none⟩) ∧ SpecX w' b (sortL noSP xs).1)
end Go.Proofs.Ytjcknghdgfcboaa
