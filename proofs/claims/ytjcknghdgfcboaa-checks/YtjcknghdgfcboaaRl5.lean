import Derived.Test.YtjcknghdgfcboaaRl4
namespace Go.Proofs.Ytjcknghdgfcboaa
open Go.RowKit
set_option linter.unusedVariables false
set_option linter.unusedSimpArgs false

/-- v stands here, then c closing bytes, then what ends a pattern -/
structure Suf (T : ByteArray) (x : Int) (v : ByteArray) (c : Nat) : Prop where
  has : Has T x v
  close : ∀ j : Nat, j < c → atB T (x + v.size + j) = 41
  stop : stopC (atB T (x + v.size + c)) = true
theorem Suf.less {T : ByteArray} {x : Int} {v : ByteArray} {c : Nat} (h : Suf T x v (c + 1)) : Suf T x v c ∧ atB T (x + v.size + c) = 41 := by
  have e := h.close c (by omega)
  exact ⟨⟨h.has, fun j hj => h.close j (by omega), by rw [e]; decide⟩, e⟩
/-- what is broken off at m can be ended -/
def CompAt (s : ByteArray) (l : ByteArray → Int → LR) (k : Nat) (i m : Int) : Prop := ∃ v, v ∈ V6 ∧ ∃ c, c ≤ k ∧ ∀ (T : ByteArray) (i' : Int), 0 ≤ i' → Alike s i T i' (m - i).toNat → Suf T (i' + (m - i)) v c → (l T i').ok = true ∧ (l T i').next = i' + (m - i) + v.size + c
def CompF (s : ByteArray) (l : ByteArray → Int → LR) (k : Nat) : Prop := ∀ i m : Int, 0 ≤ i → i ≤ m → m ≤ s.size → m ≤ (l s i).next → CompAt s l k i m
def CompG (s : ByteArray) (l : ByteArray → Int → LR) (k : Nat) : Prop := ∀ i m : Int, 0 ≤ i → i < m → m ≤ s.size → atB s i = 40 → m ≤ (l s i).next → CompAt s l k i m
theorem vNone_size : (vNone.size : Int) = 0 := by decide
section
variable {s : ByteArray} {k : Nat}
theorem comp_atom {g : ByteArray → Int → LR} (hg : CompG s g k) (hl : ∀ T, LocA s T (lAtom (g s) s) (lAtom (g T) T)) : CompF s (fun T => lAtom (g T) T) k := by
  intro i m h0 him hms hm
  dsimp only at hm
  by_cases e : i = m
  · subst e
    refine ⟨vA, by simp [V6], 0, Nat.zero_le _, fun T i' h0' ha hs => ?_⟩
    have hz : (vA.size : Int) = 1 := by decide
    have b := has_a hs.has
    rw [Int.sub_self, Int.add_zero] at b
    have hr := rSet_plain (s := T) (i := i') (by rw [b]; decide)
    dsimp only
    unfold lAtom
    rw [if_neg (by rw [b]; decide), hr, if_neg (by simp)]
    exact ⟨rfl, by dsimp only; omega⟩
  · by_cases c : atB s i = 40
    · have hm' : m ≤ (g s i).next := by unfold lAtom at hm; rw [if_pos c] at hm; exact hm
      obtain ⟨v, hv, cc, hc, hT⟩ := hg i m h0 (by omega) hms c hm'
      refine ⟨v, hv, cc, hc, fun T i' h0' ha hs => ?_⟩
      have a1 := ha.at0 (by omega)
      have := hT T i' h0' ha hs
      dsimp only
      unfold lAtom
      rw [if_pos (by rw [a1]; exact c)]
      exact this
    · by_cases full : (lAtom (g s) s i).ok = true ∧ (lAtom (g s) s i).next = m
      · refine ⟨vNone, by simp [V6], 0, Nat.zero_le _, fun T i' h0' ha hs => ?_⟩
        have hz := vNone_size
        have sm := hl T i i' (m - i).toNat h0 (by omega) h0' ha full.1 (by omega)
        exact ⟨sm.ok, by dsimp only; rw [sm.next]; omega⟩
      · have hm' : m ≤ (rSet s i).2.1 ∧ ((rSet s i).2.2 = true → (rSet s i).2.1 ≠ m) := by
          unfold lAtom at hm full
          rw [if_neg c] at hm full
          by_cases q : (rSet s i).2.2 = false
          · rw [if_pos q] at hm; exact ⟨hm, fun z => by rw [q] at z; cases z⟩
          · rw [if_neg q] at hm full; exact ⟨hm, fun _ z => full ⟨rfl, z⟩⟩
        obtain ⟨hm1, hm2⟩ := hm'
        have back : ∀ (T : ByteArray) (i' y : Int), Alike s i T i' (m - i).toNat → (rSet T i').2.2 = true → (rSet T i').2.1 = y → (lAtom (g T) T i').ok = true ∧ (lAtom (g T) T i').next = y := fun T i' y ha q1 q2 => by
          have a1 := ha.at0 (by omega)
          unfold lAtom
          rw [if_neg (by rw [a1]; exact c), if_neg (by rw [q1]; simp)]
          exact ⟨rfl, q2⟩
        unfold rSet at hm1 hm2
        by_cases c46 : atB s i = 46
        · rw [if_pos c46] at hm1 hm2; dsimp only at hm1 hm2; exact (hm2 rfl (by omega)).elim
        · rw [if_neg c46] at hm1 hm2
          by_cases c91 : atB s i = 91
          · rw [if_pos c91] at hm1
            obtain ⟨v, hv, hT⟩ := comp_br (s := s) (i := i + 1) (m := m) (by omega) (by omega) hms hm1
            refine ⟨v, hv, 0, Nat.zero_le _, fun T i' h0' ha hs => ?_⟩
            have a1 := ha.at0 (by omega)
            have ht := ha.tail
            rw [show (m - i).toNat - 1 = (m - (i + 1)).toNat by omega] at ht
            obtain ⟨y1, y2⟩ := hT T (i' + 1) (by omega) ht (by rw [show i' + 1 + (m - (i + 1)) = i' + (m - i) by omega]; exact hs.has)
            have hr : rSet T i' = rBr T (i' + 1) := by unfold rSet; rw [if_neg (by rw [a1]; exact c46), if_pos (by rw [a1]; exact c91)]
            exact back T i' _ ha (by rw [hr]; exact y1) (by rw [hr, y2]; omega)
          · rw [if_neg c91] at hm1 hm2
            by_cases c92 : atB s i = 92
            · rw [if_pos c92] at hm1 hm2
              dsimp only at hm1 hm2
              have e1 : m = i + 1 := by
                cases q : (rMark s (i + 1)).2.2
                · have := mark_bad q; omega
                · have := (mark_le q).2
                  have := hm2 q; omega
              refine ⟨vT, by simp [V6], 0, Nat.zero_le _, fun T i' h0' ha hs => ?_⟩
              have hz : (vT.size : Int) = 1 := by decide
              have a1 := ha.at0 (by omega)
              have b := has_t hs.has
              have hk := rMark_tilde (T := T) (x := i' + 1) (by rw [← b]; congr 1; omega)
              have hr : (rSet T i').2.1 = i' + 2 ∧ (rSet T i').2.2 = true := by
                unfold rSet
                rw [if_neg (by rw [a1]; exact c46), if_neg (by rw [a1]; exact c91), if_pos (by rw [a1]; exact c92), hk]
                exact ⟨by dsimp only; omega, rfl⟩
              exact back T i' _ ha hr.2 (by rw [hr.1]; omega)
            · rw [if_neg c92] at hm1 hm2
              by_cases cp : isPlainB (atB s i) = false
              · rw [if_pos cp] at hm1; dsimp only at hm1; omega
              · rw [if_neg cp] at hm1 hm2; dsimp only at hm1 hm2; exact (hm2 rfl (by omega)).elim
theorem comp_g (hc : CompF s (fun T => lchK T k) k) : CompG s (fun T => lgK T (k + 1)) (k + 1) := by
  intro i m h0 him hms h40 hm
  have hm : m ≤ (lGroup (lchK s k) s i).next := hm
  by_cases q : m ≤ (lchK s k (i + 1)).next
  · obtain ⟨v, hv, c, hcc, hT⟩ := hc (i + 1) m (by omega) (by omega) hms q
    refine ⟨v, hv, c + 1, by omega, fun T i' h0' ha hs => ?_⟩
    obtain ⟨hs1, hs2⟩ := hs.less
    have ht := ha.tail
    rw [show (m - i).toNat - 1 = (m - (i + 1)).toNat by omega] at ht
    have e : i' + 1 + (m - (i + 1)) = i' + (m - i) := by omega
    obtain ⟨y1, y2⟩ := hT T (i' + 1) (by omega) ht (by rw [e]; exact hs1)
    dsimp only at y1 y2
    rw [e] at y2
    show (lGroup (lchK T k) T i').ok = true ∧ (lGroup (lchK T k) T i').next = _
    unfold lGroup
    rw [if_neg (by rw [y1]; simp), y2, if_neg (by rw [hs2]; simp)]
    exact ⟨rfl, by dsimp only; omega⟩
  · have full : (lGroup (lchK s k) s i).ok = true ∧ (lGroup (lchK s k) s i).next = m := by
      unfold lGroup at hm ⊢
      split
      · rename_i e; rw [if_pos e] at hm; exact absurd hm q
      · rename_i e; rw [if_neg e] at hm
        split
        · rename_i e2; rw [if_pos e2] at hm; exact absurd hm q
        · rename_i e2; rw [if_neg e2] at hm
          dsimp only at hm ⊢
          exact ⟨rfl, by omega⟩
    refine ⟨vNone, by simp [V6], 0, Nat.zero_le _, fun T i' h0' ha hs => ?_⟩
    have hz := vNone_size
    have sm := loc_gK s T (k + 1) (k + 1) (Nat.le_refl _) i i' (m - i).toNat h0 h0' h40 ha full.1 (by have : (lgK s (k + 1) i).next = m := full.2; omega)
    refine ⟨sm.ok, ?_⟩
    dsimp only
    rw [sm.next, show (lgK s (k + 1) i).next = m from full.2]; omega
theorem piece_halt {T : ByteArray} (f : Nat) (r : LR) (h : isMark (atB T r.next) = false) : lPieceL T f r = r := by
  cases f with
  | zero => rfl
  | succ f => rw [lPieceL_s, if_neg (by rw [h]; simp)]
theorem branch_halt {T : ByteArray} {p : Int → LR} (f : Nat) (r : LR) (h : begC (atB T r.next) = false) : lBranchL p T f r = r := by
  cases f with
  | zero => rfl
  | succ f => rw [lBranchL_s, beginsB_eq, if_neg (by rw [h]; simp)]
theorem choice_halt {T : ByteArray} {p : Int → LR} (f : Nat) (r : LR) (h : atB T r.next ≠ 124) : lChoiceL p T f r = r := by
  cases f with
  | zero => rfl
  | succ f => rw [lChoiceL_s, if_neg (by rw [Bool.and_eq_true]; intro z; exact h (by simpa using z.2))]
theorem piece_run {i m : Int} : ∀ (f : Nat) (x : Int) (L : Lang), i ≤ x → x ≤ m → m ≤ (lPieceL s f ⟨x, true, L⟩).next → ∀ (T : ByteArray) (i' : Int), Alike s i T i' (m - i).toNat → isMark (atB T (i' + (m - i))) = false →
    ∀ (f' : Nat) (L' : Lang), (T.size : Int) + 2 ≤ f' + (x - i + i') → (lPieceL T f' ⟨x - i + i', true, L'⟩).ok = true ∧ (lPieceL T f' ⟨x - i + i', true, L'⟩).next = i' + (m - i) := by
  intro f
  induction f with
  | zero =>
    intro x L hi hx hm T i' ha hs f' L' hf'
    have hm' : m ≤ x := hm
    rw [piece_halt _ _ (by dsimp only; rw [show x - i + i' = i' + (m - i) by omega]; exact hs)]
    exact ⟨rfl, by dsimp only; omega⟩
  | succ f ih =>
    intro x L hi hx hm T i' ha hs f' L' hf'
    by_cases e : x = m
    · rw [piece_halt _ _ (by dsimp only; rw [show x - i + i' = i' + (m - i) by omega]; exact hs)]
      exact ⟨rfl, by dsimp only; omega⟩
    · rw [lPieceL_s] at hm
      dsimp only at hm
      rw [Bool.true_and] at hm
      have a1 := ha.atK (x := x) hi (by omega)
      by_cases c : isMark (atB s x) = true
      · rw [if_pos c] at hm
        have := atB_lt (s := T) (i := x - i + i') (by rw [a1]; exact mark_in c)
        obtain ⟨f', rfl⟩ : ∃ y, f' = y + 1 := ⟨f' - 1, by omega⟩
        rw [lPieceL_s]
        dsimp only
        rw [a1, Bool.true_and, if_pos c, show x - i + i' + 1 = x + 1 - i + i' by omega]
        exact ih (x + 1) _ (by omega) (by omega) hm T i' ha hs f' _ (by omega)
      · rw [if_neg c] at hm; dsimp only at hm; omega
theorem comp_piece {a : ByteArray → Int → LR} (hp : CompF s a k) (hd : ∀ T, DetF s T (a s) (a T)) (hlo : LoF s (a s)) : CompF s (fun T => lPiece (a T) T) k := by
  intro i m h0 him hms hm
  dsimp only at hm
  by_cases q : m ≤ (a s i).next
  · obtain ⟨v, hv, c, hc, hT⟩ := hp i m h0 him hms q
    refine ⟨v, hv, c, hc, fun T i' h0' ha hs => ?_⟩
    obtain ⟨y1, y2⟩ := hT T i' h0' ha hs
    dsimp only
    unfold lPiece
    rw [piece_halt _ _ (by rw [y2]; exact stopC_mark hs.stop)]
    exact ⟨y1, y2⟩
  · have hk : (a s i).ok = true := by
      cases z : (a s i).ok
      · unfold lPiece at hm; rw [lPieceL_bad s _ _ z] at hm; exact absurd hm q
      · rfl
    have hl := hlo i h0 (by omega)
    refine ⟨vNone, by simp [V6], 0, Nat.zero_le _, fun T i' h0' ha hs => ?_⟩
    have hz := vNone_size
    have d := hd T i i' (m - i).toNat h0 h0' (by omega) (by omega) ha (by omega)
    rw [hk] at d
    have e2 := lr_eta d.1
    rw [d.2] at e2
    unfold lPiece at hm
    rw [lr_eta hk] at hm
    have st := hs.stop
    rw [show i' + (m - i) + (vNone.size : Int) + ((0 : Nat) : Int) = i' + (m - i) by omega] at st ⊢
    dsimp only
    unfold lPiece
    rw [e2]
    exact piece_run (s.size + 5) (a s i).next _ (by omega) (by omega) hm T i' ha (stopC_mark st) (T.size + 5) _ (by omega)
theorem lJoin_ok (q : LR) (y : Int) (M : Lang) : (lJoin ⟨y, true, M⟩ q).next = q.next ∧ (lJoin ⟨y, true, M⟩ q).ok = q.ok := by
  unfold lJoin
  cases z : q.ok <;> simp
theorem lEither_ok (q : LR) (y : Int) (M : Lang) : (lEither ⟨y, true, M⟩ q).next = q.next ∧ (lEither ⟨y, true, M⟩ q).ok = q.ok := by
  unfold lEither
  cases z : q.ok <;> simp
theorem comp_branchL {p : ByteArray → Int → LR} (hp : CompF s p k) (hd : ∀ T, DetF s T (p s) (p T)) (hg : LGoodF s (p s)) {i m : Int} (h0 : 0 ≤ i) (hms : m ≤ s.size) : ∀ (f : Nat) (x : Int) (L : Lang), i ≤ x → x ≤ m → m ≤ (lBranchL (p s) s f ⟨x, true, L⟩).next →
    ∃ v, v ∈ V6 ∧ ∃ c, c ≤ k ∧ ∀ (T : ByteArray) (i' : Int), 0 ≤ i' → Alike s i T i' (m - i).toNat → Suf T (i' + (m - i)) v c → ∀ (f' : Nat) (L' : Lang), (T.size : Int) + 2 ≤ f' + (x - i + i') →
      (lBranchL (p T) T f' ⟨x - i + i', true, L'⟩).ok = true ∧ (lBranchL (p T) T f' ⟨x - i + i', true, L'⟩).next = i' + (m - i) + v.size + c := by
  have base : ∀ x : Int, x = m → ∃ v, v ∈ V6 ∧ ∃ c, c ≤ k ∧ ∀ (T : ByteArray) (i' : Int), 0 ≤ i' → Alike s i T i' (m - i).toNat → Suf T (i' + (m - i)) v c → ∀ (f' : Nat) (L' : Lang), (T.size : Int) + 2 ≤ f' + (x - i + i') →
      (lBranchL (p T) T f' ⟨x - i + i', true, L'⟩).ok = true ∧ (lBranchL (p T) T f' ⟨x - i + i', true, L'⟩).next = i' + (m - i) + v.size + c := by
    intro x hx
    refine ⟨vNone, by simp [V6], 0, Nat.zero_le _, fun T i' h0' ha hs f' L' hf' => ?_⟩
    have hz := vNone_size
    have st := hs.stop
    rw [branch_halt _ _ (by dsimp only; rw [show x - i + i' = i' + (m - i) + (vNone.size : Int) + ((0 : Nat) : Int) by omega]; exact stopC_beg st)]
    exact ⟨rfl, by dsimp only; omega⟩
  intro f
  induction f with
  | zero =>
    intro x L hi hx hm
    have hm' : m ≤ x := hm
    exact base x (by omega)
  | succ f ih =>
    intro x L hi hx hm
    by_cases e : x = m
    · exact base x e
    · rw [lBranchL_s, beginsB_eq] at hm
      dsimp only at hm
      rw [Bool.true_and] at hm
      by_cases c : begC (atB s x) = true
      · rw [if_pos c] at hm
        have hin : ∀ (T : ByteArray) (i' : Int), Alike s i T i' (m - i).toNat → atB T (x - i + i') = atB s x ∧ x - i + i' < T.size ∧ 0 ≤ x - i + i' := fun T i' ha => in_text ha h0 (by omega) hi (by omega)
        by_cases q : m ≤ (p s x).next
        · obtain ⟨v, hv, cc, hc, hT⟩ := hp x m (by omega) hx hms q
          refine ⟨v, hv, cc, hc, fun T i' h0' ha hs f' L' hf' => ?_⟩
          obtain ⟨a1, a2, a3⟩ := hin T i' ha
          have hx2 := alike_on ha (x := x) hi
          rw [show (m - i).toNat - (x - i).toNat = (m - x).toNat by omega] at hx2
          have ee : x - i + i' + (m - x) = i' + (m - i) := by omega
          obtain ⟨y1, y2⟩ := hT T (x - i + i') (by omega) hx2 (by rw [ee]; exact hs)
          rw [ee] at y2
          obtain ⟨f', rfl⟩ : ∃ y, f' = y + 1 := ⟨f' - 1, by omega⟩
          rw [lBranchL_s, beginsB_eq]
          dsimp only
          rw [a1, Bool.true_and, if_pos c, branch_halt _ _ (by rw [(lJoin_ok _ _ _).1, y2]; exact stopC_beg hs.stop), (lJoin_ok _ _ _).1, (lJoin_ok _ _ _).2]
          exact ⟨y1, y2⟩
        · have hk : (p s x).ok = true := by
            cases z : (p s x).ok
            · rw [lBranchL_bad (p s) s _ _ (by rw [(lJoin_ok _ _ _).2]; exact z), (lJoin_ok _ _ _).1] at hm; exact absurd hm q
            · rfl
          have g := hg x (by omega) (by omega) hk
          rw [show lJoin ⟨x, true, L⟩ (p s x) = ⟨(p s x).next, true, Lang.cat L (p s x).lang⟩ by unfold lJoin; rw [if_pos hk]] at hm
          obtain ⟨v, hv, cc, hc, hT⟩ := ih (p s x).next _ (by omega) (by omega) hm
          refine ⟨v, hv, cc, hc, fun T i' h0' ha hs f' L' hf' => ?_⟩
          obtain ⟨a1, a2, a3⟩ := hin T i' ha
          have hx2 := alike_on ha (x := x) hi
          have d := hd T x (x - i + i') _ (by omega) (by omega) (by omega) (by omega) hx2 (by omega)
          rw [hk] at d
          obtain ⟨f', rfl⟩ : ∃ y, f' = y + 1 := ⟨f' - 1, by omega⟩
          rw [lBranchL_s, beginsB_eq]
          dsimp only
          rw [a1, Bool.true_and, if_pos c, show lJoin ⟨x - i + i', true, L'⟩ (p T (x - i + i')) = ⟨(p s x).next - i + i', true, Lang.cat L' (p T (x - i + i')).lang⟩ by
            unfold lJoin
            rw [if_pos d.1, d.2, show (p s x).next - x + (x - i + i') = (p s x).next - i + i' by omega]]
          exact hT T i' h0' ha hs f' _ (by omega)
      · rw [if_neg c] at hm; dsimp only at hm; omega
theorem comp_branch {p : ByteArray → Int → LR} (hp : CompF s p k) (hd : ∀ T, DetF s T (p s) (p T)) (hg : LGoodF s (p s)) : CompF s (fun T => lBranch (p T) T) k := by
  intro i m h0 him hms hm
  dsimp only at hm
  by_cases q : m ≤ (p s i).next
  · obtain ⟨v, hv, c, hc, hT⟩ := hp i m h0 him hms q
    refine ⟨v, hv, c, hc, fun T i' h0' ha hs => ?_⟩
    obtain ⟨y1, y2⟩ := hT T i' h0' ha hs
    dsimp only
    unfold lBranch
    rw [branch_halt _ _ (by rw [y2]; exact stopC_beg hs.stop)]
    exact ⟨y1, y2⟩
  · have hk : (p s i).ok = true := by
      cases z : (p s i).ok
      · unfold lBranch at hm; rw [lBranchL_bad (p s) s _ _ z] at hm; exact absurd hm q
      · rfl
    have g := hg i h0 (by omega) hk
    unfold lBranch at hm
    rw [lr_eta hk] at hm
    obtain ⟨v, hv, c, hc, hT⟩ := comp_branchL hp hd hg h0 hms (s.size + 5) (p s i).next _ (by omega) (by omega) hm
    refine ⟨v, hv, c, hc, fun T i' h0' ha hs => ?_⟩
    have d := hd T i i' (m - i).toNat h0 h0' (by omega) (by omega) ha (by omega)
    rw [hk] at d
    have e2 := lr_eta d.1
    rw [d.2] at e2
    dsimp only
    unfold lBranch
    rw [e2]
    exact hT T i' h0' ha hs (T.size + 5) _ (by omega)
theorem comp_choiceL {p : ByteArray → Int → LR} (hp : CompF s p k) (hd : ∀ T, DetF s T (p s) (p T)) (hg : LGoodF s (p s)) {i m : Int} (h0 : 0 ≤ i) (hms : m ≤ s.size) : ∀ (f : Nat) (x : Int) (L : Lang), i ≤ x → x ≤ m → m ≤ (lChoiceL (p s) s f ⟨x, true, L⟩).next →
    ∃ v, v ∈ V6 ∧ ∃ c, c ≤ k ∧ ∀ (T : ByteArray) (i' : Int), 0 ≤ i' → Alike s i T i' (m - i).toNat → Suf T (i' + (m - i)) v c → ∀ (f' : Nat) (L' : Lang), (T.size : Int) + 2 ≤ f' + (x - i + i') →
      (lChoiceL (p T) T f' ⟨x - i + i', true, L'⟩).ok = true ∧ (lChoiceL (p T) T f' ⟨x - i + i', true, L'⟩).next = i' + (m - i) + v.size + c := by
  have base : ∀ x : Int, x = m → ∃ v, v ∈ V6 ∧ ∃ c, c ≤ k ∧ ∀ (T : ByteArray) (i' : Int), 0 ≤ i' → Alike s i T i' (m - i).toNat → Suf T (i' + (m - i)) v c → ∀ (f' : Nat) (L' : Lang), (T.size : Int) + 2 ≤ f' + (x - i + i') →
      (lChoiceL (p T) T f' ⟨x - i + i', true, L'⟩).ok = true ∧ (lChoiceL (p T) T f' ⟨x - i + i', true, L'⟩).next = i' + (m - i) + v.size + c := by
    intro x hx
    refine ⟨vNone, by simp [V6], 0, Nat.zero_le _, fun T i' h0' ha hs f' L' hf' => ?_⟩
    have hz := vNone_size
    have st := hs.stop
    rw [choice_halt _ _ (by dsimp only; rw [show x - i + i' = i' + (m - i) + (vNone.size : Int) + ((0 : Nat) : Int) by omega]; exact stopC_bar st)]
    exact ⟨rfl, by dsimp only; omega⟩
  intro f
  induction f with
  | zero =>
    intro x L hi hx hm
    have hm' : m ≤ x := hm
    exact base x (by omega)
  | succ f ih =>
    intro x L hi hx hm
    by_cases e : x = m
    · exact base x e
    · rw [lChoiceL_s] at hm
      dsimp only at hm
      rw [Bool.true_and] at hm
      by_cases c : (atB s x == 124) = true
      · rw [if_pos c] at hm
        have hin : ∀ (T : ByteArray) (i' : Int), Alike s i T i' (m - i).toNat → atB T (x - i + i') = atB s x ∧ x - i + i' < T.size ∧ 0 ≤ x - i + i' := fun T i' ha => in_text ha h0 (by omega) hi (by omega)
        by_cases q : m ≤ (p s (x + 1)).next
        · obtain ⟨v, hv, cc, hc, hT⟩ := hp (x + 1) m (by omega) (by omega) hms q
          refine ⟨v, hv, cc, hc, fun T i' h0' ha hs f' L' hf' => ?_⟩
          obtain ⟨a1, a2, a3⟩ := hin T i' ha
          have hx2 := alike_on ha (x := x + 1) (by omega)
          rw [show (m - i).toNat - (x + 1 - i).toNat = (m - (x + 1)).toNat by omega, show x + 1 - i + i' = x - i + i' + 1 by omega] at hx2
          have ee : x - i + i' + 1 + (m - (x + 1)) = i' + (m - i) := by omega
          obtain ⟨y1, y2⟩ := hT T (x - i + i' + 1) (by omega) hx2 (by rw [ee]; exact hs)
          rw [ee] at y2
          obtain ⟨f', rfl⟩ : ∃ y, f' = y + 1 := ⟨f' - 1, by omega⟩
          rw [lChoiceL_s]
          dsimp only
          rw [a1, Bool.true_and, if_pos c, choice_halt _ _ (by rw [(lEither_ok _ _ _).1, y2]; exact stopC_bar hs.stop), (lEither_ok _ _ _).1, (lEither_ok _ _ _).2]
          exact ⟨y1, y2⟩
        · have hk : (p s (x + 1)).ok = true := by
            cases z : (p s (x + 1)).ok
            · rw [lChoiceL_bad (p s) s _ _ (by rw [(lEither_ok _ _ _).2]; exact z), (lEither_ok _ _ _).1] at hm; exact absurd hm q
            · rfl
          have g := hg (x + 1) (by omega) (by omega) hk
          rw [show lEither ⟨x, true, L⟩ (p s (x + 1)) = ⟨(p s (x + 1)).next, true, Lang.alt L (p s (x + 1)).lang⟩ by unfold lEither; rw [if_pos hk]] at hm
          obtain ⟨v, hv, cc, hc, hT⟩ := ih (p s (x + 1)).next _ (by omega) (by omega) hm
          refine ⟨v, hv, cc, hc, fun T i' h0' ha hs f' L' hf' => ?_⟩
          obtain ⟨a1, a2, a3⟩ := hin T i' ha
          have hx2 := alike_on ha (x := x + 1) (by omega)
          have d := hd T (x + 1) (x + 1 - i + i') _ (by omega) (by omega) (by omega) (by omega) hx2 (by omega)
          rw [hk] at d
          obtain ⟨f', rfl⟩ : ∃ y, f' = y + 1 := ⟨f' - 1, by omega⟩
          rw [lChoiceL_s]
          dsimp only
          rw [a1, Bool.true_and, if_pos c, show x - i + i' + 1 = x + 1 - i + i' by omega, show lEither ⟨x - i + i', true, L'⟩ (p T (x + 1 - i + i')) = ⟨(p s (x + 1)).next - i + i', true, Lang.alt L' (p T (x + 1 - i + i')).lang⟩ by
            unfold lEither
            rw [if_pos d.1, d.2, show (p s (x + 1)).next - (x + 1) + (x + 1 - i + i') = (p s (x + 1)).next - i + i' by omega]]
          exact hT T i' h0' ha hs f' _ (by omega)
      · rw [if_neg c] at hm; dsimp only at hm; omega
theorem comp_choice {p : ByteArray → Int → LR} (hp : CompF s p k) (hd : ∀ T, DetF s T (p s) (p T)) (hg : LGoodF s (p s)) : CompF s (fun T => lChoice (p T) T) k := by
  intro i m h0 him hms hm
  dsimp only at hm
  by_cases q : m ≤ (p s i).next
  · obtain ⟨v, hv, c, hc, hT⟩ := hp i m h0 him hms q
    refine ⟨v, hv, c, hc, fun T i' h0' ha hs => ?_⟩
    obtain ⟨y1, y2⟩ := hT T i' h0' ha hs
    dsimp only
    unfold lChoice
    rw [choice_halt _ _ (by rw [y2]; exact stopC_bar hs.stop)]
    exact ⟨y1, y2⟩
  · have hk : (p s i).ok = true := by
      cases z : (p s i).ok
      · unfold lChoice at hm; rw [lChoiceL_bad (p s) s _ _ z] at hm; exact absurd hm q
      · rfl
    have g := hg i h0 (by omega) hk
    unfold lChoice at hm
    rw [lr_eta hk] at hm
    obtain ⟨v, hv, c, hc, hT⟩ := comp_choiceL hp hd hg h0 hms (s.size + 5) (p s i).next _ (by omega) (by omega) hm
    refine ⟨v, hv, c, hc, fun T i' h0' ha hs => ?_⟩
    have d := hd T i i' (m - i).toNat h0 h0' (by omega) (by omega) ha (by omega)
    rw [hk] at d
    have e2 := lr_eta d.1
    rw [d.2] at e2
    dsimp only
    unfold lChoice
    rw [e2]
    exact hT T i' h0' ha hs (T.size + 5) _ (by omega)
end
theorem comp_up {s : ByteArray} {k : Nat} (h : CompG s (fun T => lgK T k) k) : CompF s (fun T => lchK T k) k :=
  comp_choice (p := fun T => lBranch (lPiece (lAtom (lgK T k) T) T) T)
    (comp_branch (p := fun T => lPiece (lAtom (lgK T k) T) T)
      (comp_piece (a := fun T => lAtom (lgK T k) T)
        (comp_atom (g := fun T => lgK T k) h (fun T => loc_atom (loc_gK s T k k (Nat.le_refl _)) (lg_atom s k)))
        (fun T => det_am s T k) (lo_atom s k))
      (fun T => det_pc s T k) (lg_piece s k))
    (fun T => det_br s T k) (lg_branch s k)
theorem comp_gK (s : ByteArray) : ∀ k : Nat, CompG s (fun T => lgK T k) k
  | 0 => fun i m h0 him hms h40 hm => by
    have : m ≤ i := hm
    omega
  | k + 1 => comp_g (comp_up (comp_gK s k))
/-- a pattern that is broken off can be ended -/
theorem comp_chK (s : ByteArray) (k : Nat) : CompF s (fun T => lchK T k) k := comp_up (comp_gK s k)
end Go.Proofs.Ytjcknghdgfcboaa
