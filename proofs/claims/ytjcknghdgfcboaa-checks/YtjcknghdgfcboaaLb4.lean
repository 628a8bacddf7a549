import Derived.Test.YtjcknghdgfcboaaRf6
namespace Go.Proofs.Ytjcknghdgfcboaa
open Go.RowKit
set_option linter.unusedVariables false
set_option linter.unusedSimpArgs false

def openT : ByteArray := ⟨#[40]⟩
def closeT : ByteArray := ⟨#[41]⟩
/-- the patterns that joined makes -/
def eitherT (p q : ByteArray) : ByteArray := openT ++ p ++ ⟨#[41, 124, 40]⟩ ++ q ++ closeT
def bothT (p q : ByteArray) : ByteArray := openT ++ p ++ ⟨#[41, 40]⟩ ++ q ++ closeT
def markT (m : UInt8) (p : ByteArray) : ByteArray := openT ++ p ++ ⟨#[41, m]⟩
theorem open_size : openT.size = 1 := rfl
theorem close_size : closeT.size = 1 := rfl
theorem size2 (a b : UInt8) : (⟨#[a, b]⟩ : ByteArray).size = 2 := rfl
theorem size3 (a b c : UInt8) : (⟨#[a, b, c]⟩ : ByteArray).size = 3 := rfl
/-- a text that begins with a pattern in brackets -/
theorem grp_at (p r : ByteArray) : (openT ++ p ++ r).size = p.size + 1 + r.size ∧ atB (openT ++ p ++ r) 0 = 40 ∧ (∀ j : Int, 0 ≤ j → j < p.size → atB (openT ++ p ++ r) (1 + j) = atB p j) ∧ (∀ j : Int, 0 ≤ j → atB (openT ++ p ++ r) (1 + p.size + j) = atB r j) := by
  refine ⟨by rw [ByteArray.size_append, ByteArray.size_append, open_size]; omega, ?_, fun j h0 h1 => ?_, fun j h0 => ?_⟩
  · rw [atB_app, if_pos (by rw [ByteArray.size_append, open_size]; omega), atB_app, if_pos (by rw [open_size]; omega)]; decide
  · rw [atB_app, if_pos (by rw [ByteArray.size_append, open_size]; omega), atB_app, if_neg (by rw [open_size]; omega), open_size]
    congr 1; omega
  · rw [atB_app, if_neg (by rw [ByteArray.size_append, open_size]; omega), ByteArray.size_append, open_size]
    congr 1; omega
section
variable {p q r : ByteArray} {L M : Lang}
/-- the first brackets -/
theorem first_grp (hp : IsPat p L) (hr : atB r 0 = 41) (hok : (lchK (specX (openT ++ p ++ r)) 5 4).ok = true) : lAtom (lgK (specX (openT ++ p ++ r)) 5) (specX (openT ++ p ++ r)) 4 = ⟨6 + p.size, true, L⟩ := by
  obtain ⟨h1, h2, h3, h4⟩ := grp_at p r
  have hrs := atB_lt (s := r) (i := 0) (by omega)
  generalize openT ++ p ++ r = b at *
  have f4 : atB (specX b) 4 = 40 := by
    have := specX_mid b (j := 0) (by omega) (by omega)
    rw [show (4 : Int) + 0 = 4 from rfl, h2] at this; exact this
  have a1 := piece_ok (branch_ok (choice_ok hok))
  unfold lAtom at a1 ⊢
  rw [if_pos f4] at a1 ⊢
  have key := group_in (s := specX b) (i := 4) (k := 4) hp (by omega) (by omega) f4 (fun j hj => by
    rw [show (4 : Int) + 1 + (j : Int) = 4 + (1 + (j : Int)) by omega, specX_mid b (by omega) (by omega), h3 j (by omega) (by omega)]) (by
    rw [show (4 : Int) + 1 + (p.size : Int) = 4 + (1 + (p.size : Int)) by omega, specX_mid b (by omega) (by omega)]
    have := h4 0 (by omega)
    rw [show (1 : Int) + p.size + 0 = 1 + p.size by omega] at this
    rw [this]; exact hr) a1
  rw [key, show (4 : Int) + p.size + 2 = 6 + p.size by omega]
theorem tail_at (j : Int) (h0 : 0 ≤ j) (hj : j < r.size) : atB (specX (openT ++ p ++ r)) (5 + p.size + j) = atB r j := by
  obtain ⟨h1, h2, h3, h4⟩ := grp_at p r
  generalize openT ++ p ++ r = b at *
  rw [show (5 : Int) + p.size + j = 4 + (1 + p.size + j) by omega, specX_mid b (by omega) (by omega), h4 j h0]
/-- some times -/
theorem mark_pat {m : UInt8} (hm : isMark m.toNat = true) (hp : IsPat p L) (hr : (rRead (specX (markT m p)) 2).ok = true) : IsPat (markT m p) (Lang.rep m.toNat L) := by
  obtain ⟨k1, k2⟩ := specX_inner hr
  unfold markT at *
  have e0 : atB (⟨#[41, m]⟩ : ByteArray) 0 = 41 := rfl
  have e1 : atB (⟨#[41, m]⟩ : ByteArray) 1 = m.toNat := rfl
  have ag := first_grp hp e0 k1
  have t1 := tail_at (p := p) (r := ⟨#[41, m]⟩) 1 (by omega) (by rw [size2]; omega)
  have hc := specX_close (openT ++ p ++ ⟨#[41, m]⟩)
  obtain ⟨hsz, _⟩ := grp_at p ⟨#[41, m]⟩
  rw [size2] at hsz
  generalize openT ++ p ++ (⟨#[41, m]⟩ : ByteArray) = b at *
  rw [e1, show (5 : Int) + p.size + 1 = 6 + p.size by omega] at t1
  rw [hsz, show (4 : Int) + ((p.size + 1 + 2 : Nat) : Int) = 7 + p.size by omega] at hc
  have pg : lPiece (lAtom (lgK (specX b) 5) (specX b)) (specX b) 4 = ⟨7 + p.size, true, Lang.rep m.toNat L⟩ := by
    rw [piece_mark (by rw [ag]) (by rw [ag]; dsimp only; rw [t1]; exact hm) (by rw [ag]; dsimp only; rw [show (6 : Int) + p.size + 1 = 7 + p.size by omega, hc]; decide), ag]
    dsimp only
    rw [t1, show (6 : Int) + p.size + 1 = 7 + p.size by omega]
  have bb : lBranch (lPiece (lAtom (lgK (specX b) 5) (specX b)) (specX b)) (specX b) 4 = ⟨7 + p.size, true, Lang.rep m.toNat L⟩ := by
    rw [branch_one (by rw [pg]; dsimp only; rw [hc]; decide), pg]
  have cc : lchK (specX b) 5 4 = ⟨7 + p.size, true, Lang.rep m.toNat L⟩ := by
    unfold lchK
    rw [choice_one (by rw [bb]; dsimp only; rw [hc]; decide), bb]
  exact ⟨by rw [cc], by rw [cc]; dsimp only; omega, by rw [cc]⟩
/-- the second brackets -/
theorem second_grp {b : ByteArray} {i : Nat} (hq : IsPat q M) (h40 : atB b i = 40) (hmid : ∀ j : Int, 0 ≤ j → j < q.size → atB b (i + 1 + j) = atB q j) (hend : atB b (i + 1 + q.size) = 41) (hsz : b.size = i + q.size + 2) (hok : (lAtom (lgK (specX b) 5) (specX b) (4 + i)).ok = true) :
    lAtom (lgK (specX b) 5) (specX b) (4 + i) = ⟨4 + b.size, true, M⟩ := by
  have f4 : atB (specX b) (4 + i) = 40 := by rw [specX_mid b (by omega) (by omega)]; exact h40
  unfold lAtom at hok ⊢
  rw [if_pos f4] at hok ⊢
  have key := group_in (s := specX b) (i := 4 + i) (k := 4) hq (by omega) (by omega) f4 (fun j hj => by
    rw [show (4 : Int) + i + 1 + (j : Int) = 4 + (i + 1 + (j : Int)) by omega, specX_mid b (by omega) (by omega), hmid j (by omega) (by omega)]) (by
    rw [show (4 : Int) + i + 1 + (q.size : Int) = 4 + (i + 1 + (q.size : Int)) by omega, specX_mid b (by omega) (by omega)]; exact hend) hok
  rw [key, show (4 : Int) + i + q.size + 2 = 4 + b.size by omega]
theorem two_at (a c q : ByteArray) (hc : c = closeT) : (a ++ q ++ c).size = a.size + q.size + 1 ∧ (∀ j : Int, j < a.size → atB (a ++ q ++ c) j = atB a j) ∧ (∀ j : Int, 0 ≤ j → j < q.size → atB (a ++ q ++ c) (a.size + j) = atB q j) ∧ atB (a ++ q ++ c) (a.size + q.size) = 41 := by
  subst hc
  refine ⟨by rw [ByteArray.size_append, ByteArray.size_append, close_size], fun j h => ?_, fun j h0 h => ?_, ?_⟩
  · rw [atB_app, if_pos (by rw [ByteArray.size_append]; omega), atB_app, if_pos h]
  · rw [atB_app, if_pos (by rw [ByteArray.size_append]; omega), atB_app, if_neg (by omega)]
    congr 1; omega
  · rw [atB_app, if_neg (by rw [ByteArray.size_append]; omega), ByteArray.size_append]
    rw [show ((a.size : Int) + q.size - ((a.size + q.size : Nat) : Int)) = 0 by omega]
    rfl
/-- the one or the other -/
theorem either_pat (hp : IsPat p L) (hq : IsPat q M) (hr : (rRead (specX (eitherT p q)) 2).ok = true) : IsPat (eitherT p q) (Lang.alt L M) := by
  obtain ⟨k1, k2⟩ := specX_inner hr
  have hb : eitherT p q = openT ++ p ++ (⟨#[41, 124, 40]⟩ ++ q ++ closeT) := by unfold eitherT; simp only [ByteArray.append_assoc]
  have r0 : ∀ j : Int, j < 3 → atB (⟨#[41, 124, 40]⟩ ++ q ++ closeT) j = atB ⟨#[41, 124, 40]⟩ j := fun j hj => (two_at ⟨#[41, 124, 40]⟩ closeT q rfl).2.1 j (by rw [size3]; omega)
  have rq := (two_at ⟨#[41, 124, 40]⟩ closeT q rfl).2.2.1
  have rc := (two_at ⟨#[41, 124, 40]⟩ closeT q rfl).2.2.2
  have rs := (two_at ⟨#[41, 124, 40]⟩ closeT q rfl).1
  rw [size3] at rq rc rs
  rw [hb] at k1 k2 ⊢
  have e0 := r0 0 (by omega)
  have e1 := r0 1 (by omega)
  have e2 := r0 2 (by omega)
  generalize (⟨#[41, 124, 40]⟩ ++ q ++ closeT : ByteArray) = r at *
  have e0 : atB r 0 = 41 := e0
  have e1 : atB r 1 = 124 := e1
  have e2 : atB r 2 = 40 := e2
  have ag := first_grp hp e0 k1
  have t1 := tail_at (p := p) (r := r) 1 (by omega) (by omega)
  have hc := specX_close (openT ++ p ++ r)
  obtain ⟨hsz, _, _, h4⟩ := grp_at p r
  generalize openT ++ p ++ r = b at *
  rw [e1, show (5 : Int) + p.size + 1 = 6 + p.size by omega] at t1
  have pg : lPiece (lAtom (lgK (specX b) 5) (specX b)) (specX b) 4 = ⟨6 + p.size, true, L⟩ := by
    rw [piece_plain (by rw [ag]) (by rw [ag]; dsimp only; rw [t1]; decide), ag]
  have bg : lBranch (lPiece (lAtom (lgK (specX b) 5) (specX b)) (specX b)) (specX b) 4 = ⟨6 + p.size, true, L⟩ := by
    rw [branch_one (by rw [pg]; dsimp only; rw [t1]; decide), pg]
  have ok2 := choice_ok2 k1 (by rw [bg]; exact t1)
  rw [bg] at ok2
  dsimp only at ok2
  have e7 : (6 : Int) + p.size + 1 = 4 + ((p.size + 3 : Nat) : Int) := by omega
  rw [e7] at ok2
  have aq := second_grp (b := b) (i := p.size + 3) hq (by
      have := h4 2 (by omega); rw [e2] at this
      rw [show ((p.size + 3 : Nat) : Int) = 1 + p.size + 2 by omega]; exact this) (fun j j0 j1 => by
      have := h4 (3 + j) (by omega)
      rw [show ((p.size + 3 : Nat) : Int) + 1 + j = 1 + p.size + (3 + j) by omega, this]
      exact rq j j0 j1) (by
      have := h4 (3 + q.size) (by omega)
      rw [show ((p.size + 3 : Nat) : Int) + 1 + q.size = 1 + p.size + (3 + q.size) by omega, this]
      exact rc) (by omega) (piece_ok (branch_ok ok2))
  have pq : lPiece (lAtom (lgK (specX b) 5) (specX b)) (specX b) (4 + ((p.size + 3 : Nat) : Int)) = ⟨4 + b.size, true, M⟩ := by
    rw [piece_plain (by rw [aq]) (by rw [aq]; dsimp only; rw [hc]; decide), aq]
  have bq : lBranch (lPiece (lAtom (lgK (specX b) 5) (specX b)) (specX b)) (specX b) (4 + ((p.size + 3 : Nat) : Int)) = ⟨4 + b.size, true, M⟩ := by
    rw [branch_one (by rw [pq]; dsimp only; rw [hc]; decide), pq]
  have cc : lchK (specX b) 5 4 = ⟨4 + b.size, true, Lang.alt L M⟩ := by
    unfold lchK
    rw [choice_two (by rw [bg]) (by rw [bg]; exact t1) (by rw [bg]; dsimp only; rw [e7, bq]) (by rw [bg]; dsimp only; rw [e7, bq]; dsimp only; rw [hc]; decide), bg]
    dsimp only
    rw [e7, bq]
  exact ⟨by rw [cc], by rw [cc], by rw [cc]⟩
/-- the one behind the other -/
theorem both_pat (hp : IsPat p L) (hq : IsPat q M) (hr : (rRead (specX (bothT p q)) 2).ok = true) : IsPat (bothT p q) (Lang.cat L M) := by
  obtain ⟨k1, k2⟩ := specX_inner hr
  have hb : bothT p q = openT ++ p ++ (⟨#[41, 40]⟩ ++ q ++ closeT) := by unfold bothT; simp only [ByteArray.append_assoc]
  have r0 : ∀ j : Int, j < 2 → atB (⟨#[41, 40]⟩ ++ q ++ closeT) j = atB ⟨#[41, 40]⟩ j := fun j hj => (two_at ⟨#[41, 40]⟩ closeT q rfl).2.1 j (by rw [size2]; omega)
  have rq := (two_at ⟨#[41, 40]⟩ closeT q rfl).2.2.1
  have rc := (two_at ⟨#[41, 40]⟩ closeT q rfl).2.2.2
  have rs := (two_at ⟨#[41, 40]⟩ closeT q rfl).1
  rw [size2] at rq rc rs
  rw [hb] at k1 k2 ⊢
  have e0 := r0 0 (by omega)
  have e1 := r0 1 (by omega)
  generalize (⟨#[41, 40]⟩ ++ q ++ closeT : ByteArray) = r at *
  have e0 : atB r 0 = 41 := e0
  have e1 : atB r 1 = 40 := e1
  have ag := first_grp hp e0 k1
  have t1 := tail_at (p := p) (r := r) 1 (by omega) (by omega)
  have hc := specX_close (openT ++ p ++ r)
  obtain ⟨hsz, _, _, h4⟩ := grp_at p r
  generalize openT ++ p ++ r = b at *
  rw [e1, show (5 : Int) + p.size + 1 = 6 + p.size by omega] at t1
  have pg : lPiece (lAtom (lgK (specX b) 5) (specX b)) (specX b) 4 = ⟨6 + p.size, true, L⟩ := by
    rw [piece_plain (by rw [ag]) (by rw [ag]; dsimp only; rw [t1]; decide), ag]
  have ok2 := branch_ok2 (choice_ok k1) (by rw [pg]; dsimp only; rw [t1]; decide)
  rw [pg] at ok2
  dsimp only at ok2
  have e7 : (6 : Int) + p.size = 4 + ((p.size + 2 : Nat) : Int) := by omega
  rw [e7] at ok2
  have aq := second_grp (b := b) (i := p.size + 2) hq (by
      have := h4 1 (by omega); rw [e1] at this
      rw [show ((p.size + 2 : Nat) : Int) = 1 + p.size + 1 by omega]; exact this) (fun j j0 j1 => by
      have := h4 (2 + j) (by omega)
      rw [show ((p.size + 2 : Nat) : Int) + 1 + j = 1 + p.size + (2 + j) by omega, this]
      exact rq j j0 j1) (by
      have := h4 (2 + q.size) (by omega)
      rw [show ((p.size + 2 : Nat) : Int) + 1 + q.size = 1 + p.size + (2 + q.size) by omega, this]
      exact rc) (by omega) (piece_ok ok2)
  have pq : lPiece (lAtom (lgK (specX b) 5) (specX b)) (specX b) (4 + ((p.size + 2 : Nat) : Int)) = ⟨4 + b.size, true, M⟩ := by
    rw [piece_plain (by rw [aq]) (by rw [aq]; dsimp only; rw [hc]; decide), aq]
  have bb : lBranch (lPiece (lAtom (lgK (specX b) 5) (specX b)) (specX b)) (specX b) 4 = ⟨4 + b.size, true, Lang.cat L M⟩ := by
    rw [branch_two (by rw [pg]) (by rw [pg]; dsimp only; rw [t1]; decide) (by rw [pg]; dsimp only; rw [e7, pq]) (by rw [pg]; dsimp only; rw [e7, pq]; dsimp only; rw [hc]; decide), pg]
    dsimp only
    rw [e7, pq]
  have cc : lchK (specX b) 5 4 = ⟨4 + b.size, true, Lang.cat L M⟩ := by
    unfold lchK
    rw [choice_one (by rw [bb]; dsimp only; rw [hc]; decide), bb]
  exact ⟨by rw [cc], by rw [cc], by rw [cc]⟩
end
end Go.Proofs.Ytjcknghdgfcboaa
namespace Go.Proofs.Ytjcknghdgfcboaa
open Go.RowKit
set_option linter.unusedVariables false
set_option linter.unusedSimpArgs false

theorem atB_nat {s : ByteArray} {n : Nat} (h : n < s.size) : atB s (n : Nat) = s[n].toNat := by
  unfold atB; rw [dif_pos ⟨by omega, by simpa using h⟩]; simp
theorem bytesK_eq (s : ByteArray) (i : Nat) : ∀ k, i + k ≤ s.size → bytesK s i k = (List.range k).map fun j : Nat => (atB s (i + j : Nat)).toNat
  | 0, _ => rfl
  | k + 1, h => by
    have hk : i + k < s.size := by omega
    rw [bytesK, bytesK_eq s i k (by omega), List.range_succ, List.map_append, dif_pos hk]
    congr 1
    have := atB_nat hk
    simp only [List.map_cons, List.map_nil]
    rw [this]; simp
theorem bytesOf_eq (t : ByteArray) : bytesOf t = (List.range t.size).map fun j : Nat => (atB t j).toNat := by
  unfold bytesOf
  rw [bytesK_eq t 0 t.size (by omega)]
  simp
theorem bytesOf_len (t : ByteArray) : (bytesOf t).length = t.size := by rw [bytesOf_eq]; simp
theorem bytesOf_app (a b : ByteArray) : bytesOf (a ++ b) = bytesOf a ++ bytesOf b := by
  apply List.ext_getElem?
  intro j
  by_cases h1 : j < a.size
  · rw [List.getElem?_append_left (by rw [bytesOf_len]; exact h1), bytesOf_eq, bytesOf_eq, List.getElem?_map, List.getElem?_map, List.getElem?_range h1, List.getElem?_range (by rw [ByteArray.size_append]; omega)]
    simp only [Option.map_some]
    rw [atB_app, if_pos (by omega)]
  · rw [List.getElem?_append_right (by rw [bytesOf_len]; omega), bytesOf_len]
    by_cases h2 : j < a.size + b.size
    · rw [bytesOf_eq, bytesOf_eq, List.getElem?_map, List.getElem?_map, List.getElem?_range (by rw [ByteArray.size_append]; exact h2), List.getElem?_range (by omega)]
      simp only [Option.map_some]
      rw [atB_app, if_neg (by omega), show ((j : Int) - a.size) = ((j - a.size : Nat) : Int) by omega]
    · rw [List.getElem?_eq_none (by rw [bytesOf_len, ByteArray.size_append]; omega), List.getElem?_eq_none (by rw [bytesOf_len]; omega)]
theorem cut_app (t : ByteArray) {i : Nat} (hi : i ≤ t.size) : t.extract 0 i ++ t.extract i t.size = t := by
  rw [ByteArray.extract_append_extract]
  simp [Nat.min_eq_left (Nat.zero_le _), Nat.max_eq_right hi]
theorem bytesOf_cut (t : ByteArray) {i : Nat} (hi : i ≤ t.size) : bytesOf (t.extract 0 i) = (bytesOf t).take i ∧ bytesOf (t.extract i t.size) = (bytesOf t).drop i := by
  have h := bytesOf_app (t.extract 0 i) (t.extract i t.size)
  rw [cut_app t hi] at h
  have hl : (bytesOf (t.extract 0 i)).length = i := by rw [bytesOf_len, ByteArray.size_extract]; omega
  rw [h]
  exact ⟨(List.take_left' hl).symm, (List.drop_left' hl).symm⟩
def xT : ByteArray := ⟨#[120]⟩
theorem bytesOf_x (t : ByteArray) : bytesOf (xT ++ t) = 120 :: bytesOf t := by
  rw [bytesOf_app]
  have : bytesOf xT = [120] := by rw [bytesOf_eq]; decide
  rw [this]; rfl
theorem x_has : hasB (withF zero4 120 120) 120 = true := by decide
theorem cat_x {L : Lang} {w : List Nat} : Lang.cat xL L (120 :: w) ↔ L w := by
  constructor
  · rintro ⟨u, v, h1, ⟨c, _, rfl⟩, h3⟩
    rw [List.singleton_append, List.cons.injEq] at h1
    rw [h1.2]; exact h3
  · intro h
    exact ⟨[120], w, rfl, ⟨120, x_has, rfl⟩, h⟩
/-- Match, as matched asks it -/
def mF (b t : ByteArray) : Bool := (matchF (specX b) 0 (xT ++ t)).1
def eF (b t : ByteArray) : Int := (matchF (specX b) 0 (xT ++ t)).2
theorem rule_zero_x {b : ByteArray} (hc : (checkF (specX b)).1 = 0) : (rRead (specX b) 2).ok = true ∧ (rulesOf (specX b))[0]? = some ⟨⟨0, fA⟩, false, (rRead (specX b) 2).ns, (rRead (specX b) 2).st, (rRead (specX b) 2).en, []⟩ := by
  obtain ⟨r1, _, rest, hr⟩ := rule_zero ((specX_pre b (j := 0) (by omega)).trans (by decide)) ((specX_pre b (j := 1) (by omega)).trans (by decide)) (form_ok (.inl hc))
  refine ⟨r1, ?_⟩
  unfold rulesOf
  rw [hr, List.filter_cons_of_pos (by show (!headB ⟨0, fA⟩) = true; decide)]
  rfl
theorem eF_zero {b t : ByteArray} (h : eF b t = 0) : (checkF (specX b)).1 = 0 := by
  unfold eF matchF at h
  by_cases c : errF (specX b) (xT ++ t) ≠ 0
  · rw [if_pos c] at h; exact absurd h c
  · have c' : errF (specX b) (xT ++ t) = 0 := by
      by_cases q : errF (specX b) (xT ++ t) = 0
      · exact q
      · exact absurd q c
    unfold errF at c'
    split at c'
    · cases c'
    · exact c'
theorem eF_ok {b t : ByteArray} (hc : (checkF (specX b)).1 = 0) (ht : t.size < 200) : eF b t = 0 := by
  unfold eF matchF
  have he : errF (specX b) (xT ++ t) = 0 := by
    unfold errF
    rw [if_neg (by rw [ByteArray.size_append]; show ¬ 200 < 1 + t.size; omega)]; exact hc
  rw [if_neg (by rw [he]; simp), if_neg (by omega)]
  rw [show (0 : Int).toNat = 0 from rfl, (rule_zero_x hc).2]
theorem mF_is {b t : ByteArray} {L : Lang} (h : IsPat b L) (hc : (checkF (specX b)).1 = 0) (ht : t.size < 200) : mF b t = true ↔ L (bytesOf t) := by
  unfold mF matchF
  have he : errF (specX b) (xT ++ t) = 0 := by
    unfold errF
    rw [if_neg (by rw [ByteArray.size_append]; show ¬ 200 < 1 + t.size; omega)]; exact hc
  obtain ⟨q1, q2⟩ := rule_zero_x hc
  rw [if_neg (by rw [he]; simp), if_neg (by omega), show (0 : Int).toNat = 0 from rfl, q2]
  dsimp only
  rw [match_lang q1, specX_whole h, bytesOf_x]
  exact cat_x
/-- split -/
def splitF (p q t : ByteArray) (n : Nat) : Bool := (List.range (t.size + 1)).any fun i => decide (n ≤ i) && (mF p (t.extract 0 i) && mF q (t.extract i t.size))
section
variable {p q t : ByteArray} {L M : Lang}
theorem split_is (hp : IsPat p L) (cp : (checkF (specX p)).1 = 0) (hq : IsPat q M) (cq : (checkF (specX q)).1 = 0) (ht : t.size < 200) (n : Nat) : splitF p q t n = true ↔ ∃ u v, bytesOf t = u ++ v ∧ n ≤ u.length ∧ L u ∧ M v := by
  have hx : ∀ i, i ≤ t.size → (mF p (t.extract 0 i) = true ↔ L ((bytesOf t).take i)) ∧ (mF q (t.extract i t.size) = true ↔ M ((bytesOf t).drop i)) := fun i hi => by
    obtain ⟨e1, e2⟩ := bytesOf_cut t hi
    rw [mF_is hp cp (by rw [ByteArray.size_extract]; omega), mF_is hq cq (by rw [ByteArray.size_extract]; omega), e1, e2]
    exact ⟨Iff.rfl, Iff.rfl⟩
  unfold splitF
  rw [List.any_eq_true]
  constructor
  · rintro ⟨i, hi, h⟩
    rw [List.mem_range] at hi
    rw [Bool.and_eq_true, Bool.and_eq_true, decide_eq_true_eq] at h
    obtain ⟨x1, x2⟩ := hx i (by omega)
    exact ⟨(bytesOf t).take i, (bytesOf t).drop i, (List.take_append_drop i _).symm, by rw [List.length_take, bytesOf_len]; omega, x1.1 h.2.1, x2.1 h.2.2⟩
  · rintro ⟨u, v, h1, h2, h3, h4⟩
    have hl := congrArg List.length h1
    rw [bytesOf_len, List.length_append] at hl
    obtain ⟨x1, x2⟩ := hx u.length (by omega)
    refine ⟨u.length, List.mem_range.2 (by omega), ?_⟩
    rw [Bool.and_eq_true, Bool.and_eq_true, decide_eq_true_eq]
    refine ⟨h2, x1.2 ?_, x2.2 ?_⟩
    · rw [h1, List.take_left' rfl]; exact h3
    · rw [h1, List.drop_left' rfl]; exact h4
theorem rep_star {w : List Nat} : Lang.rep 42 L w ↔ w = [] ∨ ∃ u v, w = u ++ v ∧ 1 ≤ u.length ∧ L u ∧ Lang.rep 42 L v := by
  constructor
  · rintro ⟨ws, h1, rfl, _, _⟩
    induction ws with
    | nil => exact .inl rfl
    | cons u ws ih =>
      cases u with
      | nil => simpa using ih (fun x hx => h1 x (List.mem_cons_of_mem _ hx))
      | cons c u => exact .inr ⟨c :: u, ws.flatten, rfl, by simp, h1 _ (by simp), ws, fun x hx => h1 x (List.mem_cons_of_mem _ hx), rfl, fun e => absurd e (by decide), fun e => absurd e (by decide)⟩
  · rintro (rfl | ⟨u, v, rfl, _, h3, ws, h4, rfl, _, _⟩)
    · exact ⟨[], by simp, rfl, fun e => absurd e (by decide), fun e => absurd e (by decide)⟩
    · refine ⟨u :: ws, fun x hx => ?_, rfl, fun e => absurd e (by decide), fun e => absurd e (by decide)⟩
      rcases List.mem_cons.1 hx with rfl | hx
      · exact h3
      · exact h4 x hx
theorem rep_plus {w : List Nat} : Lang.rep 43 L w ↔ ∃ u v, w = u ++ v ∧ 0 ≤ u.length ∧ L u ∧ Lang.rep 42 L v := by
  constructor
  · rintro ⟨ws, h1, rfl, h2, _⟩
    cases ws with
    | nil => exact absurd rfl (h2 rfl)
    | cons u ws => exact ⟨u, ws.flatten, rfl, by omega, h1 _ (by simp), ws, fun x hx => h1 x (List.mem_cons_of_mem _ hx), rfl, fun e => absurd e (by decide), fun e => absurd e (by decide)⟩
  · rintro ⟨u, v, rfl, _, h3, ws, h4, rfl, _, _⟩
    refine ⟨u :: ws, fun x hx => ?_, rfl, fun _ => by simp, fun e => absurd e (by decide)⟩
    rcases List.mem_cons.1 hx with rfl | hx
    · exact h3
    · exact h4 x hx
theorem rep_opt {w : List Nat} : Lang.rep 63 L w ↔ L w ∨ w = [] := by
  constructor
  · rintro ⟨ws, h1, rfl, _, h3⟩
    cases ws with
    | nil => exact .inr rfl
    | cons u ws =>
      have := h3 rfl
      cases ws with
      | nil => exact .inl (by simpa using h1 u (by simp))
      | cons v ws => simp at this
  · rintro (h | rfl)
    · exact ⟨[w], by simpa using h, by simp, fun e => absurd e (by decide), fun _ => by simp⟩
    · exact ⟨[], by simp, rfl, fun e => absurd e (by decide), fun _ => by simp⟩
theorem bytes_nil : bytesOf t = [] ↔ t.size = 0 := by
  rw [← List.length_eq_zero_iff, bytesOf_len]
/-- what joined asks -/
structure Joins (p q t : ByteArray) : Prop where
  either : mF (eitherT p q) t = (mF p t || mF q t)
  both : mF (bothT p q) t = splitF p q t 0
  many : mF (markT 42 p) t = (decide (t.size = 0) || splitF p (markT 42 p) t 1)
  once : mF (markT 43 p) t = splitF p (markT 42 p) t 0
  maybe : mF (markT 63 p) t = (mF p t || decide (t.size = 0))
theorem joins_of (h1 : (checkF (specX p)).1 = 0) (h2 : (checkF (specY p)).1 = 0 ∨ (checkF (specY p)).1 = 5) (h3 : (checkF (specX q)).1 = 0) (h4 : (checkF (specY q)).1 = 0 ∨ (checkF (specY q)).1 = 5) (ht : t.size < 200)
    (e1 : eF (eitherT p q) t = 0) (e2 : eF (bothT p q) t = 0) (e3 : eF (markT 42 p) t = 0) (e4 : eF (markT 43 p) t = 0) (e5 : eF (markT 63 p) t = 0) : Joins p q t := by
  have hp := isPat_of h1 h2
  have hq := isPat_of h3 h4
  have c1 := eF_zero e1
  have c2 := eF_zero e2
  have c3 := eF_zero e3
  have c4 := eF_zero e4
  have c5 := eF_zero e5
  have p1 := either_pat hp hq (rule_zero_x c1).1
  have p2 := both_pat hp hq (rule_zero_x c2).1
  have p3 := mark_pat (m := 42) (by decide) hp (rule_zero_x c3).1
  have p4 := mark_pat (m := 43) (by decide) hp (rule_zero_x c4).1
  have p5 := mark_pat (m := 63) (by decide) hp (rule_zero_x c5).1
  have n42 : ((42 : UInt8).toNat : Int) = 42 := by decide
  have n43 : ((43 : UInt8).toNat : Int) = 43 := by decide
  have n63 : ((63 : UInt8).toNat : Int) = 63 := by decide
  rw [n42] at p3
  rw [n43] at p4
  rw [n63] at p5
  refine ⟨?_, ?_, ?_, ?_, ?_⟩
  · rw [Bool.eq_iff_iff, Bool.or_eq_true, mF_is p1 c1 ht, mF_is hp h1 ht, mF_is hq h3 ht]; exact Iff.rfl
  · rw [Bool.eq_iff_iff, mF_is p2 c2 ht, split_is hp h1 hq h3 ht]
    constructor
    · rintro ⟨u, v, x1, x2, x3⟩; exact ⟨u, v, x1, by omega, x2, x3⟩
    · rintro ⟨u, v, x1, _, x2, x3⟩; exact ⟨u, v, x1, x2, x3⟩
  · rw [Bool.eq_iff_iff, Bool.or_eq_true, decide_eq_true_eq, mF_is p3 c3 ht, split_is hp h1 p3 c3 ht, rep_star, bytes_nil]
  · rw [Bool.eq_iff_iff, mF_is p4 c4 ht, split_is hp h1 p3 c3 ht, rep_plus]
  · rw [Bool.eq_iff_iff, Bool.or_eq_true, decide_eq_true_eq, mF_is p5 c5 ht, mF_is hp h1 ht, rep_opt, bytes_nil]
end
end Go.Proofs.Ytjcknghdgfcboaa
