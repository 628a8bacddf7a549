import Derived.Test.YteneagnhihcljaaGreatDoorKc9
import Derived.Test.YteneagnhihcljaaGreatDoorGt2
namespace Go.Proofs.YteneagnhihcljaaGreatDoor
open Go.RowKit
set_option linter.unusedVariables false
set_option linter.unusedSimpArgs false

/-- what the finder finds has a tree -/
structure Fd (ps : List Pr) (H : Nat) (hs : List Hd) : Prop where
  ok : ∀ x ∈ hs, x.ok
  n : ∀ X, hN hs X = true → NS ps H X = true
  f : ∀ X t, hF hs X t = true → FS ps (NS ps H) t H X = true
theorem begX_weak {N N' F F' : Int → Bool} {t : Nat} (hn : ∀ X, N X = true → N' X = true) (h : ∀ X, F X = true → F' X = true) : ∀ l : List Sy, begX N F t l = true → begX N' F' t l = true
  | [], e => e
  | s :: l, e => by
    unfold begX at e ⊢
    cases hs : s.isH
    · rw [hs] at e; simpa using e
    · rw [hs] at e
      simp only [if_true, Bool.true_and, Bool.or_eq_true, Bool.and_eq_true] at e ⊢
      rcases e with e | ⟨e1, e2⟩
      · exact .inl (h _ e)
      · exact .inr ⟨hn _ e1, begX_weak hn h l e2⟩
theorem Fd.step {ps : List Pr} {R H : Nat} (hT : TabOk ps R H) (hR : R ≤ 8) {hs : List Hd} (h : Fd ps H hs) {p : Pr} (hp : p ∈ ps) : Fd ps H (growB1 hs p).1 := by
  have hok := h.ok
  have hh := hT.hd p hp
  refine ⟨(growB1_grows hok p false).ok, ?_, ?_⟩
  · intro X hX
    unfold hN growB1 at hX
    rw [getH_put] at hX
    split at hX
    · rename_i e
      dsimp only at hX
      simp only [Bool.or_eq_true] at hX
      rw [e.1]
      rcases hX with hX | hX
      · exact h.n _ hX
      · rw [begF_nul] at hX
        refine NS_end hT (H + 1) _ hh.1 hh.2 ?_
        unfold NS
        rw [List.any_eq_true]
        refine ⟨p, hp, ?_⟩
        simp only [Bool.and_eq_true, beq_self_eq_true, true_and]
        rw [List.all_eq_true] at hX ⊢
        intro s hs1
        have := hX s hs1
        simp only [nulS, Bool.and_eq_true] at this ⊢
        exact ⟨this.1, h.n _ this.2⟩
    · exact h.n X hX
  · intro X t hX
    unfold hF growB1 at hX
    rw [getH_put] at hX
    split at hX
    · rename_i e
      dsimp only at hX
      rw [orL_at (by rw [(getH_ok hok _).fi, begF_len hok _ _ rfl])] at hX
      simp only [Bool.or_eq_true] at hX
      rw [e.1]
      rcases hX with hX | hX
      · exact h.f _ t hX
      · rw [begF_at hok hR t p.syms zero9 rfl (hT.sy p hp), zero9_f, Bool.false_or] at hX
        refine FS_end hT _ t (H + 1) _ hh.1 hh.2 ?_
        unfold FS
        rw [List.any_eq_true]
        refine ⟨p, hp, ?_⟩
        simp only [Bool.and_eq_true, beq_self_eq_true, true_and]
        exact begX_weak h.n (fun Y hY => h.f Y t hY) _ hX
    · exact h.f X t hX
theorem Fd.list {ps : List Pr} {R H : Nat} (hT : TabOk ps R H) (hR : R ≤ 8) : ∀ (l : List Pr) (hs : List Hd) (g : Bool), (∀ p ∈ l, p ∈ ps) → Fd ps H hs → Fd ps H (growBL l hs g).1
  | [], _, _, _, h => h
  | p :: l, hs, g, hl, h => Fd.list hT hR l _ _ (fun q hq => hl q (by simp [hq])) (h.step hT hR (hl p (by simp)))
theorem allF_fd {ps : List Pr} {R H : Nat} (hT : TabOk ps R H) (hR : R ≤ 8) : Fd ps H (allF ps (initH R H)) := by
  have ok0 := initH_ok (R : Int) H
  have hz : ∀ n, (getH (initH (R : Int) H) n).fi = zero9 ∧ (getH (initH (R : Int) H) n).nul = false := fun n => by
    rw [getH_init]; split
    · unfold headI; split <;> exact ⟨rfl, rfl⟩
    · exact ⟨rfl, rfl⟩
  have i0 : Fd ps H (initH (R : Int) H) := ⟨ok0, fun X h => (by unfold hN at h; rw [(hz X).2] at h; cases h), fun X t h => (by unfold hF at h; rw [(hz X).1, zero9_f] at h; cases h)⟩
  obtain ⟨i1, ok1, _, _⟩ := fixG_end (stepB_grows ps) (I := Fd ps H) (fun hs _ h => Fd.list hT hR ps hs false (fun _ hp => hp) h) ok0 i0
  generalize hq1 : fixG (stepB ps) (initH (R : Int) H) = hs1 at i1 ok1
  obtain ⟨⟨kn2, kf2⟩, ok2, _, _⟩ := fixG_end (stepS_grows ps) (I := fun hs => Keeps Hd.nul hs1 hs ∧ Keeps Hd.fi hs1 hs) (fun hs _ h => ⟨h.1.trans (growSL_keeps (fun _ _ => rfl) ps hs false), h.2.trans (growSL_keeps (fun _ _ => rfl) ps hs false)⟩) ok1 ⟨Keeps.refl _ _, Keeps.refl _ _⟩
  generalize hq2 : fixG (stepS ps) hs1 = hs2 at kn2 kf2 ok2
  obtain ⟨⟨kn3, kf3⟩, ok3, _, _⟩ := fixG_end (stepR_grows ps) (I := fun hs => Keeps Hd.nul hs2 hs ∧ Keeps Hd.fi hs2 hs) (fun hs _ h => ⟨h.1.trans (growRL_keeps (fun _ _ => rfl) ps hs false), h.2.trans (growRL_keeps (fun _ _ => rfl) ps hs false)⟩) ok2 ⟨Keeps.refl _ _, Keeps.refl _ _⟩
  generalize hq3 : fixG (stepR ps) hs2 = hs3 at kn3 kf3 ok3
  obtain ⟨⟨kn4, kf4⟩, ok4, _, _⟩ := fixG_end (stepU_grows ps) (I := fun hs => Keeps Hd.nul hs3 hs ∧ Keeps Hd.fi hs3 hs) (fun hs _ h => ⟨h.1.trans (growFL_keeps (fun _ _ => rfl) ps hs false), h.2.trans (growFL_keeps (fun _ _ => rfl) ps hs false)⟩) ok3 ⟨Keeps.refl _ _, Keeps.refl _ _⟩
  have hall : allF ps (initH (R : Int) H) = fixG (stepU ps) hs3 := by unfold allF; rw [hq1, hq2, hq3]
  rw [hall]
  generalize fixG (stepU ps) hs3 = hs4 at kn4 kf4 ok4
  have kn : Keeps Hd.nul hs1 hs4 := (kn2.trans kn3).trans kn4
  have kf : Keeps Hd.fi hs1 hs4 := (kf2.trans kf3).trans kf4
  refine ⟨ok4, fun X h => i1.n X ?_, fun X t h => i1.f X t ?_⟩
  · unfold hN at h ⊢; rw [kn X] at h; exact h
  · unfold hF at h ⊢; rw [kf X] at h; exact h

/-- the production that a token chooses -/
def chF (hs : List Hd) (ps : List Pr) (X : Int) (t : Nat) : Int := match ovL X t (ps.zip (aheadsF hs ps)) 0 with
  | [] => -1
  | a :: _ => a
theorem ovL_mem (n t : Int) : ∀ (z : List (Pr × List Bool)) (i : Nat) (k : Int), k ∈ ovL n t z i ↔ ∃ (j : Nat) (x : Pr × List Bool), z[j]? = some x ∧ k = (i : Int) + j ∧ x.1.head = n ∧ hasT x.2 t = true
  | [], i, k => by simp [ovL]
  | q :: z, i, k => by
    have ih := ovL_mem n t z (i + 1) k
    unfold ovL
    constructor
    · intro h
      split at h
      · rename_i e
        simp only [List.mem_cons] at h
        rcases h with rfl | h
        · exact ⟨0, q, rfl, by simp, e.1, e.2⟩
        · obtain ⟨j, x, h1, h2, h3⟩ := ih.1 h
          exact ⟨j + 1, x, by simpa using h1, by omega, h3⟩
      · obtain ⟨j, x, h1, h2, h3⟩ := ih.1 h
        exact ⟨j + 1, x, by simpa using h1, by omega, h3⟩
    · rintro ⟨j, x, h1, h2, h3⟩
      cases j with
      | zero =>
        simp only [List.getElem?_cons_zero, Option.some.injEq] at h1
        subst h1
        rw [if_pos h3]
        simp [h2]
      | succ j =>
        have := ih.2 ⟨j, x, by simpa using h1, by omega, h3⟩
        split
        · simp [this]
        · exact this
theorem pairL_nil {n t : Int} {l : List Int} (h : pairL n t l = []) : l.length ≤ 1 := by
  match l with
  | [] => simp
  | [_] => simp
  | a :: b :: r => simp [pairL] at h
theorem clT_nil {z : List (Pr × List Bool)} {n R : Nat} : ∀ (f t : Nat), clT z n R f t = [] → ∀ u : Nat, t ≤ u → u ≤ R → R + 1 ≤ t + f → (ovL n u z 0).length ≤ 1
  | 0, t, _, u, h1, h2, h3 => by omega
  | f + 1, t, h, u, h1, h2, h3 => by
    unfold clT at h
    rw [if_pos (by omega)] at h
    obtain ⟨h4, h5⟩ := List.append_eq_nil_iff.1 h
    by_cases e : t = u
    · subst e; exact pairL_nil h4
    · exact clT_nil f (t + 1) h5 u (by omega) h2 (by omega)
theorem clN_nil {z : List (Pr × List Bool)} {R H : Nat} : ∀ (f n : Nat), clN z R H f n = [] → ∀ m u : Nat, n ≤ m → m < H → H ≤ n + f → u ≤ R → (ovL m u z 0).length ≤ 1
  | 0, n, _, m, u, h1, h2, h3, _ => by omega
  | f + 1, n, h, m, u, h1, h2, h3, h6 => by
    unfold clN at h
    rw [if_pos (by omega)] at h
    obtain ⟨h4, h5⟩ := List.append_eq_nil_iff.1 h
    by_cases e : n = m
    · subst e; exact clT_nil _ 0 h4 u (by omega) h6 (by omega)
    · exact clN_nil f (n + 1) h5 m u (by omega) h2 (by omega) h6
theorem zip_at {hs : List Hd} {ps : List Pr} {j : Nat} {x : Pr × List Bool} : (ps.zip (aheadsF hs ps))[j]? = some x ↔ ∃ p, ps[j]? = some p ∧ x = (p, folB hs p.head p.syms) := by
  unfold aheadsF
  rw [List.zip_map_right, List.getElem?_map]
  constructor
  · intro h
    cases hq : (ps.zip ps)[j]? with
    | none => rw [hq] at h; cases h
    | some y =>
      rw [hq] at h
      rw [List.getElem?_zip_eq_some] at hq
      obtain ⟨y1, y2⟩ := y
      have e : y1 = y2 := by have := hq.1.symm.trans hq.2; simpa using this
      subst e
      refine ⟨y1, hq.1, ?_⟩
      simp only [Option.map_some, Option.some.injEq] at h
      rw [← h]; rfl
  · rintro ⟨p, h1, rfl⟩
    have : (ps.zip ps)[j]? = some (p, p) := by rw [List.getElem?_zip_eq_some]; exact ⟨h1, h1⟩
    rw [this]; rfl
theorem llg {ps : List Pr} {R H : Nat} (hT : TabOk ps R H) (hR : R ≤ 8) (hH : 0 < H) (hmx : ∀ p ∈ ps, p.syms.length ≤ 6)
    (hcl : clashL (ps.zip (aheadsF (allF ps (initH R H)) ps)) R H = []) : LLG ps R H (hN (allF ps (initH R H))) (hF (allF ps (initH R H))) (hO (allF ps (initH R H))) (chF (allF ps (initH R H)) ps) := by
  have hS := allF_ok hT hR
  have hD := allF_fd hT hR
  generalize allF ps (initH R H) = hs at *
  have hnN : ∀ n X, NS ps n X = true → hN hs X = true := by
    intro n
    induction n with
    | zero => intro X h; cases h
    | succ n ih =>
      intro X h
      unfold NS at h
      rw [List.any_eq_true] at h
      obtain ⟨p, hp, h⟩ := h
      simp only [Bool.and_eq_true, List.all_eq_true, beq_iff_eq] at h
      rw [← h.1]
      refine hS.clN p hp ?_
      rw [begF_nul, List.all_eq_true]
      intro s hs1
      simp only [nulS, Bool.and_eq_true]
      exact ⟨(h.2 s hs1).1, ih _ (h.2 s hs1).2⟩
  have hNeq : NS ps H = hN hs := by
    funext X
    rw [Bool.eq_iff_iff]
    exact ⟨hnN H X, hD.n X⟩
  have hah : ∀ p ∈ ps, ∀ t : Nat, hasT (folB hs p.head p.syms) t = ahd (hN hs) (hF hs) (hO hs) p t := fun p hp t => by
    unfold hasT ahd
    rw [if_pos (by omega), Int.toNat_natCast]
    exact folB_at hS.ok hR t p.head p.syms (hT.sy p hp)
  refine ⟨hT, hmx, ?_, ?_, ?_, hD.n, ?_, hS.st2 hH, hS.bfi, ?_, ?_⟩
  · intro p hp h; exact hS.clN p hp (by rw [begF_nul]; exact h)
  · intro p hp t h; refine hS.clF p hp t ?_
    rw [begF_at hS.ok hR t p.syms zero9 rfl (hT.sy p hp), zero9_f, Bool.false_or]; exact h
  · intro p hp a s b e hs1 t h
    refine hS.clS p hp a s b e hs1 t ?_
    rw [folB_at hS.ok hR t p.head b (fun x hx => hT.sy p hp x (by rw [e]; simp [hx]))]; exact h
  · intro X t h; rw [← hNeq]; exact hD.f X t h
  · intro i p hi t ht ha
    have hp := List.mem_of_getElem? hi
    have hh := hT.hd p hp
    have hm : (i : Int) ∈ ovL p.head t (ps.zip (aheadsF hs ps)) 0 := by
      rw [ovL_mem]
      exact ⟨i, _, zip_at.2 ⟨p, hi, rfl⟩, by simp, rfl, by rw [hah p hp]; exact ha⟩
    have h1 := clN_nil (z := ps.zip (aheadsF hs ps)) (R := R) (H := H) (H + 1) 0 hcl p.head.toNat t (by omega) (by omega) (by omega) ht
    rw [show ((p.head.toNat : Nat) : Int) = p.head by omega] at h1
    unfold chF
    generalize ovL p.head t (ps.zip (aheadsF hs ps)) 0 = l at hm h1
    match l with
    | [] => cases hm
    | [a] => simp at hm; simp [hm]
    | a :: b :: r => simp at h1
  · intro X t h0
    unfold chF at h0 ⊢
    cases hq : ovL X t (ps.zip (aheadsF hs ps)) 0 with
    | nil => rw [hq] at h0; simp at h0
    | cons a r =>
      have hm : a ∈ ovL X t (ps.zip (aheadsF hs ps)) 0 := by rw [hq]; simp
      rw [ovL_mem] at hm
      obtain ⟨j, x, h1, h2, h3, h4⟩ := hm
      obtain ⟨p, h5, rfl⟩ := zip_at.1 h1
      refine ⟨p, ?_, h3, ?_⟩
      · simp only []
        rw [h2]; simpa using h5
      · rw [← hah p (List.mem_of_getElem? h5)]; exact h4
end Go.Proofs.YteneagnhihcljaaGreatDoor
namespace Go.Proofs.YteneagnhihcljaaGreatDoor
open Go.RowKit
set_option linter.unusedVariables false
set_option linter.unusedSimpArgs false

structure Nd where
  prod : Int
  kind : Int
  place : Int
  size : Int
/-- the nodes, without their sizes; n leaves lie ahead -/
def ndL : List St → Nat → List Nd
  | [], _ => []
  | s :: l, n => if s.leaf then ⟨-1, s.num, n, 0⟩ :: ndL l (n + 1) else ⟨s.num, -1, n, 0⟩ :: ndL l n
theorem ndL_len : ∀ (l : List St) (n : Nat), (ndL l n).length = l.length
  | [], _ => rfl
  | s :: l, n => by unfold ndL; split <;> simp [ndL_len l]
def arF (ps : List Pr) (n : Nd) : Nat := if n.prod < 0 then 0 else match ps[n.prod.toNat]? with
  | some p => p.syms.length
  | none => 0
/-- a node's size: S: the sizes of the nodes behind it -/
def szL (S : List Nat) : Nat → Nat → Nat
  | 0, z => z
  | l + 1, z => match S[z - 1]? with
    | some d => szL S l (z + d)
    | none => z
def sizesF (ps : List Pr) : List Nd → List Nat
  | [] => []
  | n :: l => szL (sizesF ps l) (arF ps n) 1 :: sizesF ps l
theorem sizesF_len (ps : List Pr) : ∀ l, (sizesF ps l).length = l.length
  | [] => rfl
  | n :: l => by simp [sizesF, sizesF_len ps l]
def setSz (n : Nd) (z : Nat) : Nd := { n with size := z }
def nodesF (ps : List Pr) (st : List St) : List Nd := List.zipWith setSz (ndL st 0) (sizesF ps (ndL st 0))
theorem nodesF_len (ps : List Pr) (st : List St) : (nodesF ps st).length = st.length := by simp [nodesF, ndL_len, sizesF_len]
theorem szL_bd {S : List Nat} (hS : ∀ j d, S[j]? = some d → 1 ≤ d ∧ j + d ≤ S.length) : ∀ (l z : Nat), 1 ≤ z → z ≤ S.length + 1 → 1 ≤ szL S l z ∧ szL S l z ≤ S.length + 1
  | 0, z, h1, h2 => ⟨h1, h2⟩
  | l + 1, z, h1, h2 => by
    unfold szL
    cases hq : S[z - 1]? with
    | none => exact ⟨h1, h2⟩
    | some d =>
      have := hS _ _ hq
      exact szL_bd hS l (z + d) (by omega) (by omega)
theorem sizesF_bd (ps : List Pr) : ∀ (l : List Nd) (j d : Nat), (sizesF ps l)[j]? = some d → 1 ≤ d ∧ j + d ≤ l.length
  | [], j, d, h => by simp [sizesF] at h
  | n :: l, 0, d, h => by
    simp only [sizesF, List.getElem?_cons_zero, Option.some.injEq] at h
    have := szL_bd (S := sizesF ps l) (fun j d h => by rw [sizesF_len]; exact sizesF_bd ps l j d h) (arF ps n) 1 (by omega) (by omega)
    rw [sizesF_len] at this
    simp only [List.length_cons]; omega
  | n :: l, j + 1, d, h => by
    simp only [sizesF, List.getElem?_cons_succ] at h
    have := sizesF_bd ps l j d h
    simp only [List.length_cons]; omega
theorem sizesF_drop (ps : List Pr) : ∀ (l : List Nd) (i : Nat), (sizesF ps l).drop i = sizesF ps (l.drop i)
  | [], i => by simp [sizesF]
  | n :: l, 0 => rfl
  | n :: l, i + 1 => by simp only [sizesF, List.drop_succ_cons]; exact sizesF_drop ps l i
theorem sizesF_at (ps : List Pr) (l : List Nd) (i : Nat) (hi : i < l.length) : (sizesF ps l)[i]? = some (szL ((sizesF ps l).drop (i + 1)) (arF ps l[i]) 1) := by
  have h1 : (sizesF ps l)[i]? = ((sizesF ps l).drop i)[0]? := by simp
  rw [h1, sizesF_drop, List.drop_eq_getElem_cons hi, sizesF_drop]
  rfl

/-- what is wanted, of a stack -/
def wanB (hs : List Hd) (R : Nat) (k : List Sy) : List Bool := if (begF hs k zero9).2 then withT (begF hs k zero9).1 R else (begF hs k zero9).1
def gToF (ps : List Pr) (hs : List Hd) (H t : Nat) (k : List Sy) (st : List St) : List Sy × List St := (gTo ps (chF hs ps) t (enough H k.length) k st).getD (k, st)
structure GOut where
  err : Int
  wanted : List Int
  place : Nat
  st : List St
def grwF (ps : List Pr) (hs : List Hd) (R H : Nat) : List Int → Nat → List Sy → List St → GOut
  | [], a, k, st => if (wanB hs R k).getD R false then ⟨0, [], 0, (gToF ps hs H R k st).2⟩ else ⟨10, listT (wanB hs R k), a, []⟩
  | t :: l, a, k, st => if (wanB hs R k).getD t.toNat false then grwF ps hs R H l (a + 1) (gToF ps hs H t.toNat k st).1 (gToF ps hs H t.toNat k st).2 else ⟨10, listT (wanB hs R k), a, []⟩
theorem wanB_at {R H : Nat} {hs : List Hd} (hok : ∀ x ∈ hs, x.ok) (hR : R ≤ 8) (k : List Sy) (hv : ∀ s ∈ k, 0 ≤ s.num ∧ s.num < (if s.isH then (H : Int) else R)) (t : Nat) : (wanB hs R k).getD t false = wanT (hN hs) (hF hs) R k t := by
  have h1 := begF_at hok hR t k zero9 rfl hv
  rw [zero9_f, Bool.false_or] at h1
  unfold wanB wanT
  rw [begF_nul]
  split
  · rename_i e
    rw [withT_hit (begF_len hok _ _ rfl) (by omega) (by omega), h1, e]
    simp only [Bool.true_and]
    congr 1
    rw [Bool.eq_iff_iff]; simp; omega
  · rename_i e
    have : k.all (nulS (hN hs)) = false := by simpa using e
    rw [h1, this]; simp
theorem wanB_len {hs : List Hd} (hok : ∀ x ∈ hs, x.ok) (R : Nat) (k : List Sy) : (wanB hs R k).length = 9 := by
  unfold wanB
  split
  · exact withT_len (begF_len hok _ _ rfl)
  · exact begF_len hok _ _ rfl
end Go.Proofs.YteneagnhihcljaaGreatDoor
namespace Go.Proofs.YteneagnhihcljaaGreatDoor
open Go.RowKit
set_option linter.unusedVariables false
set_option linter.unusedSimpArgs false

def Nd.cells (n : Nd) : List Value := [.int .i64 n.prod, .int .i64 n.kind, .int .i64 n.place, .int .i64 n.size]
abbrev NdOwn (w : World) (base : Nat) (v : Value) (l : List Nd) : Prop := w.ownsRow base 123 4 v l.length (flatC Nd.cells l)
def ldN (v : Value) : Sem Value := Instr.loadAt 123 v
theorem ldN_rule (v : Value) : Instr.loadAt 123 v = ldN v := rfl
theorem szNd : (Tryz.prog.info? 123).map (·.size) = some 4 := by kernel_rfl
def ldK (v : Value) : Sem Value := Instr.loadAt 78 v
theorem ldK_rule (v : Value) : Instr.loadAt 78 v = ldK v := rfl
theorem szTo : (Tryz.prog.info? 78).map (·.size) = some 3 := by kernel_rfl
abbrev NdsAt := RowAt Nd.cells 4 123

attribute [local go_sem ↓] ldN_rule
attribute [local go_sem ↓] ldK_rule
end Go.Proofs.YteneagnhihcljaaGreatDoor
namespace Go.Proofs.YteneagnhihcljaaGreatDoor
open Go.RowKit
set_option linter.unusedVariables false
set_option linter.unusedSimpArgs false

set_option maxRecDepth 20000 in
set_option maxHeartbeats 2000000 in
theorem isIn_any (w : World) (v : Value) (l : List Int) (n : Int) (h : IntAt w v l) (hl : l.length ≤ 1000) :
    Calls Tryz.prog 32 #[v, .int .i64 n] w fun e w' => e = .returned (.bool (l.any (· == n))) ∧ w' = w := by
  obtain ⟨ao, cap, rfl, hc, hcell⟩ := h
  have HC := hid hcell
  generalize hR : l.any (· == n) = RES
  have HR := hid hR
  clear hcell hR
  go_enter Tryz.func32, Tryz.ntmps32
  go_wp2
  go_loopw [6, 9] (fun _ x5 wr => ∃ (i : Nat), x5 = .int .i64 i ∧ i ≤ l.length ∧ (l.drop i).any (· == n) = RES ∧ wr = w)
      (fun _ x _ => 1001 - (intOf x).toNat)
  case atStart => exact ⟨0, rfl, by omega, HR.out, rfl⟩
  case round =>
    obtain ⟨i, rfl, hi, hres, hfr⟩ := hrel
    subst hfr
    have HME := hid (meas (B := 1001) i (by omega))
    by_cases hlt : i < l.length
    · have hi1 : (i : Int) < (l.length : Int) := by omega
      rw [List.drop_eq_getElem_cons hlt, List.any_cons] at hres
      obtain ⟨g, o, rfl, hcl⟩ := HC.out i hlt
      have c1 := hcl
      generalize l[i] = li at hres c1
      cases hq : (li == n)
      · rw [hq, Bool.false_or] at hres
        have HRES := hid hres
        clear hcl hres
        go_wp2
        go_roundw
        case rel => exact ⟨i + 1, by go_num, by omega, HRES.out, by first | rfl | trivial⟩
        case measure => exact HME.out
      · rw [hq, Bool.true_or] at hres
        have HRES := hid hres
        clear hcl hres
        go_wp2
        go_ret
        exact ⟨ret_bool HRES.out, rfl⟩
    · have hie : i = l.length := by omega
      have hi2 : ¬ (i : Int) < (l.length : Int) := by omega
      rw [hie, List.drop_length] at hres
      have HRES := hid hres
      clear hres
      go_wp2
      go_ret
      exact ⟨ret_bool (by rw [← HRES.out]; rfl), rfl⟩

/-- all kinds are rules' numbers -/
def kindsOk (R : Int) (l : List Int) : Bool := l.all fun k => decide (0 ≤ k) && decide (k < R)
def placeF (toks : List Tk) (n : Int) (len : Nat) : Int := if n < 0 then len else match toks[n.toNat]? with
  | some t => t.a
  | none => len
set_option maxRecDepth 20000 in
set_option maxHeartbeats 2000000 in
theorem placeOf_any (w : World) (v : Value) (toks : List Tk) (n : Int) (s : ByteArray) (h : ToksAt w v toks) (hl : toks.length ≤ 1000) :
    Calls Tryz.prog 15 #[v, .int .i64 n, .string s] w fun e w' => e = .returned (.int .i64 (placeF toks n s.size)) ∧ Fresh w w' := by
  obtain ⟨aa, ca, hva⟩ := own_form h.own
  subst hva
  have HT := hid h
  clear h
  by_cases h0 : n < 0
  · have e0 : placeF toks n s.size = s.size := by unfold placeF; rw [if_pos h0]
    rw [e0]
    clear e0
    go_enter Tryz.func15, Tryz.ntmps15
    go_wp2
    go_ret
    exact ⟨rfl, Mod.refl _ w⟩
  · obtain ⟨k, rfl⟩ : ∃ k : Nat, n = k := ⟨n.toNat, by omega⟩
    by_cases hk : k < toks.length
    · have hk1 : (k : Int) < (toks.length : Int) := by omega
      have e0 : placeF toks k s.size = toks[k].a := by unfold placeF; rw [if_neg h0, Int.toNat_natCast, List.getElem?_eq_getElem hk]
      rw [e0]
      obtain ⟨g, c', hg⟩ := Joins.ownsRow_form HT.out.own (by omega)
      rw [Value.slice.injEq] at hg
      obtain ⟨rfl, _, rfl⟩ := hg
      have c1 : w.cell? ⟨g, k * 3 + 1, none⟩ = some (.int .i64 toks[k].a) := HT.out.cell k 1 hk (by omega)
      generalize toks[k].a = ta at c1
      clear e0
      go_enter Tryz.func15, Tryz.ntmps15
      go_wp2
      go_ret
      exact ⟨rfl, Mod.refl _ w⟩
    · have hk1 : ¬ (k : Int) < (toks.length : Int) := by omega
      have e0 : placeF toks k s.size = s.size := by unfold placeF; rw [if_neg h0, Int.toNat_natCast, List.getElem?_eq_none (by omega)]
      rw [e0]
      clear e0
      go_enter Tryz.func15, Tryz.ntmps15
      go_wp2
      go_ret
      exact ⟨rfl, Mod.refl _ w⟩

set_option maxRecDepth 20000 in
set_option maxHeartbeats 4000000 in
theorem kindsOf_any (w : World) (v : Value) (toks : List Tk) (h : ToksAt w v toks) (hl : toks.length ≤ 1000) :
    Calls Tryz.prog 13 #[v] w fun e w' => ∃ v', e = .returned v' ∧ Fresh w w' ∧ IntOwn w' w.heap.size v' (toks.map Tk.r) := by
  obtain ⟨i0, hi0, iz0, iz1, iz2⟩ := infoI'
  obtain ⟨aa, ca, hva⟩ := own_form h.own
  subst hva
  have HT := hid h
  clear h
  go_enter Tryz.func13, Tryz.ntmps13
  go_wp2
  go_loopw [3, 5, 8] (fun x3 _ x5 wr => ∃ (i : Nat), x5 = .int .i64 i ∧ i ≤ toks.length ∧ Fresh w wr ∧ IntOwn wr w.heap.size x3 ((toks.take i).map Tk.r))
      (fun _ _ x _ => 1001 - (intOf x).toNat)
  case atStart => exact ⟨0, rfl, by omega, Mod.refl _ w, World.ownsRow_nil _ _ _ _⟩
  case round =>
    obtain ⟨i, rfl, hi, hfr, hown⟩ := hrel
    have HFR := hid hfr
    have HME := hid (meas (B := 1001) i (by omega))
    have HTE : Hid (i = toks.length → toks.take i = toks) := fun e => by rw [e, List.take_length]
    have HTS : Hid (∀ hlt : i < toks.length, (toks.take (i + 1)).map Tk.r = (toks.take i).map Tk.r ++ [toks[i].r]) := fun hlt => by rw [takeS hlt, List.map_append]; rfl
    have hlen : ((toks.take i).map Tk.r).length ≤ 1000 := by simp; omega
    generalize hy : (toks.take i).map Tk.r = ys at *
    have HY := hid hy
    have HO := hid hown
    obtain ⟨ro, rc, hro⟩ := own_form hown
    subst hro
    clear hown hy
    by_cases hlt : i < toks.length
    · have hi1 : (i : Int) < (toks.length : Int) := by omega
      obtain ⟨g, c', hg⟩ := Joins.ownsRow_form HT.out.own (by omega)
      rw [Value.slice.injEq] at hg
      obtain ⟨rfl, _, rfl⟩ := hg
      have r1 := (HT.out.fresh hfr).range i hlt
      have hTS := HTS.out hlt
      generalize toks[i] = tk at r1 hTS
      obtain ⟨tr, ta, tb⟩ := tk
      have R1 := hid r1
      have HTSS := hid hTS
      clear r1 hTS hfr
      go_wp2_with (first
        | (refine wpList_load_mid rfl 78 _ rfl g (i * 3) rfl [.int .i64 tr, .int .i64 ta, .int .i64 tb] _ R1.out Tryz.underlying78 rfl szTo ?_)
        | (at_builtin; refine wpList_append_mine _ rfl _ _ 22 rfl w.heap.size 3 i0 _ 1 8 Tryz.underlying22 hi0 iz0 iz1 iz2 rfl (by decide) _ _ _ rfl ((HO.out.alloc _).alloc _) ⟨wr.heap.size + 1, 0, none⟩ 1 1 [.int .i64 tr] rfl rfl (new_cells2 rfl) (by intro u hu; simp at hu; subst hu; rfl) (by unfold maxLen; omega) (by omega) (by have h3 := HFR.out.size; simp; omega) ?_))
      intro v' w5 hown2 hgrow hblk
      have HO2 := hid hown2
      have HF5 : Hid (Fresh w w5) := ((HFR.out.alloc _).alloc _).grown hgrow (fun k hk hlt => by have := (HO.out.lt k hk).1; omega)
      obtain ⟨ro2, rc2, hro2⟩ := own_form hown2
      subst hro2
      clear hown2 hgrow hblk
      go_wp2
      go_roundw
      case rel =>
        refine ⟨i + 1, by go_num, by omega, HF5.out, ?_⟩
        rw [HTSS.out]
        show World.ownsRow _ _ _ _ _ (ys ++ [tr]).length _
        rw [List.length_append, List.length_singleton]
        have := HO2.out
        simpa [nums] using this
      case measure => exact HME.out
    · have hie : i = toks.length := by omega
      have hi2 : ¬ (i : Int) < (toks.length : Int) := by omega
      have hE := HTE.out hie
      clear hfr
      go_wp2
      go_ret
      refine ⟨_, rfl, HFR.out, ?_⟩
      rw [← hE, HY.out]; exact HO.out
end Go.Proofs.YteneagnhihcljaaGreatDoor
