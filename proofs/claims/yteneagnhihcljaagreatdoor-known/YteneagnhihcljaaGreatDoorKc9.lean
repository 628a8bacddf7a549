import Derived.Test.YteneagnhihcljaaGreatDoorMu7
import Derived.Test.YteneagnhihcljaaGreatDoorSg2
import Derived.Test.YteneagnhihcljaaGreatDoorGt2
namespace Go.Proofs.YteneagnhihcljaaGreatDoor
open Go.RowKit
set_option linter.unusedVariables false
set_option linter.unusedSimpArgs false

def All2 {α β : Type} (R : α → β → Prop) : List α → List β → Prop
  | [], [] => True
  | a :: us, b :: zs => R a b ∧ All2 R us zs
  | _, _ => False
theorem All2.len {α β : Type} {R : α → β → Prop} : ∀ {us : List α} {zs : List β}, All2 R us zs → us.length = zs.length
  | [], [], _ => rfl
  | _ :: us, _ :: zs, h => by simp [All2.len h.2]
theorem All2.snoc {α β : Type} {R : α → β → Prop} : ∀ {us : List α} {zs : List β} {a : α} {b : β}, All2 R us zs → R a b → All2 R (us ++ [a]) (zs ++ [b])
  | [], [], _, _, _, h => ⟨h, trivial⟩
  | _ :: us, _ :: zs, _, _, h, k => ⟨h.1, All2.snoc h.2 k⟩
def Tw (s : ByteArray) (d : Wd) (y : ByteArray) : Prop := ∃ i m : Nat, WordAt s i m d ∧ y = s.extract i (i + m)
theorem word_same' {s : ByteArray} {a b m n : Nat} {d d' : Wd} (h : WordAt s a m d) (h' : WordAt s b n d') (ha : a + m ≤ s.size) (hb : b + n ≤ s.size) (hl : (s.extract a (a + m)).toList = (s.extract b (b + n)).toList) : d.ls = d'.ls := by
  have hA : (s.extract a (a + m)).size = m := by rw [ByteArray.size_extract]; omega
  have hB : (s.extract b (b + n)).size = n := by rw [ByteArray.size_extract]; omega
  have hmn : m = n := by
    have := congrArg List.length hl
    rw [btl, btl, Array.length_toList, Array.length_toList] at this
    have e1 : (s.extract a (a + m)).data.size = m := hA
    have e2 : (s.extract b (b + n)).data.size = n := hB
    omega
  subst hmn
  rw [h.ls, h'.ls]
  apply List.map_congr_left
  intro k hk
  by_cases hkm : k < m
  · rw [if_pos hkm, if_pos hkm]
    have e1 := atB_ext s a (a + m) k ha (by omega)
    have e2 := atB_ext s b (b + m) k hb (by omega)
    have e3 : s.extract a (a + m) = s.extract b (b + m) := by
      apply ByteArray.ext
      apply Array.toList_inj.1
      rw [← btl, ← btl]; exact hl
    rw [e3] at e1
    rw [← e1, ← e2]
  · rw [if_neg hkm, if_neg hkm]
theorem tw_eq {s : ByteArray} {d d' : Wd} {y y' : ByteArray} (h : Tw s d y) (h' : Tw s d' y') : (d.ls == d'.ls) = (y.toList == y'.toList) := by
  obtain ⟨i, m, hw, rfl⟩ := h
  obtain ⟨j, n, hw', rfl⟩ := h'
  have h1 := hw.in'
  have h2 := hw'.in'
  rw [Bool.eq_iff_iff, beq_iff_eq, beq_iff_eq]
  exact ⟨fun e => word_same hw hw' (by omega) (by omega) e, fun e => word_same' hw hw' (by omega) (by omega) e⟩
theorem idx_eq {s : ByteArray} {d : Wd} {y : ByteArray} (hd : Tw s d y) : ∀ {ds : List Wd} {ys : List ByteArray}, All2 (Tw s) ds ys → ds.findIdx (fun x => x.ls == d.ls) = ys.findIdx (fun x => x.toList == y.toList)
  | [], [], _ => rfl
  | a :: us, b :: zs, h => by
    rw [List.findIdx_cons, List.findIdx_cons, tw_eq h.1 hd, idx_eq hd h.2]
theorem findF_eq {s : ByteArray} {d : Wd} {y : ByteArray} (hd : Tw s d y) {ds : List Wd} {ys : List ByteArray} (h : All2 (Tw s) ds ys) : findF ys y = if wordF ds d.ls < ds.length then (wordF ds d.ls : Int) else -1 := by
  unfold findF wordF
  rw [← idx_eq hd h, ← h.len]
theorem headsL_snoc : ∀ (l : List Ln) (acc : List Wd) (y : Ln), headsL (l ++ [y]) acc = if ruleB y then headsL l acc else if wordF (headsL l acc) y.front.ls < (headsL l acc).length then headsL l acc else headsL l acc ++ [y.front]
  | [], acc, y => by
    simp only [List.nil_append, headsL]; rfl
  | x :: l, acc, y => by
    rw [List.cons_append]
    unfold headsL
    split
    · exact headsL_snoc l acc y
    · split
      · exact headsL_snoc l acc y
      · exact headsL_snoc l _ y
theorem wordF_snoc {ds : List Wd} {ls : List Int} (h : wordF ds ls < ds.length) (t : List Wd) : wordF (ds ++ t) ls = wordF ds ls := by
  unfold wordF at h ⊢
  rw [List.findIdx_append, if_pos h]

structure Inv2 (s : ByteArray) (lns : List Ln) (x : LO) : Prop where
  ru : All2 (Tw s) (frontsOf lns) x.rules
  he : All2 (Tw s) (headsOf lns) x.heads
  hd : x.head = (prodsOf lns).map (fun y => (wordF (headsOf lns) y.front.ls : Int))
  na : All2 (fun (y : Ln) (ns : List ByteArray) => All2 (Tw s) y.syms ns) (prodsOf lns) x.names
  mem : ∀ y ∈ prodsOf lns, wordF (headsOf lns) y.front.ls < (headsOf lns).length
  cap : ∀ d ∈ headsOf lns, headB d = true

theorem pn_tw {s : ByteArray} {p q : Nat} {ds : List Wd} {ns : List ByteArray} (h : PN s p ds ns q) : All2 (Tw s) ds ns := by
  refine PN.ind (M := fun _ ds ns => All2 (Tw s) ds ns) trivial ?_ ds p ns h
  intro p m d ds ns h32 hw hle h ih
  exact ⟨⟨p + 1, m, hw, rfl⟩, ih⟩
theorem inv2_line {s : ByteArray} {lns : List Ln} {x : LO} {y : Ln} {i e : Nat} (h : Inv2 s lns x) (he : e ≤ s.size) (hl : LineAt s i y e) : Inv2 s (lns ++ [y]) (takeF (s.extract i e) x) := by
  rcases hl with ⟨m, hw, hs, hr, hle, hc, hm, hk, hsy⟩ | ⟨m, ns, hw, hs, hr, hc, hm, hp⟩
  · rw [take_rule_at s i e m _ x he hw hs hle hm]
    have e1 : headsOf (lns ++ [y]) = headsOf lns := by unfold headsOf; rw [headsL_snoc, if_pos hr]
    have e2 : prodsOf (lns ++ [y]) = prodsOf lns := by unfold prodsOf; rw [List.filter_append]; simp [List.filter_cons, hr]
    have e3 : frontsOf (lns ++ [y]) = frontsOf lns ++ [y.front] := by unfold frontsOf; rw [List.filter_append, List.map_append]; simp [List.filter_cons, hr]
    refine ⟨?_, ?_, ?_, ?_, ?_, ?_⟩
    · rw [e3]; exact h.ru.snoc ⟨i, m, hw, rfl⟩
    · rw [e1]; exact h.he
    · rw [e1, e2]; exact h.hd
    · rw [e2]; exact h.na
    · rw [e1, e2]; exact h.mem
    · rw [e1]; exact h.cap
  · rw [take_prod_at s i e m _ _ ns x he hw hs hm hp]
    have hcap : headB y.front = true := by
      unfold ruleB at hr
      simpa using hr
    have hT : Tw s y.front (s.extract i (i + m)) := ⟨i, m, hw, rfl⟩
    have e2 : prodsOf (lns ++ [y]) = prodsOf lns ++ [y] := by unfold prodsOf; rw [List.filter_append]; simp [List.filter_cons, hr]
    have e3 : frontsOf (lns ++ [y]) = frontsOf lns := by unfold frontsOf; rw [List.filter_append, List.map_append]; simp [List.filter_cons, hr]
    have hf := findF_eq hT h.he
    by_cases hlt : wordF (headsOf lns) y.front.ls < (headsOf lns).length
    · rw [if_pos hlt] at hf
      have e1 : headsOf (lns ++ [y]) = headsOf lns := by
        unfold headsOf at hlt ⊢; rw [headsL_snoc, if_neg (by simp [hr]), if_pos hlt]
      have hnn : ¬ findF x.heads (s.extract i (i + m)) < 0 := by rw [hf]; omega
      simp only [hnn, if_false]
      refine ⟨?_, ?_, ?_, ?_, ?_, ?_⟩
      · rw [e3]; exact h.ru
      · rw [e1]; exact h.he
      · rw [e1, e2, List.map_append, h.hd, hf]; rfl
      · rw [e2]; exact h.na.snoc (pn_tw hp)
      · rw [e1, e2]
        intro z hz
        simp only [List.mem_append, List.mem_singleton] at hz
        rcases hz with hz | rfl
        · exact h.mem z hz
        · exact hlt
      · rw [e1]; exact h.cap
    · rw [if_neg hlt] at hf
      have e1 : headsOf (lns ++ [y]) = headsOf lns ++ [y.front] := by
        unfold headsOf at hlt ⊢; rw [headsL_snoc, if_neg (by simp [hr]), if_neg hlt]
      have hnn : findF x.heads (s.extract i (i + m)) < 0 := by rw [hf]; omega
      simp only [hnn, if_true]
      have hself : wordF (headsOf lns ++ [y.front]) y.front.ls = (headsOf lns).length := by
        have hle := wordF_le (headsOf lns) y.front.ls
        have hge : (headsOf lns).findIdx (fun x => x.ls == y.front.ls) = (headsOf lns).length := by unfold wordF at hle hlt; omega
        unfold wordF
        rw [List.findIdx_append, hge, if_neg (by omega), List.findIdx_cons]; simp
      refine ⟨?_, ?_, ?_, ?_, ?_, ?_⟩
      · rw [e3]; exact h.ru
      · rw [e1]; exact h.he.snoc hT
      · rw [e1, e2, List.map_append, List.map_singleton, hself, h.hd, h.he.len]
        dsimp only
        congr 1
        apply List.map_congr_left
        intro z hz
        rw [wordF_snoc (h.mem z hz)]
      · rw [e2]; exact h.na.snoc (pn_tw hp)
      · rw [e1, e2]
        intro z hz
        simp only [List.mem_append, List.mem_singleton] at hz
        rw [List.length_append, List.length_singleton]
        rcases hz with hz | rfl
        · rw [wordF_snoc (h.mem z hz)]; have := h.mem z hz; omega
        · rw [hself]; omega
      · rw [e1]
        intro d hd
        simp only [List.mem_append, List.mem_singleton] at hd
        rcases hd with hd | rfl
        · exact h.cap d hd
        · exact hcap
theorem inv2_lines (s : ByteArray) : ∀ (f i : Nat) (acc : List Ln) (g : Nat) (x : LO), (rLinesL s f i acc).2.2 = true → i ≤ s.size → s.size + 1 ≤ g + i → Inv2 s acc x → Inv2 s (rLinesL s f i acc).1 (lineL s g i x)
  | 0, i, acc, g, x, h, hi, hg, hI => by simp [rLinesL] at h
  | f + 1, i, acc, g, x, h, hi, hg, hI => by
    obtain ⟨g, rfl⟩ : ∃ k, g = k + 1 := ⟨g - 1, by omega⟩
    unfold rLinesL at h ⊢
    unfold lineL
    by_cases hlt : i < s.size
    · rw [if_pos (by omega)] at h ⊢
      rw [if_pos hlt]
      cases hok : (rLine s i).2.2
      · rw [if_pos hok] at h; cases h
      · rw [if_neg (by simp [hok])] at h ⊢
        obtain ⟨e, he1, he2, he3, he4, he5⟩ := rLine_at s i hok
        rw [he4] at h ⊢
        have hcl : Clean s i e := he5.clean
        have hup : upToF (s.extract i s.size) 10 10 = e - i := by
          refine upTo_at s i s.size (e - i) 10 10 (by omega) (by omega) ?_ ?_
          · intro k hk
            have := hcl ((i : Int) + k) (by omega) (by omega)
            exact ⟨by omega, by omega⟩
          · right; left
            have e1 : (i : Int) + ((e - i : Nat) : Int) = (e : Nat) := by omega
            rw [e1]; exact he3
        rw [hup, show i + (e - i) = e by omega, if_pos he1]
        exact inv2_lines s f (e + 1) _ g _ h (by omega) (by omega) (inv2_line hI (by omega) he5)
    · rw [if_neg (by omega)] at h ⊢
      rw [if_neg hlt]
      exact hI
theorem linesInv2 {s : ByteArray} (h : checkF s = (0, 0)) : Inv2 s (rLines s).1 (linesX s) := by
  obtain ⟨h1, h2, h3, h4, h5⟩ := check_parts h
  have h2' : (rLinesL s (s.size + 5) ((0 : Nat) : Int) []).2.2 = true := h2
  exact inv2_lines s (s.size + 5) 0 [] (s.size + 1) zeroLO h2' (by omega) (by omega) ⟨trivial, trivial, rfl, trivial, (by intro y hy; cases hy), (by intro d hd; cases hd)⟩
end Go.Proofs.YteneagnhihcljaaGreatDoor
namespace Go.Proofs.YteneagnhihcljaaGreatDoor
open Go.RowKit
set_option linter.unusedVariables false
set_option linter.unusedSimpArgs false

theorem many_rules {lns : List Ln} (hp : ∀ y ∈ lns, 0 ≤ y.front.place) : ∀ (f i : Nat), tooManyL lns f i = -1 → lns.length + 1 ≤ f + i → ∀ k (hk : k < lns.length), i ≤ k → overB lns k lns[k] = false
  | 0, i, _, hf, k, hk, hi => by omega
  | f + 1, i, h, hf, k, hk, hi => by
    unfold tooManyL at h
    have hil : i < lns.length := by omega
    rw [List.getElem?_eq_getElem hil] at h
    simp only [] at h
    cases ho : overB lns i lns[i]
    · rw [ho] at h
      simp only [Bool.false_eq_true, if_false] at h
      by_cases e : i = k
      · subst e; exact ho
      · exact many_rules hp f (i + 1) h (by omega) k hk (by omega)
    · rw [ho] at h
      simp only [if_true] at h
      have := hp lns[i] (by simp)
      omega
theorem rules_le {lns : List Ln} (hp : ∀ y ∈ lns, 0 ≤ y.front.place) (h : tooMany lns = -1) : (frontsOf lns).length ≤ 8 := by
  have e : (frontsOf lns).length = cntRules lns lns.length := by unfold frontsOf cntRules; rw [List.take_length, List.length_map]
  rw [e]
  by_cases h0 : lns.length = 0
  · rw [h0]; simp [cntRules]
  · have := many_rules hp _ 0 h (by omega) (lns.length - 1) (by omega) (by omega)
    unfold overB at this
    simp only [Bool.or_eq_false_iff, decide_eq_false_iff_not] at this
    have h1 := this.1.1.1
    rw [show lns.length - 1 + 1 = lns.length by omega] at h1
    omega
theorem headB_ls {d d' : Wd} (h : d.ls = d'.ls) : headB d = headB d' := by unfold headB; rw [h]
/-- each symbol has its number -/
theorem sym_num {lns : List Ln} (hw : wrongName lns = -1) (hpl : ∀ y ∈ lns, 0 ≤ y.front.place ∧ ∀ d ∈ y.syms, 0 ≤ d.place) (hmem : ∀ y ∈ prodsOf lns, wordF (headsOf lns) y.front.ls < (headsOf lns).length) {y : Ln} (hy : y ∈ lns) {d : Wd} (hd : d ∈ y.syms) :
    (headB d = true → wordF (headsOf lns) d.ls < (headsOf lns).length) ∧ (headB d = false → wordF (frontsOf lns) d.ls < (frontsOf lns).length) := by
  obtain ⟨k, hk, rfl⟩ := List.getElem_of_mem hy
  have h1 := wrong_none hpl _ 0 hw (by omega) k hk (by omega)
  obtain ⟨q, hq, rfl⟩ := List.getElem_of_mem hd
  have h2 := syms_none (hpl _ hy).2 _ 0 h1 (by omega) q hq (by omega)
  unfold symB at h2
  by_cases hf : frontF lns (lns[k].syms[q]).ls < lns.length
  · have h3 : (lns[frontF lns (lns[k].syms[q]).ls]).front.ls = (lns[k].syms[q]).ls := by
      have := List.findIdx_getElem (xs := lns) (p := fun x : Ln => x.front.ls == (lns[k].syms[q]).ls) (w := hf)
      exact beq_iff_eq.1 this
    have h4 := headB_ls h3
    have hz := List.getElem_mem hf
    generalize lns[frontF lns (lns[k].syms[q]).ls] = z at h3 h4 hz
    refine ⟨fun e => ?_, fun e => ?_⟩
    · rw [← h3]
      refine hmem z ?_
      unfold prodsOf ruleB
      rw [List.mem_filter]
      exact ⟨hz, by rw [h4, e]; rfl⟩
    · unfold wordF
      refine List.findIdx_lt_length_of_exists ⟨z.front, ?_, by rw [h3]; simp⟩
      unfold frontsOf ruleB
      rw [List.mem_map]
      exact ⟨z, List.mem_filter.2 ⟨hz, by rw [h4, e]; rfl⟩, rfl⟩
  · rw [List.getElem?_eq_none (by omega)] at h2; cases h2

theorem tabOk {lns : List Ln} (hw : wrongName lns = -1) (hpl : ∀ y ∈ lns, 0 ≤ y.front.place ∧ ∀ d ∈ y.syms, 0 ≤ d.place) (hmem : ∀ y ∈ prodsOf lns, wordF (headsOf lns) y.front.ls < (headsOf lns).length) :
    TabOk (tableOf lns) (frontsOf lns).length (headsOf lns).length := by
  refine ⟨fun p hp => ?_, fun p hp s hs => ?_⟩
  · obtain ⟨y, hy, rfl⟩ := List.mem_map.1 hp
    have := hmem y hy
    simp only [prOf]; omega
  · obtain ⟨y, hy, rfl⟩ := List.mem_map.1 hp
    obtain ⟨d, hd, rfl⟩ := List.mem_map.1 hs
    have hyl : y ∈ lns := (List.mem_filter.1 hy).1
    obtain ⟨h1, h2⟩ := sym_num hw hpl hmem hyl hd
    simp only [symF]
    by_cases hq : headB d = true
    · have := h1 hq
      simp only [hq, if_true]; omega
    · have hq' : headB d = false := by simpa using hq
      have := h2 hq'
      simp only [hq', Bool.false_eq_true, if_false]; omega

theorem check_zero {s : ByteArray} (hc : (checkF s).1 = 0) : checkF s = (0, 0) := by
  unfold checkF at hc ⊢
  repeat' split at hc
  all_goals first
    | (simp at hc; done)
    | skip
  rename_i a b c d e f
  rw [if_neg a, if_neg b, if_neg c, if_neg d, if_neg e, if_neg f]
end Go.Proofs.YteneagnhihcljaaGreatDoor
namespace Go.Proofs.YteneagnhihcljaaGreatDoor
open Go.RowKit
set_option linter.unusedVariables false
set_option linter.unusedSimpArgs false

def clashF (s : ByteArray) : List Cl := clashL ((tableOf (rLines s).1).zip (aheadsF (setsF s) (tableOf (rLines s).1))) (frontsOf (rLines s).1).length (headsOf (rLines s).1).length
end Go.Proofs.YteneagnhihcljaaGreatDoor
namespace Go.Proofs.YteneagnhihcljaaGreatDoor
open Go.RowKit
set_option linter.unusedVariables false
set_option linter.unusedSimpArgs false

section
variable {ps : List Pr} {R H : Nat} {hs : List Hd}
end

end Go.Proofs.YteneagnhihcljaaGreatDoor
namespace Go.Proofs.YteneagnhihcljaaGreatDoor
open Go.RowKit
set_option linter.unusedVariables false
set_option linter.unusedSimpArgs false

theorem headsL_sub : ∀ (l : List Ln) (acc : List Wd) (d : Wd), d ∈ acc → d ∈ headsL l acc
  | [], _, _, h => h
  | x :: l, acc, d, h => by
    unfold headsL
    split
    · exact headsL_sub l acc d h
    · split
      · exact headsL_sub l acc d h
      · exact headsL_sub l _ d (by simp [h])
theorem wordF_mem {ds : List Wd} {ls : List Int} : wordF ds ls < ds.length ↔ ∃ d ∈ ds, d.ls = ls := by
  unfold wordF
  rw [List.findIdx_lt_length]
  simp
theorem headsL_mem : ∀ (l : List Ln) (acc : List Wd) (y : Ln), y ∈ l → ruleB y = false → ∃ d ∈ headsL l acc, d.ls = y.front.ls
  | [], _, _, h, _ => by cases h
  | x :: l, acc, y, h, hy => by
    simp only [List.mem_cons] at h
    unfold headsL
    rcases h with rfl | h
    · rw [if_neg (by rw [hy]; simp)]
      split
      · rename_i e
        obtain ⟨d, h1, h2⟩ := wordF_mem.1 e
        exact ⟨d, headsL_sub l acc d h1, h2⟩
      · exact ⟨y.front, headsL_sub l _ _ (by simp), rfl⟩
    · split
      · exact headsL_mem l acc y h hy
      · split
        · exact headsL_mem l acc y h hy
        · exact headsL_mem l _ y h hy
theorem heads_cnt (lns : List Ln) : ∀ i, i ≤ lns.length → (headsL (lns.take i) []).length ≤ cntHeads lns i
  | 0, _ => by simp [headsL]
  | i + 1, hi => by
    have ih := heads_cnt lns i (by omega)
    have hil : i < lns.length := by omega
    rw [takeS hil, headsL_snoc, cntHeads_succ lns i hil]
    split
    · omega
    · rename_i hr
      split
      · omega
      · rename_i hw
        have ha : aheadB lns i = false := by
          unfold aheadB
          rw [List.getElem?_eq_getElem hil]
          simp only [decide_eq_false_iff_not]
          intro hf
          apply hw
          rw [wordF_mem]
          unfold frontF at hf
          have hlt : lns.findIdx (fun y => y.front.ls == lns[i].front.ls) < lns.length := by omega
          have h1 := List.findIdx_getElem (w := hlt)
          generalize lns.findIdx (fun y => y.front.ls == lns[i].front.ls) = j at *
          simp only [beq_iff_eq] at h1
          have hjr : ruleB lns[j] = false := by
            have : headB lns[j].front = headB lns[i].front := headB_ls h1
            unfold ruleB at hr ⊢
            rw [this]; simpa using hr
          obtain ⟨d, hd1, hd2⟩ := headsL_mem (lns.take i) [] lns[j] (List.mem_take_iff_getElem.2 ⟨j, by omega, rfl⟩) hjr
          exact ⟨d, hd1, by rw [hd2, h1]⟩
        rw [ha]
        simp only [Bool.or_false]
        have hr2 : ruleB lns[i] = false := by simpa using hr
        rw [hr2]
        simp only [List.length_append, List.length_singleton, Bool.false_eq_true, if_false]
        omega
theorem counts_le {lns : List Ln} (hp : ∀ y ∈ lns, 0 ≤ y.front.place) (h : tooMany lns = -1) : (headsOf lns).length ≤ 8 ∧ (tableOf lns).length ≤ 20 ∧ ∀ p ∈ tableOf lns, p.syms.length ≤ 6 := by
  refine ⟨?_, ?_, ?_⟩
  · have hc := heads_cnt lns lns.length (Nat.le_refl _)
    rw [List.take_length] at hc
    unfold headsOf
    by_cases h0 : lns.length = 0
    · have : lns = [] := List.eq_nil_of_length_eq_zero h0
      subst this; simp [headsL]
    · have := many_rules hp _ 0 h (by omega) (lns.length - 1) (by omega) (by omega)
      unfold overB at this
      simp only [Bool.or_eq_false_iff, decide_eq_false_iff_not] at this
      have h1 := this.1.2
      rw [show lns.length - 1 + 1 = lns.length by omega] at h1
      omega
  · have e : (tableOf lns).length = cntProds lns lns.length := by unfold tableOf prodsOf cntProds; rw [List.take_length, List.length_map]
    rw [e]
    by_cases h0 : lns.length = 0
    · rw [h0]; simp [cntProds]
    · have := many_rules hp _ 0 h (by omega) (lns.length - 1) (by omega) (by omega)
      unfold overB at this
      simp only [Bool.or_eq_false_iff, decide_eq_false_iff_not] at this
      have h1 := this.1.1.2
      rw [show lns.length - 1 + 1 = lns.length by omega] at h1
      omega
  · intro p hpm
    unfold tableOf at hpm
    obtain ⟨y, hy, rfl⟩ := List.mem_map.1 hpm
    have hy2 := (List.mem_filter.1 hy).1
    obtain ⟨k, hk, rfl⟩ := List.getElem_of_mem hy2
    have := many_rules hp _ 0 h (by omega) k hk (by omega)
    unfold overB at this
    simp only [Bool.or_eq_false_iff, decide_eq_false_iff_not] at this
    unfold prOf
    simp only [List.length_map]
    omega

/-- what begins, by the sets -/
def hN (hs : List Hd) (X : Int) : Bool := (getH hs X).nul
def hF (hs : List Hd) (X : Int) (t : Nat) : Bool := (getH hs X).fi.getD t false
def hO (hs : List Hd) (X : Int) (t : Nat) : Bool := (getH hs X).fo.getD t false
theorem withT_hit {a : List Bool} (ha : a.length = 9) {n : Int} (h0 : 0 ≤ n) (h9 : n < 9) (t : Nat) : (withT a n).getD t false = (a.getD t false || (n == (t : Int))) := by
  unfold withT
  rw [if_pos ⟨h0, h9⟩]
  simp only [List.getD_eq_getElem?_getD, List.getElem?_set]
  by_cases e : n.toNat = t
  · have e2 : (n == (t : Int)) = true := by simp; omega
    rw [if_pos e, if_pos (by omega), e2]; simp
  · have e2 : (n == (t : Int)) = false := by simp; omega
    rw [if_neg e, e2]; simp
theorem begF_nul (hs : List Hd) : ∀ (l : List Sy) (acc : List Bool), (begF hs l acc).2 = l.all (nulS (hN hs))
  | [], _ => rfl
  | s :: l, acc => by
    unfold begF
    cases h1 : s.isH
    · simp [nulS, h1]
    · simp only [Bool.true_eq_false, if_false, List.all_cons, nulS, h1, Bool.true_and, hN]
      cases h2 : (getH hs s.num).nul
      · simp
      · simp only [Bool.true_eq_false, if_false, Bool.true_and]; exact begF_nul hs l _
theorem begF_at {R H : Nat} {hs : List Hd} (hok : ∀ x ∈ hs, x.ok) (hR : R ≤ 8) (t : Nat) : ∀ (l : List Sy) (acc : List Bool), acc.length = 9 → (∀ s ∈ l, 0 ≤ s.num ∧ s.num < (if s.isH then (H : Int) else R)) →
    (begF hs l acc).1.getD t false = (acc.getD t false || begX (hN hs) (fun X => hF hs X t) t l)
  | [], acc, _, _ => by simp [begF, begX]
  | s :: l, acc, ha, hv => by
    have hv1 := hv s (by simp)
    unfold begF begX
    cases h1 : s.isH
    · rw [h1] at hv1
      simp only [Bool.false_eq_true, if_false] at hv1
      simp only [if_true, Bool.false_eq_true, if_false, Bool.false_and, Bool.or_false]
      exact withT_hit ha hv1.1 (by omega) t
    · simp only [Bool.true_eq_false, if_false, if_true, Bool.true_and]
      have hfl := (getH_ok hok s.num).fi
      cases h2 : (getH hs s.num).nul
      · simp only [if_true, hN, h2, Bool.false_and, Bool.or_false]
        rw [orL_at (by rw [ha, hfl])]; rfl
      · simp only [Bool.true_eq_false, if_false]
        rw [begF_at hok hR t l _ (orL_len ha hfl) (fun x hx => hv x (by simp [hx])), orL_at (by rw [ha, hfl])]
        simp only [hN, h2, Bool.true_and, hF, Bool.or_assoc]
theorem zero9_f (t : Nat) : zero9.getD t false = false := by rw [zero9_at]
theorem folB_at {R H : Nat} {hs : List Hd} (hok : ∀ x ∈ hs, x.ok) (hR : R ≤ 8) (t : Nat) (ph : Int) (l : List Sy) (hv : ∀ s ∈ l, 0 ≤ s.num ∧ s.num < (if s.isH then (H : Int) else R)) :
    (folB hs ph l).getD t false = (begX (hN hs) (fun X => hF hs X t) t l || (l.all (nulS (hN hs)) && hO hs ph t)) := by
  have h1 := begF_at hok hR t l zero9 rfl hv
  rw [zero9_f, Bool.false_or] at h1
  unfold folB
  rw [begF_nul]
  split
  · rename_i e
    rw [orL_at (by rw [begF_len hok _ _ rfl, (getH_ok hok _).fo]), h1, e]; simp [hO]
  · rename_i e
    rw [h1]
    have : l.all (nulS (hN hs)) = false := by simpa using e
    rw [this]; simp
end Go.Proofs.YteneagnhihcljaaGreatDoor
