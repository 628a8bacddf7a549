import Derived.Test.YtdbdkdekeicmhaaLc1
import Derived.Laws.Bits64
import Derived.Laws.Bits64b
import Derived.WalkSmall
namespace Go.Proofs.Ytdbdkdekeicmhaa
open Go.RowKit
set_option linter.unusedVariables false
set_option linter.unusedSimpArgs false

/-- four words -/
structure WOk (ws : List Int) : Prop where
  len : ws.length = 4
  rng : ∀ k : Nat, 0 ≤ ws.getD k 0 ∧ ws.getD k 0 < 18446744073709551616
def tb (ws : List Int) (c : Nat) : Bool := (ws.getD (c / 64) 0).toNat.testBit (c % 64)
theorem hasB_tb {ws : List Int} (h : WOk ws) (c : Nat) : hasB ws c = tb ws c := by
  have hr := h.rng (c / 64)
  unfold hasB tb
  have e : ws[c / 64]?.getD 0 = ws.getD (c / 64) 0 := rfl
  rw [e]
  generalize ws.getD (c / 64) 0 = x at hr
  obtain ⟨n, rfl⟩ : ∃ n : Nat, x = n := ⟨x.toNat, by omega⟩
  have e2 : ((n : Int) / 2 ^ (c % 64)) = ((n / 2 ^ (c % 64) : Nat) : Int) := by push_cast; rfl
  have hle : n / 2 ^ (c % 64) ≤ n := Nat.div_le_self _ _
  rw [e2, Int.toNat_natCast, Nat.testBit_eq_decide_div_mod_eq]
  generalize n / 2 ^ (c % 64) = m at hle ⊢
  rw [and_one_u64 _ (by omega) (by omega), Bool.eq_iff_iff, beq_iff_eq, decide_eq_true_eq]
  omega
theorem zero4_ok : WOk zero4 := ⟨rfl, fun k => by
  match k with
  | 0 => decide
  | 1 => decide
  | 2 => decide
  | 3 => decide
  | k + 4 => simp [zero4]⟩
theorem zero4_tb (c : Nat) : tb zero4 c = false := by
  unfold tb
  have : zero4.getD (c / 64) 0 = 0 := by
    match c / 64 with
    | 0 => rfl
    | 1 => rfl
    | 2 => rfl
    | 3 => rfl
    | k + 4 => simp [zero4]
  rw [this]; simp
theorem two_lt {k : Nat} (h : k < 64) : 2 ^ k < 18446744073709551616 := by
  have := Nat.pow_lt_pow_right (a := 2) (by omega) h
  simpa using this
theorem setBit_ok {ws : List Int} (h : WOk ws) {n : Nat} (hn : n < 256) : WOk (setBit ws n) ∧ ∀ c, tb (setBit ws n) c = (tb ws c || decide (c = n)) := by
  have hr := h.rng (n / 64)
  have hl := h.len
  have hk : n % 64 < 64 := Nat.mod_lt _ (by omega)
  have hp := two_lt hk
  have e0 : setBit ws n = ws.set (n / 64) (((ws.getD (n / 64) 0).toNat ||| 2 ^ (n % 64) : Nat) : Int) := by
    unfold setBit
    have e1 : ((n : Int) / 64).toNat = n / 64 := by omega
    have e2 : ((n : Int) % 64).toNat = n % 64 := by omega
    rw [e1, e2]
    congr 1
    have e3 : IntKind.u64.wrap (2 ^ (n % 64)) = ((2 ^ (n % 64) : Nat) : Int) := by
      rw [IntKind.wrap_u64]
      have : ((2 : Int) ^ (n % 64)) = ((2 ^ (n % 64) : Nat) : Int) := by push_cast; rfl
      rw [this]
      generalize 2 ^ (n % 64) = P at hp ⊢
      omega
    have e4 : ws[n / 64]?.getD 0 = ((ws.getD (n / 64) 0).toNat : Int) := by
      have : ws[n / 64]?.getD 0 = ws.getD (n / 64) 0 := rfl
      rw [this]; omega
    rw [e3, e4, bits_or_u64_nat _ _ (by omega) hp]
  rw [e0]
  have hor : ((ws.getD (n / 64) 0).toNat ||| 2 ^ (n % 64)) < 18446744073709551616 := by
    have := Nat.or_lt_two_pow (n := 64) (x := (ws.getD (n / 64) 0).toNat) (y := 2 ^ (n % 64)) (by omega) (by omega)
    omega
  refine ⟨⟨by rw [List.length_set]; exact hl, fun k => ?_⟩, fun c => ?_⟩
  · by_cases q : n / 64 = k
    · rw [← q]
      have : (ws.set (n / 64) (((ws.getD (n / 64) 0).toNat ||| 2 ^ (n % 64) : Nat) : Int)).getD (n / 64) 0 = (((ws.getD (n / 64) 0).toNat ||| 2 ^ (n % 64) : Nat) : Int) := by
        rw [List.getD, List.getElem?_set_self (by omega)]; rfl
      rw [this]; omega
    · have : (ws.set (n / 64) (((ws.getD (n / 64) 0).toNat ||| 2 ^ (n % 64) : Nat) : Int)).getD k 0 = ws.getD k 0 := by
        rw [List.getD, List.getElem?_set_ne q]; rfl
      rw [this]; exact h.rng k
  · unfold tb
    by_cases q : n / 64 = c / 64
    · have : (ws.set (n / 64) (((ws.getD (n / 64) 0).toNat ||| 2 ^ (n % 64) : Nat) : Int)).getD (c / 64) 0 = (((ws.getD (c / 64) 0).toNat ||| 2 ^ (n % 64) : Nat) : Int) := by
        rw [← q, List.getD, List.getElem?_set_self (by omega)]; rfl
      rw [this, Int.toNat_natCast, Nat.testBit_or, Nat.testBit_two_pow]
      congr 1
      rw [Bool.eq_iff_iff, decide_eq_true_eq, decide_eq_true_eq]
      omega
    · have : (ws.set (n / 64) (((ws.getD (n / 64) 0).toNat ||| 2 ^ (n % 64) : Nat) : Int)).getD (c / 64) 0 = ws.getD (c / 64) 0 := by
        rw [List.getD, List.getElem?_set_ne q]; rfl
      rw [this]
      have : decide (c = n) = false := by simp; intro e; exact q (by rw [e])
      rw [this, Bool.or_false]
theorem withN_ok {ws : List Int} (h : WOk ws) {lo : Nat} : ∀ n, lo + n ≤ 256 → WOk (withN ws lo n) ∧ ∀ c, tb (withN ws lo n) c = (tb ws c || decide (lo ≤ c ∧ c < lo + n))
  | 0, _ => ⟨h, fun c => by
      have : decide (lo ≤ c ∧ c < lo + 0) = false := decide_eq_false (by omega)
      rw [this, Bool.or_false]; rfl⟩
  | n + 1, hn => by
    obtain ⟨h1, h2⟩ := withN_ok h (lo := lo) n (by omega)
    have e : ((lo : Int) + (n : Int)) = ((lo + n : Nat) : Int) := by omega
    obtain ⟨h3, h4⟩ := setBit_ok h1 (n := lo + n) (by omega)
    unfold withN
    rw [e]
    refine ⟨h3, fun c => ?_⟩
    rw [h4, h2, Bool.or_assoc]
    congr 1
    rw [Bool.eq_iff_iff, Bool.or_eq_true, decide_eq_true_eq, decide_eq_true_eq, decide_eq_true_eq]
    omega
theorem has_range {lo hi : Nat} (h1 : lo ≤ hi) (h2 : hi < 256) : WOk (withF zero4 lo hi) ∧ ∀ c, hasB (withF zero4 lo hi) c = decide (lo ≤ c ∧ c ≤ hi) := by
  obtain ⟨q1, q2⟩ := withN_ok zero4_ok (lo := lo) (hi + 1 - lo) (by omega)
  have e : withF zero4 lo hi = withN zero4 lo (hi + 1 - lo) := by
    unfold withF
    congr 1; omega
  rw [e]
  refine ⟨q1, fun c => ?_⟩
  rw [hasB_tb q1, q2, zero4_tb, Bool.false_or, Bool.eq_iff_iff, decide_eq_true_eq, decide_eq_true_eq]
  omega
theorem flip_ok {n : Nat} (h : n < 18446744073709551616) : flip64 n = ((18446744073709551615 ^^^ n : Nat) : Int) := by
  unfold flip64
  have e : (if IntKind.u64.signed = true then (-1 : Int) else IntKind.u64.max) = ((18446744073709551615 : Nat) : Int) := by decide
  rw [e, bits_xor_u64_nat _ _ (by omega) h]
theorem has_opp {ws : List Int} (h : WOk ws) {c : Nat} (hc : c < 256) : hasB (oppN ws 4) c = !hasB ws c := by
  obtain ⟨a, b, d, e, rfl⟩ := four h.len
  have ra := h.rng 0
  have rb := h.rng 1
  have rd := h.rng 2
  have re := h.rng 3
  simp only [List.getD_cons_zero, List.getD_cons_succ] at ra rb rd re
  obtain ⟨a, rfl⟩ : ∃ n : Nat, a = n := ⟨a.toNat, by omega⟩
  obtain ⟨b, rfl⟩ : ∃ n : Nat, b = n := ⟨b.toNat, by omega⟩
  obtain ⟨d, rfl⟩ : ∃ n : Nat, d = n := ⟨d.toNat, by omega⟩
  obtain ⟨e, rfl⟩ : ∃ n : Nat, e = n := ⟨e.toNat, by omega⟩
  have e1 : oppN [(a : Int), (b : Int), (d : Int), (e : Int)] 4 = [flip64 a, flip64 b, flip64 d, flip64 e] := rfl
  rw [e1, flip_ok (by omega), flip_ok (by omega), flip_ok (by omega), flip_ok (by omega)]
  have xl : ∀ n : Nat, n < 18446744073709551616 → 18446744073709551615 ^^^ n < 18446744073709551616 := fun n hn => by
    have := Nat.xor_lt_two_pow (n := 64) (x := 18446744073709551615) (y := n) (by omega) (by omega)
    omega
  have la := xl a (by omega)
  have lb := xl b (by omega)
  have ld := xl d (by omega)
  have le := xl e (by omega)
  have h2 : WOk [((18446744073709551615 ^^^ a : Nat) : Int), ((18446744073709551615 ^^^ b : Nat) : Int), ((18446744073709551615 ^^^ d : Nat) : Int), ((18446744073709551615 ^^^ e : Nat) : Int)] := ⟨rfl, fun k => by
    match k with
    | 0 => simp only [List.getD_cons_zero]; omega
    | 1 => simp only [List.getD_cons_succ, List.getD_cons_zero]; omega
    | 2 => simp only [List.getD_cons_succ, List.getD_cons_zero]; omega
    | 3 => simp only [List.getD_cons_succ, List.getD_cons_zero]; omega
    | k + 4 => simp⟩
  rw [hasB_tb h, hasB_tb h2]
  unfold tb
  have key : ∀ n : Nat, (18446744073709551615 ^^^ n).testBit (c % 64) = !n.testBit (c % 64) := fun n => by
    have hm : (18446744073709551615 : Nat).testBit (c % 64) = true := by
      have := Nat.testBit_two_pow_sub_one 64 (c % 64)
      rw [show (2 : Nat) ^ 64 - 1 = 18446744073709551615 from rfl] at this
      rw [this]; simp; omega
    rw [Nat.testBit_xor, hm]; simp
  have hq : c / 64 < 4 := by omega
  match hcc : c / 64, hq with
  | 0, _ => simp only [List.getD_cons_zero, Int.toNat_natCast]; exact key a
  | 1, _ => simp only [List.getD_cons_succ, List.getD_cons_zero, Int.toNat_natCast]; exact key b
  | 2, _ => simp only [List.getD_cons_succ, List.getD_cons_zero, Int.toNat_natCast]; exact key d
  | 3, _ => simp only [List.getD_cons_succ, List.getD_cons_zero, Int.toNat_natCast]; exact key e
end Go.Proofs.Ytdbdkdekeicmhaa
namespace Go.Proofs.Ytdbdkdekeicmhaa
open Go.RowKit
set_option linter.unusedVariables false
set_option linter.unusedSimpArgs false

/-- an atom of one byte, alone in its brackets -/
theorem atom_pat {b : ByteArray} {ws : List Int} (h : rSet (specX b) 4 = (ws, (4 + b.size : Int), true)) (h40 : atB (specX b) 4 ≠ 40) : IsPat b (Lang.byte fun c => hasB ws c = true) := by
  have hc := specX_close b
  have ag : lAtom (lgK (specX b) 5) (specX b) 4 = ⟨4 + b.size, true, Lang.byte fun c => hasB ws c = true⟩ := by
    unfold lAtom
    rw [if_neg h40, h]
    rfl
  have pg : lPiece (lAtom (lgK (specX b) 5) (specX b)) (specX b) 4 = ⟨4 + b.size, true, Lang.byte fun c => hasB ws c = true⟩ := by
    rw [piece_plain (by rw [ag]) (by rw [ag]; dsimp only; rw [hc]; decide), ag]
  have bb : lBranch (lPiece (lAtom (lgK (specX b) 5) (specX b)) (specX b)) (specX b) 4 = ⟨4 + b.size, true, Lang.byte fun c => hasB ws c = true⟩ := by
    rw [branch_one (by rw [pg]; dsimp only; rw [hc]; decide), pg]
  have cc : lchK (specX b) 5 4 = ⟨4 + b.size, true, Lang.byte fun c => hasB ws c = true⟩ := by
    unfold lchK
    rw [choice_one (by rw [bb]; dsimp only; rw [hc]; decide), bb]
  exact ⟨by rw [cc], by rw [cc], by rw [cc]⟩
def fS : List Int := [83, 0, 0, 0, 0, 0, 0, 0]
/-- with a pattern the specification is right -/
theorem specX_right {b : ByteArray} {L : Lang} (h : IsPat b L) (hb : b.size ≤ 791) : checkF (specX b) = (0, 0) := by
  have hsz := specX_size b
  have hnl := specX_nl b
  have p2 : atB (specX b) (6 + b.size) = 83 := by
    have := specX_post b (j := 2) (by omega)
    rw [show (4 : Int) + b.size + 2 = 6 + b.size by omega] at this
    rw [this]; decide
  have p3 : atB (specX b) (7 + b.size) = 58 := by
    have := specX_post b (j := 3) (by omega)
    rw [show (4 : Int) + b.size + 3 = 7 + b.size by omega] at this
    rw [this]; decide
  have p4 : atB (specX b) (8 + b.size) = 10 := by
    have := specX_post b (j := 4) (by omega)
    rw [show (4 : Int) + b.size + 4 = 8 + b.size by omega] at this
    rw [this]; decide
  have a0 : atB (specX b) 0 = 97 := (specX_pre b (j := 0) (by omega)).trans (by decide)
  have a1 : atB (specX b) 1 = 61 := (specX_pre b (j := 1) (by omega)).trans (by decide)
  have hw := specX_whole h
  have hk := lk_chK (specX b) 6 2 []
  have hok : (rRead (specX b) 2).ok = true := hk.ok.trans (by rw [hw])
  have hnx : (rRead (specX b) 2).next = 5 + b.size := hk.next.trans (by rw [hw])
  have hm := match_lang hok ⟨0, fA⟩ false ByteArray.empty
  rw [hw] at hm
  generalize specX b = s at *
  have hL : rLine s 0 = ((⟨⟨0, fA⟩, false, (rRead s 2).ns, (rRead s 2).st, (rRead s 2).en, []⟩ : Ln), (6 + b.size : Int), true) := by
    unfold rLine
    rw [rWord_a a0 a1]
    dsimp only
    rw [if_neg (by decide), if_neg (by decide)]
    unfold rRule
    have e2 : (1 : Int) + 1 = 2 := rfl
    rw [a1, if_neg (by decide), e2, hok, hnx, if_neg (by simp), if_neg (by rw [hnl]; simp)]
    rw [show (5 : Int) + b.size + 1 = 6 + b.size by omega]
    rfl
  have hW : rWord s (6 + b.size) = ((⟨6 + b.size, fS⟩ : Wd), (7 + b.size : Int), true) := by
    have e : rWordL s (6 + b.size) 9 1 (zero8.set 0 83) = (fS, (7 + b.size : Int)) := by
      unfold rWordL
      rw [if_pos (by decide), show (6 : Int) + b.size + ((1 : Nat) : Int) = 7 + b.size by omega, p3, if_neg (by decide)]
      rfl
    unfold rWord
    rw [p2, if_neg (by decide), e]
  have hP : rLine s (6 + b.size) = ((⟨⟨6 + b.size, fS⟩, false, [], 0, 0, []⟩ : Ln), (9 + b.size : Int), true) := by
    unfold rLine
    rw [hW]
    dsimp only
    rw [if_neg (by decide), if_pos (show headB ⟨6 + b.size, fS⟩ = true from rfl)]
    unfold rProd
    rw [p3, if_neg (by decide), show (7 : Int) + b.size + 1 = 8 + b.size by omega]
    show rProdL s _ (s.size + 4 + 1) _ _ = _
    unfold rProdL
    rw [p4, if_neg (by decide), if_neg (by decide), show (8 : Int) + b.size + 1 = 9 + b.size by omega]
  generalize hx0 : (⟨⟨0, fA⟩, false, (rRead s 2).ns, (rRead s 2).st, (rRead s 2).en, []⟩ : Ln) = x0 at *
  have hR : rLines s = ([x0, (⟨⟨6 + b.size, fS⟩, false, [], 0, 0, []⟩ : Ln)], (9 + b.size : Int), true) := by
    unfold rLines
    show rLinesL s (s.size + 2 + 1 + 1 + 1) 0 [] = _
    unfold rLinesL
    rw [if_pos (by omega), hL]
    dsimp only
    rw [if_neg (by simp)]
    unfold rLinesL
    rw [if_pos (by omega), hP]
    dsimp only
    rw [if_neg (by simp)]
    unfold rLinesL
    rw [if_neg (by omega)]
    rfl
  have hfr : x0.front = ⟨0, fA⟩ := by rw [← hx0]
  have hsy : x0.syms = [] := by rw [← hx0]
  have hno : emptyB x0 = false := by
    unfold emptyB
    cases e : (longF x0.ns x0.st x0.en ByteArray.empty 0 == 0)
    · simp
    · exfalso
      have : ruleMatch x0 ByteArray.empty = true := e
      have := hm.1 this
      obtain ⟨u, v, h1, ⟨c, _, h3⟩, _⟩ := this
      have hz : bytesOf ByteArray.empty = [] := rfl
      rw [hz, h3] at h1
      cases h1
  obtain ⟨fr, sk, ns, st, en, sy⟩ := x0
  dsimp only at hfr hsy
  subst hfr hsy
  unfold checkF
  rw [hR]
  dsimp only
  rw [if_neg (by omega), if_neg (by simp)]
  have t1 : tooMany [⟨⟨0, fA⟩, sk, ns, st, en, []⟩, ⟨⟨6 + b.size, fS⟩, false, [], 0, 0, []⟩] = -1 := rfl
  have t2 : wrongName [⟨⟨0, fA⟩, sk, ns, st, en, []⟩, ⟨⟨6 + b.size, fS⟩, false, [], 0, 0, []⟩] = -1 := rfl
  have t3 : emptyF [⟨⟨0, fA⟩, sk, ns, st, en, []⟩, ⟨⟨6 + b.size, fS⟩, false, [], 0, 0, []⟩] = -1 := by
    have e1 : emptyF [⟨⟨0, fA⟩, sk, ns, st, en, []⟩, ⟨⟨6 + b.size, fS⟩, false, [], 0, 0, []⟩] = if emptyB ⟨⟨0, fA⟩, sk, ns, st, en, []⟩ then 0 else emptyL [⟨⟨0, fA⟩, sk, ns, st, en, []⟩, ⟨⟨6 + b.size, fS⟩, false, [], 0, 0, []⟩] 2 1 := rfl
    rw [e1, hno]
    rfl
  rw [t1, t2, t3, if_neg (by simp), if_neg (by simp), if_neg (by simp), if_neg (by rw [show hasProd [⟨⟨0, fA⟩, sk, ns, st, en, []⟩, ⟨⟨6 + b.size, fS⟩, false, [], 0, 0, []⟩] = true from rfl]; simp)]
end Go.Proofs.Ytdbdkdekeicmhaa
namespace Go.Proofs.Ytdbdkdekeicmhaa
open Go.RowKit
set_option linter.unusedVariables false
set_option linter.unusedSimpArgs false

/-- where a text lies in another -/
def Lies (s : ByteArray) (i : Int) (p : ByteArray) : Prop := ∀ j : Int, 0 ≤ j → j < p.size → atB s (i + j) = atB p j
/-- a pattern of one byte c, as letter writes it -/
structure LetP (p : ByteArray) (c : Nat) : Prop where
  sz : 1 ≤ p.size ∧ p.size ≤ 2
  cb : 9 ≤ c ∧ c ≤ 126
  fst : atB p 0 ≠ 94 ∧ atB p 0 ≠ 40
  rd : ∀ (s : ByteArray) (i : Int), 0 ≤ i → Lies s i p → rEnd s i = ((c : Int), (i + p.size : Int), true) ∧ rSet s i = (withF zero4 c c, (i + p.size : Int), true)
theorem letP_plain {x : UInt8} (h : (97 ≤ x.toNat ∧ x.toNat ≤ 122) ∨ (65 ≤ x.toNat ∧ x.toNat ≤ 90) ∨ (48 ≤ x.toNat ∧ x.toNat ≤ 57)) : LetP ⟨#[x]⟩ x.toNat := by
  have hs : (⟨#[x]⟩ : ByteArray).size = 1 := rfl
  have h0 : atB ⟨#[x]⟩ 0 = x.toNat := rfl
  refine ⟨by rw [hs]; omega, by omega, by rw [h0]; omega, fun s i hi hl => ?_⟩
  have e : atB s i = x.toNat := by
    have := hl 0 (by omega) (by rw [hs]; omega)
    rw [show i + 0 = i by omega, h0] at this; exact this
  have hpr : isPrB (x.toNat : Int) = true := by unfold isPrB; simp; omega
  have hpl : isPlainB (x.toNat : Int) = true := by
    unfold isPlainB
    rw [hpr]
    simp
    omega
  rw [hs]
  constructor
  · unfold rEnd
    rw [e, if_neg (by omega), if_neg (by omega), if_neg (by rw [hpr]; simp)]
    rfl
  · unfold rSet
    rw [e, if_neg (by omega), if_neg (by omega), if_neg (by omega), if_neg (by rw [hpl]; simp)]
    rfl
theorem letP_mark {x : UInt8} {c : Nat} (hc : 9 ≤ c ∧ c ≤ 126) (h : (x.toNat = 110 ∧ c = 10) ∨ (x.toNat = 116 ∧ c = 9) ∨ (c = x.toNat ∧ 32 ≤ x.toNat ∧ x.toNat ≤ 126 ∧ ¬ ((97 ≤ x.toNat ∧ x.toNat ≤ 122) ∨ (65 ≤ x.toNat ∧ x.toNat ≤ 90) ∨ (48 ≤ x.toNat ∧ x.toNat ≤ 57)))) : LetP ⟨#[92, x]⟩ c := by
  have hs : (⟨#[92, x]⟩ : ByteArray).size = 2 := rfl
  have h0 : atB ⟨#[92, x]⟩ 0 = 92 := rfl
  have h1 : atB ⟨#[92, x]⟩ 1 = x.toNat := rfl
  refine ⟨by rw [hs]; omega, hc, by rw [h0]; omega, fun s i hi hl => ?_⟩
  have e : atB s i = 92 := by
    have := hl 0 (by omega) (by rw [hs]; omega)
    rw [show i + 0 = i by omega, h0] at this; exact this
  have e1 : atB s (i + 1) = x.toNat := by
    have := hl 1 (by omega) (by rw [hs]; omega)
    rw [h1] at this; exact this
  have hm : rMark s (i + 1) = ((c : Int), i + 2, true) := by
    unfold rMark
    rw [e1]
    rcases h with ⟨h1, h2⟩ | ⟨h1, h2⟩ | ⟨h1, h2, h3, h4⟩
    · rw [if_pos (by omega), h2, show i + 1 + 1 = i + 2 by omega]; rfl
    · rw [if_neg (by omega), if_pos (by omega), h2, show i + 1 + 1 = i + 2 by omega]; rfl
    · rw [if_neg (by omega), if_neg (by omega)]
      have hpr : isPrB (x.toNat : Int) = true := by unfold isPrB; simp; omega
      have q1 : isSmallB (x.toNat : Int) = false := by unfold isSmallB; rw [Bool.and_eq_false_iff, decide_eq_false_iff_not, decide_eq_false_iff_not]; omega
      have q2 : isCapB (x.toNat : Int) = false := by unfold isCapB; rw [Bool.and_eq_false_iff, decide_eq_false_iff_not, decide_eq_false_iff_not]; omega
      have q3 : isDigB (x.toNat : Int) = false := by unfold isDigB; rw [Bool.and_eq_false_iff, decide_eq_false_iff_not, decide_eq_false_iff_not]; omega
      rw [hpr, q1, q2, q3, if_neg (by simp), h1, show i + 1 + 1 = i + 2 by omega]
  rw [hs]
  constructor
  · unfold rEnd
    rw [e, if_pos rfl, hm]
    rfl
  · unfold rSet
    rw [e, if_neg (by decide), if_neg (by decide), if_pos rfl, hm]
    rfl
theorem rEnds_one {p : ByteArray} {c : Nat} (h : LetP p c) {s : ByteArray} {i : Int} (hi : 0 ≤ i) (hl : Lies s i p) (he : atB s (i + p.size) = 93) : rEnds s i = (withF zero4 c c, (i + p.size + 1 : Int), true) := by
  have hsz := h.sz
  have r1 := (h.rd s i hi hl).1
  have r2 : rRange s i = ((c : Int), (c : Int), (i + p.size : Int), true) := by
    unfold rRange
    rw [r1]
    dsimp only
    rw [if_neg (by simp), if_pos (by rw [he]; decide)]
  unfold rEnds
  show rEndsL s i (s.size + 3 + 1 + 1) i zero4 = _
  rw [rEndsL_s, if_pos (.inl rfl), r2]
  dsimp only
  rw [if_neg (by simp), rEndsL_s, if_neg (by rw [he]; intro q; rcases q with q | q; omega; exact q rfl)]
theorem rEnds_range {p : ByteArray} {c : Nat} (h : LetP p c) {s : ByteArray} {i : Int} (hi : 0 ≤ i) (h0 : atB s i = 92) (h1 : atB s (i + 1) = 116) (h2 : atB s (i + 2) = 45) (hl : Lies s (i + 3) p) (he : atB s (i + 3 + p.size) = 93) : rEnds s i = (withF zero4 ((9 : Nat) : Int) c, (i + 3 + p.size + 1 : Int), true) := by
  have hsz := h.sz
  have hcb := h.cb
  have r1 := (h.rd s (i + 3) (by omega) hl).1
  have r0 : rEnd s i = (9, i + 2, true) := by
    unfold rEnd
    rw [h0, if_pos rfl]
    unfold rMark
    rw [h1, if_neg (by decide), if_pos rfl, show i + 1 + 1 = i + 2 by omega]
  have r2 : rRange s i = (9, (c : Int), (i + 3 + p.size : Int), true) := by
    unfold rRange
    rw [r0]
    dsimp only
    rw [if_neg (by simp), h2, if_neg (by simp), show i + 2 + 1 = i + 3 by omega, r1]
    dsimp only
    rw [if_neg (by simp), if_neg (by omega)]
  unfold rEnds
  show rEndsL s i (s.size + 3 + 1 + 1) i zero4 = _
  rw [rEndsL_s, if_pos (.inl rfl), r2]
  dsimp only
  rw [if_neg (by simp), rEndsL_s, if_neg (by rw [he]; intro q; rcases q with q | q; omega; exact q rfl)]
  rfl
theorem three_at (a q c : ByteArray) : (a ++ q ++ c).size = a.size + q.size + c.size ∧ (∀ j : Int, j < a.size → atB (a ++ q ++ c) j = atB a j) ∧ Lies (a ++ q ++ c) a.size q ∧ (∀ j : Int, 0 ≤ j → atB (a ++ q ++ c) (a.size + q.size + j) = atB c j) := by
  refine ⟨by rw [ByteArray.size_append, ByteArray.size_append], fun j h => ?_, fun j h0 h => ?_, fun j h0 => ?_⟩
  · rw [atB_app, if_pos (by rw [ByteArray.size_append]; omega), atB_app, if_pos h]
  · rw [atB_app, if_pos (by rw [ByteArray.size_append]; omega), atB_app, if_neg (by omega)]
    rw [show (a.size : Int) + j - a.size = j by omega]
  · rw [atB_app, if_neg (by rw [ByteArray.size_append]; omega), ByteArray.size_append]
    rw [show ((a.size : Int) + q.size + j - ((a.size + q.size : Nat) : Int)) = j by omega]
def inT (p : ByteArray) : ByteArray := ⟨#[91]⟩ ++ p ++ ⟨#[93]⟩
def notT (p : ByteArray) : ByteArray := ⟨#[91, 94]⟩ ++ p ++ ⟨#[93]⟩
def upT (p : ByteArray) : ByteArray := ⟨#[91, 92, 116, 45]⟩ ++ p ++ ⟨#[93]⟩
def dotT : ByteArray := ⟨#[46]⟩
section
variable {p : ByteArray} {c : Nat}
/-- where it lies in the specification -/
theorem lies_in {b : ByteArray} {k : Nat} (h : Lies b k p) (hk : k + p.size ≤ b.size) : Lies (specX b) (4 + k) p := fun j h0 h1 => by
  rw [show (4 : Int) + k + j = 4 + (k + j) by omega, specX_mid b (by omega) (by omega)]; exact h j h0 h1
theorem pat_one (h : LetP p c) : IsPat p (Lang.byte fun b => hasB (withF zero4 c c) b = true) := by
  have hsz := h.sz
  have hl : Lies (specX p) 4 p := fun j h0 h1 => specX_mid p h0 h1
  have h40 : atB (specX p) 4 ≠ 40 := by
    have := hl 0 (by omega) (by omega)
    rw [show (4 : Int) + 0 = 4 from rfl] at this
    rw [this]; exact h.fst.2
  exact atom_pat ((h.rd (specX p) 4 (by omega) hl).2) h40
theorem pat_in (h : LetP p c) : IsPat (inT p) (Lang.byte fun b => hasB (withF zero4 c c) b = true) := by
  have hsz := h.sz
  obtain ⟨z, ha, hp, hc⟩ := three_at ⟨#[91]⟩ p ⟨#[93]⟩
  unfold inT
  have s1 : (⟨#[91]⟩ : ByteArray).size = 1 := rfl
  have s2 : (⟨#[93]⟩ : ByteArray).size = 1 := rfl
  rw [s1] at ha hp hc
  rw [s1, s2] at z
  have a0 := ha 0 (by omega)
  have c0 := hc 0 (by omega)
  generalize (⟨#[91]⟩ ++ p ++ ⟨#[93]⟩ : ByteArray) = b at *
  have f4 : atB (specX b) 4 = 91 := by
    have := specX_mid b (j := 0) (by omega) (by omega)
    rw [show (4 : Int) + 0 = 4 from rfl, a0] at this; exact this
  have hl : Lies (specX b) 5 p := lies_in (k := 1) hp (by omega)
  have fe : atB (specX b) (5 + p.size) = 93 := by
    rw [show (5 : Int) + p.size = 4 + (((1 : Nat) : Int) + p.size + 0) by omega, specX_mid b (by omega) (by omega), c0]; rfl
  have f5 : atB (specX b) 5 ≠ 94 := by
    have := hl 0 (by omega) (by omega)
    rw [show (5 : Int) + 0 = 5 from rfl] at this
    rw [this]; exact h.fst.1
  refine atom_pat ?_ (by rw [f4]; decide)
  unfold rSet
  rw [f4, if_neg (by decide), if_pos rfl]
  unfold rBr
  rw [show (4 : Int) + 1 = 5 from rfl, if_neg f5, rEnds_one h (by omega) hl fe, show (5 : Int) + p.size + 1 = 4 + b.size by omega]
theorem pat_not (h : LetP p c) : IsPat (notT p) (Lang.byte fun b => hasB (oppN (withF zero4 c c) 4) b = true) := by
  have hsz := h.sz
  obtain ⟨z, ha, hp, hc⟩ := three_at ⟨#[91, 94]⟩ p ⟨#[93]⟩
  unfold notT
  have s1 : (⟨#[91, 94]⟩ : ByteArray).size = 2 := rfl
  have s2 : (⟨#[93]⟩ : ByteArray).size = 1 := rfl
  rw [s1] at ha hp hc
  rw [s1, s2] at z
  have a0 := ha 0 (by omega)
  have a1 := ha 1 (by omega)
  have c0 := hc 0 (by omega)
  generalize (⟨#[91, 94]⟩ ++ p ++ ⟨#[93]⟩ : ByteArray) = b at *
  have f4 : atB (specX b) 4 = 91 := by
    have := specX_mid b (j := 0) (by omega) (by omega)
    rw [show (4 : Int) + 0 = 4 from rfl, a0] at this; exact this
  have f5 : atB (specX b) 5 = 94 := by
    have := specX_mid b (j := 1) (by omega) (by omega)
    rw [show (4 : Int) + 1 = 5 from rfl, a1] at this; exact this
  have hl : Lies (specX b) 6 p := lies_in (k := 2) hp (by omega)
  have fe : atB (specX b) (6 + p.size) = 93 := by
    rw [show (6 : Int) + p.size = 4 + (((2 : Nat) : Int) + p.size + 0) by omega, specX_mid b (by omega) (by omega), c0]; rfl
  refine atom_pat ?_ (by rw [f4]; decide)
  unfold rSet
  rw [f4, if_neg (by decide), if_pos rfl]
  unfold rBr
  rw [show (4 : Int) + 1 = 5 from rfl, if_pos f5, show (5 : Int) + 1 = 6 from rfl, rEnds_one h (by omega) hl fe, show (6 : Int) + p.size + 1 = 4 + b.size by omega]
theorem pat_up (h : LetP p c) : IsPat (upT p) (Lang.byte fun b => hasB (withF zero4 ((9 : Nat) : Int) c) b = true) := by
  have hsz := h.sz
  obtain ⟨z, ha, hp, hc⟩ := three_at ⟨#[91, 92, 116, 45]⟩ p ⟨#[93]⟩
  unfold upT
  have s1 : (⟨#[91, 92, 116, 45]⟩ : ByteArray).size = 4 := rfl
  have s2 : (⟨#[93]⟩ : ByteArray).size = 1 := rfl
  rw [s1] at ha hp hc
  rw [s1, s2] at z
  have a0 := ha 0 (by omega)
  have a1 := ha 1 (by omega)
  have a2 := ha 2 (by omega)
  have a3 := ha 3 (by omega)
  have c0 := hc 0 (by omega)
  generalize (⟨#[91, 92, 116, 45]⟩ ++ p ++ ⟨#[93]⟩ : ByteArray) = b at *
  have f4 : atB (specX b) 4 = 91 := by
    have := specX_mid b (j := 0) (by omega) (by omega)
    rw [show (4 : Int) + 0 = 4 from rfl, a0] at this; exact this
  have f5 : atB (specX b) 5 = 92 := by
    have := specX_mid b (j := 1) (by omega) (by omega)
    rw [show (4 : Int) + 1 = 5 from rfl, a1] at this; exact this
  have f6 : atB (specX b) (5 + 1) = 116 := by
    have := specX_mid b (j := 2) (by omega) (by omega)
    rw [show (4 : Int) + 2 = 5 + 1 from rfl, a2] at this; exact this
  have f7 : atB (specX b) (5 + 2) = 45 := by
    have := specX_mid b (j := 3) (by omega) (by omega)
    rw [show (4 : Int) + 3 = 5 + 2 from rfl, a3] at this; exact this
  have hl : Lies (specX b) (5 + 3) p := lies_in (k := 4) hp (by omega)
  have fe : atB (specX b) (5 + 3 + p.size) = 93 := by
    rw [show (5 : Int) + 3 + p.size = 4 + (((4 : Nat) : Int) + p.size + 0) by omega, specX_mid b (by omega) (by omega), c0]; rfl
  refine atom_pat ?_ (by rw [f4]; decide)
  unfold rSet
  rw [f4, if_neg (by decide), if_pos rfl]
  unfold rBr
  rw [show (4 : Int) + 1 = 5 from rfl, if_neg (by rw [f5]; decide), rEnds_range h (by omega) f5 f6 f7 hl fe, show (5 : Int) + 3 + p.size + 1 = 4 + b.size by omega]
theorem pat_dot : IsPat dotT (Lang.byte fun b => hasB (oppN (withF zero4 ((10 : Nat) : Int) ((10 : Nat) : Int)) 4) b = true) := by
  have f4 : atB (specX dotT) 4 = 46 := by
    have := specX_mid dotT (j := 0) (by omega) (by decide)
    rw [show (4 : Int) + 0 = 4 from rfl] at this
    rw [this]; decide
  refine atom_pat ?_ (by rw [f4]; decide)
  unfold rSet
  rw [f4, if_pos rfl]
  rfl
end
/-- a language of one byte, of a text -/
theorem byte_is (P : Nat → Prop) (t : ByteArray) : Lang.byte P (bytesOf t) ↔ t.size = 1 ∧ P (atB t 0).toNat := by
  constructor
  · rintro ⟨c, h1, h2⟩
    have hl := congrArg List.length h2
    rw [bytesOf_len] at hl
    have hs : t.size = 1 := by simpa using hl
    rw [bytesOf_eq, hs] at h2
    have : (atB t 0).toNat = c := by simpa using h2
    exact ⟨hs, by rw [this]; exact h1⟩
  · rintro ⟨h1, h2⟩
    refine ⟨(atB t 0).toNat, h2, ?_⟩
    rw [bytesOf_eq, h1]; rfl
/-- what single asks -/
structure Sing (p : ByteArray) (c : Nat) (t : ByteArray) : Prop where
  e1 : eF p t = 0
  e2 : eF (inT p) t = 0
  e3 : eF (notT p) t = 0
  e4 : eF (upT p) t = 0
  e5 : eF dotT t = 0
  m1 : mF p t = decide (t.size = 1 ∧ atB t 0 = c)
  m2 : mF (inT p) t = decide (t.size = 1 ∧ atB t 0 = c)
  m3 : mF (notT p) t = decide (t.size = 1 ∧ atB t 0 ≠ c)
  m4 : mF (upT p) t = decide (t.size = 1 ∧ 9 ≤ atB t 0 ∧ atB t 0 ≤ c)
  m5 : mF dotT t = decide (t.size = 1 ∧ atB t 0 ≠ 10)
theorem sing_of {p : ByteArray} {c : Nat} (h : LetP p c) {t : ByteArray} (ht : t.size < 200) : Sing p c t := by
  have hsz := h.sz
  have hcb := h.cb
  have z2 : (inT p).size = p.size + 2 := by obtain ⟨z, _⟩ := three_at ⟨#[91]⟩ p ⟨#[93]⟩; unfold inT; rw [z]; show 1 + p.size + 1 = _; omega
  have z3 : (notT p).size = p.size + 3 := by obtain ⟨z, _⟩ := three_at ⟨#[91, 94]⟩ p ⟨#[93]⟩; unfold notT; rw [z]; show 2 + p.size + 1 = _; omega
  have z4 : (upT p).size = p.size + 5 := by obtain ⟨z, _⟩ := three_at ⟨#[91, 92, 116, 45]⟩ p ⟨#[93]⟩; unfold upT; rw [z]; show 4 + p.size + 1 = _; omega
  have c1 : (checkF (specX p)).1 = 0 := by rw [specX_right (pat_one h) (by omega)]
  have c2 : (checkF (specX (inT p))).1 = 0 := by rw [specX_right (pat_in h) (by omega)]
  have c3 : (checkF (specX (notT p))).1 = 0 := by rw [specX_right (pat_not h) (by omega)]
  have c4 : (checkF (specX (upT p))).1 = 0 := by rw [specX_right (pat_up h) (by omega)]
  have c5 : (checkF (specX dotT)).1 = 0 := by rw [specX_right pat_dot (by decide)]
  obtain ⟨w1, r1⟩ := has_range (lo := c) (hi := c) (by omega) (by omega)
  obtain ⟨w2, r2⟩ := has_range (lo := 9) (hi := c) (by omega) (by omega)
  obtain ⟨w3, r3⟩ := has_range (lo := 10) (hi := 10) (by omega) (by omega)
  have hb := atB_bd t 0
  have hin : t.size = 1 → 0 ≤ atB t 0 := fun e => by
    have := atB_nat (s := t) (n := 0) (by omega)
    rw [show ((0 : Nat) : Int) = 0 from rfl] at this
    omega
  refine ⟨eF_ok c1 ht, eF_ok c2 ht, eF_ok c3 ht, eF_ok c4 ht, eF_ok c5 ht, ?_, ?_, ?_, ?_, ?_⟩
  · rw [Bool.eq_iff_iff, mF_is (pat_one h) c1 ht, byte_is, decide_eq_true_eq]
    exact and_congr_right fun e => by have := hin e; rw [r1, decide_eq_true_eq]; omega
  · rw [Bool.eq_iff_iff, mF_is (pat_in h) c2 ht, byte_is, decide_eq_true_eq]
    exact and_congr_right fun e => by have := hin e; rw [r1, decide_eq_true_eq]; omega
  · rw [Bool.eq_iff_iff, mF_is (pat_not h) c3 ht, byte_is, decide_eq_true_eq]
    exact and_congr_right fun e => by have := hin e; rw [has_opp w1 (by omega), r1, Bool.not_eq_true', decide_eq_false_iff_not]; omega
  · rw [Bool.eq_iff_iff, mF_is (pat_up h) c4 ht, byte_is, decide_eq_true_eq]
    exact and_congr_right fun e => by have := hin e; rw [r2, decide_eq_true_eq]; omega
  · rw [Bool.eq_iff_iff, mF_is pat_dot c5 ht, byte_is, decide_eq_true_eq]
    exact and_congr_right fun e => by have := hin e; rw [has_opp w3 (by omega), r3, Bool.not_eq_true', decide_eq_false_iff_not]; omega
end Go.Proofs.Ytdbdkdekeicmhaa
