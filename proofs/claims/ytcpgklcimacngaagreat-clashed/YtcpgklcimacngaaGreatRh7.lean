import Derived.Test.YtcpgklcimacngaaGreatRh5
import Derived.Test.YtcpgklcimacngaaGreatRm6
namespace Go.Proofs.YtcpgklcimacngaaGreat
open Go.RowKit
set_option linter.unusedVariables false
set_option linter.unusedSimpArgs false

structure YOk (em : ByteArray → Bool) (y : ZLn × Int) : Prop where
  ne : ∀ n ∈ y.1.syms, 0 < n.size
  len : y.1.places.length = y.1.syms.length
  small : y.1.syms.length ≤ 1000
  pl : 0 ≤ y.2 ∧ y.2 ≤ 1000
  pls : ∀ p ∈ y.1.places, 0 ≤ p ∧ p ≤ 1000
  pat : y.1.rule = true → ∃ L, PatIs y.1.pat L ∧ y.1.pat.size ≤ 1000 ∧ (em y.1.pat = true ↔ L [])
theorem YOk.zok {em : ByteArray → Bool} {x : ZLV} (h : YOk em x.both) : ZOk x := ⟨h.ne, h.len, h.small, h.pl, h.pls⟩
def emptyZ (em : ByteArray → Bool) : List ZLV → Option Int
  | [] => none
  | x :: l => if em x.ln.pat = true then some x.pl else emptyZ em l
theorem sort_mem : ∀ (xs : List ZLV) (X : SP) (P : ZLV → Prop), (∀ x ∈ X.rules, P x ∧ x.ln.rule = true) → (∀ x ∈ X.prods, P x) → (∀ x ∈ xs, P x) → (∀ x ∈ (sortL X xs).1.rules, P x ∧ x.ln.rule = true) ∧ (∀ x ∈ (sortL X xs).1.prods, P x)
  | [], X, P, h1, h2, _ => ⟨h1, h2⟩
  | x :: xs, X, P, h1, h2, h3 => by
    have s1 : (∀ y ∈ (sortStep X x).rules, P y ∧ y.ln.rule = true) ∧ (∀ y ∈ (sortStep X x).prods, P y) := by
      unfold sortStep
      split
      · rename_i c
        refine ⟨fun y hy => ?_, h2⟩
        rcases List.mem_append.1 hy with hy | hy
        · exact h1 y hy
        · simp at hy; subst hy; exact ⟨h3 _ (by simp), c⟩
      · refine ⟨h1, fun y hy => ?_⟩
        rcases List.mem_append.1 hy with hy | hy
        · exact h2 y hy
        · simp at hy; subst hy; exact h3 _ (by simp)
    unfold sortL
    split
    · exact s1
    · exact sort_mem xs _ P s1.1 s1.2 (fun y hy => h3 y (by simp [hy]))
theorem sortL_bd : ∀ (xs : List ZLV) (X : SP), SPbd X → (sortL X xs).2 < 0 → (∀ x ∈ xs, 0 ≤ x.pl) → SPbd (sortL X xs).1
  | [], X, h, _, _ => h
  | x :: xs, X, h, hp, hx => by
    unfold sortL at hp ⊢
    cases ho : overZ (sortStep X x) x
    · rw [ho] at hp
      rw [if_neg (by simp)] at hp ⊢
      exact sortL_bd xs _ (sort_bd h ho) hp (fun y hy => hx y (by simp [hy]))
    · rw [ho, if_pos rfl] at hp
      have := hx x (by simp)
      dsimp only at hp
      omega
theorem noSP_bd : SPbd noSP := ⟨by simp [noSP], by simp [noSP], by simp [noSP], by simp [noSP]⟩
def symsOf (X : SP) (x : ZLV) : List Int := x.ln.syms.map (numF X)
/-- the reference's specification, whole -/
structure SpecOk (w : World) (b : Nat) (X : SP) (v0 v1 v2 v3 v4 : Value) (sv : List Value) : Prop where
  sp : SPAt w b X v0 v1 v2 v3 v4 sv
  len : sv.length ≤ X.prods.length
  syms : ∀ (i : Nat) (v : Value) (x : ZLV), sv[i]? = some v → X.prods[i]? = some x → w.ownsRow (b + 1) 3 1 v x.ln.syms.length (ints (symsOf X x)) ∧ ∀ k, v.ownBlock = some k → v4.ownBlock ≠ some k
theorem SpecOk.fresh {w w' : World} {b : Nat} {X : SP} {v0 v1 v2 v3 v4 : Value} {sv : List Value} (h : SpecOk w b X v0 v1 v2 v3 v4 sv) (m : Fresh w w') : SpecOk w' b X v0 v1 v2 v3 v4 sv :=
  ⟨h.sp.fresh m, h.len, fun i v x h1 h2 => ⟨ownsRow_other (h.syms i v x h1 h2).1 (fun g hg => m.block g ((h.syms i v x h1 h2).1.lt g hg).2 (fun x => x)), (h.syms i v x h1 h2).2⟩⟩
theorem SpecOk.add {w wr W w1 : World} {b : Nat} {X : SP} {v0 v1 v2 v3 v4 v' u : Value} {sv : List Value} {x : ZLV} (h : SpecOk w b X v0 v1 v2 v3 v4 sv) (hr : Fresh w wr) (hW : Fresh wr W) (hx : X.prods[sv.length]? = some x)
    (hu : wr.ownsRow w.heap.size 3 1 u x.ln.syms.length (ints (symsOf X x)))
    (hown : w1.ownsRow (b + 1) 50 1 v' (sv.length + 1) (sv ++ [u])) (hg : W.grownBy w1 v4.ownBlock)
    (hb : ∀ k, v'.ownBlock = some k → v4.ownBlock = some k ∨ W.heap.size ≤ k) :
    SpecOk (w1.setCell ⟨b, 4, none⟩ v') b X v0 v1 v2 v3 v' (sv ++ [u]) ∧ UpZ b w (w1.setCell ⟨b, 4, none⟩ v') := by
  obtain ⟨q1, q2⟩ := SPAt.add4 (h.sp.fresh hr) hW hown hg hb
  have hbl := h.sp.lt
  have hz1 := hr.size
  have hz2 := hW.size
  have hmod : Mod (fun k => k = b ∨ v4.ownBlock = some k) wr (w1.setCell ⟨b, 4, none⟩ v') :=
    ((hW.mono (T := fun k => k = b ∨ v4.ownBlock = some k) (fun _ _ x => x.elim)).grown hg (fun k hk _ => .inr hk)).setCell (fun _ => .inl rfl) _
  have v4lt := (h.sp.own_lt (i := 4) rfl)
  refine ⟨⟨q1, ?_, ?_⟩, (hr.mono (fun _ _ x => x.elim)).trans q2⟩
  · have := (List.getElem?_eq_some_iff.1 hx).1
    simp; omega
  · intro i v y h1 h2
    by_cases hi : i < sv.length
    · rw [List.getElem?_append_left hi] at h1
      obtain ⟨y1, y2⟩ := h.syms i v y h1 h2
      have y3 := ownsRow_other (w' := wr) y1 (fun g hg => hr.block g (y1.lt g hg).2 (fun x => x))
      refine ⟨ownsRow_other y3 (fun g hg => hmod.block g (y3.lt g hg).2 ?_), fun k hk e => ?_⟩
      · rintro (e | e)
        · have := (y1.lt g hg).1; omega
        · exact y2 g hg e
      · rcases hb k e with z | z
        · exact y2 k hk z
        · have := y1.lt k hk; omega
    · have hi2 := (List.getElem?_eq_some_iff.1 h1).1
      simp at hi2
      have e : i = sv.length := by omega
      subst e
      rw [List.getElem?_append_right (Nat.le_refl _)] at h1
      simp at h1
      subst h1
      rw [hx] at h2
      injection h2 with h2
      subst h2
      have ul := hu.lt
      refine ⟨ownsRow_base (ownsRow_other hu (fun g hg => hmod.block g (ul g hg).2 ?_)) (by omega), fun k hk e => ?_⟩
      · rintro (e | e)
        · have := ul g hg; omega
        · have := v4lt g e; have := ul g hg; omega
      · have := ul k hk
        rcases hb k e with z | z
        · have := v4lt k z; omega
        · omega
def SpecX (w : World) (b : Nat) (X : SP) : Prop := ∃ v0 v1 v2 v3 v4 sv, SpecOk w b X v0 v1 v2 v3 v4 sv ∧ sv.length = X.prods.length
def tailZ (s : ByteArray) (n : Nat) : Option Int → Int × Int
  | some p => (5, p)
  | none => if n = 0 then (6, (s.size : Int)) else (0, 0)
def readZ (em : ByteArray → Bool) (s : ByteArray) (xs : List ZLV) (fp : Int) : Int × Int :=
  if 800 < s.size then (1, 0) else if 0 ≤ fp then (2, fp) else if 0 ≤ (sortL noSP xs).2 then (3, (sortL noSP xs).2)
  else if 0 ≤ namesL (sortL noSP xs).1 xs [] then (4, namesL (sortL noSP xs).1 xs [])
  else tailZ s (sortL noSP xs).1.prods.length (emptyZ em (sortL noSP xs).1.rules)
def ReadRet (em : ByteArray → Bool) (s : ByteArray) (w : World) (e : Ending) (w' : World) : Prop :=
  ∃ (p : Value) (xs : List ZLV), (s.size ≤ 800 → xs.map ZLV.both = (zForm s).1) ∧ (∀ x ∈ xs, x.At w.heap.size w') ∧ e = .returned (.tuple #[p, .int .i64 (readZ em s xs (zForm s).2).1, .int .i64 (readZ em s xs (zForm s).2).2]) ∧ Fresh w w' ∧
    ((readZ em s xs (zForm s).2).1 = 0 → ∃ b, w.heap.size ≤ b ∧ p = .pointer (some ⟨b, 0, none⟩) ∧ SpecX w' b (sortL noSP xs).1)
end Go.Proofs.YtcpgklcimacngaaGreat
namespace Go.Proofs.YtcpgklcimacngaaGreat
open Go.RowKit
set_option linter.unusedVariables false
set_option linter.unusedSimpArgs false

theorem fcellZ {a b : World} {p : Addr} {v : Value} (h : Fresh a b) (hc : a.cell? p = some v) : b.cell? p = some v := by
  unfold World.cell? at hc ⊢
  cases hb : a.heap[p.block]? with
  | none => rw [hb] at hc; cases hc
  | some o =>
    rw [h.at hb (fun x => x)]
    rw [hb] at hc; exact hc
theorem zFormL_len (s : ByteArray) : ∀ (f a : Nat) (acc : List (ZLn × Int)), acc.length ≤ a → a ≤ s.size → (zFormL s f a acc).1.length ≤ s.size
  | 0, a, acc, h1, h2 => by simp [zFormL]; omega
  | f + 1, a, acc, h1, h2 => by
    rw [zFormL_s]
    split
    · split
      · split
        · simp
        · obtain ⟨n1, n2, n3, n4⟩ := nlF_spec s (a := a) h2
          exact zFormL_len s f _ _ (by simp; omega) (by omega)
      · simp
    · dsimp only; omega
theorem zForm_len (s : ByteArray) : (zForm s).1.length ≤ s.size := zFormL_len s _ 0 [] (by simp) (by omega)
theorem zFormL_bd (s : ByteArray) : ∀ (f a : Nat) (acc : List (ZLn × Int)), -1 ≤ (zFormL s f a acc).2
  | 0, a, acc => by simp [zFormL]
  | f + 1, a, acc => by
    rw [zFormL_s]
    split
    · split
      · split
        · dsimp only; omega
        · exact zFormL_bd s f _ _
      · dsimp only; omega
    · simp
theorem sortL_lo : ∀ (xs : List ZLV) (X : SP), (∀ x ∈ xs, 0 ≤ x.pl) → -1 ≤ (sortL X xs).2
  | [], X, _ => by simp [sortL]
  | x :: xs, X, hx => by
    unfold sortL
    split
    · have := hx x (by simp); dsimp only; omega
    · exact sortL_lo xs _ (fun y hy => hx y (by simp [hy]))
theorem emptyZ_drop {em : ByteArray → Bool} {l : List ZLV} {i : Nat} (hi : i < l.length) : emptyZ em (l.drop i) = if em l[i].ln.pat = true then some l[i].pl else emptyZ em (l.drop (i + 1)) := by
  rw [List.drop_eq_getElem_cons hi]; rfl

set_option maxRecDepth 20000 in
set_option maxHeartbeats 1000000 in
theorem zread_long (em : ByteArray → Bool) (s : ByteArray) (w : World) (hs : s.size ≤ maxLen) (hl : 800 < s.size) : Calls Tryz.prog 9 #[.string s] w fun e w' => ReadRet em s w e w' := by
  have hz : ∀ xs fp, readZ em s xs fp = (1, 0) := fun xs fp => by unfold readZ; rw [if_pos hl]
  have HZ := hid hz
  have k1 : (800 : Int) < (s.size : Int) := by omega
  unfold maxLen at hs
  clear hz
  go_enter Tryz.func9, Tryz.ntmps9
  go_wp2
  refine bodyPost_ret (results_tmp3 rfl _ _ _) rfl ⟨.pointer none, [], fun q => by omega, fun x hx => by (cases hx), ?_, Mod.refl _ _, ?_⟩
  · rw [HZ.out]; rfl
  · rw [HZ.out]; intro q; cases q

set_option maxRecDepth 20000 in
set_option maxHeartbeats 4000000 in
theorem zread_short (em : ByteArray → Bool) (s : ByteArray) (w : World) (hl : s.size ≤ 800) (hY : ∀ y ∈ (zForm s).1, YOk em y) : Calls Tryz.prog 9 #[.string s] w fun e w' => ReadRet em s w e w' := by
  have FO := hid (fun w => zform_any s w (by omega))
  have hlen := zForm_len s
  have hfb : -1 ≤ (zForm s).2 := zFormL_bd s _ 0 []
  have HZ : Hid (∀ (xs : List ZLV) (fp : Int), readZ em s xs fp = if 0 ≤ fp then ((2 : Int), fp) else if 0 ≤ (sortL noSP xs).2 then (3, (sortL noSP xs).2)
      else if 0 ≤ namesL (sortL noSP xs).1 xs [] then (4, namesL (sortL noSP xs).1 xs [])
      else tailZ s (sortL noSP xs).1.prods.length (emptyZ em (sortL noSP xs).1.rules)) := fun xs fp => by unfold readZ; rw [if_neg (by omega)]
  generalize hR : zForm s = R at FO hlen hfb hY
  obtain ⟨zs, fp⟩ := R
  dsimp only at FO hlen hfb hY
  have HR := hid hR
  have HY := hid hY
  have k1 : ¬ (800 : Int) < (s.size : Int) := by omega
  clear hR hY
  go_enter Tryz.func9, Tryz.ntmps9
  go_upto_region 4 with (first
    | (go_at_call 16; refine (FO.out _).mono ?_; rintro e w1 ⟨v, xs, hxs, rfl, hf1, hL⟩; have HXS := hid hxs; have HF1 := hid hf1; have HL := hid hL; clear hxs hf1 hL))
  by_cases hfp : 0 ≤ fp
  · go_wp2
    refine bodyPost_ret (results_tmp3 rfl _ _ _) rfl ⟨.pointer none, xs, fun _ => by rw [HR.out]; exact HXS.out, HL.out.each, ?_, HF1.out, ?_⟩
    · rw [HR.out, HZ.out, if_pos hfp]; rfl
    · rw [HR.out, HZ.out, if_pos hfp]; intro q; cases q
  · have hfp1 : fp = -1 := by omega
    subst hfp1
    have hxl : xs.length ≤ 1000 := by
      have := congrArg List.length HXS.out
      rw [List.length_map] at this; omega
    have HYX : Hid (∀ x ∈ xs, YOk em x.both) := fun x hx => HY.out _ (by rw [← HXS.out]; exact List.mem_map_of_mem hx)
    have hpl : ∀ x ∈ xs, 0 ≤ x.pl := fun x hx => (HYX.out x hx).pl.1
    have SO := hid (zsorted_any w1 w.heap.size v xs HL.out hxl)
    have slo := sortL_lo xs noSP hpl
    have HSB := hid (fun h => sortL_bd xs noSP noSP_bd h hpl)
    have HSM := hid (sort_mem xs noSP (fun x => x ∈ xs) (fun x hx => by (simp [noSP] at hx)) (fun x hx => by (simp [noSP] at hx)) (fun x hx => hx))
    have HZ2 := hid (HZ.out xs (-1))
    clear hpl HZ FO
    generalize hSS : sortL noSP xs = SS at SO slo HSB HSM HZ2
    have HSS := hid hSS
    clear hSS
    obtain ⟨X, sp⟩ := SS
    dsimp only at SO slo HSB HSM HZ2
    rw [if_neg (by omega)] at HZ2
    obtain ⟨vo, vc, hvv⟩ := own_form HL.out.own
    subst hvv
    go_upto_region 7 with (first
      | (go_at_call 17; refine (SO.out).mono ?_; rintro e w2 ⟨rfl, hX, hf2⟩; have HX := hid hX; have HF2 := hid hf2; clear hX hf2))
    by_cases hsp : 0 ≤ sp
    · go_wp2
      refine bodyPost_ret (results_tmp3 rfl _ _ _) rfl ⟨.pointer none, xs, fun _ => by rw [HR.out]; exact HXS.out, fun x hx => (HL.out.each x hx).fresh HF2.out, ?_, HF1.out.trans HF2.out, ?_⟩
      · rw [HR.out, HZ2.out, if_pos hsp]; rfl
      · rw [HR.out, HZ2.out, if_pos hsp]; intro q; cases q
    · have hsp1 : sp = -1 := by omega
      subst hsp1
      rw [if_neg (by omega)] at HZ2
      obtain ⟨bd0, bd1, bd2, bd3⟩ := HSB.out (by omega)
      obtain ⟨v0, v1, v2, v3, v4, hX⟩ := HX.out
      have NM := hid (znames_any w2 w1.heap.size w.heap.size X v0 v1 v2 v3 v4 _ [] xs hX (HL.out.kept HF2.out (fun _ _ x => x)) (by omega) (by omega) hxl (fun x hx => (HYX.out x hx).zok))
      have HXA := hid hX
      clear HX HSB SO hX bd3
      generalize hNN : namesL X xs [] = NN at NM HZ2
      clear hNN
      go_upto_region 10 with (first
        | (go_at_call 18; refine (NM.out).mono ?_; rintro e w3 ⟨rfl, hf3⟩; have HF3 := hid hf3; clear hf3))
      by_cases hnn : 0 ≤ NN
      · go_wp2
        refine bodyPost_ret (results_tmp3 rfl _ _ _) rfl ⟨.pointer none, xs, fun _ => by rw [HR.out]; exact HXS.out, fun x hx => ((HL.out.each x hx).fresh HF2.out).fresh HF3.out, ?_, (HF1.out.trans HF2.out).trans HF3.out, ?_⟩
        · rw [HR.out, HZ2.out, if_pos hnn]; rfl
        · rw [HR.out, HZ2.out, if_pos hnn]; intro q; cases q
      · rw [if_neg hnn] at HZ2
        have HF : Hid (Fresh w w3) := (HF1.out.trans HF2.out).trans HF3.out
        have HF0 : Hid (Fresh w w1) := HF1.out
        have hX3 := HXA.out.fresh HF3.out
        have HXX := hid hX3
        have HW1 : Hid (Fresh w1 w3) := HF2.out.trans HF3.out
        have EM : Hid (∀ (x : ZLV) (W : World), x ∈ X.rules → Calls Tryz.prog 19 #[.string x.ln.pat, .string ⟨#[]⟩] W fun e w' => e = .returned (.bool (em x.ln.pat)) ∧ Fresh W w') := fun x W hx => by
          obtain ⟨m1, m2⟩ := HSM.out.1 x hx
          obtain ⟨L, q1, q2, q3⟩ := (HYX.out x m1).pat m2
          refine (zmatches_any x.ln.pat ⟨#[]⟩ L W q2 (by show 0 ≤ 210; omega) q1).mono ?_
          rintro e w' ⟨b, h1, h2, h3⟩
          refine ⟨?_, h3⟩
          have q3' : em x.ln.pat = true ↔ L [] := q3
          have : b = em x.ln.pat := by rw [Bool.eq_iff_iff, h2, q3']; rfl
          rw [h1, this]
        obtain ⟨a0, cp0, hv0⟩ := own_form (hX3.own 0 _ rfl)
        obtain ⟨a1, cp1, hv1⟩ := own_form (hX3.own 1 _ rfl)
        obtain ⟨a4, cp4, hv4⟩ := own_form (hX3.own 4 _ rfl)
        dsimp only at hv0 hv1 hv4
        subst hv0 hv1 hv4
        have hb1 : w1.heap.size < w3.heap.size := hX3.lt
        generalize hEE : emptyZ em X.rules = EE at HZ2
        have HEE := hid hEE
        have hwz : w.heap.size ≤ w1.heap.size := HF1.out.size
        clear hEE HXA NM HF1 HF2 HF3 hX3
        go_wp2_with fail
        go_loopw [8, 9] (fun x8 _ wr => ∃ i : Nat, x8 = .int .i64 i ∧ i ≤ X.rules.length ∧ emptyZ em (X.rules.drop i) = EE ∧ Fresh w3 wr)
            (fun x _ _ => 1001 - (intOf x).toNat)
        case atStart => exact ⟨0, rfl, by omega, HEE.out, Mod.refl _ _⟩
        case round =>
          obtain ⟨i, rfl, hi, hrec, hfr⟩ := hrel
          have hX4 := HXX.out.fresh hfr
          have k0 := SPAt.cell hX4 0
          have kk1 := SPAt.cell hX4 1
          simp at k0 kk1
          have HF4 := hid hfr
          have hb4 := hX4.lt
          have HX4 := hid hX4
          clear HEE hfr
          by_cases hlt : i < X.rules.length
          · have j1 : (i : Int) < (X.rules.length : Int) := by omega
            rw [emptyZ_drop hlt] at hrec
            have hXr := SPAt.rules hX4
            obtain ⟨g, cap', hv⟩ := Joins.ownsRow_form hXr.own (by omega)
            rw [Value.slice.injEq] at hv
            obtain ⟨rfl, _, rfl⟩ := hv
            have c3 := hXr.cell i 3 hlt (by omega)
            have c6 := hXr.cell i 6 hlt (by omega)
            have EX := hid (EM.out X.rules[i] wr (by simp))
            generalize hxe : X.rules[i] = x at hrec c3 c6 EX
            obtain ⟨⟨xr, xk, xn, xp, xsy, xpl⟩, vs, vp, pl⟩ := x
            simp [ZLV.cells] at c3 c6
            have hgl := (hXr.own.lt g rfl).2
            dsimp only at hrec EX
            clear hxe hX4 hXr
            cases hem : em xp
            · rw [hem, if_neg (by simp)] at hrec
              rw [hem] at EX
              have HRC := hid hrec
              clear hrec
              go_wp2_with (first
                | (go_at_call 19; refine (EX.out).mono ?_; rintro e w5 ⟨rfl, hf5⟩; have HF5 := hid hf5; clear hf5))
              go_roundw
              case rel => exact ⟨i + 1, by go_num, by omega, HRC.out, HF4.out.trans HF5.out⟩
              case measure => simp [intOf]; omega
            · rw [hem, if_pos rfl] at hrec
              rw [hem] at EX
              have HRC := hid hrec
              clear hrec
              go_wp2_with (first
                | (go_at_call 19; refine (EX.out).mono ?_; rintro e w5 ⟨rfl, hf5⟩; have HF5 := hid hf5; have hX5 := HX4.out.fresh hf5; have m0 := SPAt.cell hX5 0; simp at m0; have m6' : w5.cell? ⟨g, i * 7 + 6, none⟩ = some (.int .i64 pl) := (fcellZ hf5 c6); clear hf5 hX5))
              go_quiet (fail)
              go_wp2
              refine bodyPost_ret (results_tmp3 rfl _ _ _) rfl ⟨.pointer none, xs, fun _ => by rw [HR.out]; exact HXS.out, fun x hx => ((((HL.out.each x hx).fresh HW1.out).fresh HF4.out).fresh HF5.out).fresh (fdrewZ _ _), ?_, ((HF.out.trans HF4.out).trans HF5.out).trans (fdrewZ _ _), ?_⟩
              · rw [HR.out, HZ2.out, ← HRC.out]; rfl
              · rw [HR.out, HZ2.out, ← HRC.out]; intro q; cases q
          · have j1 : ¬ (i : Int) < (X.rules.length : Int) := by omega
            rw [List.drop_eq_nil_of_le (by omega)] at hrec
            have hrec' : EE = none := hrec.symm
            subst hrec'
            have HZ3 : Hid (readZ em s xs (-1) = if X.prods.length = 0 then (6, (s.size : Int)) else (0, 0)) := HZ2.out
            clear hrec hX4 HZ2 EM
            by_cases hp0 : X.prods.length = 0
            · have j2 : ((X.prods.length : Int) == 0) = true := by simp [hp0]
              have HZ4 : Hid (readZ em s xs (-1) = (6, (s.size : Int))) := by unfold Hid; rw [HZ3.out, if_pos hp0]
              clear hp0 HZ3
              go_wp2
              refine bodyPost_ret (results_tmp3 rfl _ _ _) rfl ⟨.pointer none, xs, fun _ => by rw [HR.out]; exact HXS.out, fun x hx => ((HL.out.each x hx).fresh HW1.out).fresh HF4.out, ?_, HF.out.trans HF4.out, ?_⟩
              · rw [HR.out, HZ4.out]; rfl
              · rw [HR.out, HZ4.out]; intro q; cases q
            · have j2 : ((X.prods.length : Int) == 0) = false := by simpa using hp0
              have HZ4 : Hid (readZ em s xs (-1) = (0, 0)) := by unfold Hid; rw [HZ3.out, if_neg hp0]
              have HW4 : Hid (Fresh w1 wr) := HW1.out.trans HF4.out
              clear hp0 HZ3
              obtain ⟨wo, hwo⟩ : ∃ wo, wo = wr := ⟨_, rfl⟩
              subst hwo
              go_wp2_with fail
              go_loopw [10, 11, 12, 13] (fun x10 _ _ _ wr => ∃ (i : Nat) (v4 : Value) (sv : List Value), x10 = .int .i64 i ∧ i ≤ X.prods.length ∧ sv.length = i ∧ SpecOk wr w1.heap.size X (.slice a0 X.rules.length cp0) (.slice a1 X.prods.length cp1) v2 v3 v4 sv ∧ Fresh w1 wr)
                  (fun x _ _ _ _ => 1001 - (intOf x).toNat)
              case atStart => exact ⟨0, _, [], rfl, by omega, rfl, ⟨HX4.out, by simp, fun i v x q => by simp at q⟩, HW4.out⟩
              case round =>
                obtain ⟨i, v4, sv, rfl, hi, hsl, hS, hfr⟩ := hrel
                obtain ⟨wp, hwp⟩ : ∃ wp, wp = wr := ⟨_, rfl⟩
                subst hwp
                have hME : Hid (1001 - (intOf (.int .i64 ((i : Int) + 1))).toNat < 1001 - (intOf (.int .i64 (i : Int))).toNat) := by unfold Hid; simp [intOf]; omega
                have HSL := hid hsl
                have HS := hid hS
                have HFP := hid hfr
                have k1' := SPAt.cell hS.sp 1
                simp at k1'
                have hbp := hS.sp.lt
                clear hsl HX4 k0 kk1 hb4 HXX
                by_cases hlt : i < X.prods.length
                · have j3 : (i : Int) < (X.prods.length : Int) := by omega
                  have hXp := SPAt.prods hS.sp
                  obtain ⟨g, cap', hv⟩ := Joins.ownsRow_form hXp.own (by omega)
                  rw [Value.slice.injEq] at hv
                  obtain ⟨rfl, _, rfl⟩ := hv
                  have c4 := hXp.cell i 4 hlt (by omega)
                  have hgl := (hXp.own.lt g rfl).2
                  have hmem := HSM.out.2 X.prods[i] (by simp)
                  have hxA := (HL.out.each _ hmem).fresh hfr
                  have hyo := HYX.out _ hmem
                  have hget : X.prods[i]? = some X.prods[i] := List.getElem?_eq_getElem hlt
                  generalize hxe : X.prods[i] = x at c4 hxA hyo hget
                  have HGET := hid hget
                  have HYO := hid hyo
                  have HXA := hid hxA
                  obtain ⟨so, sc, hvs⟩ := own_form hxA.syms
                  obtain ⟨⟨xr, xk, xn, xp, xsy, xpl⟩, vs, vp, pl⟩ := x
                  dsimp only at hvs
                  subst hvs
                  simp [ZLV.cells] at c4
                  have hsm := hyo.small
                  dsimp only [ZLV.both] at hsm
                  obtain ⟨it, hit, ht0, ht1, ht2⟩ := infoInt'
                  obtain ⟨iu, hiu, hu0, hu1, hu2⟩ := infoIs'
                  clear hxe hXp hmem hxA hyo hget hS hfr
                  go_wp2_with fail
                  go_loopw [11, 12, 13] (fun x11 x12 _ wr => ∃ j : Nat, x12 = .int .i64 j ∧ j ≤ xsy.length ∧ wr.ownsRow wp.heap.size 3 1 x11 j (ints ((xsy.map (numF X)).take j)) ∧ Fresh wp wr)
                      (fun _ x _ _ => 1001 - (intOf x).toNat)
                  case atStart => exact ⟨0, rfl, by omega, World.ownsRow_nil _ _ _ _, Mod.refl _ _⟩
                  case round =>
                    obtain ⟨j, rfl, hj, hown, hfr⟩ := hrel
                    have HO := hid hown
                    have HFW := hid hfr
                    have d1 := fcellZ hfr k1'
                    have d4 := fcellZ hfr c4
                    obtain ⟨ro, rc, hro⟩ := own_form hown
                    subst hro
                    have hbw : w1.heap.size < wr.heap.size := Nat.lt_of_lt_of_le hbp hfr.size
                    have hgw : g < wr.heap.size := Nat.lt_of_lt_of_le hgl hfr.size
                    clear hown
                    by_cases hjl : j < xsy.length
                    · have j4 : (j : Int) < (xsy.length : Int) := by omega
                      obtain ⟨gs, cs, hvs⟩ := Joins.ownsRow_form HXA.out.syms (by dsimp only; omega)
                      rw [Value.slice.injEq] at hvs
                      obtain ⟨rfl, _, rfl⟩ := hvs
                      have hcs : wr.cell? ⟨gs, j, none⟩ = some (.string xsy[j]) := by
                        have := (HXA.out.fresh hfr).syms.cells (g := gs) rfl j (.string xsy[j]) (by simp [hjl])
                        rwa [Addr.add_mid, Nat.zero_add] at this
                      have NX := hid (znumber_any wr w1.heap.size X _ _ _ _ _ _ xsy[j] (HS.out.sp.fresh hfr) (HYO.out.ne _ (by show xsy[j] ∈ xsy; simp)) (by omega) (by omega))
                      have hgsw : gs < wr.heap.size := by
                        have := ((HXA.out.fresh hfr).syms.lt gs rfl).2; exact this
                      have htk : (xsy.map (numF X)).take (j + 1) = (xsy.map (numF X)).take j ++ [numF X xsy[j]] := by
                        rw [List.take_add_one]; simp [hjl]
                      have HTK := hid htk
                      clear htk hfr
                      generalize numF X xsy[j] = nn at NX HTK
                      go_wp2_with (first
                        | (go_at_call 20; refine (NX.out).mono ?_; rintro e w' ⟨rfl, hw⟩; rw [hw]; clear hw)
                        | (at_builtin; refine wpList_append_mine _ rfl _ _ 50 rfl wp.heap.size 3 it _ 1 8 Tryz.underlying50 hit ht0 ht1 ht2 rfl (by decide) _ _ _ rfl (HO.out.alloc _) ⟨wr.heap.size, 0, none⟩ 1 1 [.int .i64 nn] rfl rfl (new_cells rfl) (by intro u hu; simp at hu; subst hu; rfl) (by unfold maxLen; omega) (by omega) (by have := HFW.out.size; simp; omega) ?_; intro v' w6 hown2 hgrow hblk; have fr2 : Fresh wp w6 := Mod.grown (S := fun _ => False) (HFW.out.alloc _) hgrow (fun k hk hlt => by have := (HO.out.lt k hk).1; omega); have HO2 := hid hown2; have HF6 := hid fr2; clear hown2 hgrow hblk fr2))
                      go_roundw
                      case rel =>
                        refine ⟨j + 1, by go_num, by omega, ?_, HF6.out⟩
                        rw [HTK.out]
                        have e1 := List.map_append (f := Value.int .i64) (l₁ := (xsy.map (numF X)).take j) (l₂ := [nn])
                        rw [List.map_singleton] at e1
                        show World.ownsRow _ _ _ _ _ _ (List.map _ _)
                        rw [e1]; exact HO2.out
                      case measure => simp [intOf]; omega
                    · have j4 : ¬ (j : Int) < (xsy.length : Int) := by omega
                      have hje : j = xsy.length := by omega
                      have hu9 : wr.ownsRow wp.heap.size 3 1 (.slice ro j rc) xsy.length (ints (xsy.map (numF X))) := by
                        have := HO.out
                        rw [List.take_of_length_le (by simp; omega)] at this
                        rw [← hje]; exact this
                      have HU9 := hid hu9
                      have hS5 := HS.out.fresh hfr
                      have HS5 := hid hS5
                      obtain ⟨b4, cq4, hv4⟩ := own_form (hS5.sp.own 4 _ rfl)
                      dsimp only at hv4
                      subst hv4
                      have q4 := SPAt.cell hS5.sp 4
                      have f4 := SPAt.frozen hS5.sp 4
                      simp at q4
                      have hsvl : sv.length ≤ 100 := by rw [HSL.out]; omega
                      clear hje hu9 hS5 hfr
                      go_wp2_with (first
                        | (at_builtin; refine wpList_append_mine _ rfl _ _ 59 rfl (w1.heap.size + 1) 50 iu _ 1 24 Tryz.underlying59 hiu hu0 hu1 hu2 rfl (by decide) (.slice b4 sv.length cq4) sv.length sv rfl ((HS5.out.sp.own 4 _ rfl).alloc _) ⟨wr.heap.size, 0, none⟩ 1 1 [.slice ro j rc] rfl rfl (new_cells rfl) (by intro u hu; simp at hu; subst hu; rfl) (by unfold maxLen; omega) (by omega) (by simp; omega) ?_; intro v9 w6 hown hgrow hblk; obtain ⟨a9, c9, hv9⟩ := own_form hown; have hb9 := HS5.out.sp.blk_grown ((Mod.refl _ wr).alloc _) (i := 4) rfl hgrow; have k6 : w6.cell? ⟨w1.heap.size, 4, none⟩ = some (.slice b4 sv.length cq4) := cellOf hb9 4; have k7 := frozenOf hb9 4; have FIN := hid (SpecOk.add (HS.out) HFW.out ((Mod.refl _ wr).alloc _) (by rw [HSL.out]; exact HGET.out) HU9.out hown hgrow (by simpa using hblk)); clear hown hgrow hblk hb9; subst hv9))
                      go_roundw
                      case rel => exact ⟨i + 1, _, _, by go_num, by omega, by simp [HSL.out], FIN.out.1, upz_fresh HFP.out FIN.out.2 (Nat.le_refl _)⟩
                      case measure => exact hME.out
                · have j3 : ¬ (i : Int) < (X.prods.length : Int) := by omega
                  have HEQ : Hid (sv.length = X.prods.length) := by unfold Hid; rw [HSL.out]; omega
                  go_wp2
                  refine bodyPost_ret (results_tmp3 rfl _ _ _) rfl ⟨.pointer (some ⟨w1.heap.size, 0, none⟩), xs, fun _ => by rw [HR.out]; exact HXS.out, fun x hx => (HL.out.each x hx).fresh hfr, ?_, ?_, fun _ => ⟨w1.heap.size, hwz, rfl, ?_⟩⟩
                  · rw [HR.out, HZ4.out]; rfl
                  · exact HF0.out.trans hfr
                  · rw [HSS.out]; exact ⟨_, _, _, _, _, _, HS.out, HEQ.out⟩
end Go.Proofs.YtcpgklcimacngaaGreat
