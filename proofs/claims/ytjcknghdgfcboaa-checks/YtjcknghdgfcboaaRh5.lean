import Derived.Test.YtjcknghdgfcboaaRh4
namespace Go.Proofs.Ytjcknghdgfcboaa
open Go.RowKit
set_option linter.unusedVariables false
set_option linter.unusedSimpArgs false

def rNumL (rs : List ZLV) (s : ByteArray) : Nat → Nat → Int
  | 0, _ => -1
  | f + 1, i => match rs[i]? with
    | none => -1
    | some x => if (x.ln.name.toList == s.toList) = true then (if x.ln.skip = true then -1 else (i : Int)) else rNumL rs s f (i + 1)
def numF (X : SP) (s : ByteArray) : Int :=
  if isCapB (atB s 0) = true then (if findF X.heads s < 0 then -1 else (X.rules.length : Int) + 1 + findF X.heads s)
  else rNumL X.rules s (X.rules.length + 1) 0
theorem rNumL_s (rs : List ZLV) (s : ByteArray) (f i : Nat) : rNumL rs s (f + 1) i = match rs[i]? with
    | none => -1
    | some x => if (x.ln.name.toList == s.toList) = true then (if x.ln.skip = true then -1 else (i : Int)) else rNumL rs s f (i + 1) := rfl
theorem SPAt.rules {w : World} {b : Nat} {X : SP} {v0 v1 v2 v3 v4 : Value} {sv : List Value} (h : SPAt w b X v0 v1 v2 v3 v4 sv) : RowAt ZLV.cells 7 52 w v0 X.rules := ⟨ownsRow_base (h.own 0 _ rfl) (Nat.zero_le _), fun x _ => rfl⟩
theorem SPAt.prods {w : World} {b : Nat} {X : SP} {v0 v1 v2 v3 v4 : Value} {sv : List Value} (h : SPAt w b X v0 v1 v2 v3 v4 sv) : RowAt ZLV.cells 7 52 w v1 X.prods := ⟨ownsRow_base (h.own 1 _ rfl) (Nat.zero_le _), fun x _ => rfl⟩
theorem zfindF_bd (l : List ByteArray) (s : ByteArray) : -1 ≤ findF l s ∧ findF l s ≤ l.length := by unfold findF; split <;> omega

set_option maxRecDepth 20000 in
set_option maxHeartbeats 1000000 in
theorem znumber_any (w : World) (b : Nat) (X : SP) (v0 v1 v2 v3 v4 : Value) (sv : List Value) (s : ByteArray) (h : SPAt w b X v0 v1 v2 v3 v4 sv) (hs : 0 < s.size) (hr : X.rules.length ≤ 1000) (hh : X.heads.length ≤ 1000) :
    Calls Try.prog 18 #[.pointer (some ⟨b, 0, none⟩), .string s] w fun e w' => e = .returned (.int .i64 (numF X s)) ∧ w' = w := by
  have hb := atB_ix hs
  have hbl : s[0].toNat < 256 := s[0].toNat_lt
  have ZG := hid (fun w => zgreat_any (s[0].toNat : Int) w)
  have FI := hid (fun w => zfind_any X.heads s v2 w)
  have k0 := SPAt.cell h 0
  have k2 := SPAt.cell h 2
  simp at k0 k2
  have hso := strsAt_own (h.own 2 _ rfl)
  have FX := hid (zfind_any X.heads s v2 w hso hh)
  have fb := zfindF_bd X.heads s
  unfold numF
  have hb0 : atB s 0 = (s[0].toNat : Int) := hb
  rw [hb0]
  generalize isCapB (s[0].toNat : Int) = cp at ZG ⊢
  have hpos : (0 : Int) < (s.size : Int) := by omega
  obtain ⟨a0, cp0, hv0⟩ := own_form (h.own 0 _ rfl)
  obtain ⟨a2, cp2, hv2⟩ := own_form (h.own 2 _ rfl)
  have HRW := hid h.rules
  dsimp only at hv0 hv2
  subst hv0 hv2
  clear hb hb0 h hso FI
  cases cp
  · rw [if_neg (by simp)]
    generalize hV : rNumL X.rules s (X.rules.length + 1) 0 = V
    have HV := hid hV
    clear hV FX fb
    go_enter Try.func18, Try.ntmps18
    go_wp2_with (first
      | (go_at_call 28; refine (ZG.out _).mono ?_; rintro e w' ⟨rfl, hw⟩; rw [hw]; clear hw))
    go_loopw [6] (fun x6 wr => ∃ (i f : Nat), x6 = .int .i64 i ∧ wr = w ∧ i ≤ X.rules.length ∧ X.rules.length + 1 ≤ f + i ∧ rNumL X.rules s f i = V)
        (fun x _ => 1001 - (intOf x).toNat)
    case atStart => exact ⟨0, X.rules.length + 1, rfl, rfl, by omega, by omega, HV.out⟩
    case round =>
      obtain ⟨i, f, rfl, rfl, hi, hf, hrec⟩ := hrel
      obtain ⟨f, rfl⟩ : ∃ g, f = g + 1 := ⟨f - 1, by omega⟩
      rw [rNumL_s] at hrec
      clear HV
      by_cases hlt : i < X.rules.length
      · have k1 : (i : Int) < (X.rules.length : Int) := by omega
        rw [List.getElem?_eq_getElem hlt] at hrec
        obtain ⟨g, cap', hv⟩ := Joins.ownsRow_form HRW.out.own (by omega)
        rw [Value.slice.injEq] at hv
        obtain ⟨rfl, _, rfl⟩ := hv
        have c1 := HRW.out.cell i 1 hlt (by omega)
        have c2 := HRW.out.cell i 2 hlt (by omega)
        generalize X.rules[i] = x at hrec c1 c2
        obtain ⟨⟨xr, xk, xn, xp, xsy, xpl⟩, vs, vp, pl⟩ := x
        simp [ZLV.cells] at c1 c2
        dsimp only at hrec
        cases h1 : (xn.toList == s.toList)
        · rw [h1, if_neg (by simp)] at hrec
          have HR := hid hrec
          clear hrec
          go_wp2
          go_roundw
          case rel => exact ⟨i + 1, f, by go_num, by first | rfl | trivial, by omega, by omega, HR.out⟩
          case measure => simp [intOf]; omega
        · rw [h1, if_pos rfl] at hrec
          cases xk
          · rw [if_neg (by simp)] at hrec
            have HR := hid hrec
            clear hrec
            go_wp2
            go_ret
            exact ⟨by rw [← HR.out]; rfl, rfl⟩
          · rw [if_pos rfl] at hrec
            have HR := hid hrec
            clear hrec
            go_wp2
            go_ret
            exact ⟨by rw [← HR.out]; rfl, rfl⟩
      · have k1 : ¬ (i : Int) < (X.rules.length : Int) := by omega
        rw [List.getElem?_eq_none (by omega)] at hrec
        have HR := hid hrec
        clear hrec
        go_wp2
        go_ret
        exact ⟨by rw [← HR.out]; rfl, rfl⟩
  · rw [if_pos rfl]
    generalize findF X.heads s = fd at FX fb ⊢
    obtain ⟨fb1, fb2⟩ := fb
    by_cases hf : fd < 0
    · rw [if_pos hf]
      go_enter Try.func18, Try.ntmps18
      go_wp2_with (first
        | (go_at_call 28; refine (ZG.out _).mono ?_; rintro e w' ⟨rfl, hw⟩; rw [hw]; clear hw)
        | (go_at_call 26; refine (FX.out).mono ?_; rintro e w' ⟨rfl, hw⟩; rw [hw]; clear hw))
      go_ret
      exact ⟨rfl, rfl⟩
    · rw [if_neg hf]
      go_enter Try.func18, Try.ntmps18
      go_wp2_with (first
        | (go_at_call 28; refine (ZG.out _).mono ?_; rintro e w' ⟨rfl, hw⟩; rw [hw]; clear hw)
        | (go_at_call 26; refine (FX.out).mono ?_; rintro e w' ⟨rfl, hw⟩; rw [hw]; clear hw))
      go_ret
      exact ⟨rfl, rfl⟩

def symZL (X : SP) (x : ZLV) : Nat → Nat → Option Int
  | 0, _ => none
  | f + 1, j => match x.ln.syms[j]? with
    | none => none
    | some n => if numF X n < 0 then some (x.pl + x.ln.places.getD j 0) else symZL X x f (j + 1)
theorem symZL_s (X : SP) (x : ZLV) (f j : Nat) : symZL X x (f + 1) j = match x.ln.syms[j]? with
    | none => none
    | some n => if numF X n < 0 then some (x.pl + x.ln.places.getD j 0) else symZL X x f (j + 1) := rfl
def namesL (X : SP) : List ZLV → List ByteArray → Int
  | [], _ => -1
  | x :: l, ahead =>
    if x.ln.rule = true ∧ 0 ≤ findF ahead x.ln.name then x.pl
    else match symZL X x (x.ln.syms.length + 1) 0 with
      | some p => p
      | none => namesL X l (if x.ln.rule = true then ahead ++ [x.ln.name] else ahead)
structure ZOk (x : ZLV) : Prop where
  ne : ∀ n ∈ x.ln.syms, 0 < n.size
  len : x.ln.places.length = x.ln.syms.length
  small : x.ln.syms.length ≤ 1000
  pl : 0 ≤ x.pl ∧ x.pl ≤ 1000
  pls : ∀ p ∈ x.ln.places, 0 ≤ p ∧ p ≤ 1000
end Go.Proofs.Ytjcknghdgfcboaa
namespace Go.Proofs.Ytjcknghdgfcboaa
open Go.RowKit
set_option linter.unusedVariables false
set_option linter.unusedSimpArgs false

set_option maxRecDepth 20000 in
set_option maxHeartbeats 4000000 in
theorem znames_any (w : World) (b B0 : Nat) (X : SP) (v0 v1 v2 v3 v4 v : Value) (sv : List Value) (xs : List ZLV) (h : SPAt w b X v0 v1 v2 v3 v4 sv) (hL : ZLinesAt B0 w v xs) (hr : X.rules.length ≤ 1000) (hh : X.heads.length ≤ 1000) (hn : xs.length ≤ 1000) (hok : ∀ x ∈ xs, ZOk x) :
    Calls Try.prog 16 #[.pointer (some ⟨b, 0, none⟩), v] w fun e w' => e = .returned (.int .i64 (namesL X xs [])) ∧ Fresh w w' := by
  obtain ⟨i0, hi0, hz0, hz1, hz2⟩ := infoStr'
  have NU := hid (fun (w' : World) (hf : Fresh w w') (s : ByteArray) (hs : 0 < s.size) => znumber_any w' b X v0 v1 v2 v3 v4 sv s (h.fresh hf) hs hr hh)
  have HL := hid (fun w' (hf : Fresh w w') => hL.kept hf (fun _ _ x => x))
  have HOK := hid hok
  obtain ⟨ao, cap, hv⟩ := own_form hL.own
  subst hv
  generalize hR : namesL X xs [] = R
  have HR := hid hR
  clear hL hR h hok
  go_enter Try.func16, Try.ntmps16
  go_wp2
  go_loopw [5, 6] (fun x5 x6 wr => ∃ (i : Nat) (ah : List ByteArray), x6 = .int .i64 i ∧ i ≤ xs.length ∧ ah.length ≤ i ∧ namesL X (xs.drop i) ah = R ∧ wr.ownsRow w.heap.size 9 1 x5 ah.length (strs ah) ∧ Fresh w wr)
      (fun _ x _ => 1001 - (intOf x).toNat)
  case atStart => exact ⟨0, [], rfl, by omega, by simp, HR.out, World.ownsRow_nil _ _ _ _, Mod.refl _ _⟩
  case round =>
    obtain ⟨i, ah, rfl, hi, hal, hrec, hown, hfr⟩ := hrel
    clear HR
    have HLw := hid (HL.out wr hfr)
    have HF := hid hfr
    have HO := hid hown
    have hME : Hid (1001 - (intOf (.int .i64 ((i : Int) + 1))).toNat < 1001 - (intOf (.int .i64 (i : Int))).toNat) := by unfold Hid; simp [intOf]; omega
    obtain ⟨aa, ca, hva⟩ := own_form hown
    subst hva
    by_cases hlt : i < xs.length
    · have hk1 : (i : Int) < (xs.length : Int) := by omega
      obtain ⟨g, cap', hv⟩ := Joins.ownsRow_form HLw.out.own (by omega)
      rw [Value.slice.injEq] at hv
      obtain ⟨rfl, _, rfl⟩ := hv
      rw [List.drop_eq_getElem_cons hlt, namesL] at hrec
      have hxA := HLw.out.each xs[i] (by simp)
      have hzo := HOK.out xs[i] (by simp)
      have HAX := hid (fun (W : World) (hW : Fresh w W) => (HL.out W hW).each xs[i] (by simp))
      have hcl := fun (W : World) (hW : Fresh w W) j hj => (HL.out W hW).row.cell i j hlt hj
      generalize hx : xs[i] = x at hrec hxA hcl hzo HAX
      obtain ⟨⟨xr, xk, xn, xp, xsy, xpl⟩, vs, vp, pl⟩ := x
      obtain ⟨so, sc, hvs⟩ := own_form hxA.syms
      obtain ⟨po, pc, hvp⟩ := own_form hxA.places
      dsimp only at hvs hvp
      subst hvs hvp
      have HC : Hid (∀ W, Fresh w W → W.cell? ⟨g, i * 7, none⟩ = some (.bool xr) ∧ W.cell? ⟨g, i * 7 + 2, none⟩ = some (.string xn) ∧ W.cell? ⟨g, i * 7 + 4, none⟩ = some (.slice so xsy.length sc) ∧ W.cell? ⟨g, i * 7 + 5, none⟩ = some (.slice po xpl.length pc) ∧ W.cell? ⟨g, i * 7 + 6, none⟩ = some (.int .i64 pl)) := fun W hW => by
        exact ⟨hcl W hW 0 (by omega), hcl W hW 2 (by omega), hcl W hW 4 (by omega), hcl W hW 5 (by omega), hcl W hW 6 (by omega)⟩
      obtain ⟨c0, c2, c4, c5, c6⟩ := HC.out wr hfr
      have FI := hid (zfind_any ah xn _ wr (strsAt_own hown) (by omega))
      have fb := zfindF_bd ah xn
      dsimp only at hrec
      have HREC := hid hrec
      have HZ := hid hzo
      have hgl := (HLw.out.own.lt g rfl).2
      clear hrec hxA hcl hx hfr hown hzo
      go_upto_if 20 with fail
      go_cut [5, 7] (fun x5 _ wx => ∃ ah2, ah2.length ≤ i + 1 ∧ (¬ (xr = true ∧ 0 ≤ findF ah xn)) ∧ ah2 = (if xr = true then ah ++ [xn] else ah) ∧ wx.ownsRow w.heap.size 9 1 x5 ah2.length (strs ah2) ∧ Fresh w wx)
      case first =>
        cases xr
        · go_wp2_with fail
          go_meet
          exact ⟨ah, by omega, by simp, rfl, HO.out, HF.out⟩
        · generalize hfd : findF ah xn = fd at FI fb HREC
          have HFD := hid hfd
          clear hfd
          obtain ⟨fb1, fb2⟩ := fb
          by_cases hf : 0 ≤ fd
          · have HR2 : Hid (pl = R) := by
              have := HREC.out
              rw [if_pos ⟨rfl, hf⟩] at this; exact this
            clear HREC
            go_wp2_with (first
              | (go_at_call 26; refine (FI.out).mono ?_; rintro e w' ⟨rfl, hw⟩; rw [hw]; clear hw))
            go_ret
            exact ⟨by rw [← HR2.out]; rfl, HF.out⟩
          · have hf1 : fd = -1 := by omega
            subst hf1
            go_wp2_with (first
              | (go_at_call 26; refine (FI.out).mono ?_; rintro e w' ⟨rfl, hw⟩; rw [hw]; clear hw)
              | (at_builtin; refine wpList_append_mine _ rfl _ _ 45 rfl w.heap.size 9 i0 _ 1 16 Try.underlying45 hi0 hz0 hz1 hz2 rfl (by decide) _ _ _ rfl (HO.out.alloc _) ⟨wr.heap.size, 0, none⟩ 1 1 [.string xn] rfl rfl (new_cells rfl) (by intro u hu; simp at hu; subst hu; rfl) (by unfold maxLen; omega) (by omega) (by have := HF.out.size; simp; omega) ?_; intro v' w2 hown2 hgrow hblk; have fr2 : Fresh w w2 := Mod.grown (S := fun _ => False) (HF.out.alloc _) hgrow (fun k hk hlt => by have := (HO.out.lt k hk).1; omega); have HO2 := hid hown2; have HF2 := hid fr2; clear hown2 hgrow hblk fr2))
            go_meet
            refine ⟨ah ++ [xn], by simp; omega, by rw [HFD.out]; simp, by simp, ?_, HF2.out⟩
            rw [List.length_append, List.length_singleton]
            have e1 := List.map_append (f := Value.string) (l₁ := ah) (l₂ := [xn])
            rw [List.map_singleton] at e1
            show World.ownsRow _ _ _ _ _ _ (List.map _ _)
            rw [e1]; exact HO2.out
      case rest =>
        obtain ⟨ah2, hal2, hno, hah, hown2, hfr2⟩ := hcut
        have HR2 : Hid ((match symZL X ⟨⟨xr, xk, xn, xp, xsy, xpl⟩, .slice so xsy.length sc, .slice po xpl.length pc, pl⟩ (xsy.length + 1) 0 with | some p => p | none => namesL X (xs.drop (i + 1)) ah2) = R) := by
          have := HREC.out
          rw [if_neg hno, ← hah] at this; exact this
        have HO2 := hid hown2
        have HF2 := hid hfr2
        obtain ⟨ab, cb, hvb⟩ := own_form hown2
        obtain ⟨d0, d2, d4, d5, d6⟩ := HC.out wc hfr2
        have hgc : g < wc.heap.size := ((HL.out wc hfr2).own.lt g rfl).2
        have HAW := hid (HAX.out wc hfr2)
        clear HREC c0 c2 c4 c5 c6 FI fb hno hah hown2 hfr2 HO HF HLw hgl HC HAX
        subst hvb
        generalize hSZ : symZL X ⟨⟨xr, xk, xn, xp, xsy, xpl⟩, .slice so xsy.length sc, .slice po xpl.length pc, pl⟩ (xsy.length + 1) 0 = SZ at HR2
        have HSZ := hid hSZ
        clear hSZ
        go_wp2_with fail
        go_loopw [8] (fun x8 wr => ∃ (j f : Nat), x8 = .int .i64 j ∧ wr = wc ∧ j ≤ xsy.length ∧ xsy.length + 1 ≤ f + j ∧ symZL X ⟨⟨xr, xk, xn, xp, xsy, xpl⟩, .slice so xsy.length sc, .slice po xpl.length pc, pl⟩ f j = SZ)
            (fun x _ => 1001 - (intOf x).toNat)
        case atStart => exact ⟨0, xsy.length + 1, rfl, by first | rfl | trivial, by omega, by omega, HSZ.out⟩
        case round =>
          obtain ⟨j, f, rfl, rfl, hj, hf, hrec⟩ := hrel
          obtain ⟨f, rfl⟩ : ∃ k, f = k + 1 := ⟨f - 1, by omega⟩
          rw [symZL_s] at hrec
          clear HSZ
          dsimp only at hrec
          have hzs := HZ.out.small
          dsimp only at hzs
          by_cases hjl : j < xsy.length
          · have k1 : (j : Int) < (xsy.length : Int) := by omega
            rw [List.getElem?_eq_getElem hjl] at hrec
            dsimp only at hrec
            obtain ⟨gs, cs, hvs⟩ := Joins.ownsRow_form HAW.out.syms (by dsimp only; omega)
            rw [Value.slice.injEq] at hvs
            obtain ⟨rfl, _, rfl⟩ := hvs
            have hcs : wr.cell? ⟨gs, j, none⟩ = some (.string xsy[j]) := by
              have := HAW.out.syms.cells (g := gs) rfl j (.string xsy[j]) (by simp [hjl])
              rwa [Addr.add_mid, Nat.zero_add] at this
            have hsz := HZ.out.ne xsy[j] (by simp)
            have NX := hid (NU.out wr HF2.out xsy[j] hsz)
            generalize numF X xsy[j] = nn at NX hrec
            by_cases hn0 : nn < 0
            · rw [if_pos hn0] at hrec
              have hlp := HZ.out.len
              dsimp only at hlp
              have hjp : j < xpl.length := by omega
              have k2 : (j : Int) < (xpl.length : Int) := by omega
              obtain ⟨gp, cp, hvp⟩ := Joins.ownsRow_form HAW.out.places (by dsimp only; omega)
              rw [Value.slice.injEq] at hvp
              obtain ⟨rfl, _, rfl⟩ := hvp
              have hcp : wr.cell? ⟨gp, j, none⟩ = some (.int .i64 xpl[j]) := by
                have := HAW.out.places.cells (g := gp) rfl j (.int .i64 xpl[j]) (by simp [hjp])
                rwa [Addr.add_mid, Nat.zero_add] at this
              have hp1 := HZ.out.pl
              have hp2 := HZ.out.pls xpl[j] (by simp)
              dsimp only at hp1
              have hgd : xpl.getD j 0 = xpl[j] := by simp [hjp]
              rw [hgd] at hrec
              clear hgd hlp
              have HR3 : Hid (pl + xpl[j] = R) := by
                have := HR2.out
                rw [← hrec] at this; exact this
              clear hrec
              generalize xpl[j] = q at hcp hp2 HR3
              go_wp2_with (first
                | (go_at_call 18; refine (NX.out).mono ?_; rintro e w' ⟨rfl, hw⟩; rw [hw]; clear hw))
              go_quiet (fail)
              go_wp2
              go_ret
              refine ⟨?_, HF2.out.trans (fdrewZ _ _)⟩
              rw [← HR3.out]; rfl
            · rw [if_neg hn0] at hrec
              have HR3 := hid hrec
              clear hrec
              go_wp2_with (first
                | (go_at_call 18; refine (NX.out).mono ?_; rintro e w' ⟨rfl, hw⟩; rw [hw]; clear hw))
              go_roundw
              case rel => exact ⟨j + 1, f, by go_num, by first | rfl | trivial, by omega, by omega, HR3.out⟩
              case measure => simp [intOf]; omega
          · have k1 : ¬ (j : Int) < (xsy.length : Int) := by omega
            rw [List.getElem?_eq_none (by omega)] at hrec
            have HR3 : Hid (namesL X (xs.drop (i + 1)) ah2 = R) := by
              have := HR2.out
              rw [← hrec] at this; exact this
            clear hrec
            go_wp2
            go_roundw
            case rel => exact ⟨i + 1, ah2, by go_num, by omega, hal2, HR3.out, HO2.out, HF2.out⟩
            case measure => exact hME.out
    · have hk1 : ¬ (i : Int) < (xs.length : Int) := by omega
      rw [List.drop_eq_nil_of_le (by omega), namesL] at hrec
      have HREC := hid hrec
      clear hrec
      go_wp2
      go_ret
      exact ⟨by rw [← HREC.out]; rfl, HF.out⟩
end Go.Proofs.Ytjcknghdgfcboaa
