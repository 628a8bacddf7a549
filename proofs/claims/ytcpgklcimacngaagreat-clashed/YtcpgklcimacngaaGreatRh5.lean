import Derived.Test.YtcpgklcimacngaaGreatRh4
import Derived.Test.YtcpgklcimacngaaGreatRm3
import Derived.Test.YtcpgklcimacngaaGreatRg1
namespace Go.Proofs.YtcpgklcimacngaaGreat
open Go.RowKit
set_option linter.unusedVariables false
set_option linter.unusedSimpArgs false

def rNumL (rs : List ZLV) (s : ByteArray) : Nat → Nat → Int
  | 0, _ => -1
  | f + 1, i => match rs[i]? with
    | none => -1
    | some x => if (x.ln.name.toList == s.toList) = true then (if x.ln.skip = true then -1 else (i : Int)) else rNumL rs s f (i + 1)
def numF (X : SP) (s : ByteArray) : Int :=
  if isCapB (atB s 0) = true then (if findF X.heads s < 0 then -1 else (X.rules.length : Int) + 1 + findF X.heads s)
  else rNumL X.rules s (X.rules.length + 1) 0
theorem rNumL_s (rs : List ZLV) (s : ByteArray) (f i : Nat) : rNumL rs s (f + 1) i = match rs[i]? with
    | none => -1
    | some x => if (x.ln.name.toList == s.toList) = true then (if x.ln.skip = true then -1 else (i : Int)) else rNumL rs s f (i + 1) := rfl
theorem SPAt.rules {w : World} {b : Nat} {X : SP} {v0 v1 v2 v3 v4 : Value} {sv : List Value} (h : SPAt w b X v0 v1 v2 v3 v4 sv) : RowAt ZLV.cells 7 64 w v0 X.rules := ⟨ownsRow_base (h.own 0 _ rfl) (Nat.zero_le _), fun x _ => rfl⟩
theorem SPAt.prods {w : World} {b : Nat} {X : SP} {v0 v1 v2 v3 v4 : Value} {sv : List Value} (h : SPAt w b X v0 v1 v2 v3 v4 sv) : RowAt ZLV.cells 7 64 w v1 X.prods := ⟨ownsRow_base (h.own 1 _ rfl) (Nat.zero_le _), fun x _ => rfl⟩
theorem zfindF_bd (l : List ByteArray) (s : ByteArray) : -1 ≤ findF l s ∧ findF l s ≤ l.length := by unfold findF; split <;> omega

set_option maxRecDepth 20000 in
set_option maxHeartbeats 1000000 in
theorem znumber_any (w : World) (b : Nat) (X : SP) (v0 v1 v2 v3 v4 : Value) (sv : List Value) (s : ByteArray) (h : SPAt w b X v0 v1 v2 v3 v4 sv) (hs : 0 < s.size) (hr : X.rules.length ≤ 1000) (hh : X.heads.length ≤ 1000) :
    Calls Tryz.prog 20 #[.pointer (some ⟨b, 0, none⟩), .string s] w fun e w' => e = .returned (.int .i64 (numF X s)) ∧ w' = w := by
  have hb := atB_ix hs
  have hbl : s[0].toNat < 256 := s[0].toNat_lt
  have ZG := hid (fun w => zgreat_any (s[0].toNat : Int) w)
  have FI := hid (fun w => zfind_any X.heads s v2 w)
  have k0 := SPAt.cell h 0
  have k2 := SPAt.cell h 2
  simp at k0 k2
  have hso := strsAt_own (h.own 2 _ rfl)
  have FX := hid (zfind_any X.heads s v2 w hso hh)
  have fb := zfindF_bd X.heads s
  unfold numF
  have hb0 : atB s 0 = (s[0].toNat : Int) := hb
  rw [hb0]
  generalize isCapB (s[0].toNat : Int) = cp at ZG ⊢
  have hpos : (0 : Int) < (s.size : Int) := by omega
  obtain ⟨a0, cp0, hv0⟩ := own_form (h.own 0 _ rfl)
  obtain ⟨a2, cp2, hv2⟩ := own_form (h.own 2 _ rfl)
  have HRW := hid h.rules
  dsimp only at hv0 hv2
  subst hv0 hv2
  clear hb hb0 h hso FI
  cases cp
  · rw [if_neg (by simp)]
    generalize hV : rNumL X.rules s (X.rules.length + 1) 0 = V
    have HV := hid hV
    clear hV FX fb
    go_enter Tryz.func20, Tryz.ntmps20
    go_wp2_with (first
      | (go_at_call 43; refine (ZG.out _).mono ?_; rintro e w' ⟨rfl, hw⟩; rw [hw]; clear hw))
    go_loopw [6] (fun x6 wr => ∃ (i f : Nat), x6 = .int .i64 i ∧ wr = w ∧ i ≤ X.rules.length ∧ X.rules.length + 1 ≤ f + i ∧ rNumL X.rules s f i = V)
        (fun x _ => 1001 - (intOf x).toNat)
    case atStart => exact ⟨0, X.rules.length + 1, rfl, rfl, by omega, by omega, HV.out⟩
    case round =>
      obtain ⟨i, f, rfl, rfl, hi, hf, hrec⟩ := hrel
      obtain ⟨f, rfl⟩ : ∃ g, f = g + 1 := ⟨f - 1, by omega⟩
      rw [rNumL_s] at hrec
      clear HV
      by_cases hlt : i < X.rules.length
      · have k1 : (i : Int) < (X.rules.length : Int) := by omega
        rw [List.getElem?_eq_getElem hlt] at hrec
        obtain ⟨g, cap', hv⟩ := Joins.ownsRow_form HRW.out.own (by omega)
        rw [Value.slice.injEq] at hv
        obtain ⟨rfl, _, rfl⟩ := hv
        have c1 := HRW.out.cell i 1 hlt (by omega)
        have c2 := HRW.out.cell i 2 hlt (by omega)
        generalize X.rules[i] = x at hrec c1 c2
        obtain ⟨⟨xr, xk, xn, xp, xsy, xpl⟩, vs, vp, pl⟩ := x
        simp [ZLV.cells] at c1 c2
        dsimp only at hrec
        cases h1 : (xn.toList == s.toList)
        · rw [h1, if_neg (by simp)] at hrec
          have HR := hid hrec
          clear hrec
          go_wp2
          go_roundw
          case rel => exact ⟨i + 1, f, by go_num, by first | rfl | trivial, by omega, by omega, HR.out⟩
          case measure => simp [intOf]; omega
        · rw [h1, if_pos rfl] at hrec
          cases xk
          · rw [if_neg (by simp)] at hrec
            have HR := hid hrec
            clear hrec
            go_wp2
            go_ret
            exact ⟨by rw [← HR.out]; rfl, rfl⟩
          · rw [if_pos rfl] at hrec
            have HR := hid hrec
            clear hrec
            go_wp2
            go_ret
            exact ⟨by rw [← HR.out]; rfl, rfl⟩
      · have k1 : ¬ (i : Int) < (X.rules.length : Int) := by omega
        rw [List.getElem?_eq_none (by omega)] at hrec
        have HR := hid hrec
        clear hrec
        go_wp2
        go_ret
        exact ⟨by rw [← HR.out]; rfl, rfl⟩
  · rw [if_pos rfl]
    generalize findF X.heads s = fd at FX fb ⊢
    obtain ⟨fb1, fb2⟩ := fb
    by_cases hf : fd < 0
    · rw [if_pos hf]
      go_enter Tryz.func20, Tryz.ntmps20
      go_wp2_with (first
        | (go_at_call 43; refine (ZG.out _).mono ?_; rintro e w' ⟨rfl, hw⟩; rw [hw]; clear hw)
        | (go_at_call 41; refine (FX.out).mono ?_; rintro e w' ⟨rfl, hw⟩; rw [hw]; clear hw))
      go_ret
      exact ⟨rfl, rfl⟩
    · rw [if_neg hf]
      go_enter Tryz.func20, Tryz.ntmps20
      go_wp2_with (first
        | (go_at_call 43; refine (ZG.out _).mono ?_; rintro e w' ⟨rfl, hw⟩; rw [hw]; clear hw)
        | (go_at_call 41; refine (FX.out).mono ?_; rintro e w' ⟨rfl, hw⟩; rw [hw]; clear hw))
      go_ret
      exact ⟨rfl, rfl⟩

def symZL (X : SP) (x : ZLV) : Nat → Nat → Option Int
  | 0, _ => none
  | f + 1, j => match x.ln.syms[j]? with
    | none => none
    | some n => if numF X n < 0 then some (x.pl + x.ln.places.getD j 0) else symZL X x f (j + 1)
theorem symZL_s (X : SP) (x : ZLV) (f j : Nat) : symZL X x (f + 1) j = match x.ln.syms[j]? with
    | none => none
    | some n => if numF X n < 0 then some (x.pl + x.ln.places.getD j 0) else symZL X x f (j + 1) := rfl
def namesL (X : SP) : List ZLV → List ByteArray → Int
  | [], _ => -1
  | x :: l, ahead =>
    if x.ln.rule = true ∧ 0 ≤ findF ahead x.ln.name then x.pl
    else match symZL X x (x.ln.syms.length + 1) 0 with
      | some p => p
      | none => namesL X l (if x.ln.rule = true then ahead ++ [x.ln.name] else ahead)
structure ZOk (x : ZLV) : Prop where
  ne : ∀ n ∈ x.ln.syms, 0 < n.size
  len : x.ln.places.length = x.ln.syms.length
  small : x.ln.syms.length ≤ 1000
  pl : 0 ≤ x.pl ∧ x.pl ≤ 1000
  pls : ∀ p ∈ x.ln.places, 0 ≤ p ∧ p ≤ 1000
end Go.Proofs.YtcpgklcimacngaaGreat
namespace Go.Proofs.YtcpgklcimacngaaGreat
open Go.RowKit
set_option linter.unusedVariables false
set_option linter.unusedSimpArgs false

set_option maxRecDepth 20000 in
set_option maxHeartbeats 4000000 in
theorem znames_any (w : World) (b B0 : Nat) (X : SP) (v0 v1 v2 v3 v4 v : Value) (sv : List Value) (xs : List ZLV) (h : SPAt w b X v0 v1 v2 v3 v4 sv) (hL : ZLinesAt B0 w v xs) (hr : X.rules.length ≤ 1000) (hh : X.heads.length ≤ 1000) (hn : xs.length ≤ 1000) (hok : ∀ x ∈ xs, ZOk x) :
    Calls Tryz.prog 18 #[.pointer (some ⟨b, 0, none⟩), v] w fun e w' => e = .returned (.int .i64 (namesL X xs [])) ∧ Fresh w w' := by
  obtain ⟨i0, hi0, hz0, hz1, hz2⟩ := infoStr'
  have NU := hid (fun (w' : World) (hf : Fresh w w') (s : ByteArray) (hs : 0 < s.size) => znumber_any w' b X v0 v1 v2 v3 v4 sv s (h.fresh hf) hs hr hh)
  have HL := hid (fun w' (hf : Fresh w w') => hL.kept hf (fun _ _ x => x))
  have HOK := hid hok
  obtain ⟨ao, cap, hv⟩ := own_form hL.own
  subst hv
  generalize hR : namesL X xs [] = R
  have HR := hid hR
  clear hL hR h hok
  go_enter Tryz.func18, Tryz.ntmps18
  go_wp2
  go_loopw [5, 6] (fun x5 x6 wr => ∃ (i : Nat) (ah : List ByteArray), x6 = .int .i64 i ∧ i ≤ xs.length ∧ ah.length ≤ i ∧ namesL X (xs.drop i) ah = R ∧ wr.ownsRow w.heap.size 9 1 x5 ah.length (strs ah) ∧ Fresh w wr)
      (fun _ x _ => 1001 - (intOf x).toNat)
  case atStart => exact ⟨0, [], rfl, by omega, by simp, HR.out, World.ownsRow_nil _ _ _ _, Mod.refl _ _⟩
  case round =>
    obtain ⟨i, ah, rfl, hi, hal, hrec, hown, hfr⟩ := hrel
    clear HR
    have HLw := hid (HL.out wr hfr)
    have HF := hid hfr
    have HO := hid hown
    have hME : Hid (1001 - (intOf (.int .i64 ((i : Int) + 1))).toNat < 1001 - (intOf (.int .i64 (i : Int))).toNat) := by unfold Hid; simp [intOf]; omega
    obtain ⟨aa, ca, hva⟩ := own_form hown
    subst hva
    by_cases hlt : i < xs.length
    · have hk1 : (i : Int) < (xs.length : Int) := by omega
      obtain ⟨g, cap', hv⟩ := Joins.ownsRow_form HLw.out.own (by omega)
      rw [Value.slice.injEq] at hv
      obtain ⟨rfl, _, rfl⟩ := hv
      rw [List.drop_eq_getElem_cons hlt, namesL] at hrec
      have hxA := HLw.out.each xs[i] (by simp)
      have hzo := HOK.out xs[i] (by simp)
      have HAX := hid (fun (W : World) (hW : Fresh w W) => (HL.out W hW).each xs[i] (by simp))
      have hcl := fun (W : World) (hW : Fresh w W) j hj => (HL.out W hW).row.cell i j hlt hj
      generalize hx : xs[i] = x at hrec hxA hcl hzo HAX
      obtain ⟨⟨xr, xk, xn, xp, xsy, xpl⟩, vs, vp, pl⟩ := x
      obtain ⟨so, sc, hvs⟩ := own_form hxA.syms
      obtain ⟨po, pc, hvp⟩ := own_form hxA.places
      dsimp only at hvs hvp
      subst hvs hvp
      have HC : Hid (∀ W, Fresh w W → W.cell? ⟨g, i * 7, none⟩ = some (.bool xr) ∧ W.cell? ⟨g, i * 7 + 2, none⟩ = some (.string xn) ∧ W.cell? ⟨g, i * 7 + 4, none⟩ = some (.slice so xsy.length sc) ∧ W.cell? ⟨g, i * 7 + 5, none⟩ = some (.slice po xpl.length pc) ∧ W.cell? ⟨g, i * 7 + 6, none⟩ = some (.int .i64 pl)) := fun W hW => by
        exact ⟨hcl W hW 0 (by omega), hcl W hW 2 (by omega), hcl W hW 4 (by omega), hcl W hW 5 (by omega), hcl W hW 6 (by omega)⟩
      obtain ⟨c0, c2, c4, c5, c6⟩ := HC.out wr hfr
      have FI := hid (zfind_any ah xn _ wr (strsAt_own hown) (by omega))
      have fb := zfindF_bd ah xn
      dsimp only at hrec
      have HREC := hid hrec
      have HZ := hid hzo
      have hgl := (HLw.out.own.lt g rfl).2
      clear hrec hxA hcl hx hfr hown hzo
      go_upto_if 20 with fail
      go_cut [5, 7] (fun x5 _ wx => ∃ ah2, ah2.length ≤ i + 1 ∧ (¬ (xr = true ∧ 0 ≤ findF ah xn)) ∧ ah2 = (if xr = true then ah ++ [xn] else ah) ∧ wx.ownsRow w.heap.size 9 1 x5 ah2.length (strs ah2) ∧ Fresh w wx)
      case first =>
        cases xr
        · go_wp2_with fail
          go_meet
          exact ⟨ah, by omega, by simp, rfl, HO.out, HF.out⟩
        · generalize hfd : findF ah xn = fd at FI fb HREC
          have HFD := hid hfd
          clear hfd
          obtain ⟨fb1, fb2⟩ := fb
          by_cases hf : 0 ≤ fd
          · have HR2 : Hid (pl = R) := by
              have := HREC.out
              rw [if_pos ⟨rfl, hf⟩] at this; exact this
            clear HREC
            go_wp2_with (first
              | (go_at_call 41; refine (FI.out).mono ?_; rintro e w' ⟨rfl, hw⟩; rw [hw]; clear hw))
            go_ret
            exact ⟨by rw [← HR2.out]; rfl, HF.out⟩
          · have hf1 : fd = -1 := by omega
            subst hf1
            go_wp2_with (first
              | (go_at_call 41; refine (FI.out).mono ?_; rintro e w' ⟨rfl, hw⟩; rw [hw]; clear hw)
              | (at_builtin; refine wpList_append_mine _ rfl _ _ 58 rfl w.heap.size 9 i0 _ 1 16 Tryz.underlying58 hi0 hz0 hz1 hz2 rfl (by decide) _ _ _ rfl (HO.out.alloc _) ⟨wr.heap.size, 0, none⟩ 1 1 [.string xn] rfl rfl (new_cells rfl) (by intro u hu; simp at hu; subst hu; rfl) (by unfold maxLen; omega) (by omega) (by have := HF.out.size; simp; omega) ?_; intro v' w2 hown2 hgrow hblk; have fr2 : Fresh w w2 := Mod.grown (S := fun _ => False) (HF.out.alloc _) hgrow (fun k hk hlt => by have := (HO.out.lt k hk).1; omega); have HO2 := hid hown2; have HF2 := hid fr2; clear hown2 hgrow hblk fr2))
            go_meet
            refine ⟨ah ++ [xn], by simp; omega, by rw [HFD.out]; simp, by simp, ?_, HF2.out⟩
            rw [List.length_append, List.length_singleton]
            have e1 := List.map_append (f := Value.string) (l₁ := ah) (l₂ := [xn])
            rw [List.map_singleton] at e1
            show World.ownsRow _ _ _ _ _ _ (List.map _ _)
            rw [e1]; exact HO2.out
      case rest =>
        obtain ⟨ah2, hal2, hno, hah, hown2, hfr2⟩ := hcut
        have HR2 : Hid ((match symZL X ⟨⟨xr, xk, xn, xp, xsy, xpl⟩, .slice so xsy.length sc, .slice po xpl.length pc, pl⟩ (xsy.length + 1) 0 with | some p => p | none => namesL X (xs.drop (i + 1)) ah2) = R) := by
          have := HREC.out
          rw [if_neg hno, ← hah] at this; exact this
        have HO2 := hid hown2
        have HF2 := hid hfr2
        obtain ⟨ab, cb, hvb⟩ := own_form hown2
        obtain ⟨d0, d2, d4, d5, d6⟩ := HC.out wc hfr2
        have hgc : g < wc.heap.size := ((HL.out wc hfr2).own.lt g rfl).2
        have HAW := hid (HAX.out wc hfr2)
        clear HREC c0 c2 c4 c5 c6 FI fb hno hah hown2 hfr2 HO HF HLw hgl HC HAX
        subst hvb
        generalize hSZ : symZL X ⟨⟨xr, xk, xn, xp, xsy, xpl⟩, .slice so xsy.length sc, .slice po xpl.length pc, pl⟩ (xsy.length + 1) 0 = SZ at HR2
        have HSZ := hid hSZ
        clear hSZ
        go_wp2_with fail
        go_loopw [8] (fun x8 wr => ∃ (j f : Nat), x8 = .int .i64 j ∧ wr = wc ∧ j ≤ xsy.length ∧ xsy.length + 1 ≤ f + j ∧ symZL X ⟨⟨xr, xk, xn, xp, xsy, xpl⟩, .slice so xsy.length sc, .slice po xpl.length pc, pl⟩ f j = SZ)
            (fun x _ => 1001 - (intOf x).toNat)
        case atStart => exact ⟨0, xsy.length + 1, rfl, by first | rfl | trivial, by omega, by omega, HSZ.out⟩
        case round =>
          obtain ⟨j, f, rfl, rfl, hj, hf, hrec⟩ := hrel
          obtain ⟨f, rfl⟩ : ∃ k, f = k + 1 := ⟨f - 1, by omega⟩
          rw [symZL_s] at hrec
          clear HSZ
          dsimp only at hrec
          have hzs := HZ.out.small
          dsimp only at hzs
          by_cases hjl : j < xsy.length
          · have k1 : (j : Int) < (xsy.length : Int) := by omega
            rw [List.getElem?_eq_getElem hjl] at hrec
            dsimp only at hrec
            obtain ⟨gs, cs, hvs⟩ := Joins.ownsRow_form HAW.out.syms (by dsimp only; omega)
            rw [Value.slice.injEq] at hvs
            obtain ⟨rfl, _, rfl⟩ := hvs
            have hcs : wr.cell? ⟨gs, j, none⟩ = some (.string xsy[j]) := by
              have := HAW.out.syms.cells (g := gs) rfl j (.string xsy[j]) (by simp [hjl])
              rwa [Addr.add_mid, Nat.zero_add] at this
            have hsz := HZ.out.ne xsy[j] (by simp)
            have NX := hid (NU.out wr HF2.out xsy[j] hsz)
            generalize numF X xsy[j] = nn at NX hrec
            by_cases hn0 : nn < 0
            · rw [if_pos hn0] at hrec
              have hlp := HZ.out.len
              dsimp only at hlp
              have hjp : j < xpl.length := by omega
              have k2 : (j : Int) < (xpl.length : Int) := by omega
              obtain ⟨gp, cp, hvp⟩ := Joins.ownsRow_form HAW.out.places (by dsimp only; omega)
              rw [Value.slice.injEq] at hvp
              obtain ⟨rfl, _, rfl⟩ := hvp
              have hcp : wr.cell? ⟨gp, j, none⟩ = some (.int .i64 xpl[j]) := by
                have := HAW.out.places.cells (g := gp) rfl j (.int .i64 xpl[j]) (by simp [hjp])
                rwa [Addr.add_mid, Nat.zero_add] at this
              have hp1 := HZ.out.pl
              have hp2 := HZ.out.pls xpl[j] (by simp)
              dsimp only at hp1
              have hgd : xpl.getD j 0 = xpl[j] := by simp [hjp]
              rw [hgd] at hrec
              clear hgd hlp
              have HR3 : Hid (pl + xpl[j] = R) := by
                have := HR2.out
                rw [← hrec] at this; exact this
              clear hrec
              generalize xpl[j] = q at hcp hp2 HR3
              go_wp2_with (first
                | (go_at_call 20; refine (NX.out).mono ?_; rintro e w' ⟨rfl, hw⟩; rw [hw]; clear hw))
              go_quiet (fail)
              go_wp2
              go_ret
              refine ⟨?_, HF2.out.trans (fdrewZ _ _)⟩
              rw [← HR3.out]; rfl
            · rw [if_neg hn0] at hrec
              have HR3 := hid hrec
              clear hrec
              go_wp2_with (first
                | (go_at_call 20; refine (NX.out).mono ?_; rintro e w' ⟨rfl, hw⟩; rw [hw]; clear hw))
              go_roundw
              case rel => exact ⟨j + 1, f, by go_num, by first | rfl | trivial, by omega, by omega, HR3.out⟩
              case measure => simp [intOf]; omega
          · have k1 : ¬ (j : Int) < (xsy.length : Int) := by omega
            rw [List.getElem?_eq_none (by omega)] at hrec
            have HR3 : Hid (namesL X (xs.drop (i + 1)) ah2 = R) := by
              have := HR2.out
              rw [← hrec] at this; exact this
            clear hrec
            go_wp2
            go_roundw
            case rel => exact ⟨i + 1, ah2, by go_num, by omega, hal2, HR3.out, HO2.out, HF2.out⟩
            case measure => exact hME.out
    · have hk1 : ¬ (i : Int) < (xs.length : Int) := by omega
      rw [List.drop_eq_nil_of_le (by omega), namesL] at hrec
      have HREC := hid hrec
      clear hrec
      go_wp2
      go_ret
      exact ⟨by rw [← HREC.out]; rfl, HF.out⟩
end Go.Proofs.YtcpgklcimacngaaGreat
namespace Go.Proofs.YtcpgklcimacngaaGreat
open Go.RowKit
set_option linter.unusedVariables false
set_option linter.unusedSimpArgs false

abbrev Pc (s : ByteArray) : Int → LR := lPiece (lAtom (lgK s 6) s) s
abbrev Am (s : ByteArray) : Int → LR := lAtom (lgK s 6) s
def PatIs (p : ByteArray) (L : Lang) : Prop := lchK p 6 0 = ⟨p.size, true, L⟩
def PceIs (p : ByteArray) (L : Lang) : Prop := Pc p 0 = ⟨p.size, true, L⟩
def AtmIs (p : ByteArray) (L : Lang) : Prop := Am p 0 = ⟨p.size, true, L⟩
theorem zatm_all (p : ByteArray) (hp : p.size ≤ 80000) : AtmC p 0 (zAtom (zgK p 6) p) := zatom_any p 6 0 hp (by omega) (fun k' e => zpat_all p hp k' 1 (by omega))
theorem zpce_all (p : ByteArray) (hp : p.size ≤ 80000) : PceC p 0 (zPiece (zAtom (zgK p 6) p) p) := zpiece_any p 6 0 hp (zatm_all p hp)
theorem lg_pc (s : ByteArray) : LGoodF s (Pc s) := lg_piece s 6
theorem lg_am (s : ByteArray) : LGoodF s (Am s) := lg_atom s 6
theorem loc_pce (s s' : ByteArray) : Loc s s' (Pc s) (Pc s') := loc_piece (loc_atom (loc_gK s s' 6 6 (Nat.le_refl _)) (lg_atom s 6)) (lg_atom s 6)
theorem loc_am (s s' : ByteArray) : LocA s s' (Am s) (Am s') := loc_atom (loc_gK s s' 6 6 (Nat.le_refl _)) (lg_atom s 6)
theorem alike_cut {s : ByteArray} {a e : Nat} (he : e ≤ s.size) {x : Int} (h0 : 0 ≤ x) : Alike s (a + x) (s.extract a e) x (e - a - x.toNat) := fun j hj => by
  rw [atB_part he (by omega) (by omega)]
  congr 1; omega
theorem cut_size {s : ByteArray} {a e : Nat} (he : e ≤ s.size) : (s.extract a e).size = e - a := by rw [ByteArray.size_extract]; omega
/-- a piece by itself -/
theorem pce_cut {u : ByteArray} {i j : Nat} {A : Lang} (h : Pc u i = ⟨(j : Int), true, A⟩) (hi : i ≤ u.size) : PceIs (u.extract i j) A ∧ i < j ∧ j ≤ u.size := by
  have g := lg_pc u i (by omega) (by omega) (by rw [h])
  rw [h] at g
  dsimp only at g
  have hsz := cut_size (s := u) (a := i) (e := j) (by omega)
  refine ⟨?_, by omega, by omega⟩
  have al := alike_cut (s := u) (a := i) (e := j) (by omega) (x := 0) (by omega)
  rw [Int.add_zero] at al
  have sm := loc_pce u (u.extract i j) i 0 (j - i) (by omega) (by omega) (by omega) al (by rw [atB_out (by omega)]; decide) (by rw [h]) (by rw [h]; dsimp only; omega)
  unfold PceIs
  rw [lr_eta sm.ok, sm.next, sm.lang, h]
  dsimp only
  congr 1; omega
/-- an atom by itself -/
theorem atm_cut {q : ByteArray} {n : Nat} {A : Lang} (h : Am q 0 = ⟨(n : Int), true, A⟩) : AtmIs (q.extract 0 n) A ∧ 0 < n ∧ n ≤ q.size := by
  have g := lg_am q 0 (by omega) (by omega) (by rw [h])
  rw [h] at g
  dsimp only at g
  have hsz := cut_size (s := q) (a := 0) (e := n) (by omega)
  refine ⟨?_, by omega, by omega⟩
  have al := alike_cut (s := q) (a := 0) (e := n) (by omega) (x := 0) (by omega)
  have sm := loc_am q (q.extract 0 n) 0 0 (n - 0) (by omega) (by omega) (by omega) al (by rw [h]) (by rw [h]; dsimp only; omega)
  unfold AtmIs
  rw [lr_eta sm.ok, sm.next, sm.lang, h]
  dsimp only
  congr 1; omega
/-- what stands in brackets, by itself -/
theorem grp_cut {a : ByteArray} {A : Lang} (h : AtmIs a A) (h40 : atB a 0 = 40) : PatIs (a.extract 1 (a.size - 1)) A ∧ 3 ≤ a.size := by
  unfold AtmIs Am lAtom at h
  rw [if_pos h40] at h
  have h' : lGroup (lchK a 5) a 0 = ⟨a.size, true, A⟩ := h
  unfold lGroup at h'
  by_cases c1 : (lchK a 5 (0 + 1)).ok = false
  · rw [if_pos c1] at h'; injection h' with _ e; cases e
  · rw [if_neg c1] at h'
    have hok : (lchK a 5 1).ok = true := by simpa using c1
    by_cases c2 : atB a (lchK a 5 (0 + 1)).next ≠ 41
    · rw [if_pos c2] at h'; injection h' with _ e; cases e
    · rw [if_neg c2] at h'
      injection h' with e1 _ e3
      have hn : (lchK a 5 ((1 : Nat) : Int)).next + 1 = a.size := e1
      have hin := atB_lt (s := a) (i := 0) (by omega)
      have g := lg_chK a 5 ((1 : Nat) : Int) (by omega) (by omega) hok
      have hsz := cut_size (s := a) (a := 1) (e := a.size - 1) (by omega)
      refine ⟨?_, by omega⟩
      have al := alike_cut (s := a) (a := 1) (e := a.size - 1) (by omega) (x := 0) (by omega)
      rw [Int.add_zero] at al
      have sm := loc_chK a (a.extract 1 (a.size - 1)) (show 5 ≤ 6 by omega) ((1 : Nat) : Int) 0 (a.size - 1 - 1) (by omega) (by omega) (by omega) al (by rw [atB_out (by omega)]; decide) hok (by omega)
      unfold PatIs
      rw [lr_eta sm.ok, sm.next, sm.lang]
      have e3' : (lchK a 5 ((1 : Nat) : Int)).lang = A := e3
      rw [e3']
      congr 1; omega
theorem row_le {s : ByteArray} : ∀ {As : List Lang} {x y : Int}, Row (Pc s) x As y → 0 ≤ x → x ≤ s.size → x ≤ y ∧ y ≤ s.size
  | [], x, y, h, _, h1 => by have : x = y := h; omega
  | A :: As, x, y, ⟨h1, h2, h3⟩, h0, hs => by
    have g := lg_pc s x h0 hs h1
    have := row_le h3 (by omega) (by omega)
    omega
theorem row_cut {p : ByteArray} {b x : Nat} (hx : x ≤ p.size) : ∀ {As : List Lang} {y : Int}, Row (Pc p) y As x → (b : Int) ≤ y → Row (Pc (p.extract b x)) (y - b) As ((x : Int) - b)
  | [], y, h, hb => by have : y = x := h; show y - b = (x : Int) - b; omega
  | A :: As, y, ⟨h1, h2, h3⟩, hb => by
    have hy : y < p.size := by
      have := atB_lt (s := p) (i := y) (beg_in (piece_begins h1)); omega
    have g := lg_pc p y (by omega) (by omega) h1
    have hle := row_le h3 (by omega) (by omega)
    have hsz := cut_size (s := p) (a := b) (e := x) hx
    have al := alike_cut (s := p) (a := b) (e := x) hx (x := y - b) (by omega)
    rw [show (b : Int) + (y - b) = y by omega] at al
    have sm := loc_pce p (p.extract b x) y (y - b) (x - b - (y - b).toNat) (by omega) (by omega) (by omega) al (by rw [atB_out (by omega)]; decide) h1 (by omega)
    refine ⟨sm.ok, by rw [sm.lang]; exact h2, ?_⟩
    rw [sm.next, show (Pc p y).next - y + (y - (b : Int)) = (Pc p y).next - b by omega]
    exact row_cut hx h3 (by omega)

set_option maxRecDepth 20000 in
set_option maxHeartbeats 2000000 in
theorem zone_any (a : ByteArray) (A : Lang) (hs : a.size ≤ 1000) (h : AtmIs a A) (ih : ∀ p L, p.size + 2 ≤ a.size → PatIs p L → SetC 64 p L) : SetC 97 a A := by
  by_cases h40 : atB a 0 = 40
  · obtain ⟨hp, h3⟩ := grp_cut h h40
    have hsz := cut_size (s := a) (a := 1) (e := a.size - 1) (by omega)
    have TH := ih _ A (by omega) hp
    intro t g fs w ht hg hl
    have TX := hid (TH t g fs w ht hg hl)
    have hpos : 0 < a.size := by omega
    have b0 : atB a 0 = (a[0].toNat : Int) := atB_ix hpos
    have hl0 : a[0].toNat < 256 := a[0].toNat_lt
    rw [b0] at h40
    have k40 : ((a[0].toNat : Int) == 40) = true := by simp [h40]
    have p0 : (0 : Int) < (a.size : Int) := by omega
    have p1 : (1 : Int) ≤ (a.size : Int) - 1 := by omega
    have p2 : (a.size : Int) - 1 ≤ (a.size : Int) := by omega
    have p3 : ((a.size : Int) - 1).toNat = a.size - 1 := by omega
    clear hg hl b0 h40 h hp TH ih
    go_enter Tryz.func97, Tryz.ntmps97
    go_wp2_with (first
      | (go_at_call 64; refine (TX.out).mono ?_; rintro e w1 ⟨g', gs, rfl, q⟩; have HQ := hid q; clear q))
    go_ret
    exact ⟨g', gs, rfl, HQ.out⟩
  · unfold AtmIs Am lAtom at h
    rw [if_neg h40] at h
    by_cases c : (rSet a 0).2.2 = false
    · rw [if_pos c] at h; injection h with _ e; cases e
    · rw [if_neg c] at h
      injection h with e1 _ e3
      have := zone_byte a (by omega) h40 (by simpa using c) e1
      rw [e3] at this; exact this
end Go.Proofs.YtcpgklcimacngaaGreat
