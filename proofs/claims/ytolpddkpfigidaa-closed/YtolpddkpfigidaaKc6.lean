import Derived.Test.YtolpddkpfigidaaKc5
import Derived.Test.YtolpddkpfigidaaMu3
namespace Go.Proofs.Ytolpddkpfigidaa
open Go.RowKit
set_option linter.unusedVariables false
set_option linter.unusedSimpArgs false

def cntT (l : List Bool) : Nat := (l.filter fun b => b).length
structure ClosedOk (svs : List SV) (nR : Nat) (head : List Int) (syms : List (List Int)) : Prop where
  bR : nR ≤ 900
  bH : svs.length ≤ 1000
  bP : syms.length ≤ 1000
  pos : 0 < svs.length
  hl : head.length = syms.length
  ne : 0 < syms.length
  ris : ∀ s ∈ svs, Rises (listT s.hd.fi) nR ∧ Rises (listT s.hd.fo) (nR + 1)
  sl : ∀ l ∈ syms, l.length ≤ 1000
  so : ∀ l ∈ syms, ∀ s ∈ l, SymOk nR svs.length s
  hd : ∀ p (h : p < head.length), ∃ q : Nat, q < svs.length ∧ head[p] = (q : Int)
  start : ∀ s, svs[0]? = some s → s.hd.rch = true ∧ (listT s.hd.fo).any (· == (nR : Int)) = true
  un1 : ∀ h (hh : h < svs.length), ∀ t (ht : t < (unL svs nR h (head.zip syms) (List.replicate (nR + 1) false) false false).1.length), (unL svs nR h (head.zip syms) (List.replicate (nR + 1) false) false false).1[t] = true → (listT svs[h].hd.fi).any (· == (t : Int)) = true
  un2 : ∀ h (hh : h < svs.length), cntT (unL svs nR h (head.zip syms) (List.replicate (nR + 1) false) false false).1 = (listT svs[h].hd.fi).length
  un3 : ∀ h (hh : h < svs.length), (unL svs nR h (head.zip syms) (List.replicate (nR + 1) false) false false).2.1 = svs[h].hd.nul
  un4 : ∀ h (hh : h < svs.length), (unL svs nR h (head.zip syms) (List.replicate (nR + 1) false) false false).2.2 = svs[h].hd.fru
  be : ∀ p (hp : p < syms.length) (q : Nat), head[p]? = some (q : Int) → BehOk svs nR q syms[p]
  re : ∀ p (hp : p < syms.length) (q : Nat), head[p]? = some (q : Int) → ∀ x, svs[q]? = some x → x.hd.rch = true → ∀ s ∈ syms[p], s < 0 → (hdAt svs s).rch = true

theorem unL_len (svs : List SV) (nR : Nat) (hd : Int) : ∀ (l : List (Int × List Int)) (out : List Bool) (em fr : Bool), out.length = nR + 1 → (unL svs nR hd l out em fr).1.length = nR + 1
  | [], _, _, _, h => h
  | p :: l, out, em, fr, h => by
    unfold unL
    split
    · refine unL_len svs nR hd l _ _ _ ?_
      have := kaF_len svs p.2 (List.replicate (nR + 1) false)
      simp [orL, h, this]
    · exact unL_len svs nR hd l _ _ _ h

theorem mkKV {w : World} {b : Nat} {X : LO} {v0 v1 v2 v3 v4 v5 : Value} {nv sv : List Value} {vl : Value} {svs : List SV} {w0 : World} {B : Nat} (h : LOAt w b X v0 v1 v2 v3 v4 v5 nv sv) (hS : SRel w0 w B vl svs) (hH : svs.length = X.heads.length) (hpos : 0 < svs.length) (hne : 0 < X.syms.length) (hhl : X.head.length = X.syms.length) :
    ∃ K : KP, K.b = b ∧ vl = K.vl svs.length ∧ KV K w X.rules.length X.head X.syms svs := by
  have o0 : w.ownsRow (b + 1) 9 1 v0 X.rules.length (strs X.rules) := by have := h.at'.own 0 _ rfl; simpa using this
  have o2 : w.ownsRow (b + 1) 9 1 v2 X.heads.length (strs X.heads) := by have := h.at'.own 2 _ rfl; simpa using this
  have o3 : w.ownsRow (b + 1) 3 1 v3 X.head.length (ints X.head) := by have := h.at'.own 3 _ rfl; simpa using this
  have o5 := h.own5
  have hsl := h.slen
  obtain ⟨a0, c0, e0⟩ := own_form o0
  obtain ⟨a2, c2, e2⟩ := own_form o2
  obtain ⟨g3, c3, e3⟩ := Joins.ownsRow_form o3 (by omega)
  obtain ⟨g5, c5, e5⟩ := Joins.ownsRow_form o5 (by omega)
  obtain ⟨gl, cl, el⟩ := Joins.ownsRow_form hS.own (by omega)
  subst e0; subst e2; subst e3; subst e5; subst el
  refine ⟨⟨b, a0, c0, a2, c2, g3, c3, g5, c5, gl, cl, fun p => sv.getD p (.slice none 0 0)⟩, rfl, rfl, ?_⟩
  have hrow : RowAt SV.cells 5 64 w (.slice (some ⟨gl, 0, none⟩) svs.length cl) svs := ⟨ownsRow_base hS.own (Nat.zero_le _), fun x _ => rfl⟩
  refine ⟨?_, ?_, ?_, ?_, hhl, ?_, ?_, ?_, ?_⟩
  · have := h.cell 0; simpa using this
  · have := h.cell 2; rw [hH]; simpa using this
  · have := h.cell 3; rw [← hhl]; simpa using this
  · have := h.cell 5; rw [← hsl]; simpa using this
  · intro p hp
    have := o3.cells (g := g3) rfl p (.int .i64 X.head[p]) (by simp [hp])
    rwa [Addr.add_mid, Nat.zero_add] at this
  · intro p hp
    have hp2 : p < sv.length := by omega
    have hc := h.syms.2 p sv[p] (ints X.syms[p]) (by simp [hp2]) (by simp [hp])
    obtain ⟨ai, ci, hvi, hci, hcell⟩ := hc
    have e : sv.getD p (.slice none 0 0) = sv[p] := by simp [hp2]
    dsimp only
    rw [e]
    refine ⟨?_, ai, ci, by rw [hvi]; simp, by simpa using hci, fun j hj => ?_⟩
    · have := o5.cells (g := g5) rfl p sv[p] (by simp [hp2])
      rwa [Addr.add_mid, Nat.zero_add] at this
    · obtain ⟨g, o, h1, _, _, h2⟩ := hcell j (.int .i64 (X.syms[p])[j]) (by simp [hj])
      exact ⟨g, o, h1, h2⟩
  · intro k hk j hj
    exact hrow.cell k j hk hj
  · intro s hs
    exact ⟨(hS.each s hs).1.at', (hS.each s hs).2.at'⟩
end Go.Proofs.Ytolpddkpfigidaa
namespace Go.Proofs.Ytolpddkpfigidaa
open Go.RowKit
set_option linter.unusedVariables false
set_option linter.unusedSimpArgs false

set_option maxRecDepth 20000 in
set_option maxHeartbeats 1000000 in
theorem closed_good (s : ByteArray) (w : World) (hs : s.size ≤ 800) (hc : checkF s = (0, 0)) (hl2 : (linesF s).2 = true)
    (hH : (setsF s).length = (linesF s).1.heads.length) (hCO : ∀ svs : List SV, svs.map SV.hd = setsF s → ClosedOk svs (linesF s).1.rules.length (linesF s).1.head (linesF s).1.syms) :
    Calls Try.prog 8 #[.string s] w fun e w' => e = .returned (.bool true) ∧ Fresh w w' := by
  have C1 := hid (fun w => right_good s w hs hc)
  have C2 := hid (fun w => sets_good s w (by unfold maxLen; omega) (by rw [hc]))
  have C3 := hid (fun w => check_any s w (by unfold maxLen; omega))
  rw [hc] at C3
  rw [hl2] at C1
  unfold SetsRet at C2
  generalize (linesF s).1 = X at C1 hH hCO
  generalize setsF s = SF at C2 hH hCO
  have HH := hid hH
  have HCO := hid hCO
  clear hc hl2 hH hCO
  go_enter Try.func8, Try.ntmps8
  go_wp2_with (first
    | (go_at_call 24; refine (C2.out _).mono ?_; rintro e w2 ⟨vl, svs, rfl, hsv, hS⟩)
    | (go_at_call 18; refine (C1.out _).mono ?_; rintro e w1 ⟨b, rfl, hlx, hf1⟩))
  refine (C3.out _).mono ?_
  rintro e w3 ⟨rfl, hf3⟩
  obtain ⟨z0, z1, z2, z3, z4, z5, nv, zv, hLA⟩ := hlx
  have hLA3 := (hLA.fresh hS.fresh).fresh hf3
  have hS3 := hS.fresh' hf3
  have hCK := HCO.out svs hsv
  have hlen : svs.length = X.heads.length := by rw [← HH.out, ← hsv]; simp
  obtain ⟨K, hKb, hKv, hKV⟩ := mkKV hLA3 hS3 hlen hCK.pos hCK.ne hCK.hl
  have HFW : Hid (Fresh w w3) := (hf1.trans hS.fresh).trans hf3
  have HCK := hid hCK
  have HKV := hid hKV
  have HSH0 := shaped_true K w3 _ _ _ svs hKV hCK.bH (by have := hCK.bR; omega) hCK.ris
  have hp0 := hCK.pos
  have S30 : w3.cell? ⟨K.gl, 3, none⟩ = some (.bool true) := by
    have q := (hKV.st5 0 hCK.pos).2.2.2.1
    have q2 := (hCK.start svs[0] (List.getElem?_eq_getElem hCK.pos)).1
    rw [q2] at q; simpa using q
  have hpos : (0 : Int) < (svs.length : Int) := by have := hCK.pos; omega
  obtain ⟨kb, a0, c0, a2, c2, g3, c3, g5, c5, gl, cl, sv⟩ := K
  dsimp only at hKb S30
  dsimp only [KP.vl] at hKv HSH0
  subst hKb
  subst hKv
  have HSH := hid HSH0
  have S3 := hid S30
  clear hLA hLA3 hS hS3 hCK hKV HSH0 S30 hlen hsv hf1 hf3
  go_wp2_with (first
    | (go_at_call 25; refine (HSH.out).mono ?_; rintro e w4 ⟨rfl, m4, hm4⟩; have hf4 : Fresh w3 w4 := (by rw [hm4]; exact fdrewN' _ _); have HF34 := hid hf4; have s3 : w4.cell? ⟨gl, 3, none⟩ = some (.bool true) := fcell' hf4 S3.out; clear hm4 hf4))
  have hbR := HCK.out.bR
  have hbH := HCK.out.bH
  have hbP := HCK.out.bP
  generalize hnR : X.rules.length = nR at HKV HCK hbR HSH
  generalize X.head = head at HKV HCK
  generalize X.syms = syms at HKV HCK hbP
  clear hnR s3 HSH C1 C2 C3 HH HCO
  go_loopw [10, 11, 12, 13, 14, 15, 16] (fun x10 _ _ _ _ _ _ wr => ∃ (h : Nat), x10 = .int .i64 h ∧ h ≤ svs.length ∧ Fresh w3 wr)
      (fun x _ _ _ _ _ _ _ => 1001 - (intOf x).toNat)
  case atStart => exact ⟨0, rfl, by omega, HF34.out⟩
  case round =>
    obtain ⟨h, rfl, hh, hfr⟩ := hrel
    obtain ⟨wo, hwo⟩ : ∃ wo, wo = wr := ⟨_, rfl⟩
    subst hwo
    have HME := hid (meas (B := 1001) h (by omega))
    have HFR := hid hfr
    have hKo := HKV.out.fresh hfr
    clear hfr
    by_cases hlt : h < svs.length
    · have hh1 : (h : Int) < (svs.length : Int) := by omega
      have hUN := hid (kunion_any _ wo nR head syms svs hKo hbH (by omega) hbP (fun s hs => (HCK.out.ris s hs).1) HCK.out.sl HCK.out.so (h : Int))
      dsimp only [KP.vl] at hUN
      have u1 := HCK.out.un1 h hlt
      have u2 := HCK.out.un2 h hlt
      have u3 := HCK.out.un3 h hlt
      have u4 := HCK.out.un4 h hlt
      have hul := unL_len svs nR (h : Int) (head.zip syms) (List.replicate (nR + 1) false) false false (by simp)
      obtain ⟨t0, t1, _, _, t4⟩ := HKV.out.st5 h hlt
      have l1 := (HKV.out.ls svs[h] (by simp)).1
      have hl9 := listT_len svs[h].hd.fi
      dsimp only at t0 t1 t4
      generalize unL svs nR (h : Int) (head.zip syms) (List.replicate (nR + 1) false) false false = U at hUN u1 u2 u3 u4 hul
      generalize svs[h] = sh at u1 u2 u3 u4 t0 t1 t4 l1 hl9
      obtain ⟨shh, sh1, sh2⟩ := sh
      dsimp only at u1 u2 u3 u4 t0 t1 t4 l1 hl9
      obtain ⟨uo, ue, uf⟩ := U
      dsimp only at hUN u1 u2 u3 u4 hul
      subst u3
      subst u4
      generalize listT shh.fi = fl at u1 u2 l1 hl9
      have HL1 := hid l1
      obtain ⟨x1, y1, e1, _, _⟩ := l1
      subst e1
      have T0 := hid t0
      have T1 := hid t1
      have T4 := hid t4
      have HU1 := hid u1
      have HU2 := hid u2
      have HUL := hid hul
      clear t0 t1 t4 u1 u2 hKo hul
      go_wp2_with (first
        | (go_at_call 27; refine (within_true wu (.slice (some ⟨wo.heap.size, 0, none⟩) (nR + 1) (nR + 1)) (.slice x1 fl.length y1) uo fl (by rw [← HUL.out]; exact ⟨_, _, rfl, fun j hj => (by rw [cellOf HBU.out, tk_at hj])⟩) (by rw [HUL.out]; omega) (HL1.out.fresh HFU.out) (by omega) HU1.out).mono ?_; rintro e wv ⟨rfl, hwv⟩; rw [hwv]; clear hwv wv)
        | (go_at_call 26; refine (hUN.out).mono ?_; rintro e wu ⟨rfl, hfu, hbu⟩; have HFU := hid (HFR.out.trans hfu); have HBU := hid hbu; have t1 := fcell' HFU.out T1.out; clear hfu hbu))
      clear t1
      go_loopw [15, 16] (fun x15 x16 wr => ∃ (t n : Nat), x15 = .int .i64 n ∧ x16 = .int .i64 t ∧ t ≤ nR + 1 ∧ n ≤ t ∧ n + cntT (uo.drop t) = fl.length ∧ wr = wu)
          (fun _ x _ => 2001 - (intOf x).toNat)
      case atStart => exact ⟨0, 0, rfl, rfl, by omega, by omega, by rw [Nat.zero_add]; exact HU2.out, rfl⟩
      case round =>
        obtain ⟨t, n, rfl, rfl, ht, hnt, hcn, hwr⟩ := hrel
        subst hwr
        have HMT := hid (meas (B := 2001) t (by omega))
        by_cases hlt2 : t < nR + 1
        · have ht1 : (t : Int) < (nR : Int) + 1 := by omega
          have hlu : t < uo.length := by rw [HUL.out]; exact hlt2
          have e1 : wr.cell? ⟨wo.heap.size, t, none⟩ = some (.bool uo[t]) := by rw [cellOf HBU.out, tk_at hlu]
          rw [List.drop_eq_getElem_cons hlu] at hcn
          unfold cntT at hcn
          generalize uo[t] = ut at e1 hcn
          cases ut
          · simp only [List.filter_cons, Bool.false_eq_true, if_false] at hcn
            have HCN := hid hcn
            clear hcn
            go_wp2
            go_roundw
            case rel => exact ⟨t + 1, n, rfl, by go_num, by omega, by omega, HCN.out, by first | rfl | trivial⟩
            case measure => exact HMT.out
          · simp only [List.filter_cons, if_true, List.length_cons] at hcn
            have HCN := hid hcn
            clear hcn
            go_wp2
            go_roundw
            case rel => exact ⟨t + 1, n + 1, by go_num, by go_num, by omega, by omega, by have := HCN.out; unfold cntT; omega, by first | rfl | trivial⟩
            case measure => exact HMT.out
        · have hte : t = nR + 1 := by omega
          have ht2 : ¬ (t : Int) < (nR : Int) + 1 := by omega
          rw [List.drop_eq_nil_of_le (by rw [HUL.out]; omega)] at hcn
          have hnf : n = fl.length := by simpa [cntT] using hcn
          subst hnf
          have t0 := fcell' HFU.out T0.out
          have t1 := fcell' HFU.out T1.out
          have t4 := fcell' HFU.out T4.out
          clear hcn
          go_wp2
          go_roundw
          case rel => exact ⟨h + 1, by go_num, by omega, HFU.out⟩
          case measure => exact HME.out
    · have hhe : h = svs.length := by omega
      have hh2 : ¬ (h : Int) < (svs.length : Int) := by omega
      clear hKo
      go_wp2
      go_loopw [17, 18, 19, 20] (fun x17 _ _ _ wr => ∃ (p : Nat), x17 = .int .i64 p ∧ p ≤ syms.length ∧ Fresh w3 wr)
          (fun x _ _ _ _ => 1001 - (intOf x).toNat)
      case atStart => exact ⟨0, rfl, by omega, HFR.out⟩
      case round =>
        obtain ⟨p, rfl, hp, hfp⟩ := hrel
        obtain ⟨wp, hwp⟩ : ∃ wp, wp = wr := ⟨_, rfl⟩
        subst hwp
        have HMP := hid (meas (B := 1001) p (by omega))
        have HFP := hid hfp
        have k5 := fcell' hfp HKV.out.k5
        dsimp only at k5
        clear hfp
        by_cases hlp : p < syms.length
        · have hp1 : (p : Int) < (syms.length : Int) := by omega
          have hlh : p < head.length := by rw [HCK.out.hl]; exact hlp
          obtain ⟨q, hq, hpq⟩ := HCK.out.hd p hlh
          have hpq2 : head[p]? = some (q : Int) := by rw [List.getElem?_eq_getElem hlh, hpq]
          have HBE := hid (behind_true _ wp nR head syms svs (HKV.out.fresh HFP.out) hbH hbR hbP (fun s hs => (HCK.out.ris s hs).1) HCK.out.sl HCK.out.so p q hlp hq hpq2 (HCK.out.be p hlp q hpq2))
          dsimp only [KP.vl] at HBE
          have c3 := HKV.out.hd p hlh
          rw [hpq] at c3
          obtain ⟨c5, hsy⟩ := HKV.out.sy p hlp
          obtain ⟨_, _, _, tq, _⟩ := HKV.out.st5 q hq
          have hre := HCK.out.re p hlp q hpq2 svs[q] (List.getElem?_eq_getElem hq)
          have hso := HCK.out.so syms[p] (by simp)
          have hsl := HCK.out.sl syms[p] (by simp)
          dsimp only at c3 c5 hsy tq
          generalize svs[q].hd.rch = rq at tq hre
          generalize syms[p] = sy at hsy hre hso hsl
          generalize sv p = svi at c5 hsy
          obtain ⟨sa, sc, es, hsc, hscell⟩ := hsy
          subst es
          have C3 := hid c3
          have C5 := hid c5
          have TQ := hid tq
          have HSC := hid hscell
          have HRE := hid hre
          have HSO := hid hso
          have K3 := hid HKV.out.k3
          have K5 := hid HKV.out.k5
          dsimp only at K3 K5
          have hq1 : (q : Int) < (svs.length : Int) := by omega
          clear c3 c5 tq hscell hre hso hpq hpq2
          go_wp2_with (first
            | (go_at_call 28; refine (HBE.out).mono ?_; rintro e wb ⟨rfl, hfb⟩; have HFB := hid (HFP.out.trans hfb); clear hfb))
          clear k5
          go_loopw [19, 20] (fun x19 _ wr => ∃ (j : Nat), x19 = .int .i64 j ∧ j ≤ sy.length ∧ wr = wb)
              (fun x _ _ => 1001 - (intOf x).toNat)
          case atStart => exact ⟨0, rfl, by omega, rfl⟩
          case round =>
            obtain ⟨j, rfl, hj, hwr⟩ := hrel
            subst hwr
            have HMJ := hid (meas (B := 1001) j (by omega))
            have k3 := fcell' HFB.out K3.out
            have k5 := fcell' HFB.out K5.out
            have c3 := fcell' HFB.out C3.out
            have c5 := fcell' HFB.out C5.out
            have tq := fcell' HFB.out TQ.out
            by_cases hlj : j < sy.length
            · have hj1 : (j : Int) < (sy.length : Int) := by omega
              obtain ⟨gs, os, hsa, hcs⟩ := HSC.out j hlj
              subst hsa
              have c7 := fcell' HFB.out hcs
              obtain ⟨so1, so2⟩ := HSO.out sy[j] (by simp)
              have hrj := fun e => HRE.out e sy[j] (by simp)
              generalize sy[j] = s1 at c7 so1 so2 hrj
              clear hcs
              by_cases hs1 : 0 ≤ s1
              · have b1 : decide (s1 < 0) = false := by simp; omega
                clear hrj tq c3 k3
                go_wp2
                go_roundw
                case rel => exact ⟨j + 1, by go_num, by omega, by first | rfl | trivial⟩
                case measure => exact HMJ.out
              · have b1 : decide (s1 < 0) = true := by simp; omega
                obtain ⟨k, hk⟩ : ∃ k : Nat, -1 - s1 = k := ⟨(-1 - s1).toNat, by omega⟩
                have hkl : k < svs.length := by omega
                have hhd : hdAt svs s1 = svs[k].hd := by unfold hdAt; rw [hk]; simp [hkl]
                rw [hhd] at hrj
                obtain ⟨_, _, _, tk, _⟩ := (HKV.out.fresh HFB.out).st5 k hkl
                dsimp only at tk
                generalize svs[k].hd.rch = rk at tk hrj
                have hkn : (k : Int) < (svs.length : Int) := by omega
                have hk0 : (0 : Int) ≤ (k : Int) := by omega
                have hsb : -2000 ≤ s1 := by omega
                have hs' : s1 < 0 := by omega
                clear hhd hs1
                cases rq
                · clear hrj tk
                  go_wp2
                  go_roundw
                  case rel => exact ⟨j + 1, by go_num, by omega, by first | rfl | trivial⟩
                  case measure => exact HMJ.out
                · have hrk := hrj rfl (by omega)
                  subst hrk
                  clear hrj
                  go_wp2
                  go_roundw
                  case rel => exact ⟨j + 1, by go_num, by omega, by first | rfl | trivial⟩
                  case measure => exact HMJ.out
            · have hje : j = sy.length := by omega
              have hj2 : ¬ (j : Int) < (sy.length : Int) := by omega
              clear tq c3 k3
              go_wp2
              go_roundw
              case rel => exact ⟨p + 1, by go_num, by omega, HFB.out⟩
              case measure => exact HMP.out
        · have hpe : p = syms.length := by omega
          have hp2 : ¬ (p : Int) < (syms.length : Int) := by omega
          have hp0 := HCK.out.pos
          obtain ⟨_, _, t2, _, _⟩ := HKV.out.st5 0 hp0
          have l2 := (HKV.out.ls svs[0] (by simp)).2
          have hl9 := listT_len svs[0].hd.fo
          have hany := (HCK.out.start svs[0] (List.getElem?_eq_getElem hp0)).2
          have k0 := fcell' HFP.out HKV.out.k0
          replace t2 := fcell' HFP.out t2
          dsimp only at t2 k0
          simp only [Nat.zero_mul, Nat.zero_add] at t2
          generalize svs[0] = s0 at t2 l2 hl9 hany
          obtain ⟨s0h, s01, s02⟩ := s0
          dsimp only at t2 l2 hl9 hany
          generalize listT s0h.fo = fl at l2 hl9 hany
          have HL2 := hid l2
          obtain ⟨x1, y1, e1, _, _⟩ := l2
          subst e1
          have HHA := hid (fun (W : World) (hW : Fresh w3 W) => khas_any W (.slice x1 fl.length y1) fl nR (HL2.out.fresh hW) (by omega))
          rw [hany] at HHA
          clear hany
          go_wp2_with fail
          go_quiet (first
            | (go_at_call 29; refine Calls.quiet_of_same (HHA.out _ (HFP.out.trans (fdrewN' _ _)))))
          go_wp2
          go_ret
          exact ⟨rfl, (HFW.out.trans HFP.out).trans (fdrewN' _ _)⟩
end Go.Proofs.Ytolpddkpfigidaa
