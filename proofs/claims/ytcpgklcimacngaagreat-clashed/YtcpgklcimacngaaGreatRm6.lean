import Derived.Test.YtcpgklcimacngaaGreatRh5
import Derived.Deep.LoopGhost
namespace Go.Proofs.YtcpgklcimacngaaGreat
open Go.RowKit
set_option linter.unusedVariables false
set_option linter.unusedSimpArgs false

/-- how many places are not in a set -/
def offs (fs : List Bool) : Nat := (fs.filter (fun b => !b)).length
theorem offs_le : ∀ {as' bs : List Bool}, as'.length = bs.length → (∀ j, On as' j → On bs j) → offs bs ≤ offs as'
  | [], [], _, _ => Nat.le_refl _
  | a :: as', b :: bs, hl, h => by
    have hl' : as'.length = bs.length := by simpa using hl
    have ih := offs_le hl' (fun j hj => by have := h (j + 1) (by simpa [On] using hj); simpa [On] using this)
    unfold offs at ih ⊢
    rw [List.filter_cons, List.filter_cons]
    cases a
    · cases b <;> simp <;> omega
    · have := h 0 (by simp [On])
      simp [On] at this
      subst this
      simpa using ih
  | [], b :: bs, hl, _ => by simp at hl
  | a :: as', [], hl, _ => by simp at hl
theorem offs_lt : ∀ {as' bs : List Bool}, as'.length = bs.length → (∀ j, On as' j → On bs j) → (∃ j, On bs j ∧ ¬ On as' j) → offs bs < offs as'
  | [], [], _, _, ⟨j, h, _⟩ => by simp [On] at h
  | a :: as', b :: bs, hl, h, hex => by
    have hl' : as'.length = bs.length := by simpa using hl
    have hs : ∀ j, On as' j → On bs j := fun j hj => by have := h (j + 1) (by simpa [On] using hj); simpa [On] using this
    have ih := offs_le hl' hs
    obtain ⟨j, h1, h2⟩ := hex
    unfold offs at ih ⊢
    rw [List.filter_cons, List.filter_cons]
    cases j with
    | zero =>
      simp [On] at h1 h2
      subst h1
      have h2' : a = false := by simpa using h2
      subst h2'
      simp; omega
    | succ j =>
      have ih2 := offs_lt hl' hs ⟨j, by simpa [On] using h1, by simpa [On] using h2⟩
      unfold offs at ih2
      cases a
      · cases b <;> simp <;> omega
      · have := h 0 (by simp [On])
        simp [On] at this
        subst this
        simpa using ih2
  | [], b :: bs, hl, _, _ => by simp at hl
  | a :: as', [], hl, _, _ => by simp at hl
theorem mo_true {xs ys : List Bool} {n : Nat} (h : moI xs ys n = true) : ∃ j, On ys j ∧ ¬ On xs j := by
  unfold moI at h
  rw [List.any_eq_true] at h
  obtain ⟨j, _, hj⟩ := h
  rw [Bool.and_eq_true, Bool.not_eq_true'] at hj
  exact ⟨j, on_getD.2 hj.1, fun q => by rw [on_getD, hj.2] at q; cases q⟩
theorem mo_false {xs ys : List Bool} {n : Nat} (h : moI xs ys n = false) (hl : ys.length = n) : ∀ j, On ys j → On xs j := by
  intro j hj
  cases hx : xs.getD j false
  · exfalso
    have : moI xs ys n = true := by
      unfold moI
      rw [List.any_eq_true]
      exact ⟨j, by have := hj.lt; simp; omega, by rw [hx, on_getD.1 hj]; rfl⟩
    rw [this] at h; cases h
  · exact on_getD.2 hx
theorem offs_bd (fs : List Bool) : offs fs ≤ fs.length := List.length_filter_le _ _

/-- what is found of a piece: its atom and its marks -/
theorem pce_parts {q : ByteArray} {L : Lang} (h : PceIs q L) : ∃ (n : Nat) (A : Lang), Am q 0 = ⟨(n : Int), true, A⟩ ∧ 0 < n ∧ n ≤ q.size ∧ AtmIs (q.extract 0 n) A ∧ ∀ w, L w ↔ flagL (markF q (q.size + 1) n (false, false)).1 (markF q (q.size + 1) n (false, false)).2 A w := by
  have hok : (Pc q 0).ok = true := by rw [h]
  have ha : (Am q 0).ok = true := piece_ok hok
  have g := lg_am q 0 (by omega) (by omega) ha
  obtain ⟨n, hn⟩ : ∃ n : Nat, (Am q 0).next = n := ⟨(Am q 0).next.toNat, by omega⟩
  have e : Am q 0 = ⟨(n : Int), true, (Am q 0).lang⟩ := by rw [← hn]; exact lr_eta ha
  obtain ⟨h1, h2, h3⟩ := atm_cut e
  refine ⟨n, (Am q 0).lang, e, h2, h3, h1, ?_⟩
  have h' : lPieceL q (q.size + 5) (Am q 0) = ⟨q.size, true, L⟩ := h
  rw [e] at h'
  have key := piece_flags (s := q) (A := (Am q 0).lang) (q.size + 5) (q.size + 1) n (Am q 0).lang (false, false) (fun w => (flag_one _ w).symm) (by omega) (by omega) h3 (by rw [h'])
  rw [h'] at key
  exact key

theorem Goes.same {A : Lang} {t : ByteArray} {fs gs hs : List Bool} (h : Goes A t fs gs) (hl : hs.length = t.size + 1) (e : ∀ j, On hs j ↔ On gs j) : Goes A t fs hs := ⟨hl, fun j hj => by rw [e, h.on j hj]⟩
/-- the set under way: many times -/
structure Way (A : Lang) (t : ByteArray) (fs os : List Bool) : Prop where
  len : os.length = t.size + 1
  lo : ∀ j, j ≤ t.size → Reach A t (On fs) j → On os j
  hi : ∀ j, On os j → j ≤ t.size → Reach (flagL false true A) t (On fs) j
theorem way_first {A : Lang} {t : ByteArray} {fs os : List Bool} (h : Goes A t fs os) : Way A t fs os :=
  ⟨h.len, fun j hj r => (h.on j hj).2 r, fun j ho hj => plus_one ((h.on j hj).1 ho)⟩
theorem way_next {A : Lang} {t : ByteArray} {fs os ns : List Bool} (h : Way A t fs os) (hn : Goes A t os ns) : Way A t fs (orI os ns (t.size + 1) (t.size + 1)) ∧ offs (orI os ns (t.size + 1) (t.size + 1)) ≤ offs os ∧ (moI os ns (t.size + 1) = true → offs (orI os ns (t.size + 1) (t.size + 1)) < offs os) ∧ (moI os ns (t.size + 1) = false → Goes (flagL false true A) t fs (orI os ns (t.size + 1) (t.size + 1))) := by
  have u := or_un (xs := os) (ys := ns) h.len
  have hle : ∀ j, On os j → On (orI os ns (t.size + 1) (t.size + 1)) j := fun j hj => (u.on j).2 (.inl hj)
  have hln : os.length = (orI os ns (t.size + 1) (t.size + 1)).length := u.len.symm
  have hL := h.len
  refine ⟨⟨by rw [orI_len], fun j hj r => hle j (h.lo j hj r), fun j ho hj => ?_⟩, offs_le hln hle, fun hm => ?_, fun hm => ?_⟩
  · rcases (u.on j).1 ho with q | ⟨_, q⟩
    · exact h.hi j q hj
    · obtain ⟨i, i1, i2, i3⟩ := (hn.on j hj).1 q
      exact plus_more hj ⟨i, i1, h.hi i i2 (by omega), i3⟩
  · obtain ⟨j, q1, q2⟩ := mo_true hm
    refine offs_lt hln hle ⟨j, (u.on j).2 (.inr ⟨?_, q1⟩), q2⟩
    have := q1.lt
    rw [hn.len] at this; omega
  · have hno := mo_false hm hn.len
    have hc := plus_closed h.len h.lo h.hi hn hno
    refine hc.same (by rw [orI_len]) (fun j => ⟨fun q => ?_, hle j⟩)
    rcases (u.on j).1 q with z | ⟨_, z⟩
    · exact z
    · exact hno j z
theorem goes_flag {A : Lang} {t : ByteArray} {fs os : List Bool} (m : Bool) (h : Goes (flagL false m A) t fs os) (hl : fs.length = t.size + 1) : Goes (flagL true m A) t fs (orI os fs (t.size + 1) (t.size + 1)) := by
  have u := or_un (xs := os) (ys := fs) h.len
  refine (Goes.alt h (goes_eps hl) u).iff (fun w => ?_)
  unfold Lang.alt flagL epsL
  constructor
  · rintro ((⟨q, _⟩ | q) | q)
    · cases q
    · exact .inr q
    · exact .inl ⟨rfl, q⟩
  · rintro (⟨_, q⟩ | q)
    · exact .inr q
    · exact .inl (.inr q)

set_option maxRecDepth 20000 in
set_option maxHeartbeats 4000000 in
theorem zsome_any (q : ByteArray) (L : Lang) (hs : q.size ≤ 1000) (h : PceIs q L) (hone : ∀ a A, a.size ≤ q.size → AtmIs a A → SetC 97 a A) : SetC 92 q L := by
  obtain ⟨n, A, he, hn0, hnq, hA, hfl⟩ := pce_parts h
  have hsz := cut_size (s := q) (a := 0) (e := n) hnq
  have ON := hone _ A (by omega) hA
  intro t g fs w ht hg hl
  have AT := hid (fun w => zatm_all q (by omega) 0 w (by omega))
  have e0 : ((0 : Nat) : Int) = 0 := rfl
  have hza : zAtom (zgK q 6) q 0 = n := by
    have := zAtomK_rel (p := q) 6 (x := 0) (by omega)
    unfold Says at this
    have e1 : (lAtom (lgK q 6) q 0) = ⟨(n : Int), true, A⟩ := he
    rw [e1] at this; exact this
  rw [e0, hza] at AT
  have HON := hid (fun (g : Nat) (fs : List Bool) (w : World) (h1 : BSet w g fs) (h2 : fs.length = t.size + 1) => ON t g fs w ht h1 h2)
  have HG := hid hg
  have HL := hid hl
  have HFL := hid hfl
  generalize hM : markF q (q.size + 1) n (false, false) = M at HFL
  have HM := hid hM
  have p1 : (n : Int) ≤ (q.size : Int) := by omega
  clear h he hA hfl ON hg hl e0 hza hM hone
  go_enter Tryz.func92, Tryz.ntmps92
  go_wp2_with (first
    | (go_at_call 90; refine (AT.out _).mono ?_; rintro e w' ⟨rfl, hw⟩; rw [hw]; clear hw))
  go_loopw [8, 9, 10] (fun x8 x9 x10 wr => ∃ (i f : Nat) (b : Bool × Bool), x10 = .int .i64 i ∧ x8 = .bool b.1 ∧ x9 = .bool b.2 ∧ wr = w ∧ n ≤ i ∧ i ≤ q.size ∧ q.size + 1 ≤ f + i ∧ markF q f i b = M)
      (fun _ _ x _ => 1001 - (intOf x).toNat)
  case atStart => exact ⟨n, q.size + 1, (false, false), rfl, rfl, rfl, rfl, by omega, by omega, by omega, HM.out⟩
  case round =>
    obtain ⟨i, f, ⟨bn, bm⟩, rfl, rfl, rfl, rfl, hi1, hi2, hf, hrec⟩ := hrel
    obtain ⟨f, rfl⟩ : ∃ k, f = k + 1 := ⟨f - 1, by omega⟩
    rw [markF_s] at hrec
    clear HM
    by_cases hlt : i < q.size
    · rw [if_pos hlt, atB_ix hlt] at hrec
      have k1 : (i : Int) < (q.size : Int) := by omega
      have hbl : q[i].toNat < 256 := q[i].toNat_lt
      have HR := hid hrec
      clear hrec
      cases bn <;> cases bm
      all_goals
        go_wp2
        go_roundw
        case rel => exact ⟨i + 1, f, (_, _), by go_num, rfl, rfl, by first | rfl | trivial, by omega, by omega, by omega, HR.out⟩
        case measure => simp [intOf]; omega
    · rw [if_neg hlt] at hrec
      subst hrec
      have k1 : ¬ (i : Int) < (q.size : Int) := by omega
      dsimp only at HFL
      obtain ⟨wo, hwo⟩ : ∃ wo, wo = wr := ⟨_, rfl⟩
      subst hwo
      have UN := hid (fun (w : World) (ga gb : Nat) (xs ys : List Bool) (ha : BSet w ga xs) (hb : BSet w gb ys) (la : xs.length = t.size + 1) (lb : ys.length = t.size + 1) => zunion_any w ga gb (t.size + 1) xs ys ha hb la lb (by omega))
      have OX := hid (HON.out g fs wo HG.out HL.out)
      go_wp2_with (first
        | (go_at_call 97; refine (OX.out).mono ?_; rintro e w1 ⟨g1, gs1, rfl, q1, q2, q3⟩; have HQ := hid (And.intro q1 (And.intro q2 q3)); clear q1 q2 q3))
      go_loopg [11, 12, 13] (2 * (t.size + 1) + 1) (fun k x11 x12 _ wx => ∃ (g2 : Nat) (os : List Bool) (mo : Bool), x11 = bsl g2 (t.size + 1) ∧ x12 = .bool mo ∧ 2 * offs os + (if mo = true then 1 else 0) ≤ k ∧ BSet wx g2 os ∧ Fresh wo wx ∧ Way A t fs os ∧ (mo = true → bm = true) ∧ (mo = false → Goes (flagL false bm A) t fs os))
      case atStart =>
        obtain ⟨q1, q2, q3⟩ := HQ.out
        refine ⟨g1, gs1, bm, rfl, rfl, ?_, q2, q1, way_first q3, fun e => e, fun e => ?_⟩
        · have := offs_bd gs1
          rw [q3.len] at this
          split <;> omega
        · rw [e]; exact q3.iff (fun w => (flag_one A w).symm)
      case round =>
        obtain ⟨g2, os, mo, rfl, rfl, hk, hB, hfr, hW, hbm, hgo⟩ := hrel
        have HB2 := hid hB
        have HF2 := hid hfr
        have HW := hid hW
        have HGO := hid hgo
        have HBM := hid hbm
        clear hB hfr hW hgo hbm HQ OX
        cases mo
        · have HG2 := hid (HGO.out rfl)
          clear HGO HBM
          cases bn
          · go_wp2
            go_ret
            exact ⟨g2, os, rfl, HF2.out, HB2.out, HG2.out.iff (fun w => (HFL.out w).symm)⟩
          · have UX := hid (UN.out wr g2 g os fs HB2.out (HG.out.fresh HF2.out) HW.out.len HL.out)
            go_wp2_with (first
              | (go_at_call 49; refine (UX.out).mono ?_; rintro e w3 ⟨rfl, hf3, hb3⟩; have HU := hid (And.intro hf3 hb3); clear hf3 hb3))
            go_ret
            exact ⟨_, _, rfl, HF2.out.trans HU.out.1, HU.out.2, (goes_flag bm HG2.out HL.out).iff (fun w => (HFL.out w).symm)⟩
        · have hbt := HBM.out rfl
          subst hbt
          clear HGO HBM
          have OX2 := hid (HON.out g2 os wr HB2.out HW.out.len)
          go_wp2_with (first
            | (go_at_call 49; have stage := HN.out.1; refine (UN.out w1 g2 g3 os ns (HB2.out.fresh HN.out.1) HN.out.2.1 HW.out.len HN.out.2.2.len).mono ?_; rintro e w3 ⟨rfl, hf3, hb3⟩; have HU := hid (And.intro hf3 hb3); clear hf3 hb3)
            | (go_at_call 97; refine (OX2.out).mono ?_; rintro e w1 ⟨g3, ns, rfl, q1, q2, q3⟩; have HN := hid (And.intro q1 (And.intro q2 q3)); clear q1 q2 q3))
          obtain ⟨y1, y2, y3, y4⟩ := way_next HW.out HN.out.2.2
          go_roundg (2 * offs (orI os ns (t.size + 1) (t.size + 1)) + (if moI os ns (t.size + 1) = true then 1 else 0))
          case measure =>
            have hk2 : 2 * offs os + 1 ≤ gk := by simpa using hk
            split
            · have := y3 (by assumption); omega
            · omega
          case rel => exact ⟨_, _, _, rfl, rfl, Nat.le_refl _, HU.out.2, (HF2.out.trans HN.out.1).trans HU.out.1, y1, fun _ => (by first | rfl | trivial), y4⟩
end Go.Proofs.YtcpgklcimacngaaGreat
namespace Go.Proofs.YtcpgklcimacngaaGreat
open Go.RowKit
set_option linter.unusedVariables false
set_option linter.unusedSimpArgs false

set_option maxRecDepth 20000 in
set_option maxHeartbeats 4000000 in
theorem zbranch_any (u : ByteArray) (As : List Lang) (hs : u.size ≤ 1000) (h : Row (Pc u) 0 As u.size) (hsome : ∀ q L, q.size ≤ u.size → PceIs q L → SetC 92 q L) : SetC 85 u (catL As) := by
  intro t g fs w ht hg hl
  have HSM := hid hsome
  have PC := hid (fun (i : Nat) (w : World) (hi : i ≤ u.size) => zpce_all u (by omega) i w (by omega))
  have HG := hid hg
  have HL := hid hl
  have HR := hid h
  clear hsome hg hl h
  go_enter Tryz.func85, Tryz.ntmps85
  go_wp2
  go_loopw [2, 7, 8] (fun x2 x7 _ wr => ∃ (i g1 : Nat) (gs : List Bool) (Ds Rs : List Lang), x7 = .int .i64 i ∧ x2 = bsl g1 (t.size + 1) ∧ i ≤ u.size ∧ As = Ds ++ Rs ∧ Row (Pc u) i Rs u.size ∧ BSet wr g1 gs ∧ Fresh w wr ∧ Goes (catL Ds) t fs gs)
      (fun _ x _ _ => 2001 - (intOf x).toNat)
  case atStart => exact ⟨0, g, fs, [], As, rfl, rfl, by omega, rfl, HR.out, HG.out, Mod.refl _ _, goes_eps HL.out⟩
  case round =>
    obtain ⟨i, g1, gs, Ds, Rs, rfl, rfl, hi, hAs, hrow, hB, hfr, hgo⟩ := hrel
    have HAS := hid hAs
    have HB := hid hB
    have HF := hid hfr
    have HGO := hid hgo
    clear hAs hB hfr hgo HR
    cases Rs with
    | nil =>
      have hiu : (i : Int) = u.size := hrow
      have k1 : ¬ (i : Int) < (u.size : Int) := by omega
      clear hiu hrow
      go_wp2
      go_ret
      refine ⟨g1, gs, rfl, HF.out, HB.out, ?_⟩
      rw [HAS.out, List.append_nil]; exact HGO.out
    | cons A Rs =>
      obtain ⟨r1, r2, r3⟩ := hrow
      have hlt := atB_lt (s := u) (i := (i : Int)) (beg_in (piece_begins r1))
      have g0 := lg_pc u i (by omega) (by omega) r1
      obtain ⟨j, hj⟩ : ∃ j : Nat, (Pc u i).next = j := ⟨(Pc u i).next.toNat, by omega⟩
      have e : Pc u i = ⟨(j : Int), true, A⟩ := by rw [← hj, ← r2]; exact lr_eta r1
      obtain ⟨p1, p2, p3⟩ := pce_cut e hi
      have hsz := cut_size (s := u) (a := i) (e := j) p3
      have SX := hid (HSM.out _ A (by omega) p1 t g1 gs wr ht HB.out HGO.out.len)
      have PX := hid (fun w => PC.out i w hi)
      have hzp : zPiece (zAtom (zgK u 6) u) u i = j := by
        have := zPieceK_rel (p := u) 6 (x := (i : Int)) (by omega) (by omega)
        unfold Says at this
        have e1 : lPiece (lAtom (lgK u 6) u) u i = ⟨(j : Int), true, A⟩ := e
        rw [e1] at this; exact this
      rw [hzp] at PX
      rw [hj] at r3
      have HR3 := hid r3
      have k1 : (i : Int) < (u.size : Int) := by omega
      have k2 : (i : Int) ≤ (j : Int) := by omega
      have k3 : (j : Int) ≤ (u.size : Int) := by omega
      clear r1 r2 r3 e p1 hzp hj g0 hsz
      go_wp2_with (first
        | (go_at_call 84; refine (PX.out _).mono ?_; rintro e w' ⟨rfl, hw⟩; rw [hw]; clear hw)
        | (go_at_call 92; refine (SX.out).mono ?_; rintro e w1 ⟨g3, ns, rfl, q1, q2, q3⟩; have HN := hid (And.intro q1 (And.intro q2 q3)); clear q1 q2 q3))
      go_roundw
      case rel =>
        refine ⟨j, g3, ns, Ds ++ [A], Rs, rfl, rfl, by omega, by rw [HAS.out]; simp, HR3.out, HN.out.2.1, HF.out.trans HN.out.1, ?_⟩
        exact (HGO.out.cat HN.out.2.2).iff (fun w => (catL_snoc Ds A w).symm)
      case measure => simp [intOf]; omega

/-- one of these rows -/
def oneOf (Bs : List (List Lang)) : Lang := fun w => ∃ B ∈ Bs, catL B w
theorem oneOf_snoc (Bs : List (List Lang)) (B : List Lang) (w : List Nat) : oneOf (Bs ++ [B]) w ↔ Lang.alt (oneOf Bs) (catL B) w := by
  unfold oneOf Lang.alt
  constructor
  · rintro ⟨D, hD, q⟩
    rcases List.mem_append.1 hD with hD | hD
    · exact .inl ⟨D, hD, q⟩
    · simp at hD; subst hD; exact .inr q
  · rintro (⟨D, hD, q⟩ | q)
    · exact ⟨D, by simp [hD], q⟩
    · exact ⟨B, by simp, q⟩
/-- what is to come: the rest of a branch, the branches behind it -/
def Rest (p : ByteArray) (z : Int) (Bs : List (List Lang)) : Prop := (Bs = [] ∧ z = p.size) ∨ (atB p z = 124 ∧ Alts (Pc p) p (z + 1) Bs p.size)

set_option maxRecDepth 20000 in
set_option maxHeartbeats 4000000 in
theorem zthrough_alts (p : ByteArray) (Bs : List (List Lang)) (hs : p.size ≤ 1000) (h : Alts (Pc p) p 0 Bs p.size) (hbr : ∀ u As, u.size ≤ p.size → Row (Pc u) 0 As u.size → SetC 85 u (catL As)) : SetC 64 p (oneOf Bs) := by
  intro t g fs w ht hg hl
  have HBR := hid hbr
  have PC := hid (fun (i : Nat) (w : World) (hi : i ≤ p.size) => zpce_all p (by omega) i w (by omega))
  have UN := hid (fun (w : World) (ga gb : Nat) (xs ys : List Bool) (ha : BSet w ga xs) (hb : BSet w gb ys) (la : xs.length = t.size + 1) (lb : ys.length = t.size + 1) => zunion_any w ga gb (t.size + 1) xs ys ha hb la lb (by omega))
  have HG := hid hg
  have HL := hid hl
  have HA := hid h
  have mk := fun w => run_make_row' (P := Tryz.prog) 69 4 (.bool false) 1 Tryz.underlying69 (by kernel_rfl) rfl .i64 .i64 (t.size + 1) (by omega) (by omega) w
  simp only [Int.natCast_add, Int.cast_ofNat_Int] at mk
  clear hbr hg hl h
  go_enter Tryz.func64, Tryz.ntmps64
  go_wp2
  go_loopw [7, 8, 9, 10] (fun x7 x8 x9 _ wr => ∃ (b i g1 : Nat) (os : List Bool) (Ds : List (List Lang)), x8 = .int .i64 b ∧ x9 = .int .i64 i ∧ x7 = bsl g1 (t.size + 1) ∧ BSet wr g1 os ∧ Fresh w wr ∧ Goes (oneOf Ds) t fs os ∧ i ≤ p.size + 1 ∧
        ((i = p.size + 1 ∧ Ds = Bs) ∨ (∃ (z : Nat) (Ls Rs : List Lang) (Ts : List (List Lang)), Bs = Ds ++ (Ls ++ Rs) :: Ts ∧ b ≤ i ∧ i ≤ p.size ∧ Row (Pc p) b Ls i ∧ Row (Pc p) i Rs z ∧ Rest p z Ts)))
      (fun _ _ x _ _ => 2001 - (intOf x).toNat)
  case atStart =>
    have hA := HA.out
    cases Bs with
    | nil => exact hA.elim
    | cons B Ts =>
      obtain ⟨z, _, q1, q2⟩ := hA
      have hz := row_le q1 (by omega) (by omega)
      obtain ⟨zn, rfl⟩ : ∃ n : Nat, z = n := ⟨z.toNat, by omega⟩
      refine ⟨0, 0, w.heap.size, List.replicate (t.size + 1) false, [], rfl, rfl, rfl, ?_, (Mod.refl _ w).alloc _, ?_, by omega, .inr ⟨zn, [], B, Ts, rfl, by omega, by omega, rfl, q1, q2⟩⟩
      · rw [made_bools]; exact heap_alloc_at _ _
      · refine (goes_none (by simp) (fun j q => ?_)).iff (fun w => ⟨fun q => q.elim, fun ⟨B, hB, _⟩ => by cases hB⟩)
        unfold On at q
        rw [List.getElem?_replicate] at q
        split at q <;> simp at q
  case round =>
    obtain ⟨b, i, g1, os, Ds, rfl, rfl, rfl, hB, hfr, hgo, hi1, hst⟩ := hrel
    have HB := hid hB
    have HF := hid hfr
    have HGO := hid hgo
    clear hB hfr hgo HA mk
    rcases hst with ⟨hip, hDs⟩ | ⟨z, Ls, Rs, Ts, hBs, hbi, hip, r1, r2, r3⟩
    · have k1 : ¬ (i : Int) ≤ (p.size : Int) := by omega
      have HD := hid hDs
      clear hip hDs
      go_wp2
      go_ret
      exact ⟨g1, os, rfl, HF.out, HB.out, by rw [← HD.out]; exact HGO.out⟩
    · have k1 : (i : Int) ≤ (p.size : Int) := by omega
      have HBS := hid hBs
      have HR1 := hid r1
      have HR3 := hid r3
      clear hBs r1 r3
      cases Rs with
      | nil =>
        have hiz : (i : Int) = z := r2
        have hiz' : i = z := by omega
        subst hiz'
        clear r2 hiz
        have hrow := row_cut hip HR1.out (b := b) (Int.le_refl _)
        have hsz := cut_size (s := p) (a := b) (e := i) hip
        rw [Int.sub_self, show (i : Int) - b = ((p.extract b i).size : Int) by omega] at hrow
        have BX := hid (fun (w : World) (hg : BSet w g fs) => HBR.out _ Ls (by omega) hrow t g fs w ht hg HL.out)
        have k2 : (b : Int) ≤ (i : Int) := by omega
        clear hrow hsz
        have FIN : Hid (∀ (wb : World) (g3 : Nat) (ns : List Bool), True → Goes (catL Ls) t fs ns → Goes (oneOf (Ds ++ [Ls])) t fs (orI os ns (t.size + 1) (t.size + 1))) := fun wb g3 ns _ hn => (HGO.out.alt hn (or_un HGO.out.len)).iff (fun w => (oneOf_snoc Ds Ls w).symm)
        have hne : i = p.size ∨ (∃ hlt : i < p.size, ((p[i].toNat : Int) == 124) = true) := by
          rcases HR3.out with ⟨_, q⟩ | ⟨q, _⟩
          · left; omega
          · right
            have hin := atB_lt (s := p) (i := (i : Int)) (by omega)
            have hlt : i < p.size := by omega
            refine ⟨hlt, ?_⟩
            rw [atB_ix hlt] at q
            simp [q]
        have NXT : Hid ((i + 1 = p.size + 1 ∧ Ds ++ [Ls] = Bs) ∨ (∃ (z : Nat) (Ls' Rs : List Lang) (Ts : List (List Lang)), Bs = (Ds ++ [Ls]) ++ (Ls' ++ Rs) :: Ts ∧ i + 1 ≤ i + 1 ∧ i + 1 ≤ p.size ∧ Row (Pc p) ((i + 1 : Nat) : Int) Ls' ((i + 1 : Nat) : Int) ∧ Row (Pc p) ((i + 1 : Nat) : Int) Rs z ∧ Rest p z Ts)) := by
          have hB := HBS.out
          rw [List.append_nil] at hB
          rcases HR3.out with ⟨q1, q2⟩ | ⟨q1, q2⟩
          · left
            refine ⟨by omega, ?_⟩
            rw [hB, q1]
          · right
            have hin := atB_lt (s := p) (i := (i : Int)) (by omega)
            cases Ts with
            | nil => exact q2.elim
            | cons B Ts =>
              obtain ⟨z2, _, y1, y2⟩ := q2
              have hz := row_le y1 (by omega) (by omega)
              obtain ⟨zn, rfl⟩ : ∃ n : Nat, z2 = n := ⟨z2.toNat, by omega⟩
              exact ⟨zn, [], B, Ts, by rw [hB]; simp, by omega, by omega, rfl, y1, y2⟩
        clear HBS HR1 HR3 HBR
        rcases hne with hne | ⟨hlt, h124⟩
        · have k3 : ((i : Int) == (p.size : Int)) = true := by simp; omega
          clear hne
          go_wp2_with (first
            | (go_at_call 49; have stage := HN.out.1; refine (UN.out w1 g1 g3 os ns (HB.out.fresh HN.out.1) HN.out.2.1 HGO.out.len HN.out.2.2.len).mono ?_; rintro e w3 ⟨rfl, hf3, hb3⟩; have HU := hid (And.intro hf3 hb3); clear hf3 hb3)
            | (go_at_call 85; refine (BX.out _ (HG.out.fresh HF.out)).mono ?_; rintro e w1 ⟨g3, ns, rfl, q1, q2, q3⟩; have HN := hid (And.intro q1 (And.intro q2 q3)); clear q1 q2 q3))
          go_roundw
          case rel => exact ⟨i + 1, i + 1, _, _, Ds ++ [Ls], by go_num, by go_num, rfl, HU.out.2, (HF.out.trans HN.out.1).trans HU.out.1, FIN.out w1 g3 ns trivial HN.out.2.2, by omega, NXT.out⟩
          case measure => simp [intOf]; omega
        · have k3 : ((i : Int) == (p.size : Int)) = false := by simp; omega
          have k4 : (i : Int) < (p.size : Int) := by omega
          have hbl : p[i].toNat < 256 := p[i].toNat_lt
          go_wp2_with (first
            | (go_at_call 49; have stage := HN.out.1; refine (UN.out w1 g1 g3 os ns (HB.out.fresh HN.out.1) HN.out.2.1 HGO.out.len HN.out.2.2.len).mono ?_; rintro e w3 ⟨rfl, hf3, hb3⟩; have HU := hid (And.intro hf3 hb3); clear hf3 hb3)
            | (go_at_call 85; refine (BX.out _ (HG.out.fresh HF.out)).mono ?_; rintro e w1 ⟨g3, ns, rfl, q1, q2, q3⟩; have HN := hid (And.intro q1 (And.intro q2 q3)); clear q1 q2 q3))
          go_roundw
          case rel => exact ⟨i + 1, i + 1, _, _, Ds ++ [Ls], by go_num, by go_num, rfl, HU.out.2, (HF.out.trans HN.out.1).trans HU.out.1, FIN.out w1 g3 ns trivial HN.out.2.2, by omega, NXT.out⟩
          case measure => simp [intOf]; omega
      | cons A Rs =>
        obtain ⟨y1, y2, y3⟩ := r2
        have hbg := piece_begins y1
        have hlt0 := atB_lt (s := p) (i := (i : Int)) (beg_in hbg)
        have hlt : i < p.size := by omega
        have g0 := lg_pc p i (by omega) (by omega) y1
        obtain ⟨j, hj⟩ : ∃ j : Nat, (Pc p i).next = j := ⟨(Pc p i).next.toNat, by omega⟩
        have PX := hid (fun w => PC.out i w hip)
        have hzp : zPiece (zAtom (zgK p 6) p) p i = j := by
          have := zPieceK_rel (p := p) 6 (x := (i : Int)) (by omega) (by omega)
          unfold Says at this
          have e1 : lPiece (lAtom (lgK p 6) p) p i = ⟨(j : Int), true, A⟩ := by
            show Pc p i = _
            rw [← hj, ← y2]; exact lr_eta y1
          rw [e1] at this; exact this
        rw [hzp] at PX
        have hsn : Row (Pc p) b (Ls ++ [A]) ((j : Nat) : Int) := by
          have := Row.snoc HR1.out y1
          rw [y2, hj] at this; exact this
        rw [hj] at y3
        have HY3 := hid y3
        have HSN := hid hsn
        have n124 : ((p[i].toNat : Int) == 124) = false := by
          rw [atB_ix hlt] at hbg
          cases q : ((p[i].toNat : Int) == 124)
          · rfl
          · have : (p[i].toNat : Int) = 124 := by simpa using q
            rw [this] at hbg; revert hbg; decide
        have k3 : ((i : Int) == (p.size : Int)) = false := by simp; omega
        have k4 : (i : Int) < (p.size : Int) := by omega
        have hbl : p[i].toNat < 256 := p[i].toNat_lt
        have k5 : ¬ (j : Int) < 0 := by omega
        have b1 : i < j := by omega
        have b2 : j ≤ p.size := by omega
        clear y1 y2 y3 hbg hzp hj hsn HR1 g0 hlt0
        go_wp2_with (first
          | (go_at_call 84; refine (PX.out _).mono ?_; rintro e w' ⟨rfl, hw⟩; rw [hw]; clear hw))
        go_roundw
        case rel => exact ⟨b, j, g1, os, Ds, rfl, rfl, rfl, HB.out, HF.out, HGO.out, by omega, .inr ⟨z, Ls ++ [A], Rs, Ts, by rw [HBS.out]; simp, by omega, by omega, HSN.out, HY3.out, HR3.out⟩⟩
        case measure => simp [intOf]; omega
/-- the reference follows a pattern through a text -/
theorem zthrough_all : ∀ (N : Nat) (p : ByteArray) (L : Lang), p.size ≤ N → p.size ≤ 1000 → PatIs p L → SetC 64 p L
  | 0, p, L, hN, hs, h => by
    exfalso
    have g := lg_chK p 6 0 (by omega) (by omega) (by rw [h])
    rw [h] at g
    dsimp only at g
    omega
  | N + 1, p, L, hN, hs, h => by
    have hok : (lchK p 6 0).ok = true := by rw [h]
    obtain ⟨Bs, h1, h2⟩ := choice_alts (P := Pc p) (s := p) (x := 0) hok
    have e : lChoice (lBranch (Pc p) p) p 0 = ⟨p.size, true, L⟩ := h
    rw [e] at h1 h2
    dsimp only at h1 h2
    have key := zthrough_alts p Bs hs h1 (fun u As hu hr => zbranch_any u As (by omega) hr (fun q M hq hM => zsome_any q M (by omega) hM (fun a A ha hA => zone_any a A (by omega) hA (fun c C hc hC => zthrough_all N c C (by omega) (by omega) hC))))
    intro t g fs w ht hg hl
    refine (key t g fs w ht hg hl).mono ?_
    rintro e w' ⟨g', gs, q1, q2, q3, q4⟩
    exact ⟨g', gs, q1, q2, q3, q4.iff (fun w => (h2 w).symm)⟩
end Go.Proofs.YtcpgklcimacngaaGreat
namespace Go.Proofs.YtcpgklcimacngaaGreat
open Go.RowKit
set_option linter.unusedVariables false
set_option linter.unusedSimpArgs false

theorem reach_zero {L : Lang} {t : ByteArray} {n j : Nat} : Reach L t (On ((List.replicate (n + 1) false).set 0 true)) j ↔ L (bytesK t 0 j) := by
  constructor
  · rintro ⟨i, h1, h2, h3⟩
    have : i = 0 := by
      unfold On at h2
      rw [List.getElem?_set] at h2
      by_cases e : 0 = i
      · exact e.symm
      · rw [if_neg e, List.getElem?_replicate] at h2
        split at h2 <;> simp at h2
    subst this
    exact h3
  · intro h
    exact ⟨0, by omega, by unfold On; simp, h⟩
def LenRet (L : Lang) (t : ByteArray) (w : World) (e : Ending) (w' : World) : Prop :=
  ∃ g gs, e = .returned (bsl g (t.size + 1)) ∧ Fresh w w' ∧ BSet w' g gs ∧ gs.length = t.size + 1 ∧ ∀ j, j ≤ t.size → (On gs j ↔ L (bytesK t 0 j))
set_option maxRecDepth 20000 in
set_option maxHeartbeats 1000000 in
theorem zlengths_any (p t : ByteArray) (L : Lang) (w : World) (hs : p.size ≤ 1000) (ht : t.size ≤ 210) (h : PatIs p L) :
    Calls Tryz.prog 42 #[.string p, .string t] w fun e w' => LenRet L t w e w' := by
  have TH := hid (zthrough_all p.size p L (Nat.le_refl _) hs h t)
  have mk := fun w => run_make_row' (P := Tryz.prog) 69 4 (.bool false) 1 Tryz.underlying69 (by kernel_rfl) rfl .i64 .i64 (t.size + 1) (by omega) (by omega) w
  simp only [Int.natCast_add, Int.cast_ofNat_Int] at mk
  have hB : BSet (w.alloc (.cells (madeCells #[.bool false] (t.size + 1)) 4)) w.heap.size (List.replicate (t.size + 1) false) := by
    rw [made_bools]; exact heap_alloc_at _ _
  have c0 := hB.cell (j := 0) (by simp)
  have f0 := hB.frozen 0
  have e0 : (List.replicate (t.size + 1) false).getD 0 false = false := by simp
  rw [e0] at c0
  have HB : Hid (BSet (w.alloc (.cells ((madeCells #[.bool false] (t.size + 1)).setIfInBounds 0 (.bool true)) 4)) w.heap.size ((List.replicate (t.size + 1) false).set 0 true)) := by
    unfold Hid BSet
    rw [heap_alloc_at, made_bools]
    congr 2
  have k1 : (0 : Int) < (t.size : Int) + 1 := by omega
  clear hB e0
  go_enter Tryz.func42, Tryz.ntmps42
  go_wp2_with (first
    | (go_at_call 64; refine (TH.out w.heap.size _ _ ht HB.out (by simp)).mono ?_; rintro e w1 ⟨g3, ns, rfl, q1, q2, q3⟩; have HN := hid (And.intro q1 (And.intro q2 q3)); clear q1 q2 q3))
  go_ret
  obtain ⟨q1, q2, q3⟩ := HN.out
  refine ⟨g3, ns, rfl, ((Mod.refl _ w).alloc _).trans q1, q2, q3.len, fun j hj => ?_⟩
  rw [q3.on j hj]; exact reach_zero
def MatRet (L : Lang) (t : ByteArray) (w : World) (e : Ending) (w' : World) : Prop :=
  ∃ b : Bool, e = .returned (.bool b) ∧ (b = true ↔ L (bytesOf t)) ∧ Fresh w w'
set_option maxRecDepth 20000 in
set_option maxHeartbeats 1000000 in
theorem zmatches_any (p t : ByteArray) (L : Lang) (w : World) (hs : p.size ≤ 1000) (ht : t.size ≤ 210) (h : PatIs p L) :
    Calls Tryz.prog 19 #[.string p, .string t] w fun e w' => MatRet L t w e w' := by
  have LE := hid (zlengths_any p t L w hs ht h)
  have k1 : (t.size : Int) < (t.size : Int) + 1 := by omega
  clear h
  go_enter Tryz.func19, Tryz.ntmps19
  go_wp2_with (first
    | (go_at_call 42; refine (LE.out).mono ?_; rintro e w1 ⟨g3, ns, rfl, q1, q2, q3, q4⟩; have hc := q2.cell (j := t.size) (by omega); have HN := hid (And.intro q1 (q4 t.size (Nat.le_refl _))); clear q1 q2 q3 q4))
  go_ret
  obtain ⟨q1, q2⟩ := HN.out
  refine ⟨_, rfl, ?_, q1⟩
  show _ ↔ L (bytesK t 0 t.size)
  rw [← q2, on_getD, List.getD_eq_getElem?_getD]
end Go.Proofs.YtcpgklcimacngaaGreat
