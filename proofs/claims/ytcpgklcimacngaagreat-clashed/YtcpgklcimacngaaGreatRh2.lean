import Derived.Test.YtcpgklcimacngaaGreatRf9
namespace Go.Proofs.YtcpgklcimacngaaGreat
open Go.RowKit
set_option linter.unusedVariables false
set_option linter.unusedSimpArgs false

theorem infoZL : (Tryz.prog.info? 64).map (fun i => (i.zero, i.size, i.bytes)) = some (some (.agg (zlA false false ⟨#[]⟩ ⟨#[]⟩ (.slice none 0 0) (.slice none 0 0) 0)), 7, 96) := by kernel_rfl
theorem infoZL' : ∃ i, Tryz.prog.info? 64 = some i ∧ i.zero = some (.agg (zlA false false ⟨#[]⟩ ⟨#[]⟩ (.slice none 0 0) (.slice none 0 0) 0)) ∧ i.size = 7 ∧ i.bytes = 96 := by
  have h := infoZL
  cases hq : Tryz.prog.info? 64 with
  | none => simp [hq] at h
  | some i => simp [hq] at h; exact ⟨i, rfl, h.1, h.2.1, h.2.2⟩
/-- v is a slice of these lines -/
structure ZLinesAt (b : Nat) (w : World) (v : Value) (xs : List ZLV) : Prop where
  own : w.ownsRow b 64 7 v xs.length (flatC ZLV.cells xs)
  each : ∀ x ∈ xs, x.At b w
structure ZLRel (w wr : World) (v : Value) (xs : List ZLV) : Prop where
  own : wr.ownsRow w.heap.size 64 7 v xs.length (flatC ZLV.cells xs)
  each : ∀ x ∈ xs, x.At w.heap.size wr
  dis : ∀ x ∈ xs, ∀ k, v.ownBlock = some k → x.vs.ownBlock ≠ some k ∧ x.vp.ownBlock ≠ some k
  fresh : Fresh w wr
theorem ZLV.At.lt {b : Nat} {w : World} {x : ZLV} (h : x.At b w) : (∀ k, x.vs.ownBlock = some k → b ≤ k ∧ k < w.heap.size) ∧ (∀ k, x.vp.ownBlock = some k → b ≤ k ∧ k < w.heap.size) := ⟨h.syms.lt, h.places.lt⟩
theorem ZLV.At.base {b b' : Nat} {w : World} {x : ZLV} (h : x.At b w) (hb : b' ≤ b) : x.At b' w := ⟨ownsRow_base h.syms hb, ownsRow_base h.places hb⟩
theorem ZLV.At.put {b : Nat} {w : World} {x : ZLV} (h : x.At b w) (a : Int) : ZLV.At b w { x with pl := a } := ⟨h.syms, h.places⟩
theorem ZLRel.next {w wr w1 W w2 : World} {v v' : Value} {xs : List ZLV} {x : ZLV} (h : ZLRel w wr v xs) (hf : Fresh wr w1) (hx : x.At wr.heap.size w1) (m1 : Fresh w1 W)
    (hown : w2.ownsRow w.heap.size 64 7 v' (xs.length + 1) (flatC ZLV.cells xs ++ x.cells)) (hg : W.grownBy w2 v.ownBlock)
    (hb : ∀ k, v'.ownBlock = some k → v.ownBlock = some k ∨ W.heap.size ≤ k) : ZLRel w w2 v' (xs ++ [x]) := by
  have m2 : Mod (fun k => v.ownBlock = some k) W w2 := Mod.grown (S := fun k => v.ownBlock = some k) (Mod.refl _ _) hg (fun k hk _ => hk)
  have hvl : ∀ k, v.ownBlock = some k → w.heap.size ≤ k ∧ k < wr.heap.size := h.own.lt
  have hz0 := h.fresh.size
  have hz1 := hf.size
  have hz2 := m1.size
  have hxl := hx.lt
  refine ⟨?_, ?_, ?_, ?_⟩
  · rw [flat_snoc, List.length_append, List.length_singleton]; exact hown
  · intro y hy
    rcases List.mem_append.1 hy with hy | hy
    · exact (((h.each y hy).fresh hf).fresh m1).kept m2 (fun k hk e => (h.dis y hy k e).1 hk) (fun k hk e => (h.dis y hy k e).2 hk)
    · simp at hy; subst hy
      exact ((hx.fresh m1).kept m2 (fun k hk e => by have := hxl.1 k hk; have := hvl k e; omega) (fun k hk e => by have := hxl.2 k hk; have := hvl k e; omega)).base hz0
  · intro y hy k hk
    rcases List.mem_append.1 hy with hy | hy
    · rcases hb k hk with h1 | h1
      · exact h.dis y hy k h1
      · have := ((h.each y hy).fresh hf).lt
        exact ⟨fun e => by have := this.1 k e; omega, fun e => by have := this.2 k e; omega⟩
    · simp at hy; subst hy
      rcases hb k hk with h1 | h1
      · have h3 := hvl k h1
        exact ⟨fun e => by have := hxl.1 k e; omega, fun e => by have := hxl.2 k e; omega⟩
      · exact ⟨fun e => by have := hxl.1 k e; omega, fun e => by have := hxl.2 k e; omega⟩
  · exact Mod.trans' (S := fun _ => False) ((h.fresh.trans hf).trans m1) m2 (fun i hi e => by have := hvl i e; omega)

/-- where a line ends -/
def nlL (s : ByteArray) : Nat → Nat → Nat
  | 0, n => n
  | f + 1, n => if n < s.size ∧ atB s n ≠ 10 then nlL s f (n + 1) else n
def nlF (s : ByteArray) (a : Nat) : Nat := nlL s (s.size + 1) a
theorem nlL_s (s : ByteArray) (f n : Nat) : nlL s (f + 1) n = if n < s.size ∧ atB s n ≠ 10 then nlL s f (n + 1) else n := rfl
theorem nlL_spec (s : ByteArray) : ∀ (f n : Nat), n ≤ s.size → s.size + 1 ≤ f + n → n ≤ nlL s f n ∧ nlL s f n ≤ s.size ∧ (nlL s f n = s.size ∨ atB s (nlL s f n) = 10) ∧ ∀ k, n ≤ k → k < nlL s f n → atB s (k : Nat) ≠ 10
  | 0, n, h1, h2 => by omega
  | f + 1, n, h1, h2 => by
    rw [nlL_s]
    by_cases c : n < s.size ∧ atB s n ≠ 10
    · rw [if_pos c]
      obtain ⟨q1, q2, q3, q4⟩ := nlL_spec s f (n + 1) (by omega) (by omega)
      refine ⟨by omega, q2, q3, fun k k1 k2 => ?_⟩
      by_cases e : k = n
      · subst e; exact c.2
      · exact q4 k (by omega) k2
    · rw [if_neg c]
      refine ⟨Nat.le_refl _, h1, ?_, fun k k1 k2 => by omega⟩
      by_cases q : n < s.size
      · right
        by_cases q2 : atB s n = 10
        · exact q2
        · exact absurd ⟨q, q2⟩ c
      · left; omega
theorem nlF_spec (s : ByteArray) {a : Nat} (h : a ≤ s.size) : a ≤ nlF s a ∧ nlF s a ≤ s.size ∧ (nlF s a = s.size ∨ atB s (nlF s a) = 10) ∧ ∀ k, a ≤ k → k < nlF s a → atB s (k : Nat) ≠ 10 := nlL_spec s _ a h (by omega)
/-- the lines, and where they begin; else the place of the first byte that cannot stand -/
def zFormL (s : ByteArray) : Nat → Nat → List (ZLn × Int) → List (ZLn × Int) × Int
  | 0, _, acc => (acc, -1)
  | f + 1, a, acc =>
    if a < s.size then
      match zLine (s.extract a (nlF s a)) with
      | some z => if nlF s a = s.size then ([], (standsF s a (nlF s a) : Int)) else zFormL s f (nlF s a + 1) (acc ++ [(z, (a : Int))])
      | none => ([], (standsF s a (nlF s a) : Int))
    else (acc, -1)
def zForm (s : ByteArray) : List (ZLn × Int) × Int := zFormL s (s.size + 1) 0 []
theorem zFormL_s (s : ByteArray) (f a : Nat) (acc : List (ZLn × Int)) : zFormL s (f + 1) a acc = if a < s.size then
      match zLine (s.extract a (nlF s a)) with
      | some z => if nlF s a = s.size then ([], (standsF s a (nlF s a) : Int)) else zFormL s f (nlF s a + 1) (acc ++ [(z, (a : Int))])
      | none => ([], (standsF s a (nlF s a) : Int))
    else (acc, -1) := rfl
def ZLV.both (x : ZLV) : ZLn × Int := (x.ln, x.pl)

set_option maxRecDepth 20000 in
set_option maxHeartbeats 4000000 in
theorem zform_any (s : ByteArray) (w : World) (hs : s.size ≤ 900) :
    Calls Tryz.prog 16 #[.string s] w fun e w' => ∃ (v : Value) (xs : List ZLV), xs.map ZLV.both = (zForm s).1 ∧ e = .returned (.tuple #[v, .int .i64 (zForm s).2]) ∧ Fresh w w' ∧ ZLinesAt w.heap.size w' v xs := by
  generalize hR : zForm s = R
  have HR : Hid (zFormL s (s.size + 1) 0 [] = R) := hR
  obtain ⟨i0, hi, hz0, hz1, hz2⟩ := infoZL'
  have ZL := hid (fun (t : ByteArray) (w : World) (h : t.size ≤ 70000) => zline_any t w h)
  have ST := hid (fun (a n : Nat) (w : World) (h1 : a ≤ n) (h2 : n ≤ s.size) => stands_any s a n w (by omega) h1 h2)
  clear hR
  go_enter Tryz.func16, Tryz.ntmps16
  go_wp2
  go_loopw [4, 5] (fun x4 x5 wr => ∃ (f a : Nat) (xs : List ZLV), x5 = .int .i64 a ∧ zFormL s f a (xs.map ZLV.both) = R ∧ a ≤ s.size ∧ s.size + 1 ≤ f + a ∧ xs.length ≤ a ∧ ZLRel w wr x4 xs)
      (fun _ x _ => 2001 - (intOf x).toNat)
  case atStart => exact ⟨s.size + 1, 0, [], rfl, HR.out, by omega, by omega, by simp, ⟨World.ownsRow_nil _ _ _ _, (fun _ h => by cases h), (fun _ h => by cases h), Mod.refl _ _⟩⟩
  case round =>
    obtain ⟨f, a, xs, rfl, hR, ha, hfu, hcnt, hL⟩ := hrel
    obtain ⟨f, rfl⟩ : ∃ g, f = g + 1 := ⟨f - 1, by omega⟩
    rw [zFormL_s] at hR
    have HL := hid hL
    obtain ⟨ao, cap, hv⟩ := own_form hL.own
    clear hL HR
    subst hv
    by_cases hlt : a < s.size
    · rw [if_pos hlt] at hR
      obtain ⟨n1, n2, n3, n4⟩ := nlF_spec s (a := a) (by omega)
      generalize hn : nlF s a = n at n1 n2 n3 n4 hR
      have HN : Hid (nlL s (s.size + 1) a = n) := hn
      have HRR := hid hR
      have hk1 : (a : Int) < (s.size : Int) := by omega
      clear hn hR n4 n3
      generalize hw0 : wr = w0 at HL
      go_wp2
      go_loopw [6] (fun x6 wr => ∃ (g m : Nat), x6 = .int .i64 m ∧ wr = w0 ∧ a ≤ m ∧ m ≤ s.size ∧ s.size + 1 ≤ g + m ∧ nlL s g m = n)
          (fun x _ => 2001 - (intOf x).toNat)
      case atStart => exact ⟨s.size + 1, a, rfl, by first | rfl | trivial, by omega, by omega, by omega, HN.out⟩
      case round =>
        obtain ⟨g, m, rfl, rfl, hm1, hm2, hg, hrec⟩ := hrel
        obtain ⟨g, rfl⟩ : ∃ k, g = k + 1 := ⟨g - 1, by omega⟩
        rw [nlL_s] at hrec
        clear HN
        by_cases hm : m < s.size
        · have hb := atB_ix hm
          have hbl : s[m].toNat < 256 := s[m].toNat_lt
          have k1 : (m : Int) < (s.size : Int) := by omega
          rw [hb] at hrec
          clear hb
          by_cases c10 : (s[m].toNat : Int) = 10
          · rw [if_neg (fun q => q.2 c10)] at hrec
            have q1 : ((s[m].toNat : Int) != 10) = false := by simp [c10]
            subst hrec
            clear c10
            -- the line ends here
            have hsz : (s.extract a m).size ≤ 70000 := by rw [ByteArray.size_extract]; omega
            have ZX := hid (fun w => ZL.out (s.extract a m) w hsz)
            have SX := hid (fun w => ST.out a m w (by omega) (by omega))
            have b1 : (a : Int) ≤ (m : Int) := by omega
            have b2 : (m : Int) ≤ (s.size : Int) := by omega
            have k2 : ((m : Int) == (s.size : Int)) = false := by simp; omega
            have k3 : ¬ (m : Int) = (s.size : Int) := by omega
            have HM : Hid (¬ m = s.size) := by unfold Hid; omega
            generalize zLine (s.extract a m) = zt at ZX HRR
            cases zt with
            | none =>
              have HR3 : Hid (R = ([], (standsF s a m : Int))) := HRR.out.symm
              clear HRR
              go_wp2_with (first
                | (go_at_call 39; refine (ZX.out _).mono ?_; rintro e w1 ⟨x, he, hA, hf1, hx⟩; rw [Option.isSome_none] at he; subst he; have HF1 := hid hf1; have HAT := hid hA; clear hf1 hA hx)
                | (refine wpList_store_new rfl 64 _ _ rfl w1 _ _ _ rfl rfl rfl szZL rfl HAT.out.one ?_)
                | (go_at_call 40; refine (SX.out _).mono ?_; rintro e w2 ⟨rfl, hf2⟩))
              refine bodyPost_ret (results_tmp2 rfl _ _ _) rfl ⟨.slice none 0 0, [], by rw [HR3.out]; rfl, by rw [HR3.out]; rfl, ((HL.out.fresh.trans HF1.out).alloc _).trans hf2, ⟨World.ownsRow_nil _ _ _ _, fun _ h => by cases h⟩⟩
            | some z =>
              have HR3 : Hid (zFormL s f (m + 1) (xs.map ZLV.both ++ [(z, (a : Int))]) = R) := by
                have := HRR.out
                dsimp only at this
                rw [if_neg HM.out] at this; exact this
              clear HRR
              go_wp2_with (first
                | (go_at_call 39; refine (ZX.out _).mono ?_; rintro e w1 ⟨x, he, hA, hf1, hx⟩; rw [Option.isSome_some] at he; subst he; have HF1 := hid hf1; have HAT := hid hA; have HX := hid (hx z rfl); have hz9 := hf1.size; clear hf1 hA hx; obtain ⟨⟨xr, xk, xn, xp, xs_, xpl⟩, vs, vp, pl⟩ := x; obtain ⟨so, sc, hvs⟩ := own_form HAT.out.syms; obtain ⟨po, pc, hvp⟩ := own_form HAT.out.places; dsimp only at hvs hvp; subst hvs; subst hvp)
                | (refine wpList_store_new rfl 64 _ _ rfl w1 _ (zlA xr xk xn xp (.slice so xs_.length sc) (.slice po xpl.length pc) pl) _ rfl rfl rfl szZL rfl (zl_one rfl rfl) ?_)
                | (refine wpList_load_row rfl 64 _ rfl w1.heap.size rfl (zlA xr xk xn xp (.slice so xs_.length sc) (.slice po xpl.length pc) (a : Int)) _ _ _ (by rw [Proofs.YtcpgklcimacngaaGreat.heap_setCell_same (heap_alloc_at _ _)]; rfl) Tryz.underlying64 rfl szZL ?_)
                | (at_builtin; refine wpList_append_mine _ rfl _ _ 52 rfl w.heap.size 64 i0 _ 7 96 Tryz.underlying52 hi hz0 hz1 hz2 rfl (by decide) _ _ _ rfl (((ownsRow_other HL.out.own (fun g hg => HF1.out.block g (HL.out.own.lt g hg).2 (fun x => x))).alloc _).alloc _) ⟨w1.heap.size + 1, 0, none⟩ 1 1 (zlL xr xk xn xp (.slice so xs_.length sc) (.slice po xpl.length pc) (a : Int)) rfl rfl ?c1 ?c2 ?c3 ?c4 ?c5 ?_))
              case c1 => exact new_cells2 rfl
              case c2 => intro u hu; exact (Array.all_eq_true_iff_forall_mem.1 (zl_one (r := xr) (k := xk) (nm := xn) (pt := xp) (vs := .slice so xs_.length sc) (vp := .slice po xpl.length pc) (a := (a : Int)) rfl rfl)) u (by simpa using hu)
              case c3 => unfold maxLen; omega
              case c4 => omega
              case c5 => have := HL.out.fresh.size; simp; omega
              intro v' w2 hown2 hgrow hblk
              have hL2 := HL.out.next HF1.out (HAT.out.put (a : Int)) (((Mod.refl _ w1).alloc _).alloc _) hown2 hgrow (by simpa using hblk)
              have HL2 := hid hL2
              clear hown2 hgrow hblk hL2
              go_wp2
              go_roundw
              case rel =>
                refine ⟨f, m + 1, _, by go_num, ?_, by omega, by omega, ?_, HL2.out⟩
                · rw [List.map_append, List.map_singleton]
                  have hx := HX.out
                  unfold ZLV.both
                  dsimp only
                  rw [hx]; exact HR3.out
                · simp; omega
              case measure => simp [intOf]; omega
          · rw [if_pos ⟨hm, c10⟩] at hrec
            have q1 : ((s[m].toNat : Int) != 10) = true := by simpa using c10
            have HRC := hid hrec
            clear hrec c10
            go_wp2
            go_roundw
            case rel => exact ⟨g, m + 1, by go_num, by first | rfl | trivial, by omega, by omega, by omega, HRC.out⟩
            case measure => simp [intOf]; omega
        · rw [if_neg (fun q => hm q.1)] at hrec
          have hms : m = s.size := by omega
          have k1 : ¬ (m : Int) < (s.size : Int) := by omega
          subst hrec
          have hsz : (s.extract a m).size ≤ 70000 := by rw [ByteArray.size_extract]; omega
          have ZX := hid (fun w => ZL.out (s.extract a m) w hsz)
          have SX := hid (fun w => ST.out a m w (by omega) (by omega))
          have b1 : (a : Int) ≤ (m : Int) := by omega
          have b2 : (m : Int) ≤ (s.size : Int) := by omega
          have k2 : ((m : Int) == (s.size : Int)) = true := by simp; omega
          have HM := hid hms
          clear hms
          generalize zLine (s.extract a m) = zt at ZX HRR
          cases zt with
          | none =>
            have HR3 : Hid (R = ([], (standsF s a m : Int))) := HRR.out.symm
            clear HRR
            go_wp2_with (first
              | (go_at_call 39; refine (ZX.out _).mono ?_; rintro e w1 ⟨x, he, hA, hf1, hx⟩; rw [Option.isSome_none] at he; subst he; have HF1 := hid hf1; have HAT := hid hA; clear hf1 hA hx)
              | (refine wpList_store_new rfl 64 _ _ rfl w1 _ _ _ rfl rfl rfl szZL rfl HAT.out.one ?_)
              | (go_at_call 40; refine (SX.out _).mono ?_; rintro e w2 ⟨rfl, hf2⟩))
            refine bodyPost_ret (results_tmp2 rfl _ _ _) rfl ⟨.slice none 0 0, [], by rw [HR3.out]; rfl, by rw [HR3.out]; rfl, ((HL.out.fresh.trans HF1.out).alloc _).trans hf2, ⟨World.ownsRow_nil _ _ _ _, fun _ h => by cases h⟩⟩
          | some z =>
            have HR3 : Hid (R = ([], (standsF s a m : Int))) := by
              have := HRR.out
              dsimp only at this
              rw [if_pos HM.out] at this; exact this.symm
            clear HRR
            go_wp2_with (first
              | (go_at_call 39; refine (ZX.out _).mono ?_; rintro e w1 ⟨x, he, hA, hf1, hx⟩; rw [Option.isSome_some] at he; subst he; have HF1 := hid hf1; have HAT := hid hA; clear hf1 hA hx)
              | (refine wpList_store_new rfl 64 _ _ rfl w1 _ _ _ rfl rfl rfl szZL rfl HAT.out.one ?_)
              | (go_at_call 40; refine (SX.out _).mono ?_; rintro e w2 ⟨rfl, hf2⟩))
            refine bodyPost_ret (results_tmp2 rfl _ _ _) rfl ⟨.slice none 0 0, [], by rw [HR3.out]; rfl, by rw [HR3.out]; rfl, ((HL.out.fresh.trans HF1.out).alloc _).trans hf2, ⟨World.ownsRow_nil _ _ _ _, fun _ h => by cases h⟩⟩
    · rw [if_neg hlt] at hR
      have HRR := hid hR
      have k1 : ¬ (a : Int) < (s.size : Int) := by omega
      clear hR
      go_wp2
      refine bodyPost_ret (results_tmp2 rfl _ _ _) rfl ⟨.slice ao xs.length cap, xs, by rw [← HRR.out], by rw [← HRR.out]; rfl, HL.out.fresh, ⟨HL.out.own, HL.out.each⟩⟩
end Go.Proofs.YtcpgklcimacngaaGreat
namespace Go.Proofs.YtcpgklcimacngaaGreat
open Go.RowKit
set_option linter.unusedVariables false
set_option linter.unusedSimpArgs false

set_option maxRecDepth 20000 in
set_option maxHeartbeats 1000000 in
theorem zfind_any (l : List ByteArray) (s : ByteArray) (v : Value) (w : World) (hl : StrsAt w v l) (hn : l.length ≤ 1000) :
    Calls Tryz.prog 41 #[v, .string s] w fun e w' => e = .returned (.int .i64 (findF l s)) ∧ w' = w := by
  obtain ⟨a, c, rfl, hc⟩ := hl
  have HC := hid hc
  clear hc
  go_enter Tryz.func41, Tryz.ntmps41
  go_wp2
  go_loop [5] (fun x => ∃ n : Nat, x = .int .i64 n ∧ n ≤ l.length ∧ ∀ j (hj : j < l.length), j < n → (l[j].toList == s.toList) = false)
    (fun x => 1001 - (intOf x).toNat)
  case atStart => exact ⟨0, rfl, by omega, fun j _ h => by omega⟩
  case round =>
    obtain ⟨n, rfl, hn1, hall⟩ := hrel
    have HME := hid (meas (B := 1001) n (by omega))
    have HA := hid hall
    clear hall
    by_cases hlt : n < l.length
    · obtain ⟨g, o, hao, hcell⟩ := HC.out n hlt
      subst hao
      cases h1 : (l[n].toList == s.toList)
      · go_wp2
        go_round
        case rel =>
          refine ⟨n + 1, by go_num, by omega, ?_⟩
          intro j hj hjn
          by_cases e : j = n
          · subst e; exact h1
          · exact HA.out j hj (by omega)
        case measure => exact HME.out
      · go_wp2
        go_ret
        refine ⟨ret_int ?_, rfl⟩
        have : l.findIdx (fun x => x.toList == s.toList) = n := by
          rw [List.findIdx_eq hlt]; exact ⟨h1, fun j hj => HA.out j (by omega) hj⟩
        unfold findF; rw [this, if_pos hlt]
    · go_wp2
      go_ret
      refine ⟨ret_int ?_, rfl⟩
      have : l.findIdx (fun x => x.toList == s.toList) = l.length := by
        apply List.findIdx_eq_length_of_false
        intro x hx
        obtain ⟨j, hj, rfl⟩ := List.getElem_of_mem hx
        exact HA.out j hj (by omega)
      unfold findF; rw [this, if_neg (by omega)]

/-- a row of an object: its slice, its elements' type and size, how many, what lies in it -/
structure Rz where
  v : Value
  ty : TypeId
  k : Nat
  n : Nat
  cs : List Value
structure OAt (w : World) (b : Nat) (ty : TypeId) (rs : List Rz) : Prop where
  blk : w.heap[b]? = some (.cells (rs.map Rz.v).toArray ty (0, 0))
  own : ∀ (i : Nat) (r : Rz), rs[i]? = some r → w.ownsRow (b + 1) r.ty r.k r.v r.n r.cs
  apart : ∀ (i j : Nat) (r r' : Rz) (k : Nat), rs[i]? = some r → rs[j]? = some r' → r.v.ownBlock = some k → r'.v.ownBlock = some k → i = j
section
variable {w w' W w1 : World} {b : Nat} {ty : TypeId} {rs : List Rz}
theorem OAt.lt (h : OAt w b ty rs) : b < w.heap.size := heap_lt h.blk
theorem OAt.own_lt (h : OAt w b ty rs) {i : Nat} {r : Rz} (hr : rs[i]? = some r) : ∀ k, r.v.ownBlock = some k → b < k ∧ k < w.heap.size := fun k hk => by
  have := (h.own i r hr).lt k hk; omega
theorem OAt.kept {S : Nat → Prop} (h : OAt w b ty rs) (m : Mod S w w') (hs : ∀ k, b ≤ k → k < w.heap.size → ¬ S k) : OAt w' b ty rs :=
  ⟨m.at h.blk (hs b (Nat.le_refl _) h.lt), fun i r hr => ownsRow_other (h.own i r hr) (fun g hg => m.block g (h.own_lt hr g hg).2 (hs g (by have := h.own_lt hr g hg; omega) (h.own_lt hr g hg).2)), h.apart⟩
theorem OAt.fresh (h : OAt w b ty rs) (m : Fresh w w') : OAt w' b ty rs := h.kept m (fun _ _ _ x => x)
/-- the object's block behind an append onto one of its rows -/
theorem OAt.blk_grown (h : OAt w b ty rs) (hW : Fresh w W) {i : Nat} {r : Rz} (hi : rs[i]? = some r) (hg : W.grownBy w1 r.v.ownBlock) : w1.heap[b]? = some (.cells (rs.map Rz.v).toArray ty (0, 0)) := by
  have hbb := hW.at h.blk (fun x => x)
  rw [hg.block b (heap_lt hbb) (fun e => by have := h.own_lt hi b e.symm; omega)]; exact hbb
/-- the object behind an append onto one of its rows, laid back -/
theorem oadd {i : Nat} {v v' : Value} {e : TypeId} {k n : Nat} {xs x : List Value} (h : OAt w b ty rs) (hW : Fresh w W) (hi : rs[i]? = some ⟨v, e, k, n, xs⟩)
    (hown : w1.ownsRow (b + 1) e k v' (n + 1) (xs ++ x)) (hg : W.grownBy w1 v.ownBlock)
    (hb : ∀ j, v'.ownBlock = some j → v.ownBlock = some j ∨ W.heap.size ≤ j) :
    OAt (w1.setCell ⟨b, i, none⟩ v') b ty (rs.set i ⟨v', e, k, n + 1, xs ++ x⟩) ∧ Mod (fun j => b ≤ j) w (w1.setCell ⟨b, i, none⟩ v') := by
  have hil := (List.getElem?_eq_some_iff.1 hi).1
  have h1 := h.blk_grown hW hi hg
  have hlt := hown.lt
  have hget : ∀ (j : Nat) (r : Rz), (rs.set i ⟨v', e, k, n + 1, xs ++ x⟩)[j]? = some r → (j = i ∧ r = ⟨v', e, k, n + 1, xs ++ x⟩) ∨ (j ≠ i ∧ rs[j]? = some r) := by
    intro j r hj
    by_cases e : i = j
    · subst e
      rw [List.getElem?_set_self hil] at hj
      left; exact ⟨rfl, by simpa using hj.symm⟩
    · rw [List.getElem?_set_ne e] at hj
      right; exact ⟨fun h => e h.symm, hj⟩
  have hap : ∀ (j : Nat) (r : Rz) (q : Nat), j ≠ i → rs[j]? = some r → r.v.ownBlock = some q → v'.ownBlock = some q → False := by
    intro j r q hne hj hk hk'
    rcases hb q hk' with h2 | h2
    · exact hne (h.apart j i r _ q hj hi hk h2)
    · have := h.own_lt hj q hk; have := hW.size; omega
  refine ⟨⟨?_, ?_, ?_⟩, ?_⟩
  · have := Proofs.YtcpgklcimacngaaGreat.heap_setCell_same h1 i v'
    rw [this, List.map_set]; simp
  · intro j r hj
    rcases hget j r hj with ⟨rfl, rfl⟩ | ⟨hne, hj⟩
    · exact ownsRow_other hown (fun g hg' => by rw [Proofs.YtcpgklcimacngaaGreat.heap_setCell_other _ (by have := hlt g hg'; simp; omega)])
    · refine ownsRow_other ((h.own j r hj)) (fun g hg' => ?_)
      have hl := h.own_lt hj g hg'
      rw [Proofs.YtcpgklcimacngaaGreat.heap_setCell_other _ (by simp; omega), hg.block g (by have := hW.size; omega) (fun e => hne (h.apart j i r _ g hj hi hg' e.symm)), hW.block g hl.2 (fun x => x)]
  · intro j j' r r' q hj hj' hk hk'
    rcases hget j r hj with ⟨e1, e2⟩ | ⟨hne, hj2⟩
    · rcases hget j' r' hj' with ⟨e3, e4⟩ | ⟨hne', hj2'⟩
      · rw [e1, e3]
      · subst e2; exact (hap j' r' q hne' hj2' hk' hk).elim
    · rcases hget j' r' hj' with ⟨e3, e4⟩ | ⟨hne', hj2'⟩
      · subst e4; exact (hap j r q hne hj2 hk hk').elim
      · exact h.apart j j' r r' q hj2 hj2' hk hk'
  · have m1 : Mod (fun j => b ≤ j) w W := hW.mono (fun _ _ x => x.elim)
    exact (m1.grown hg (fun q hk _ => by have := h.own_lt hi q hk; omega)).setCell (fun _ => Nat.le_refl _) _
end
/-- a specification of the reference -/
structure SP where
  rules : List ZLV
  prods : List ZLV
  heads : List ByteArray
  head : List Int
abbrev rowsS (X : SP) (v0 v1 v2 v3 v4 : Value) (sv : List Value) : List Rz :=
  [⟨v0, 64, 7, X.rules.length, flatC ZLV.cells X.rules⟩, ⟨v1, 64, 7, X.prods.length, flatC ZLV.cells X.prods⟩, ⟨v2, 9, 1, X.heads.length, strs X.heads⟩, ⟨v3, 3, 1, X.head.length, ints X.head⟩, ⟨v4, 50, 1, sv.length, sv⟩]
abbrev SPAt (w : World) (b : Nat) (X : SP) (v0 v1 v2 v3 v4 : Value) (sv : List Value) : Prop := OAt w b 61 (rowsS X v0 v1 v2 v3 v4 sv)
section
variable {w W w1 : World} {b : Nat} {X : SP} {v0 v1 v2 v3 v4 v' : Value} {sv : List Value}
abbrev UpZ (b : Nat) : World → World → Prop := Mod (fun k => b ≤ k)
theorem SPAt.cell (h : SPAt w b X v0 v1 v2 v3 v4 sv) (o : Nat) : w.cell? ⟨b, o, none⟩ = #[v0, v1, v2, v3, v4][o]? := by
  have := cellOf h.blk o; simpa using this
theorem SPAt.frozen (h : SPAt w b X v0 v1 v2 v3 v4 sv) (o : Nat) : w.frozen? ⟨b, o, none⟩ = false := frozenOf h.blk o
theorem SPAt.add0 {x : ZLV} (h : SPAt w b X v0 v1 v2 v3 v4 sv) (hW : Fresh w W) (hown : w1.ownsRow (b + 1) 64 7 v' (X.rules.length + 1) (flatC ZLV.cells X.rules ++ x.cells)) (hg : W.grownBy w1 v0.ownBlock)
    (hb : ∀ k, v'.ownBlock = some k → v0.ownBlock = some k ∨ W.heap.size ≤ k) :
    SPAt (w1.setCell ⟨b, 0, none⟩ v') b { X with rules := X.rules ++ [x] } v' v1 v2 v3 v4 sv ∧ UpZ b w (w1.setCell ⟨b, 0, none⟩ v') := by
  obtain ⟨a1, m⟩ := oadd (i := 0) h hW rfl hown hg hb
  refine ⟨?_, m⟩
  have e : (rowsS X v0 v1 v2 v3 v4 sv).set 0 ⟨v', 64, 7, X.rules.length + 1, flatC ZLV.cells X.rules ++ x.cells⟩ = rowsS { X with rules := X.rules ++ [x] } v' v1 v2 v3 v4 sv := by simp [rowsS, flat_snoc]
  rw [e] at a1; exact a1
theorem SPAt.add1 {x : ZLV} (h : SPAt w b X v0 v1 v2 v3 v4 sv) (hW : Fresh w W) (hown : w1.ownsRow (b + 1) 64 7 v' (X.prods.length + 1) (flatC ZLV.cells X.prods ++ x.cells)) (hg : W.grownBy w1 v1.ownBlock)
    (hb : ∀ k, v'.ownBlock = some k → v1.ownBlock = some k ∨ W.heap.size ≤ k) :
    SPAt (w1.setCell ⟨b, 1, none⟩ v') b { X with prods := X.prods ++ [x] } v0 v' v2 v3 v4 sv ∧ UpZ b w (w1.setCell ⟨b, 1, none⟩ v') := by
  obtain ⟨a1, m⟩ := oadd (i := 1) h hW rfl hown hg hb
  refine ⟨?_, m⟩
  have e : (rowsS X v0 v1 v2 v3 v4 sv).set 1 ⟨v', 64, 7, X.prods.length + 1, flatC ZLV.cells X.prods ++ x.cells⟩ = rowsS { X with prods := X.prods ++ [x] } v0 v' v2 v3 v4 sv := by simp [rowsS, flat_snoc]
  rw [e] at a1; exact a1
theorem SPAt.add2 {x : ByteArray} (h : SPAt w b X v0 v1 v2 v3 v4 sv) (hW : Fresh w W) (hown : w1.ownsRow (b + 1) 9 1 v' (X.heads.length + 1) (strs X.heads ++ [.string x])) (hg : W.grownBy w1 v2.ownBlock)
    (hb : ∀ k, v'.ownBlock = some k → v2.ownBlock = some k ∨ W.heap.size ≤ k) :
    SPAt (w1.setCell ⟨b, 2, none⟩ v') b { X with heads := X.heads ++ [x] } v0 v1 v' v3 v4 sv ∧ UpZ b w (w1.setCell ⟨b, 2, none⟩ v') := by
  obtain ⟨a1, m⟩ := oadd (i := 2) h hW rfl hown hg hb
  refine ⟨?_, m⟩
  have e : (rowsS X v0 v1 v2 v3 v4 sv).set 2 ⟨v', 9, 1, X.heads.length + 1, strs X.heads ++ [.string x]⟩ = rowsS { X with heads := X.heads ++ [x] } v0 v1 v' v3 v4 sv := by simp [rowsS]
  rw [e] at a1; exact a1
theorem SPAt.add3 {x : Int} (h : SPAt w b X v0 v1 v2 v3 v4 sv) (hW : Fresh w W) (hown : w1.ownsRow (b + 1) 3 1 v' (X.head.length + 1) (ints X.head ++ [.int .i64 x])) (hg : W.grownBy w1 v3.ownBlock)
    (hb : ∀ k, v'.ownBlock = some k → v3.ownBlock = some k ∨ W.heap.size ≤ k) :
    SPAt (w1.setCell ⟨b, 3, none⟩ v') b { X with head := X.head ++ [x] } v0 v1 v2 v' v4 sv ∧ UpZ b w (w1.setCell ⟨b, 3, none⟩ v') := by
  obtain ⟨a1, m⟩ := oadd (i := 3) h hW rfl hown hg hb
  refine ⟨?_, m⟩
  have e : (rowsS X v0 v1 v2 v3 v4 sv).set 3 ⟨v', 3, 1, X.head.length + 1, ints X.head ++ [.int .i64 x]⟩ = rowsS { X with head := X.head ++ [x] } v0 v1 v2 v' v4 sv := by simp [rowsS]
  rw [e] at a1; exact a1
theorem SPAt.add4 {u : Value} (h : SPAt w b X v0 v1 v2 v3 v4 sv) (hW : Fresh w W) (hown : w1.ownsRow (b + 1) 50 1 v' (sv.length + 1) (sv ++ [u])) (hg : W.grownBy w1 v4.ownBlock)
    (hb : ∀ k, v'.ownBlock = some k → v4.ownBlock = some k ∨ W.heap.size ≤ k) :
    SPAt (w1.setCell ⟨b, 4, none⟩ v') b X v0 v1 v2 v3 v' (sv ++ [u]) ∧ UpZ b w (w1.setCell ⟨b, 4, none⟩ v') := by
  obtain ⟨a1, m⟩ := oadd (i := 4) h hW rfl hown hg hb
  refine ⟨?_, m⟩
  have e : (rowsS X v0 v1 v2 v3 v4 sv).set 4 ⟨v', 50, 1, sv.length + 1, sv ++ [u]⟩ = rowsS X v0 v1 v2 v3 v' (sv ++ [u]) := by simp [rowsS]
  rw [e] at a1; exact a1
end
theorem ZLinesAt.kept {S : Nat → Prop} {b : Nat} {w w' : World} {v : Value} {xs : List ZLV} (h : ZLinesAt b w v xs) (m : Mod S w w') (hs : ∀ k, k < w.heap.size → ¬ S k) : ZLinesAt b w' v xs :=
  ⟨ownsRow_other h.own (fun g hg => m.block g (h.own.lt g hg).2 (hs g (h.own.lt g hg).2)), fun x hx => (h.each x hx).kept m (fun k hk => hs k ((h.each x hx).syms.lt k hk).2) (fun k hk => hs k ((h.each x hx).places.lt k hk).2)⟩
theorem ZLinesAt.row {b : Nat} {w : World} {v : Value} {xs : List ZLV} (h : ZLinesAt b w v xs) : RowAt ZLV.cells 7 64 w v xs := ⟨ownsRow_base h.own (Nat.zero_le _), fun x _ => rfl⟩
end Go.Proofs.YtcpgklcimacngaaGreat
