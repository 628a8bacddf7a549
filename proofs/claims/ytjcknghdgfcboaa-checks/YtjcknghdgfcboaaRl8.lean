import Derived.Test.YtjcknghdgfcboaaRl6
import Derived.Test.YtjcknghdgfcboaaRi5
import Derived.Test.YtjcknghdgfcboaaRows
import Derived.ProofKit
namespace Go.Proofs.Ytjcknghdgfcboaa
open Go.RowKit
set_option linter.unusedVariables false
set_option linter.unusedSimpArgs false

theorem closeN_at (t : ByteArray) : ∀ (c : Nat) (x : Int), 0 ≤ x → x < t.size + c → atB (closeN t c) x = if x < t.size then atB t x else 41
  | 0, x, h0, h => by rw [if_pos (by omega)]; rfl
  | c + 1, x, h0, h => by
    rw [closeN, atB_app, closeN_size]
    by_cases q : x < t.size + c
    · rw [if_pos (by omega)]; exact closeN_at t c x h0 q
    · rw [if_neg (by omega), if_neg (by omega), show x - ((t.size + c : Nat) : Int) = 0 by omega]; decide
/-- what is tried, and the line's end -/
def fullT (t v : ByteArray) (c : Nat) : ByteArray := closeN (t ++ v) c ++ ⟨#[10]⟩
section
variable (t v : ByteArray) (c : Nat)
theorem full_size : (fullT t v c).size = t.size + v.size + c + 1 := by unfold fullT; rw [ByteArray.size_append, closeN_size, ByteArray.size_append]; rfl
theorem full_part : (fullT t v c).extract 0 (t.size + v.size + c) = closeN (t ++ v) c := by
  unfold fullT
  exact ByteArray.extract_append_eq_left (by rw [closeN_size, ByteArray.size_append])
theorem full_in {x : Int} (h0 : 0 ≤ x) (h : x < t.size + v.size + c) : atB (fullT t v c) x = if x < t.size + v.size then atB (t ++ v) x else 41 := by
  unfold fullT
  rw [atB_app, closeN_size, ByteArray.size_append, if_pos (by omega), closeN_at _ _ _ h0 (by rw [ByteArray.size_append]; omega), ByteArray.size_append]
  by_cases q : x < t.size + v.size
  · rw [if_pos q, if_pos (by omega)]
  · rw [if_neg q, if_neg (by omega)]
theorem full_end : atB (fullT t v c) ((t.size + v.size + c : Nat) : Int) = 10 := by
  unfold fullT
  rw [atB_app, closeN_size, ByteArray.size_append, if_neg (by omega), Int.sub_self]; decide
theorem full_t {x : Int} (h0 : 0 ≤ x) (h : x < t.size) : atB (fullT t v c) x = atB t x := by
  rw [full_in t v c h0 (by omega), if_pos (by omega), atB_app, if_pos h]
theorem full_suf : SufL (fullT t v c) t.size v c := by
  refine ⟨fun j hj => ?_, fun j hj => ?_, ?_⟩
  · rw [full_in t v c (by omega) (by omega), if_pos (by omega), atB_app, if_neg (by omega)]
    congr 1; omega
  · rw [full_in t v c (by omega) (by omega), if_neg (by omega)]
  · have := full_end t v c
    rw [← this]; congr 1
end
section
variable {s : ByteArray} {a : Nat}
theorem full_alike {k : Nat} (hk : k ≤ s.size) (hak : a ≤ k) (v : ByteArray) (c : Nat) : Alike s a (fullT (s.extract a k) v c) 0 (k - a) := fun j hj => by
  have hsz := part_size (s := s) (a := a) (e := k) hk
  rw [full_t _ _ _ (by omega) (by omega), atB_part hk (by omega) (by omega)]
  congr 1; omega
/-- before the line fails it can go on -/
theorem goes_before (h : (rLine s a).2.2 = false) {k : Nat} (hak : a ≤ k) (hk : ((k + 1 : Nat) : Int) ≤ (rLine s a).2.1) (hks : k + 1 ≤ s.size) : goesF (s.extract a (k + 1)) = true := by
  obtain ⟨v, hv, c, hc, hT⟩ := line_comp (s := s) (i := a) (m := ((k + 1 : Nat) : Int)) (by omega) h (by omega) hk (by omega)
  have hsz := part_size (s := s) (a := a) (e := k + 1) hks
  have al := full_alike hks (by omega : a ≤ k + 1) v c
  have sf := full_suf (s.extract a (k + 1)) v c
  have y := hT (fullT (s.extract a (k + 1)) v c) 0 (Int.le_refl _) (al.less (by omega)) (by rw [show (0 : Int) + (((k + 1 : Nat) : Int) - a) = ((s.extract a (k + 1)).size : Int) by omega]; exact sf)
  have y1 : (rLine (fullT (s.extract a (k + 1)) v c) ((0 : Nat) : Int)).2.2 = true := y.1
  obtain ⟨e, e1, e2, e3, e4, e5, z, e6, e7⟩ := zline_of y1
  have e8 : (rLine (fullT (s.extract a (k + 1)) v c) ((0 : Nat) : Int)).2.1 = _ := y.2
  rw [e4] at e8
  have e9 : e = (s.extract a (k + 1)).size + v.size + c := by omega
  rw [e9, full_part] at e6
  unfold goesF
  rw [List.any_eq_true]
  refine ⟨v, hv, ?_⟩
  rw [List.any_eq_true]
  exact ⟨c, List.mem_range.2 (by omega), by rw [e6]; rfl⟩
/-- with the byte at which it fails it cannot -/
theorem goes_not (h : (rLine s a).2.2 = false) {p : Nat} (hp : (rLine s a).2.1 = p) (hap : a ≤ p) (hps : p < s.size) : goesF (s.extract a (p + 1)) = false := by
  cases hg : goesF (s.extract a (p + 1))
  · rfl
  · exfalso
    unfold goesF at hg
    rw [List.any_eq_true] at hg
    obtain ⟨v, hv, hg⟩ := hg
    rw [List.any_eq_true] at hg
    obtain ⟨c, hc, hg⟩ := hg
    have hsz := part_size (s := s) (a := a) (e := p + 1) (by omega)
    have hfz := full_size (s.extract a (p + 1)) v c
    have al := full_alike (s := s) (a := a) (k := p + 1) (by omega) (by omega) v c
    have ok := rline_of (s := fullT (s.extract a (p + 1)) v c) (i := 0) (e := (s.extract a (p + 1)).size + v.size + c) (by omega) (by omega) (full_end _ _ _) (by rw [full_part]; exact hg)
    have bad := line_det (s := s) (T := fullT (s.extract a (p + 1)) v c) (i := a) (i' := 0) (n := p + 1 - a) (by omega) (Int.le_refl _) h al (by omega) (by omega)
    have ok' : (rLine (fullT (s.extract a (p + 1)) v c) 0).2.2 = true := ok
    rw [bad] at ok'; cases ok'
theorem stands_is (h : (rLine s a).2.2 = false) {p n : Nat} (hp : (rLine s a).2.1 = p) (hpn : p ≤ n) (hns : n ≤ s.size) : ∀ (f k : Nat), a ≤ k → k ≤ p → n + 1 ≤ f + k → standsL s a n f k = p
  | 0, k, h1, h2, h3 => by omega
  | f + 1, k, h1, h2, h3 => by
    rw [standsL_s]
    by_cases c : k < n
    · rw [if_pos c]
      by_cases q : k = p
      · subst q
        rw [if_neg (by rw [goes_not h hp h1 (by omega)]; simp)]
      · rw [if_pos (goes_before h h1 (by omega) (by omega))]
        exact stands_is h hp hpn hns f (k + 1) (by omega) (by omega) (by omega)
    · rw [if_neg c]; omega
end
/-- the place of the first byte that cannot stand -/
theorem place_is {s : ByteArray} {a : Nat} (ha : a ≤ s.size) (h : (rLine s a).2.2 = false) : (standsF s a (nlF s a) : Int) = (rLine s a).2.1 := by
  obtain ⟨cl, lo⟩ := line_cl (s := s) (i := a) (by omega) h
  have hin := cl.in' (by omega)
  obtain ⟨n1, n2, n3, n4⟩ := nlF_spec s ha
  obtain ⟨p, hp⟩ : ∃ p : Nat, (rLine s a).2.1 = p := ⟨(rLine s a).2.1.toNat, by omega⟩
  have hpn : p ≤ nlF s a := by
    rcases Nat.lt_or_ge (nlF s a) p with q | q
    · exfalso
      have := cl (nlF s a) (by omega) (by omega)
      rcases n3 with z | z
      · omega
      · omega
    · exact q
  unfold standsF
  rw [stands_is h hp hpn n2 _ a (Nat.le_refl _) (by omega) (by omega), hp]
theorem forms_place (s : ByteArray) : ∀ (f g a : Nat) (acc : List Ln) (accz : List (ZLn × Int)), a ≤ s.size → s.size + 2 ≤ f + a → s.size + 1 ≤ g + a → (rLinesL s f a acc).2.2 = false → (zFormL s g a accz).2 = (rLinesL s f a acc).2.1
  | 0, g, a, acc, accz, h1, h2, h3, h4 => by omega
  | f + 1, 0, a, acc, accz, h1, h2, h3, h4 => by omega
  | f + 1, g + 1, a, acc, accz, h1, h2, h3, h4 => by
    unfold rLinesL at h4 ⊢
    rw [zFormL_s]
    by_cases c : a < s.size
    · have ci : ((a : Nat) : Int) < (s.size : Int) := by omega
      rw [if_pos ci] at h4 ⊢
      rw [if_pos c]
      by_cases hok : (rLine s a).2.2 = true
      · obtain ⟨e, e1, e2, e3, e4, e5, z, e6, e7⟩ := zline_of hok
        have hn := nl_is (by omega) e1 e3 e5
        rw [if_neg (by rw [hok]; simp), e4] at h4
        rw [if_neg (by rw [hok]; simp), hn, e6, e4]
        dsimp only
        rw [if_neg (by omega)]
        exact forms_place s f g (e + 1) _ _ (by omega) (by omega) (by omega) h4
      · have hok' : (rLine s a).2.2 = false := by simpa using hok
        rw [if_pos hok']
        obtain ⟨n1, n2, n3, n4⟩ := nlF_spec s (a := a) h1
        have pl := place_is h1 hok'
        cases hz : zLine (s.extract a (nlF s a)) with
        | none => exact pl
        | some z =>
          dsimp only
          by_cases hn : nlF s a = s.size
          · rw [if_pos hn]; exact pl
          · exfalso
            refine hok (rline_of (e := nlF s a) (by omega) n1 ?_ (by rw [hz]; rfl))
            rcases n3 with q | q
            · exact absurd q hn
            · exact q
    · have ci : ¬ ((a : Nat) : Int) < (s.size : Int) := by omega
      rw [if_neg ci] at h4; cases h4
theorem form_place {s : ByteArray} (h : (rLines s).2.2 = false) : (zForm s).2 = (rLines s).2.1 := forms_place s (s.size + 5) (s.size + 1) 0 [] [] (by omega) (by omega) (by omega) h
end Go.Proofs.Ytjcknghdgfcboaa
namespace Go.Proofs.Ytjcknghdgfcboaa
open Go.RowKit
set_option linter.unusedVariables false
set_option linter.unusedSimpArgs false

theorem zcheck_any (s : ByteArray) (w : World) (hs : s.size ≤ maxLen) :
    Calls Try.prog 5 #[.string s] w fun e w' => e = .returned (.tuple #[.int .i64 (checkF s).1, .int .i64 (checkF s).2]) ∧ Fresh w w' := by
  have RD := hid (zread_any s w hs)
  have hp : (checkF s).1 = 2 → (zForm s).2 = (checkF s).2 := by
    intro h
    rw [checkF_eq] at h ⊢
    by_cases c1 : 800 < s.size
    · rw [if_pos c1] at h; simp at h
    · rw [if_neg c1] at h ⊢
      by_cases c2 : (rLines s).2.2 = false
      · rw [if_pos c2]; exact form_place c2
      · exfalso
        rw [if_neg c2] at h
        split at h
        · simp at h
        · split at h
          · simp at h
          · split at h
            · simp at h
            · split at h <;> simp at h
  have HP := hid hp
  clear hp
  go_enter Try.func5, Try.ntmps5
  go_wp2_with (first
    | (go_at_call 8; refine (RD.out).mono ?_; rintro e w1 ⟨p, pl, rfl, hf1, h2, h3, _⟩; have HF1 := hid hf1; have H2 := hid h2; have H3 := hid h3; clear hf1 h2 h3))
  go_ret2
  have e : pl = (checkF s).2 := by
    by_cases q : (checkF s).1 = 2
    · rw [H3.out q]; exact HP.out q
    · exact H2.out q
  exact ⟨by rw [e]; rfl, HF1.out⟩
theorem checks_any (s : ByteArray) (w : World) (hs : s.size ≤ maxLen) :
    Calls Try.prog 3 #[.string s] w fun e w' => e = .returned (.bool true) ∧ Fresh w w' := by
  have A := hid (fun w => check_any s w hs)
  have B := hid (fun w => zcheck_any s w hs)
  have NU := hid (fun e w => num_any e w)
  generalize checkF s = M at A B
  obtain ⟨m, c⟩ := M
  dsimp only at A B
  go_enter Try.func3, Try.ntmps3
  go_wp2_with (first
    | (go_at_call 4; refine (A.out _).mono ?_; rintro e w1 ⟨rfl, hf1⟩; have HF1 := hid hf1; clear hf1)
    | (go_at_call 5; refine (B.out _).mono ?_; rintro e w2 ⟨rfl, hf2⟩; have HF2 := hid hf2; clear hf2)
    | (go_at_call 6; refine (NU.out _ _).mono ?_; rintro e w' ⟨rfl, hw⟩; rw [hw]; clear hw))
  go_ret
  exact ⟨ret_bool (by simp), HF1.out.trans HF2.out⟩
end Go.Proofs.Ytjcknghdgfcboaa
namespace Go.Proofs.Ytjcknghdgfcboaa
open Go.ChangeShapes Go.WideShapes Go.ChangeAt Go.RowKit
open Go.ChangeMaps (open_string shut_string)
set_option linter.unusedVariables false
set_option linter.unusedSimpArgs false

theorem Try.own : ownKnob Try.prog.godebug = none := by kernel_rfl

set_option maxRecDepth 100000 in
theorem checks_lifted (os : Os) (started : os.Started) (H : Type) (enc : TypeId × Value → H) :
    ReturnsInHanded {} Try.checked os 3 .any (Rows.checksSpec.pre6 enc Try.prog Try.f3 Rows.checksRow.domain false) (Rows.checksSpec.post enc Try.prog Try.f3 false true false false) := by
  refine returnsInHanded_of_change (C := Try.checked) Try.own started (by kernel_rfl) Try.func3
    (ChangeSpec.witness6 (enc := enc) (C := Try.checked) false ⟨#[], #[.string ⟨#[]⟩], []⟩ 8 (by kernel_rfl) (by kernel_rfl) (by kernel_rfl) (by kernel_rfl)) ?_
  intro W base args ds gs before hval0 hW hcnd _
  have hval : ∀ (j : Nat) t v, Try.f3.params[j]? = some t → args[j]? = some v → Value.okWide Try.prog W .any base t v := hval0
  have hW' := hW
  obtain ⟨p, q, hA0, hV, rfl, hfz, hnd⟩ := hW
  have hA : DataW.TrodAll enc Try.prog W 0 (fun _ => true) true Try.f3.params.toList args.toList ds p := hA0
  rw [Try.params3] at hA hval
  obtain ⟨v0, d0, rfl, rfl, h0⟩ := trodAll_one hA
  obtain ⟨rfl, rfl⟩ := trodVars_none hV
  obtain ⟨s, rfl, rfl, rfl, ws⟩ := open_string Try.underlying9 (hval 0 9 v0 rfl rfl) h0
  clear hA0 hval0
  simp only [List.append_nil] at hW'
  refine (checks_any s W ws).mono fun e W' ⟨he, hF⟩ => ?_
  subst he
  have hB := hF.below
  refine ⟨_, rfl, _, _, _, [], [], [], hW', ?_, ?_, ?_, hB.frame _, fun h => by cases h⟩
  · exact trodAll_mk1 (shut_bool Try.underlying4 true)
  · exact trodAll_mk1 (shut_string Try.underlying9 ws)
  · trivial

theorem checks_holds : Rows.ChecksSaid :=
  OpenClaim.holds_of_wide 3 Try.f3 rfl rfl rfl rfl rfl rfl rfl ⟨rfl, rfl, rfl, rfl, rfl⟩ rfl rfl rfl rfl rfl (by kernel_rfl) Try.func3 (by kernel_rfl)
    (of_decide_eq_true (by kernel_rfl)) (by unfold Func.isWrapper; first | (rw [if_pos (by decide +kernel)]; kernel_rfl) | (rw [if_neg (by decide +kernel)]; exact ⟨rfl, rfl⟩))
    (fun os started H enc _ => checks_lifted os started H enc)
#print axioms checks_holds
end Go.Proofs.Ytjcknghdgfcboaa
