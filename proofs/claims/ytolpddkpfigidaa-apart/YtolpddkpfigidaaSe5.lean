import Derived.Test.YtolpddkpfigidaaSe4
import Derived.Deep.QuietTactic
import Derived.BigQuiet
namespace Go.Proofs.Ytolpddkpfigidaa
open Go.RowKit
set_option linter.unusedVariables false
set_option linter.unusedSimpArgs false

def ldH (v : Value) : Sem Value := Instr.loadAt 154 v
theorem ldH_rule (v : Value) : Instr.loadAt 154 v = ldH v := rfl
def stH (p v : Value) : Sem Unit := Instr.storeAt 154 p v
theorem stH_rule (p v : Value) : Instr.storeAt 154 p v = stH p v := rfl

def setArr : Array Value → Nat → List Value → Array Value
  | cur, _, [] => cur
  | cur, o, v :: vs => setArr (cur.setIfInBounds o v) (o + 1) vs
theorem setArr_size : ∀ (vs : List Value) (cur : Array Value) (o : Nat), (setArr cur o vs).size = cur.size
  | [], _, _ => rfl
  | v :: vs, cur, o => by rw [setArr, setArr_size vs]; simp
theorem setArr_at : ∀ (vs : List Value) (cur : Array Value) (o j : Nat), o + vs.length ≤ cur.size → (setArr cur o vs)[j]? = if o ≤ j ∧ j < o + vs.length then vs[j - o]? else cur[j]?
  | [], cur, o, j, h => by rw [setArr, if_neg (by simp only [List.length_nil]; omega)]
  | v :: vs, cur, o, j, h => by
    simp only [List.length_cons] at h
    rw [setArr, setArr_at vs _ _ _ (by simp; omega)]
    by_cases h1 : o + 1 ≤ j ∧ j < o + 1 + vs.length
    · rw [if_pos h1, if_pos (by simp; omega)]
      have : j - o = (j - (o + 1)) + 1 := by omega
      rw [this]; simp
    · rw [if_neg h1, Array.getElem?_setIfInBounds]
      by_cases h2 : o = j
      · subst h2; rw [if_pos rfl, if_pos (by omega), if_pos (by simp)]; simp
      · rw [if_neg h2, if_neg (by simp; omega)]
theorem heap_setCells_same : ∀ (vs : List Value) (w : World) (g o : Nat) (c : Array Value) (e : TypeId) (f : Nat × Nat), w.heap[g]? = some (.cells c e f) → (w.setCells g o vs).heap[g]? = some (.cells (setArr c o vs) e f)
  | [], _, _, _, _, _, _, h => h
  | v :: vs, w, g, o, c, e, f, h => by
    rw [World.setCells, setArr]
    exact heap_setCells_same vs _ g (o + 1) _ e f (heap_setCell_same h o v)
theorem Mod.setCells {S : Nat → Prop} {a : World} {g : Nat} (hp : g < a.heap.size → S g) : ∀ (vs : List Value) (w : World) (o : Nat), Mod S a w → Mod S a (w.setCells g o vs)
  | [], _, _, h => h
  | v :: vs, w, o, h => Mod.setCells hp vs _ (o + 1) (h.setCell (p := ⟨g, o, none⟩) hp v)

theorem flat_set {hs : List Hd} {h : Hd} {k : Nat} (hok : ∀ x ∈ hs, x.ok) (hh : h.ok) (hk : k < hs.length) (j : Nat) :
    (flatC Hd.cells (hs.set k h))[j]? = if k * 21 ≤ j ∧ j < k * 21 + 21 then h.cells[j - k * 21]? else (flatC Hd.cells hs)[j]? := by
  have hw : ∀ x ∈ hs, x.cells.length = 21 := fun x hx => Hd.cells_len (hok x hx)
  have hw2 : ∀ x ∈ hs.set k h, x.cells.length = 21 := fun x hx => by
    rcases List.mem_or_eq_of_mem_set hx with h1 | h1
    · exact hw x h1
    · rw [h1]; exact Hd.cells_len hh
  have l1 := flat_len Hd.cells 21 hw
  have l2 := flat_len Hd.cells 21 hw2
  rw [List.length_set] at l2
  by_cases hj : j < hs.length * 21
  · have hq : j / 21 < hs.length := by omega
    have hr : j % 21 < 21 := Nat.mod_lt _ (by omega)
    have e : j = j / 21 * 21 + j % 21 := by omega
    have a1 := flat_at Hd.cells 21 hw (j / 21) (j % 21) hq hr
    have a2 := flat_at Hd.cells 21 hw2 (j / 21) (j % 21) (by simpa using hq) hr
    rw [← e] at a1 a2
    rw [a1, a2, List.getElem_set]
    by_cases hk2 : k = j / 21
    · rw [if_pos hk2, if_pos (by omega)]
      congr 1; omega
    · rw [if_neg hk2, if_neg (by omega)]
  · rw [List.getElem?_eq_none (by omega), if_neg (by omega), List.getElem?_eq_none (by omega)]

variable {w w' : World} {b : Nat} {R H : Int} {vp vh : Value} {ps : List PV} {hs : List Hd}
theorem FA.put (h : FA w b R H vp vh ps hs) {g n cap : Nat} (hv : vh = .slice (some ⟨g, 0, none⟩) n cap) {k : Nat} (hk : k < hs.length) {x : Hd} (hx : x.ok) :
    FA (w.setCells g (k * 21) x.cells) b R H vp vh ps (hs.set k x) ∧ Mod (fun k => vh.ownBlock = some k) w (w.setCells g (k * 21) x.cells) := by
  have hm : Mod (fun k => vh.ownBlock = some k) w (w.setCells g (k * 21) x.cells) := Mod.setCells (fun _ => by rw [hv]; rfl) _ w _ (Mod.refl _ _)
  have hlt := (h.own.lt g (by rw [hv]; rfl))
  refine ⟨⟨?_, ?_, ?_, ?_⟩, hm⟩
  · refine hm.at h.blk ?_
    rw [hv]; simp [Value.ownBlock]; omega
  · refine h.prs.kept (Nat.le_of_lt (heap_lt h.blk)) hm ?_
    intro k hk; rw [hv]; simp [Value.ownBlock]; omega
  · obtain ⟨h1, h2⟩ := h.own
    rcases h2 with ⟨h2, _⟩ | ⟨g', cap', cur, e1, e2, e3, e4, e5, e6, e7⟩
    · rw [hv] at h2; cases h2
    · have e1' := hv.symm.trans e1
      rw [Value.slice.injEq] at e1'
      obtain ⟨eg, rfl, rfl⟩ := e1'
      have eg' : g = g' := by simpa using eg
      subst eg'
      have hw2 : ∀ y ∈ hs.set k x, y.cells.length = 21 := fun y hy => by
        rcases List.mem_or_eq_of_mem_set hy with h1 | h1
        · exact Hd.cells_len (h.ok y h1)
        · rw [h1]; exact Hd.cells_len hx
      have l2 := flat_len Hd.cells 21 hw2
      have hxl := Hd.cells_len hx
      rw [List.length_set] at l2 ⊢
      refine ⟨l2, .inr ⟨g, cap, setArr cur (k * 21) x.cells, e1, e2, heap_setCells_same _ _ _ _ _ _ _ e3, e4, e5, by rw [setArr_size]; exact e6, ?_⟩⟩
      apply List.ext_getElem?
      intro j
      rw [flat_set h.ok hx hk, ← e7]
      have hmul : hs.length * 21 ≤ cap * 21 := Nat.mul_le_mul_right _ e4
      by_cases hj : j < hs.length * 21
      · rw [List.getElem?_take_of_lt hj, List.getElem?_take_of_lt hj, Array.getElem?_toList, Array.getElem?_toList, setArr_at _ _ _ _ (by omega), hxl]
        simp
      · rw [List.getElem?_eq_none (by simp; omega), if_neg (by omega), List.getElem?_eq_none (by simp; omega)]
  · intro y hy
    rcases List.mem_or_eq_of_mem_set hy with h1 | h1
    · exact h.ok y h1
    · rw [h1]; exact hx
theorem FA.there (h : FA w b R H vp vh ps hs) {g n cap : Nat} (hv : vh = .slice (some ⟨g, 0, none⟩) n cap) {k : Nat} (hk : k < hs.length) : w.there g (k * 21) 21 := by
  intro j hj
  have hr := h.row
  subst hv
  have hc := hr.cell k j hk hj
  have hlen := Hd.cells_len (h.ok hs[k] (by simp))
  refine ⟨by rw [hc]; simp [hlen, hj], ?_⟩
  obtain ⟨_, h2⟩ := h.own
  rcases h2 with ⟨h2, _⟩ | ⟨g', cap', cur, e1, e2, e3, _⟩
  · cases h2
  · rw [Value.slice.injEq] at e1
    obtain ⟨eg, _, _⟩ := e1
    have eg' : g = g' := by simpa using eg
    subst eg'
    exact frozenOf e3 _

theorem ldH_mid {w : World} {g o : Nat} {h : Hd} (k : h.ok) (hr : w.rangeAt g o h.cells) : (ldH (.pointer (some ⟨g, o, none⟩))).run Try.prog w = .ok (.agg (hdA h)) w :=
  run_loadAt_mid w g o _ _ _ hr Try.underlying154 rfl (szHdL k)
theorem rangeAt_new (w : World) (h : Hd) (t : TypeId) : (w.alloc (.cells (hdA h) t (0, 0))).rangeAt w.heap.size 0 h.cells := fun j v hj => by
  rw [cellOf (heap_alloc_at _ _), Nat.zero_add]; simpa [hdA] using hj

theorem fdrewN' (w : World) (n : Nat) : Fresh w (w.drewN n) := ⟨rfl, rfl, rfl, Nat.le_refl _, fun _ _ _ => rfl⟩

attribute [local go_sem ↓] ldH_rule stH_rule
set_option maxRecDepth 20000 in
set_option maxHeartbeats 2000000 in
theorem put_in (w : World) (b : Nat) (R H : Int) (vp vh : Value) (ps : List PV) (hs : List Hd) (k : Nat) (x : Hd) (hx : x.ok) (h : FA w b R H vp vh ps hs) (hk : k < hs.length) :
    Calls Try.prog 121 #[bptr b, .int .i64 k, .agg (hdA x)] w fun e w' => e = .returned (.bool (!hdEq hs[k] x)) ∧ FA w' b R H vp vh ps (hs.set k x) ∧ Mod (fun k => vh.ownBlock = some k) w w' := by
  have hb := heap_lt h.blk
  obtain ⟨g, cap, hv⟩ := Joins.ownsRow_form h.own (by omega)
  have k3 := h.cell 3
  simp at k3
  have hF1 := h.fresh ((Mod.refl _ w).alloc (.cells (hdA x) 154 (0, 0)))
  subst hv
  have k3' : (w.alloc (.cells (hdA x) 154 (0, 0))).cell? ⟨b, 3, none⟩ = some (.slice (some ⟨g, 0, none⟩) hs.length cap) := by
    rw [cellOf hF1.blk 3]; rfl
  have l1 : ∀ n, (ldH (.pointer (some ⟨g, k * 21, none⟩))).run Try.prog ((w.alloc (.cells (hdA x) 154 (0, 0))).drewN n) = .ok (.agg (hdA hs[k])) ((w.alloc (.cells (hdA x) 154 (0, 0))).drewN n) := fun n =>
    ldH_mid (h.ok hs[k] (by simp)) (rangeAt_block (hF1.row.range k hk) rfl)
  have l2 : ∀ n, (ldH (.pointer (some ⟨w.heap.size, 0, none⟩))).run Try.prog ((w.alloc (.cells (hdA x) 154 (0, 0))).drewN n) = .ok (.agg (hdA x)) ((w.alloc (.cells (hdA x) 154 (0, 0))).drewN n) := fun n =>
    ldH_mid hx (rangeAt_block (rangeAt_new w x _) rfl)
  have q1 : ∀ w, (Op.equalIn 10000 154 (.agg (hdA hs[k])) (.agg (hdA x))).run Try.prog w = .ok (hdEq hs[k] x) w := fun w => eqHd 9996 hs[k] x (h.ok hs[k] (by simp)) hx w
  have g1 := guardHd
  have b1 : decide ((k : Int) < 0) = false := by simp
  have b2 : decide ((hs.length : Int) ≤ (k : Int)) = false := by simp; omega
  have b3 : decide (hs.length ≤ k) = false := by simp; omega
  have b4 : (k : Int) < (hs.length : Int) := by omega
  have HF := hid h
  have HF1 := hid hF1
  have HX := hid hx
  have HID : Hid (hdEq hs[k] x = true → hs[k] = x) := hid hdEq_iff.1
  clear h hF1 hx
  generalize hdEq hs[k] x = qq at q1 HID
  go_enter Try.func121, Try.ntmps121
  go_wp2_with fail
  go_quiet (fail)
  cases qq
  · generalize hW : World.drewN _ _ = W
    have hfr : Fresh w W := by rw [← hW]; exact (Mod.refl _ w).alloc _ |>.trans (fdrewN' _ _)
    have hF2 : FA W b R H vp (.slice (some ⟨g, 0, none⟩) hs.length cap) ps hs := by rw [← hW]; exact HF1.out.fresh (fdrewN' _ _)
    have k4 := hF2.cell 3
    simp at k4
    have l3 : (ldH (.pointer (some ⟨w.heap.size, 0, none⟩))).run Try.prog W.drew = .ok (.agg (hdA x)) W.drew := by
      refine ldH_mid HX.out ?_
      rw [← hW]; exact rangeAt_block (rangeAt_new w x _) rfl
    have s1 : (stH (.pointer (some ⟨g, k * 21, none⟩)) (.agg (hdA x))).run Try.prog W.drew = .ok () (W.drew.setCells g (k * 21) x.cells) :=
      run_storeAt_mid W.drew g (k * 21) _ _ (by rw [hd_size HX.out]; exact (hF2.fresh (Mod.drew (Mod.refl _ W))).there rfl hk) (szHdOf HX.out) (hd_one x)
    have HF2 := hid ((hF2.fresh (Mod.drew (Mod.refl _ W))).put rfl hk HX.out)
    have HFR := hid hfr
    clear hF2 hfr l1 l2 k3 k3' hW
    go_wp2
    go_region
    all_goals
      go_wp2
      go_ret
      refine ⟨rfl, HF2.out.1, ?_⟩
      exact Mod.trans (HFR.out.mono (fun _ _ x => x.elim)) (Mod.trans (Mod.drew (Mod.refl _ W)) HF2.out.2)
  · go_wp2
    go_ret
    refine ⟨rfl, ?_, ?_⟩
    · have e := HID.out trivial
      have e2 : hs.set k x = hs := by rw [← e, List.set_getElem_self]
      rw [e2]
      exact HF1.out.fresh (fdrewN' _ _)
    · exact ((Mod.refl _ w).alloc _).trans (Mod.mono (fdrewN' _ _) (fun _ _ x => x.elim))

set_option maxRecDepth 20000 in
set_option maxHeartbeats 2000000 in
theorem put_out (w : World) (b : Nat) (R H : Int) (vp vh : Value) (ps : List PV) (hs : List Hd) (n : Int) (x : Hd) (h : FA w b R H vp vh ps hs) (hn : n < 0 ∨ (hs.length : Int) ≤ n) :
    Calls Try.prog 121 #[bptr b, .int .i64 n, .agg (hdA x)] w fun e w' => e = .returned (.bool false) ∧ FA w' b R H vp vh ps hs ∧ Mod (fun k => vh.ownBlock = some k) w w' := by
  have hb := heap_lt h.blk
  have hF1 := h.fresh ((Mod.refl _ w).alloc (.cells (hdA x) 154 (0, 0)))
  obtain ⟨ao, cap, hv⟩ := own_form h.own
  subst hv
  have k3 := h.cell 3
  simp at k3
  have k3' : (w.alloc (.cells (hdA x) 154 (0, 0))).cell? ⟨b, 3, none⟩ = some (.slice ao hs.length cap) := by
    rw [cellOf hF1.blk 3]; rfl
  have HF1 := hid hF1
  clear h hF1
  by_cases h0 : n < 0
  · have b1 : decide (n < 0) = true := by simpa using h0
    clear hn
    go_enter Try.func121, Try.ntmps121
    go_wp2_with fail
    go_quiet (fail)
    go_wp2
    go_ret
    exact ⟨rfl, HF1.out.fresh (fdrewN' _ _), ((Mod.refl _ w).alloc _).trans (Mod.mono (fdrewN' _ _) (fun _ _ x => x.elim))⟩
  · have h1 : (hs.length : Int) ≤ n := by omega
    have b1 : decide (n < 0) = false := by simp; omega
    have b2 : decide ((hs.length : Int) ≤ n) = true := by simpa using h1
    clear hn
    go_enter Try.func121, Try.ntmps121
    go_wp2_with fail
    go_quiet (fail)
    go_wp2
    go_ret
    exact ⟨rfl, HF1.out.fresh (fdrewN' _ _), ((Mod.refl _ w).alloc _).trans (Mod.mono (fdrewN' _ _) (fun _ _ x => x.elim))⟩

theorem put_any (w : World) (b : Nat) (R H : Int) (vp vh : Value) (ps : List PV) (hs : List Hd) (n : Int) (x : Hd) (hx : x.ok) (h : FA w b R H vp vh ps hs) :
    Calls Try.prog 121 #[bptr b, .int .i64 n, .agg (hdA x)] w fun e w' => e = .returned (.bool (putB hs n x)) ∧ FA w' b R H vp vh ps (putF hs n x) ∧ Mod (fun k => vh.ownBlock = some k) w w' := by
  unfold putB putF
  by_cases h0 : 0 ≤ n
  · rw [if_pos h0, if_pos h0]
    obtain ⟨k, rfl⟩ : ∃ k : Nat, n = k := ⟨n.toNat, by omega⟩
    rw [Int.toNat_natCast]
    by_cases hk : k < hs.length
    · rw [List.getElem?_eq_getElem hk]
      exact put_in w b R H vp vh ps hs k x hx h hk
    · rw [List.getElem?_eq_none (by omega), List.set_eq_of_length_le (by omega)]
      exact put_out w b R H vp vh ps hs k x h (.inr (by omega))
  · rw [if_neg h0, if_neg h0]
    exact put_out w b R H vp vh ps hs n x h (.inl (by omega))
end Go.Proofs.Ytolpddkpfigidaa
