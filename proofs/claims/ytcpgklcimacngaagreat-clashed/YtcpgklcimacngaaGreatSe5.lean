import Derived.Test.YtcpgklcimacngaaGreatSe2
import Derived.Deep.QuietTactic
import Derived.BigQuiet
namespace Go.Proofs.YtcpgklcimacngaaGreat
open Go.RowKit
set_option linter.unusedVariables false
set_option linter.unusedSimpArgs false

def ldH (v : Value) : Sem Value := Instr.loadAt 97 v
theorem ldH_rule (v : Value) : Instr.loadAt 97 v = ldH v := rfl
def stH (p v : Value) : Sem Unit := Instr.storeAt 97 p v
theorem stH_rule (p v : Value) : Instr.storeAt 97 p v = stH p v := rfl

def setArr : Array Value → Nat → List Value → Array Value
  | cur, _, [] => cur
  | cur, o, v :: vs => setArr (cur.setIfInBounds o v) (o + 1) vs
theorem setArr_size : ∀ (vs : List Value) (cur : Array Value) (o : Nat), (setArr cur o vs).size = cur.size
  | [], _, _ => rfl
  | v :: vs, cur, o => by rw [setArr, setArr_size vs]; simp
theorem setArr_at : ∀ (vs : List Value) (cur : Array Value) (o j : Nat), o + vs.length ≤ cur.size → (setArr cur o vs)[j]? = if o ≤ j ∧ j < o + vs.length then vs[j - o]? else cur[j]?
  | [], cur, o, j, h => by rw [setArr, if_neg (by simp only [List.length_nil]; omega)]
  | v :: vs, cur, o, j, h => by
    simp only [List.length_cons] at h
    rw [setArr, setArr_at vs _ _ _ (by simp; omega)]
    by_cases h1 : o + 1 ≤ j ∧ j < o + 1 + vs.length
    · rw [if_pos h1, if_pos (by simp; omega)]
      have : j - o = (j - (o + 1)) + 1 := by omega
      rw [this]; simp
    · rw [if_neg h1, Array.getElem?_setIfInBounds]
      by_cases h2 : o = j
      · subst h2; rw [if_pos rfl, if_pos (by omega), if_pos (by simp)]; simp
      · rw [if_neg h2, if_neg (by simp; omega)]
theorem heap_setCells_same : ∀ (vs : List Value) (w : World) (g o : Nat) (c : Array Value) (e : TypeId) (f : Nat × Nat), w.heap[g]? = some (.cells c e f) → (w.setCells g o vs).heap[g]? = some (.cells (setArr c o vs) e f)
  | [], _, _, _, _, _, _, h => h
  | v :: vs, w, g, o, c, e, f, h => by
    rw [World.setCells, setArr]
    exact heap_setCells_same vs _ g (o + 1) _ e f (heap_setCell_same h o v)
theorem Mod.setCells {S : Nat → Prop} {a : World} {g : Nat} (hp : g < a.heap.size → S g) : ∀ (vs : List Value) (w : World) (o : Nat), Mod S a w → Mod S a (w.setCells g o vs)
  | [], _, _, h => h
  | v :: vs, w, o, h => Mod.setCells hp vs _ (o + 1) (h.setCell (p := ⟨g, o, none⟩) hp v)

theorem flat_set {hs : List Hd} {h : Hd} {k : Nat} (hok : ∀ x ∈ hs, x.ok) (hh : h.ok) (hk : k < hs.length) (j : Nat) :
    (flatC Hd.cells (hs.set k h))[j]? = if k * 21 ≤ j ∧ j < k * 21 + 21 then h.cells[j - k * 21]? else (flatC Hd.cells hs)[j]? := by
  have hw : ∀ x ∈ hs, x.cells.length = 21 := fun x hx => Hd.cells_len (hok x hx)
  have hw2 : ∀ x ∈ hs.set k h, x.cells.length = 21 := fun x hx => by
    rcases List.mem_or_eq_of_mem_set hx with h1 | h1
    · exact hw x h1
    · rw [h1]; exact Hd.cells_len hh
  have l1 := flat_len Hd.cells 21 hw
  have l2 := flat_len Hd.cells 21 hw2
  rw [List.length_set] at l2
  by_cases hj : j < hs.length * 21
  · have hq : j / 21 < hs.length := by omega
    have hr : j % 21 < 21 := Nat.mod_lt _ (by omega)
    have e : j = j / 21 * 21 + j % 21 := by omega
    have a1 := flat_at Hd.cells 21 hw (j / 21) (j % 21) hq hr
    have a2 := flat_at Hd.cells 21 hw2 (j / 21) (j % 21) (by simpa using hq) hr
    rw [← e] at a1 a2
    rw [a1, a2, List.getElem_set]
    by_cases hk2 : k = j / 21
    · rw [if_pos hk2, if_pos (by omega)]
      congr 1; omega
    · rw [if_neg hk2, if_neg (by omega)]
  · rw [List.getElem?_eq_none (by omega), if_neg (by omega), List.getElem?_eq_none (by omega)]

variable {w w' : World} {b : Nat} {R H : Int} {vp vh : Value} {ps : List PV} {hs : List Hd}
theorem FA.put (h : FA w b R H vp vh ps hs) {g n cap : Nat} (hv : vh = .slice (some ⟨g, 0, none⟩) n cap) {k : Nat} (hk : k < hs.length) {x : Hd} (hx : x.ok) :
    FA (w.setCells g (k * 21) x.cells) b R H vp vh ps (hs.set k x) ∧ Mod (fun k => vh.ownBlock = some k) w (w.setCells g (k * 21) x.cells) := by
  have hm : Mod (fun k => vh.ownBlock = some k) w (w.setCells g (k * 21) x.cells) := Mod.setCells (fun _ => by rw [hv]; rfl) _ w _ (Mod.refl _ _)
  have hlt := (h.own.lt g (by rw [hv]; rfl))
  refine ⟨⟨?_, ?_, ?_, ?_⟩, hm⟩
  · refine hm.at h.blk ?_
    rw [hv]; simp [Value.ownBlock]; omega
  · refine h.prs.kept (Nat.le_of_lt (heap_lt h.blk)) hm ?_
    intro k hk; rw [hv]; simp [Value.ownBlock]; omega
  · obtain ⟨h1, h2⟩ := h.own
    rcases h2 with ⟨h2, _⟩ | ⟨g', cap', cur, e1, e2, e3, e4, e5, e6, e7⟩
    · rw [hv] at h2; cases h2
    · have e1' := hv.symm.trans e1
      rw [Value.slice.injEq] at e1'
      obtain ⟨eg, rfl, rfl⟩ := e1'
      have eg' : g = g' := by simpa using eg
      subst eg'
      have hw2 : ∀ y ∈ hs.set k x, y.cells.length = 21 := fun y hy => by
        rcases List.mem_or_eq_of_mem_set hy with h1 | h1
        · exact Hd.cells_len (h.ok y h1)
        · rw [h1]; exact Hd.cells_len hx
      have l2 := flat_len Hd.cells 21 hw2
      have hxl := Hd.cells_len hx
      rw [List.length_set] at l2 ⊢
      refine ⟨l2, .inr ⟨g, cap, setArr cur (k * 21) x.cells, e1, e2, heap_setCells_same _ _ _ _ _ _ _ e3, e4, e5, by rw [setArr_size]; exact e6, ?_⟩⟩
      apply List.ext_getElem?
      intro j
      rw [flat_set h.ok hx hk, ← e7]
      have hmul : hs.length * 21 ≤ cap * 21 := Nat.mul_le_mul_right _ e4
      by_cases hj : j < hs.length * 21
      · rw [List.getElem?_take_of_lt hj, List.getElem?_take_of_lt hj, Array.getElem?_toList, Array.getElem?_toList, setArr_at _ _ _ _ (by omega), hxl]
        simp
      · rw [List.getElem?_eq_none (by simp; omega), if_neg (by omega), List.getElem?_eq_none (by simp; omega)]
  · intro y hy
    rcases List.mem_or_eq_of_mem_set hy with h1 | h1
    · exact h.ok y h1
    · rw [h1]; exact hx
theorem FA.there (h : FA w b R H vp vh ps hs) {g n cap : Nat} (hv : vh = .slice (some ⟨g, 0, none⟩) n cap) {k : Nat} (hk : k < hs.length) : w.there g (k * 21) 21 := by
  intro j hj
  have hr := h.row
  subst hv
  have hc := hr.cell k j hk hj
  have hlen := Hd.cells_len (h.ok hs[k] (by simp))
  refine ⟨by rw [hc]; simp [hlen, hj], ?_⟩
  obtain ⟨_, h2⟩ := h.own
  rcases h2 with ⟨h2, _⟩ | ⟨g', cap', cur, e1, e2, e3, _⟩
  · cases h2
  · rw [Value.slice.injEq] at e1
    obtain ⟨eg, _, _⟩ := e1
    have eg' : g = g' := by simpa using eg
    subst eg'
    exact frozenOf e3 _

theorem ldH_mid {w : World} {g o : Nat} {h : Hd} (k : h.ok) (hr : w.rangeAt g o h.cells) : (ldH (.pointer (some ⟨g, o, none⟩))).run Tryz.prog w = .ok (.agg (hdA h)) w :=
  run_loadAt_mid w g o _ _ _ hr Tryz.underlying97 rfl (szHdL k)
theorem rangeAt_new (w : World) (h : Hd) (t : TypeId) : (w.alloc (.cells (hdA h) t (0, 0))).rangeAt w.heap.size 0 h.cells := fun j v hj => by
  rw [cellOf (heap_alloc_at _ _), Nat.zero_add]; simpa [hdA] using hj

theorem fdrewN' (w : World) (n : Nat) : Fresh w (w.drewN n) := ⟨rfl, rfl, rfl, Nat.le_refl _, fun _ _ _ => rfl⟩

attribute [local go_sem ↓] ldH_rule stH_rule
set_option maxRecDepth 20000 in
set_option maxHeartbeats 2000000 in
theorem put_in (w : World) (b : Nat) (R H : Int) (vp vh : Value) (ps : List PV) (hs : List Hd) (k : Nat) (x : Hd) (hx : x.ok) (h : FA w b R H vp vh ps hs) (hk : k < hs.length) :
    Calls Tryz.prog 81 #[bptr b, .int .i64 k, .agg (hdA x)] w fun e w' => e = .returned (.bool (!hdEq hs[k] x)) ∧ FA w' b R H vp vh ps (hs.set k x) ∧ Mod (fun k => vh.ownBlock = some k) w w' := by
  have hb := heap_lt h.blk
  obtain ⟨g, cap, hv⟩ := Joins.ownsRow_form h.own (by omega)
  have k3 := h.cell 3
  simp at k3
  have hF1 := h.fresh ((Mod.refl _ w).alloc (.cells (hdA x) 97 (0, 0)))
  subst hv
  have k3' : (w.alloc (.cells (hdA x) 97 (0, 0))).cell? ⟨b, 3, none⟩ = some (.slice (some ⟨g, 0, none⟩) hs.length cap) := by
    rw [cellOf hF1.blk 3]; rfl
  have l1 : ∀ n, (ldH (.pointer (some ⟨g, k * 21, none⟩))).run Tryz.prog ((w.alloc (.cells (hdA x) 97 (0, 0))).drewN n) = .ok (.agg (hdA hs[k])) ((w.alloc (.cells (hdA x) 97 (0, 0))).drewN n) := fun n =>
    ldH_mid (h.ok hs[k] (by simp)) (rangeAt_block (hF1.row.range k hk) rfl)
  have l2 : ∀ n, (ldH (.pointer (some ⟨w.heap.size, 0, none⟩))).run Tryz.prog ((w.alloc (.cells (hdA x) 97 (0, 0))).drewN n) = .ok (.agg (hdA x)) ((w.alloc (.cells (hdA x) 97 (0, 0))).drewN n) := fun n =>
    ldH_mid hx (rangeAt_block (rangeAt_new w x _) rfl)
  have q1 : ∀ w, (Op.equalIn 10000 97 (.agg (hdA hs[k])) (.agg (hdA x))).run Tryz.prog w = .ok (hdEq hs[k] x) w := fun w => eqHd 9996 hs[k] x (h.ok hs[k] (by simp)) hx w
  have g1 := guardHd
  have b1 : decide ((k : Int) < 0) = false := by simp
  have b2 : decide ((hs.length : Int) ≤ (k : Int)) = false := by simp; omega
  have b3 : decide (hs.length ≤ k) = false := by simp; omega
  have b4 : (k : Int) < (hs.length : Int) := by omega
  have HF := hid h
  have HF1 := hid hF1
  have HX := hid hx
  have HID : Hid (hdEq hs[k] x = true → hs[k] = x) := hid hdEq_iff.1
  clear h hF1 hx
  generalize hdEq hs[k] x = qq at q1 HID
  go_enter Tryz.func81, Tryz.ntmps81
  go_wp2_with fail
  go_quiet (fail)
  cases qq
  · generalize hW : World.drewN _ _ = W
    have hfr : Fresh w W := by rw [← hW]; exact (Mod.refl _ w).alloc _ |>.trans (fdrewN' _ _)
    have hF2 : FA W b R H vp (.slice (some ⟨g, 0, none⟩) hs.length cap) ps hs := by rw [← hW]; exact HF1.out.fresh (fdrewN' _ _)
    have k4 := hF2.cell 3
    simp at k4
    have l3 : (ldH (.pointer (some ⟨w.heap.size, 0, none⟩))).run Tryz.prog W.drew = .ok (.agg (hdA x)) W.drew := by
      refine ldH_mid HX.out ?_
      rw [← hW]; exact rangeAt_block (rangeAt_new w x _) rfl
    have s1 : (stH (.pointer (some ⟨g, k * 21, none⟩)) (.agg (hdA x))).run Tryz.prog W.drew = .ok () (W.drew.setCells g (k * 21) x.cells) :=
      run_storeAt_mid W.drew g (k * 21) _ _ (by rw [hd_size HX.out]; exact (hF2.fresh (Mod.drew (Mod.refl _ W))).there rfl hk) (szHdOf HX.out) (hd_one x)
    have HF2 := hid ((hF2.fresh (Mod.drew (Mod.refl _ W))).put rfl hk HX.out)
    have HFR := hid hfr
    clear hF2 hfr l1 l2 k3 k3' hW
    go_wp2
    go_region
    all_goals
      go_wp2
      go_ret
      refine ⟨rfl, HF2.out.1, ?_⟩
      exact Mod.trans (HFR.out.mono (fun _ _ x => x.elim)) (Mod.trans (Mod.drew (Mod.refl _ W)) HF2.out.2)
  · go_wp2
    go_ret
    refine ⟨rfl, ?_, ?_⟩
    · have e := HID.out trivial
      have e2 : hs.set k x = hs := by rw [← e, List.set_getElem_self]
      rw [e2]
      exact HF1.out.fresh (fdrewN' _ _)
    · exact ((Mod.refl _ w).alloc _).trans (Mod.mono (fdrewN' _ _) (fun _ _ x => x.elim))

set_option maxRecDepth 20000 in
set_option maxHeartbeats 2000000 in
theorem put_out (w : World) (b : Nat) (R H : Int) (vp vh : Value) (ps : List PV) (hs : List Hd) (n : Int) (x : Hd) (h : FA w b R H vp vh ps hs) (hn : n < 0 ∨ (hs.length : Int) ≤ n) :
    Calls Tryz.prog 81 #[bptr b, .int .i64 n, .agg (hdA x)] w fun e w' => e = .returned (.bool false) ∧ FA w' b R H vp vh ps hs ∧ Mod (fun k => vh.ownBlock = some k) w w' := by
  have hb := heap_lt h.blk
  have hF1 := h.fresh ((Mod.refl _ w).alloc (.cells (hdA x) 97 (0, 0)))
  obtain ⟨ao, cap, hv⟩ := own_form h.own
  subst hv
  have k3 := h.cell 3
  simp at k3
  have k3' : (w.alloc (.cells (hdA x) 97 (0, 0))).cell? ⟨b, 3, none⟩ = some (.slice ao hs.length cap) := by
    rw [cellOf hF1.blk 3]; rfl
  have HF1 := hid hF1
  clear h hF1
  by_cases h0 : n < 0
  · have b1 : decide (n < 0) = true := by simpa using h0
    clear hn
    go_enter Tryz.func81, Tryz.ntmps81
    go_wp2_with fail
    go_quiet (fail)
    go_wp2
    go_ret
    exact ⟨rfl, HF1.out.fresh (fdrewN' _ _), ((Mod.refl _ w).alloc _).trans (Mod.mono (fdrewN' _ _) (fun _ _ x => x.elim))⟩
  · have h1 : (hs.length : Int) ≤ n := by omega
    have b1 : decide (n < 0) = false := by simp; omega
    have b2 : decide ((hs.length : Int) ≤ n) = true := by simpa using h1
    clear hn
    go_enter Tryz.func81, Tryz.ntmps81
    go_wp2_with fail
    go_quiet (fail)
    go_wp2
    go_ret
    exact ⟨rfl, HF1.out.fresh (fdrewN' _ _), ((Mod.refl _ w).alloc _).trans (Mod.mono (fdrewN' _ _) (fun _ _ x => x.elim))⟩

theorem put_any (w : World) (b : Nat) (R H : Int) (vp vh : Value) (ps : List PV) (hs : List Hd) (n : Int) (x : Hd) (hx : x.ok) (h : FA w b R H vp vh ps hs) :
    Calls Tryz.prog 81 #[bptr b, .int .i64 n, .agg (hdA x)] w fun e w' => e = .returned (.bool (putB hs n x)) ∧ FA w' b R H vp vh ps (putF hs n x) ∧ Mod (fun k => vh.ownBlock = some k) w w' := by
  unfold putB putF
  by_cases h0 : 0 ≤ n
  · rw [if_pos h0, if_pos h0]
    obtain ⟨k, rfl⟩ : ∃ k : Nat, n = k := ⟨n.toNat, by omega⟩
    rw [Int.toNat_natCast]
    by_cases hk : k < hs.length
    · rw [List.getElem?_eq_getElem hk]
      exact put_in w b R H vp vh ps hs k x hx h hk
    · rw [List.getElem?_eq_none (by omega), List.set_eq_of_length_le (by omega)]
      exact put_out w b R H vp vh ps hs k x h (.inr (by omega))
  · rw [if_neg h0, if_neg h0]
    exact put_out w b R H vp vh ps hs n x h (.inl (by omega))
end Go.Proofs.YtcpgklcimacngaaGreat
namespace Go.Proofs.YtcpgklcimacngaaGreat
open Go.RowKit
set_option linter.unusedVariables false
set_option linter.unusedSimpArgs false

theorem results_row1 {P : Program} {fn : Func} {p u : Tmp} {ty : TypeId} (h : fn.results = #[.cell p ty, .tmp u]) (tmps : Array Value) (w : World) (g : Nat) (t : TypeId) (cs : Array Value) (fr : Nat × Nat) (d : TypeDesc)
    (hp : tmps.getD p undef = .pointer (some ⟨g, 0, none⟩)) (hg : w.heap[g]? = some (.cells cs t fr))
    (hu : P.underlying ty = some d) (hd : (match d with | .struct _ | .array _ _ => true | _ => false) = true) (hi : (P.info? ty).map (·.size) = some cs.size) :
    (results fn tmps).run P w = .ok (.tuple #[.agg cs, tmps.getD u undef]) w := by
  have hp' : tmps[p]?.getD undef = .pointer (some ⟨g, 0, none⟩) := by simpa using hp
  simp [results, h, hp', asAddr, run_loadVar_row w g t ty cs fr d hg hu hd hi]

def begF (hs : List Hd) : List Sy → List Bool → List Bool × Bool
  | [], acc => (acc, true)
  | s :: l, acc => if s.isH = false then (withT acc s.num, false) else
      if (getH hs s.num).nul = false then (orL acc (getH hs s.num).fi, false) else begF hs l (orL acc (getH hs s.num).fi)
theorem begF_len {hs : List Hd} (h : ∀ x ∈ hs, x.ok) : ∀ (l : List Sy) (acc : List Bool), acc.length = 9 → (begF hs l acc).1.length = 9
  | [], acc, ha => ha
  | s :: l, acc, ha => by
    unfold begF
    split
    · exact withT_len ha
    · split
      · exact orL_len ha (getH_ok h _).fi
      · exact begF_len h l _ (orL_len ha (getH_ok h _).fi)

theorem hdRangeFi {w : World} {g : Nat} {h : Hd} {t : TypeId} (k : h.ok) (hb : w.heap[g]? = some (.cells (hdA h) t (0, 0))) : w.rangeAt g 3 (bls h.fi) := fun j v hj => by
  rw [cellOf hb]
  have hlt := (List.getElem?_eq_some_iff.1 hj).1
  simp only [hdA, Hd.cells, List.getElem?_toArray]
  have e : 3 + j = j + 1 + 1 + 1 := by omega
  rw [e]
  simp only [List.getElem?_cons_succ]
  rw [List.getElem?_append_left hlt]; exact hj
theorem hdRangeFo {w : World} {g : Nat} {h : Hd} {t : TypeId} (k : h.ok) (hb : w.heap[g]? = some (.cells (hdA h) t (0, 0))) : w.rangeAt g 12 (bls h.fo) := fun j v hj => by
  rw [cellOf hb]
  simp only [hdA, Hd.cells, List.getElem?_toArray]
  have e : 12 + j = j + 9 + 1 + 1 + 1 := by omega
  rw [e]
  simp only [List.getElem?_cons_succ]
  rw [List.getElem?_append_right (by simp [bls, k.fi])]
  simpa [bls, k.fi] using hj

theorem szSy : (Tryz.prog.info? 125).map (·.size) = some 2 := by kernel_rfl

set_option maxRecDepth 20000 in
set_option maxHeartbeats 4000000 in
theorem begin_any (w : World) (b : Nat) (R H : Int) (vp vh : Value) (ps : List PV) (hs : List Hd) (B : Nat) (vs : Value) (syms : List Sy) (h : FA w b R H vp vh ps hs) (hB : B ≤ w.heap.size) (hsy : SymAt w B vs syms) :
    Calls Tryz.prog 35 #[bptr b, vs] w fun e w' => e = .returned (.tuple #[.agg (tkA (begF hs syms zero9).1), .bool (begF hs syms zero9).2]) ∧ Fresh w w' := by
  have HF := hid h
  have HOK := hid h.ok
  have HSY := hid hsy
  obtain ⟨ao, cap, hv, hc1, hc2, hcells⟩ := hsy
  subst hv
  unfold maxLen at hc2
  have HC := hid hcells
  generalize hR : begF hs syms zero9 = RES
  have HR := hid hR
  have HLen : Hid (RES.1.length = 9) := by unfold Hid; rw [← hR]; exact begF_len h.ok _ _ rfl
  have hb := heap_lt h.blk
  clear hcells hR h
  go_enter Tryz.func35, Tryz.ntmps35
  go_wp2
  go_loopw [8, 9, 12] (fun x8 x9 x12 wr => ∃ (i : Nat) (acc : List Bool), x12 = .int .i64 i ∧ i ≤ syms.length ∧ acc.length = 9 ∧ begF hs (syms.drop i) acc = RES ∧ Fresh w wr ∧ wr.heap[w.heap.size]? = some (.cells (tkA zero9) 95 (0, 0)) ∧ wr.heap[w.heap.size + 1]? = some (.cells (tkA acc) 95 (0, 0)))
      (fun _ _ x _ => syms.length + 1 - (intOf x).toNat)
  case atStart =>
    refine ⟨0, zero9, rfl, by omega, rfl, HR.out, ((Mod.refl _ w).alloc _).alloc _, heap_alloc2_old _ _ _, heap_alloc2_new _ _ _⟩
  case round =>
    obtain ⟨i, acc, rfl, hi, hacc, hres, hfr, hb0, hb1⟩ := hrel
    have HME := hid (meas (B := syms.length + 1) i (by omega))
    have HB0 := hid hb0
    have HB1 := hid hb1
    have HA := hid hacc
    have hlt0 := heap_lt hb0
    have hlt1 := heap_lt hb1
    have HFR := hid hfr
    clear hb0 hb1 hacc
    by_cases hlt : i < syms.length
    · rw [List.drop_eq_getElem_cons hlt] at hres
      obtain ⟨g, o, rfl, hgB, hrg⟩ := HC.out i hlt
      have RG : Hid (wr.rangeAt g (o + i * 2) [.bool syms[i].isH, .int .i64 syms[i].num]) := rangeAt_block hrg (hfr.block g (by omega) (fun x => x))
      unfold begF at hres
      generalize syms[i].isH = sh at hres RG
      generalize syms[i].num = sn at hres RG
      have hi1 : (i : Int) < (syms.length : Int) := by omega
      clear hrg hfr
      cases sh
      · rw [if_pos rfl] at hres
        have HRES := hid hres
        have HWL := hid (withT_len (n := sn) HA.out)
        clear hres
        go_wp2_with (first
          | (refine wpList_load_mid rfl 125 _ rfl g (o + i * 2) rfl [.bool false, .int .i64 sn] _ RG.out Tryz.underlying125 rfl szSy ?_)
          | (refine wpList_load_row rfl 95 _ rfl (w.heap.size + 1) rfl _ _ _ _ (heap_alloc_prev HB1.out) Tryz.underlying95 rfl (szTokOf HA.out) ?_)
          | (go_at_call 33; refine (twith_any _ acc sn HA.out).mono ?_; rintro e w1 ⟨rfl, hf1⟩)
          | (refine wpList_store_row rfl 95 _ _ rfl w.heap.size _ rfl rfl _ _ (hf1.at (heap_alloc_prev HB0.out) (fun x => x)) (szTokOf HWL.out) (sameSize rfl (tk_size HWL.out)) (tk_one _) ?_))
        refine bodyPost_ret (results_row1 rfl _ _ w.heap.size 95 _ (0, 0) _ rfl (setRow_heap _ _ _ _ _ _ (hf1.at (heap_alloc_prev HB0.out) (fun x => x))) Tryz.underlying95 rfl (szTokOf HWL.out)) rfl ⟨?_, ?_⟩
        · rw [← HRES.out]; rfl
        · exact (Mod.trans (HFR.out.alloc _) hf1).setRow (by simp) _
      · rw [if_neg (by simp)] at hres
        have HOH := hid (getH_ok HOK.out sn)
        have GA := hid (fun w (h : FA w b R H vp vh ps hs) => get_any w b R H vp vh ps hs sn h)
        generalize getH hs sn = hd at hres HOH GA
        have HOL := hid (orL_len HA.out HOH.out.fi)
        have HF2 := hid ((HF.out.fresh HFR.out).fresh ((Mod.refl _ wr).alloc (.cells #[.bool true, .int .i64 sn] 125 (0, 0))))
        cases hn : hd.nul
        · rw [if_pos hn] at hres
          have HRES := hid hres
          clear hres
          go_wp2_with (first
            | (refine wpList_load_mid rfl 125 _ rfl g (o + i * 2) rfl [.bool true, .int .i64 sn] _ RG.out Tryz.underlying125 rfl szSy ?_)
            | (go_at_call 36; refine (GA.out _ HF2.out).mono ?_; rintro e w1 ⟨rfl, hf1⟩; have hz1 := hf1.size)
            | (refine wpList_store_new rfl 97 _ _ rfl w1 _ (hdA hd) _ rfl rfl rfl (szHdOf HOH.out) (sameSize rfl (hd_size HOH.out)) (hd_one _) ?_)
            | (refine wpList_load_row rfl 95 _ rfl (w.heap.size + 1) rfl _ _ _ _ (heap_alloc_prev (hf1.at (heap_alloc_prev HB1.out) (fun x => x))) Tryz.underlying95 rfl (szTokOf HA.out) ?_)
            | (refine wpList_load_mid rfl 95 _ rfl w1.heap.size 3 rfl (bls hd.fi) _ (hdRangeFi HOH.out (heap_alloc_at _ _)) Tryz.underlying95 rfl (szTokL HOH.out.fi) ?_)
            | (go_at_call 37; refine (tunion_any _ acc hd.fi HA.out HOH.out.fi).mono ?_; rintro e w2 ⟨rfl, hf2⟩; have kk : (w2.setRow (w.heap.size + 1) (tkA (orL acc hd.fi))).cell? ⟨w1.heap.size, 0, none⟩ = some (.bool hd.nul) := (by rw [cellOf (heap_setRow_prev (hf2.at (heap_alloc_at w1 _) (fun x => x)) (by simp at hz1; omega)) 0]; exact hd_at0 hd); rw [hn] at kk)
            | (refine wpList_store_row rfl 95 _ _ rfl (w.heap.size + 1) _ rfl rfl _ _ (hf2.at (heap_alloc_prev (hf1.at (heap_alloc_prev HB1.out) (fun x => x))) (fun x => x)) (szTokOf HOL.out) (sameSize (tk_size HA.out) (tk_size HOL.out)) (tk_one _) ?_)
            | (refine wpList_load_row rfl 95 _ rfl (w.heap.size + 1) rfl _ _ _ _ (setRow_heap _ _ _ _ _ _ (hf2.at (heap_alloc_prev (hf1.at (heap_alloc_prev HB1.out) (fun x => x))) (fun x => x))) Tryz.underlying95 rfl (szTokOf HOL.out) ?_)
            | (refine wpList_store_row rfl 95 _ _ rfl w.heap.size _ rfl rfl _ _ (heap_setRow_prev (hf2.at (heap_alloc_prev (hf1.at (heap_alloc_prev HB0.out) (fun x => x))) (fun x => x)) (by omega)) (szTokOf HOL.out) (sameSize rfl (tk_size HOL.out)) (tk_one _) ?_))
          refine bodyPost_ret (results_row1 rfl _ _ w.heap.size 95 _ (0, 0) _ rfl (setRow_heap _ _ _ _ _ _ (heap_setRow_prev (hf2.at (heap_alloc_prev (hf1.at (heap_alloc_prev HB0.out) (fun x => x))) (fun x => x)) (by omega))) Tryz.underlying95 rfl (szTokOf HOL.out)) rfl ⟨?_, ?_⟩
          · rw [← HRES.out]; rfl
          · exact ((Mod.trans (Mod.trans (HFR.out.alloc _) hf1 |>.alloc _) hf2).setRow (by simp) _).setRow (by simp) _
        · rw [if_neg (by simp [hn])] at hres
          have HRES := hid hres
          clear hres
          go_wp2_with (first
            | (refine wpList_load_mid rfl 125 _ rfl g (o + i * 2) rfl [.bool true, .int .i64 sn] _ RG.out Tryz.underlying125 rfl szSy ?_)
            | (go_at_call 36; refine (GA.out _ HF2.out).mono ?_; rintro e w1 ⟨rfl, hf1⟩; have hz1 := hf1.size)
            | (refine wpList_store_new rfl 97 _ _ rfl w1 _ (hdA hd) _ rfl rfl rfl (szHdOf HOH.out) (sameSize rfl (hd_size HOH.out)) (hd_one _) ?_)
            | (refine wpList_load_row rfl 95 _ rfl (w.heap.size + 1) rfl _ _ _ _ (heap_alloc_prev (hf1.at (heap_alloc_prev HB1.out) (fun x => x))) Tryz.underlying95 rfl (szTokOf HA.out) ?_)
            | (refine wpList_load_mid rfl 95 _ rfl w1.heap.size 3 rfl (bls hd.fi) _ (hdRangeFi HOH.out (heap_alloc_at _ _)) Tryz.underlying95 rfl (szTokL HOH.out.fi) ?_)
            | (go_at_call 37; refine (tunion_any _ acc hd.fi HA.out HOH.out.fi).mono ?_; rintro e w2 ⟨rfl, hf2⟩; have kk : (w2.setRow (w.heap.size + 1) (tkA (orL acc hd.fi))).cell? ⟨w1.heap.size, 0, none⟩ = some (.bool hd.nul) := (by rw [cellOf (heap_setRow_prev (hf2.at (heap_alloc_at w1 _) (fun x => x)) (by simp at hz1; omega)) 0]; exact hd_at0 hd); rw [hn] at kk)
            | (refine wpList_store_row rfl 95 _ _ rfl (w.heap.size + 1) _ rfl rfl _ _ (hf2.at (heap_alloc_prev (hf1.at (heap_alloc_prev HB1.out) (fun x => x))) (fun x => x)) (szTokOf HOL.out) (sameSize (tk_size HA.out) (tk_size HOL.out)) (tk_one _) ?_))
          go_roundw
          case rel =>
            refine ⟨i + 1, orL acc hd.fi, by go_num, by omega, HOL.out, HRES.out, ?_, ?_, ?_⟩
            · exact (Mod.trans (Mod.trans (HFR.out.alloc _) hf1 |>.alloc _) hf2).setRow (by simp) _
            · exact heap_setRow_prev (hf2.at (heap_alloc_prev (hf1.at (heap_alloc_prev HB0.out) (fun x => x))) (fun x => x)) (by omega)
            · exact setRow_heap _ _ _ _ _ _ (hf2.at (heap_alloc_prev (hf1.at (heap_alloc_prev HB1.out) (fun x => x))) (fun x => x))
          case measure => exact HME.out
    · have hie : i = syms.length := by omega
      rw [hie, List.drop_length] at hres
      unfold begF at hres
      have HRES := hid hres
      have hi2 : ¬ (i : Int) < (syms.length : Int) := by omega
      clear hres hfr
      go_wp2_with (first
        | (refine wpList_load_row rfl 95 _ rfl (w.heap.size + 1) rfl _ _ _ _ HB1.out Tryz.underlying95 rfl (szTokOf HA.out) ?_)
        | (refine wpList_store_row rfl 95 _ _ rfl w.heap.size _ rfl rfl _ _ HB0.out (szTokOf HA.out) (sameSize rfl (tk_size HA.out)) (tk_one _) ?_))
      refine bodyPost_ret (results_row1 rfl _ _ w.heap.size 95 _ (0, 0) _ rfl (setRow_heap _ _ _ _ _ _ HB0.out) Tryz.underlying95 rfl (szTokOf HA.out)) rfl ⟨?_, ?_⟩
      · rw [← HRES.out]; rfl
      · exact HFR.out.setRow (by simp) _
end Go.Proofs.YtcpgklcimacngaaGreat
namespace Go.Proofs.YtcpgklcimacngaaGreat
open Go.RowKit
set_option linter.unusedVariables false
set_option linter.unusedSimpArgs false

def fruB (hs : List Hd) (s : Sy) : Bool := !s.isH || (getH hs s.num).fru
def allFru (hs : List Hd) (l : List Sy) : Bool := l.all (fruB hs)

set_option maxRecDepth 20000 in
set_option maxHeartbeats 4000000 in
theorem allFru_any (w : World) (b : Nat) (R H : Int) (vp vh : Value) (ps : List PV) (hs : List Hd) (B : Nat) (vs : Value) (syms : List Sy) (h : FA w b R H vp vh ps hs) (hB : B ≤ w.heap.size) (hsy : SymAt w B vs syms) :
    Calls Tryz.prog 82 #[bptr b, vs] w fun e w' => e = .returned (.bool (allFru hs syms)) ∧ Fresh w w' := by
  have HF := hid h
  have HOK := hid h.ok
  obtain ⟨ao, cap, hv, hc1, hc2, hcells⟩ := hsy
  subst hv
  unfold maxLen at hc2
  have HC := hid hcells
  generalize hR : allFru hs syms = RES
  have HR := hid hR
  clear hcells hR h
  go_enter Tryz.func82, Tryz.ntmps82
  go_wp2
  go_loopw [6, 7, 10] (fun x6 x7 x10 wr => ∃ (i : Nat), x10 = .int .i64 i ∧ i ≤ syms.length ∧ allFru hs (syms.drop i) = RES ∧ Fresh w wr)
      (fun _ _ x _ => syms.length + 1 - (intOf x).toNat)
  case atStart => exact ⟨0, rfl, by omega, HR.out, Mod.refl _ w⟩
  case round =>
    obtain ⟨i, rfl, hi, hres, hfr⟩ := hrel
    have HME := hid (meas (B := syms.length + 1) i (by omega))
    have HFR := hid hfr
    by_cases hlt : i < syms.length
    · rw [List.drop_eq_getElem_cons hlt] at hres
      obtain ⟨g, o, rfl, hgB, hrg⟩ := HC.out i hlt
      have RG : Hid (wr.rangeAt g (o + i * 2) [.bool syms[i].isH, .int .i64 syms[i].num]) := rangeAt_block hrg (hfr.block g (by omega) (fun x => x))
      unfold allFru at hres
      rw [List.all_cons] at hres
      unfold fruB at hres
      generalize syms[i].isH = sh at hres RG
      generalize syms[i].num = sn at hres RG
      have hi1 : (i : Int) < (syms.length : Int) := by omega
      clear hrg hfr
      cases sh
      · simp only [Bool.not_false, Bool.true_or, Bool.true_and] at hres
        have HRES := hid hres
        clear hres
        go_wp2_with (first
          | (refine wpList_load_mid rfl 125 _ rfl g (o + i * 2) rfl [.bool false, .int .i64 sn] _ RG.out Tryz.underlying125 rfl szSy ?_))
        go_roundw
        case rel => exact ⟨i + 1, by go_num, by omega, HRES.out, HFR.out.alloc _⟩
        case measure => exact HME.out
      · simp only [Bool.not_true, Bool.false_or] at hres
        have HOH := hid (getH_ok HOK.out sn)
        have GA := hid (fun w (h : FA w b R H vp vh ps hs) => get_any w b R H vp vh ps hs sn h)
        generalize getH hs sn = hd at hres HOH GA
        have HF2 := hid ((HF.out.fresh HFR.out).fresh ((Mod.refl _ wr).alloc (.cells #[.bool true, .int .i64 sn] 125 (0, 0))))
        cases hn : hd.fru
        · rw [hn, Bool.false_and] at hres
          have HRES := hid hres
          clear hres
          go_wp2_with (first
            | (refine wpList_load_mid rfl 125 _ rfl g (o + i * 2) rfl [.bool true, .int .i64 sn] _ RG.out Tryz.underlying125 rfl szSy ?_)
            | (go_at_call 36; refine (GA.out _ HF2.out).mono ?_; rintro e w1 ⟨rfl, hf1⟩; have kk : (w1.alloc (.cells (hdA hd) 97 (0, 0))).cell? ⟨w1.heap.size, 2, none⟩ = some (.bool hd.fru) := (by rw [cellOf (heap_alloc_at w1 _) 2]; exact hd_at2 hd); rw [hn] at kk)
            | (refine wpList_store_new rfl 97 _ _ rfl w1 _ (hdA hd) _ rfl rfl rfl (szHdOf HOH.out) (sameSize rfl (hd_size HOH.out)) (hd_one _) ?_))
          go_ret
          exact ⟨ret_bool HRES.out, Mod.trans (HFR.out.alloc _) hf1 |>.alloc _⟩
        · rw [hn, Bool.true_and] at hres
          have HRES := hid hres
          clear hres
          go_wp2_with (first
            | (refine wpList_load_mid rfl 125 _ rfl g (o + i * 2) rfl [.bool true, .int .i64 sn] _ RG.out Tryz.underlying125 rfl szSy ?_)
            | (go_at_call 36; refine (GA.out _ HF2.out).mono ?_; rintro e w1 ⟨rfl, hf1⟩; have kk : (w1.alloc (.cells (hdA hd) 97 (0, 0))).cell? ⟨w1.heap.size, 2, none⟩ = some (.bool hd.fru) := (by rw [cellOf (heap_alloc_at w1 _) 2]; exact hd_at2 hd); rw [hn] at kk)
            | (refine wpList_store_new rfl 97 _ _ rfl w1 _ (hdA hd) _ rfl rfl rfl (szHdOf HOH.out) (sameSize rfl (hd_size HOH.out)) (hd_one _) ?_))
          go_roundw
          case rel => exact ⟨i + 1, by go_num, by omega, HRES.out, Mod.trans (HFR.out.alloc _) hf1 |>.alloc _⟩
          case measure => exact HME.out
    · have hie : i = syms.length := by omega
      rw [hie, List.drop_length] at hres
      have HRES := hid hres
      have hi2 : ¬ (i : Int) < (syms.length : Int) := by omega
      clear hres hfr
      go_wp2
      go_ret
      exact ⟨by rw [← HRES.out]; rfl, HFR.out⟩

/-- the productions by themselves -/
def prsOf (ps : List PV) : List Pr := ps.map PV.pr
def growB1 (hs : List Hd) (p : Pr) : List Hd × Bool :=
  let h := getH hs p.head
  let r := begF hs p.syms zero9
  let h' : Hd := { h with nul := h.nul || r.2, fi := orL h.fi r.1 }
  (putF hs p.head h', putB hs p.head h')
def growBL : List Pr → List Hd → Bool → List Hd × Bool
  | [], hs, g => (hs, g)
  | p :: l, hs, g => growBL l (growB1 hs p).1 (g || (growB1 hs p).2)
def growF1 (hs : List Hd) (p : Pr) : List Hd × Bool :=
  let h := getH hs p.head
  let h' : Hd := { h with fru := h.fru || allFru hs p.syms }
  (putF hs p.head h', putB hs p.head h')
def growFL : List Pr → List Hd → Bool → List Hd × Bool
  | [], hs, g => (hs, g)
  | p :: l, hs, g => growFL l (growF1 hs p).1 (g || (growF1 hs p).2)
theorem putF_ok {hs : List Hd} (h : ∀ x ∈ hs, x.ok) (n : Int) {y : Hd} (hy : y.ok) : ∀ x ∈ putF hs n y, x.ok := by
  intro x hx
  unfold putF at hx
  split at hx
  · rcases List.mem_or_eq_of_mem_set hx with h1 | h1
    · exact h x h1
    · rw [h1]; exact hy
  · exact h x hx
theorem putF_len (hs : List Hd) (n : Int) (y : Hd) : (putF hs n y).length = hs.length := by unfold putF; split <;> simp

theorem szPV : (Tryz.prog.info? 89).map (·.size) = some 2 := by kernel_rfl
variable {w w' : World} {b : Nat} {R H : Int} {vp vh : Value} {ps : List PV} {hs : List Hd}
theorem FA.size (h : FA w b R H vp vh ps hs) : b < w.heap.size := heap_lt h.blk
end Go.Proofs.YtcpgklcimacngaaGreat
