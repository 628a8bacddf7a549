import Derived.Test.YtcdedekgdiooiaaGreatRc1
namespace Go.Proofs.YtcdedekgdiooiaaGreat
open Go.RowKit
set_option linter.unusedVariables false
set_option linter.unusedSimpArgs false

abbrev ownA (v v1 v2 v3 : Value) (mk : Int) : Array Value := #[v, v1, v2, v3, .int .i64 mk]
theorem szOwn : (Tryz.prog.info? 35).map (·.size) = some 5 := by kernel_rfl
theorem own_one (a a1 a2 a3 : Option Addr) (n n1 n2 n3 c c1 c2 c3 : Nat) (mk : Int) : (ownA (.slice a n c) (.slice a1 n1 c1) (.slice a2 n2 c2) (.slice a3 n3 c3) mk).all (·.oneCell') = true :=
  all_oneCell_toArray (cs := [.slice a n c, .slice a1 n1 c1, .slice a2 n2 c2, .slice a3 n3 c3, .int .i64 mk]) (by intro v hv; simp only [List.mem_cons, List.not_mem_nil, or_false] at hv; rcases hv with rfl | rfl | rfl | rfl | rfl <;> rfl)
theorem asz (W : World) (o : Obj) : (W.alloc o).heap.size = W.heap.size + 1 := by simp
def BlkIn (v : Value) (w : World) (x : Value) : Prop := ∀ k, x.ownBlock = some k → v.ownBlock = some k ∨ w.heap.size ≤ k
/-- what belongs to a list's owner -/
structure OwnAt (w : World) (v v1 v2 v3 : Value) (n : Nat) (mk : Int) : Prop where
  m0 : MarkAt w v n mk
  m1 : MarkAt w v1 (n + 1) mk
  m2 : MarkAt w v2 (n + 2) mk
  m3 : MarkAt w v3 (n + 6) mk
theorem OwnAt.kept {w w' : World} {v v1 v2 v3 : Value} {n : Nat} {mk : Int} (h : OwnAt w v v1 v2 v3 n mk) (hk : ∀ x, x = v ∨ x = v1 ∨ x = v2 ∨ x = v3 → ∀ k, x.ownBlock = some k → k < w.heap.size → w'.heap[k]? = w.heap[k]?) : OwnAt w' v v1 v2 v3 n mk :=
  ⟨h.m0.kept (hk _ (.inl rfl)), h.m1.kept (hk _ (.inr (.inl rfl))), h.m2.kept (hk _ (.inr (.inr (.inl rfl)))), h.m3.kept (hk _ (.inr (.inr (.inr rfl))))⟩
def OwnRet (w : World) (v : Value) (n : Nat) (mk : Int) (e : Ending) (w' : World) : Prop :=
  ∃ a1 c1 a2 c2 a3 c3, e = .returned (.agg (ownA v (.slice a1 (n + 1) c1) (.slice a2 (n + 2) c2) (.slice a3 (n + 6) c3) mk)) ∧ OwnAt w' v (.slice a1 (n + 1) c1) (.slice a2 (n + 2) c2) (.slice a3 (n + 6) c3) n mk ∧ Mod (fun k => v.ownBlock = some k) w w' ∧
    BlkIn v w (.slice a1 (n + 1) c1) ∧ BlkIn v w (.slice a2 (n + 2) c2) ∧ BlkIn v w (.slice a3 (n + 6) c3)
theorem nums_rep (n : Nat) (mk : Int) (m : Nat) : nums (List.replicate n mk) ++ List.replicate m (.int .i64 mk) = nums (List.replicate (n + m) mk) := by
  rw [← List.replicate_append_replicate]; simp [nums]
set_option maxRecDepth 20000 in
set_option maxHeartbeats 1000000 in
theorem own_any (w : World) (v : Value) (l : List Int) (mk : Int) (ho : IntOwn w 0 v l) (hl : l.length ≤ 100) :
    Calls Tryz.prog 8 #[v, .int .i64 mk] w fun e w' => OwnRet w v l.length mk e w' := by
  obtain ⟨i1, hi1, hy0, hy1, hy2⟩ := infoInt'
  obtain ⟨ao, cp, hv⟩ := own_form ho
  subst hv
  have HO := hid ho
  have hlt0 : Hid (∀ k, (Value.slice ao l.length cp).ownBlock = some k → k < w.heap.size) := hid (fun k hk => (ho.lt k hk).2)
  clear ho
  go_enter Tryz.func8, Tryz.ntmps8
  go_wp2
  go_loopw [5] (fun x5 wr => ∃ (i : Nat), x5 = .int .i64 i ∧ i ≤ l.length ∧ wr.ownsRow 0 3 1 (.slice ao l.length cp) l.length (nums (List.replicate i mk ++ l.drop i)) ∧ Mod (fun k => (Value.slice ao l.length cp).ownBlock = some k) w wr ∧ w.heap.size < wr.heap.size ∧ wr.heap[w.heap.size]? = some (.cells (ownA (.slice none 0 0) (.slice none 0 0) (.slice none 0 0) (.slice none 0 0) 0) 35 (0, 0)))
      (fun x _ => 1001 - (intOf x).toNat)
  case atStart => exact ⟨0, rfl, by omega, HO.out.alloc _, (Mod.refl _ w).alloc _, by simp, heap_alloc_at _ _⟩
  case round =>
    obtain ⟨i, rfl, hi, hown, hmod, hsz, hblk⟩ := hrel
    have HME := hid (meas (B := 1001) i (by omega))
    have HOW := hid hown
    have HMD := hid hmod
    have HBL := hid hblk
    by_cases hlt : i < l.length
    · have k1 : (i : Int) < (l.length : Int) := by omega
      obtain ⟨g, cv, hv⟩ := Joins.ownsRow_form hown (by omega)
      rw [Value.slice.injEq] at hv
      obtain ⟨rfl, _, rfl⟩ := hv
      have hll : (List.replicate i mk ++ l.drop i).length = l.length := by simp; omega
      have c1 : ∃ c : Int, wr.cell? ⟨g, i, none⟩ = some (.int .i64 c) := ⟨_, intOwn_cell (l := List.replicate i mk ++ l.drop i) (n := l.length) (base := 0) (by unfold IntOwn; rw [hll]; exact hown) i (by rw [hll]; exact hlt)⟩
      obtain ⟨c, c1⟩ := c1
      have c2 : wr.frozen? ⟨g, i, none⟩ = false := by
        rcases hown.2 with ⟨e, _⟩ | ⟨g', cap, cur, e, _, hg, _⟩
        · simp at e
        · rw [Value.slice.injEq] at e
          simp only [Option.some.injEq, Addr.mk.injEq] at e
          obtain ⟨⟨rfl, _, _⟩, _⟩ := e
          exact frozenOf hg i
      have HNX : Hid ((wr.setCell ⟨g, i, none⟩ (.int .i64 mk)).ownsRow 0 3 1 (.slice (some ⟨g, 0, none⟩) l.length cp) l.length (nums (List.replicate (i + 1) mk ++ l.drop (i + 1)))) := hid (by
        have := ownsRow_set hown (g := g) rfl i (.int .i64 mk) (by simp [nums]; omega)
        have e : (nums (List.replicate i mk ++ l.drop i)).set i (.int .i64 mk) = nums (List.replicate (i + 1) mk ++ l.drop (i + 1)) := by
          rw [← marks_set hlt]; unfold nums; rw [List.map_set]
        rw [e] at this
        exact this)
      have hgl := hlt0.out g rfl
      have HN2 : Hid (Mod (fun k => (Value.slice (some ⟨g, 0, none⟩) l.length cp).ownBlock = some k) w (wr.setCell ⟨g, i, none⟩ (.int .i64 mk))) := hid (Mod.setCell hmod (p := ⟨g, i, none⟩) (fun _ => rfl) _)
      have HN3 : Hid ((wr.setCell ⟨g, i, none⟩ (.int .i64 mk)).heap[w.heap.size]? = some (.cells (ownA (.slice none 0 0) (.slice none 0 0) (.slice none 0 0) (.slice none 0 0) 0) 35 (0, 0))) := hid (by
        rw [Proofs.YtcdedekgdiooiaaGreat.heap_setCell_other _ (by simp; omega)]; exact hblk)
      have HN4 : Hid (w.heap.size < (wr.setCell ⟨g, i, none⟩ (.int .i64 mk)).heap.size) := hid (by
        have := (Mod.refl (fun _ => True) wr).setCell (p := ⟨g, i, none⟩) (fun _ => trivial) (.int .i64 mk)
        have := this.size
        omega)
      clear hown hmod hblk hll
      go_wp2
      go_roundw
      case rel => exact ⟨i + 1, by go_num, by omega, HNX.out, HN2.out, HN4.out, HN3.out⟩
      case measure => exact HME.out
    · have k1 : ¬ (i : Int) < (l.length : Int) := by omega
      have hie : i = l.length := by omega
      subst hie
      rw [List.drop_length, List.append_nil] at hown
      have hmax : maxLen = 9223372036854775807 := rfl
      obtain ⟨v1, w6, r1, o6, g6, b6, k6, q6⟩ := run_append_keep (P := Tryz.prog) (wr.alloc (.cells #[.int .i64 mk] 3)) 0 30 30 3 i1 _ 1 8 Tryz.underlying30 hi1 hy0 hy1 hy2 rfl (by decide) (.slice ao l.length cp) l.length _ (hown.alloc _) ⟨wr.heap.size, 0, none⟩ 1 1 [.int .i64 mk] rfl (new_cells rfl) (by intro u hu; simp at hu; subst hu; rfl) (by omega) (by omega) (by omega) (.int .i64 mk) (by simp)
      obtain ⟨v2, w7, r2, o7, g7, b7, k7, q7⟩ := run_append_keep (P := Tryz.prog) (w6.alloc (.cells #[.int .i64 mk, .int .i64 mk] 3)) 0 30 30 3 i1 _ 1 8 Tryz.underlying30 hi1 hy0 hy1 hy2 rfl (by decide) (.slice ao l.length cp) l.length _ (q6.alloc _) ⟨w6.heap.size, 0, none⟩ 2 2 [.int .i64 mk, .int .i64 mk] rfl (new_cells rfl) (by intro u hu; simp at hu; subst hu; rfl) (by omega) (by omega) (by omega) (.int .i64 mk) (by simp)
      obtain ⟨v3, w8, r3, o8, g8, b8, k8, q8⟩ := run_append_keep (P := Tryz.prog) (w7.alloc (.cells #[.int .i64 mk, .int .i64 mk, .int .i64 mk, .int .i64 mk, .int .i64 mk, .int .i64 mk] 3)) 0 30 30 3 i1 _ 1 8 Tryz.underlying30 hi1 hy0 hy1 hy2 rfl (by decide) (.slice ao l.length cp) l.length _ (q7.alloc _) ⟨w7.heap.size, 0, none⟩ 6 6 [.int .i64 mk, .int .i64 mk, .int .i64 mk, .int .i64 mk, .int .i64 mk, .int .i64 mk] rfl (new_cells rfl) (by intro u hu; simp at hu; subst hu; rfl) (by omega) (by omega) (by omega) (.int .i64 mk) (by simp)
      obtain ⟨a1, c1, hv1⟩ := own_form o6
      obtain ⟨a2, c2, hv2⟩ := own_form o7
      obtain ⟨a3, c3, hv3⟩ := own_form o8
      subst hv1 hv2 hv3
      have al : ∀ (W : World) (o : Obj) (b oo : Nat) (x : Value), W.cell? ⟨b, oo, none⟩ = some x → (W.alloc o).cell? ⟨b, oo, none⟩ = some x := fun W o b oo x h => fcell' ((Mod.refl (fun _ => False) W).alloc o) h
      have M0 : MarkAt w8 (.slice ao l.length cp) l.length mk := MarkAt.of q8
      have M1 : MarkAt w8 (.slice a1 (l.length + 1) c1) (l.length + 1) mk := by
        have e := nums_rep l.length mk 1
        rw [show List.replicate 1 (Value.int .i64 mk) = [.int .i64 mk] from rfl] at e
        rw [e] at o6
        exact ((MarkAt.of o6).keep (fun b o h => k7 b o (al _ _ _ _ _ h))).keep (fun b o h => k8 b o (al _ _ _ _ _ h))
      have M2 : MarkAt w8 (.slice a2 (l.length + 2) c2) (l.length + 2) mk := by
        have e := nums_rep l.length mk 2
        rw [show List.replicate 2 (Value.int .i64 mk) = [.int .i64 mk, .int .i64 mk] from rfl] at e
        rw [e] at o7
        exact (MarkAt.of o7).keep (fun b o h => k8 b o (al _ _ _ _ _ h))
      have M3 : MarkAt w8 (.slice a3 (l.length + 6) c3) (l.length + 6) mk := by
        have e := nums_rep l.length mk 6
        rw [show List.replicate 6 (Value.int .i64 mk) = [.int .i64 mk, .int .i64 mk, .int .i64 mk, .int .i64 mk, .int .i64 mk, .int .i64 mk] from rfl] at e
        rw [e] at o8
        exact MarkAt.of o8
      have z1 := g6.size
      have z2 := g7.size
      have z3 := g8.size
      rw [asz] at z1 z2 z3
      have HMW : Mod (fun k => (Value.slice ao l.length cp).ownBlock = some k) w w8 := Mod.grown ((Mod.grown ((Mod.grown (hmod.alloc _) g6 (fun k hk _ => hk)).alloc _) g7 (fun k hk _ => hk)).alloc _) g8 (fun k hk _ => hk)
      have hne : ¬ (Value.slice ao l.length cp).ownBlock = some w.heap.size := fun e => by have := hlt0.out _ e; omega
      have HMR : Mod (fun k => (Value.slice ao l.length cp).ownBlock = some k) wr w8 := Mod.grown ((Mod.grown ((Mod.grown ((Mod.refl _ wr).alloc _) g6 (fun k hk _ => hk)).alloc _) g7 (fun k hk _ => hk)).alloc _) g8 (fun k hk _ => hk)
      have hPb := hid (HMR.at hblk hne)
      have B1 : BlkIn (.slice ao l.length cp) w (.slice a1 (l.length + 1) c1) := fun k hk => (b6 k hk).imp id (fun h => by rw [asz] at h; omega)
      have B2 : BlkIn (.slice ao l.length cp) w (.slice a2 (l.length + 2) c2) := fun k hk => (b7 k hk).imp id (fun h => by rw [asz] at h; omega)
      have B3 : BlkIn (.slice ao l.length cp) w (.slice a3 (l.length + 6) c3) := fun k hk => (b8 k hk).imp id (fun h => by rw [asz] at h; omega)
      have N1 : ¬ (Value.slice a1 (l.length + 1) c1).ownBlock = some w.heap.size := fun e => by
        rcases b6 _ e with h | h
        · exact hne h
        · rw [asz] at h; omega
      have N2 : ¬ (Value.slice a2 (l.length + 2) c2).ownBlock = some w.heap.size := fun e => by
        rcases b7 _ e with h | h
        · exact hne h
        · rw [asz] at h; omega
      have N3 : ¬ (Value.slice a3 (l.length + 6) c3).ownBlock = some w.heap.size := fun e => by
        rcases b8 _ e with h | h
        · exact hne h
        · rw [asz] at h; omega
      have FIN : Hid (OwnAt (w8.setRow w.heap.size (ownA (.slice ao l.length cp) (.slice a1 (l.length + 1) c1) (.slice a2 (l.length + 2) c2) (.slice a3 (l.length + 6) c3) mk)) (.slice ao l.length cp) (.slice a1 (l.length + 1) c1) (.slice a2 (l.length + 2) c2) (.slice a3 (l.length + 6) c3) l.length mk ∧ Mod (fun k => (Value.slice ao l.length cp).ownBlock = some k) w (w8.setRow w.heap.size (ownA (.slice ao l.length cp) (.slice a1 (l.length + 1) c1) (.slice a2 (l.length + 2) c2) (.slice a3 (l.length + 6) c3) mk)) ∧ BlkIn (.slice ao l.length cp) w (.slice a1 (l.length + 1) c1) ∧ BlkIn (.slice ao l.length cp) w (.slice a2 (l.length + 2) c2) ∧ BlkIn (.slice ao l.length cp) w (.slice a3 (l.length + 6) c3)) := hid ⟨OwnAt.kept ⟨M0, M1, M2, M3⟩ (fun x hx k hk _ => setRow_other _ _ _ _ (by
          intro e
          subst e
          rcases hx with rfl | rfl | rfl | rfl
          · exact hne hk
          · exact N1 hk
          · exact N2 hk
          · exact N3 hk)), HMW.setRow (fun h => absurd h (Nat.lt_irrefl _)) _, B1, B2, B3⟩
      have R1 := hid r1
      have R2 := hid r2
      have R3 := hid r3
      clear o6 g6 b6 k6 q6 o7 g7 b7 k7 q7 o8 g8 b8 k8 q8 M0 M1 M2 M3 B1 B2 B3 N1 N2 N3 HMW HMR z1 z2 z3 al hown hmod hblk r1 r2 r3 hne HOW HMD HBL
      go_wp2_with (first
        | (at_builtin; refine wpList_append_run _ rfl _ _ 30 rfl _ _ rfl rfl _ _ R1.out ?_; clear R1)
        | (at_builtin; refine wpList_append_run _ rfl _ _ 30 rfl _ _ rfl rfl _ _ R2.out ?_; clear R2)
        | (at_builtin; refine wpList_append_run _ rfl _ _ 30 rfl _ _ rfl rfl _ _ R3.out ?_; clear R3)
        | (refine wpList_store_row rfl 35 _ _ rfl w.heap.size (ownA (.slice ao l.length cp) (.slice a1 (l.length + 1) c1) (.slice a2 (l.length + 2) c2) (.slice a3 (l.length + 6) c3) mk) rfl rfl _ _ hPb.out szOwn rfl (own_one _ _ _ _ _ _ _ _ _ _ _ _ _) ?_))
      refine bodyPost_ret (results_row0 rfl _ _ w.heap.size 35 (ownA (.slice ao l.length cp) (.slice a1 (l.length + 1) c1) (.slice a2 (l.length + 2) c2) (.slice a3 (l.length + 6) c3) mk) (0, 0) _ rfl (setRow_heap _ _ _ _ _ _ hPb.out) Tryz.underlying35 rfl szOwn) rfl ?_
      exact ⟨a1, c1, a2, c2, a3, c3, rfl, FIN.out⟩
set_option maxRecDepth 20000 in
set_option maxHeartbeats 2000000 in
theorem lholds_any (w : World) (ao a1 a2 a3 : Option Addr) (n cp c1 c2 c3 : Nat) (mk : Int) (h : OwnAt w (.slice ao n cp) (.slice a1 (n + 1) c1) (.slice a2 (n + 2) c2) (.slice a3 (n + 6) c3) n mk) (hn : n ≤ 100) :
    Calls Tryz.prog 9 #[.agg (ownA (.slice ao n cp) (.slice a1 (n + 1) c1) (.slice a2 (n + 2) c2) (.slice a3 (n + 6) c3) mk)] w fun e w' => e = .returned (.bool true) ∧ Fresh w w' := by
  have FU := hid (fun (W : World) (v : Value) (k : Nat) (hm : MarkAt W v k mk) (hk : k ≤ 1000) => full_true W v k mk hm hk)
  have hf : ∀ o : Obj, Fresh w (w.alloc o) := fun o => (Mod.refl _ w).alloc o
  have F0 := hid (fun o => FU.out (w.alloc o) _ n (h.m0.fresh (hf o)) (by omega))
  have F1 := hid (fun o => FU.out (w.alloc o) _ (n + 1) (h.m1.fresh (hf o)) (by omega))
  have F2 := hid (fun o => FU.out (w.alloc o) _ (n + 2) (h.m2.fresh (hf o)) (by omega))
  have F3 := hid (fun o => FU.out (w.alloc o) _ (n + 6) (h.m3.fresh (hf o)) (by omega))
  clear h hf FU
  generalize n + 1 = n1 at F1 ⊢
  generalize n + 2 = n2 at F2 ⊢
  generalize n + 6 = n6 at F3 ⊢
  go_enter Tryz.func9, Tryz.ntmps9
  go_wp2_with (first
    | (go_at_call 20; refine (F0.out _).mono ?_; rintro e w' ⟨rfl, hw⟩; rw [hw]; clear hw F0)
    | (go_at_call 20; refine (F1.out _).mono ?_; rintro e w' ⟨rfl, hw⟩; rw [hw]; clear hw F1)
    | (go_at_call 20; refine (F2.out _).mono ?_; rintro e w' ⟨rfl, hw⟩; rw [hw]; clear hw F2)
    | (go_at_call 20; refine (F3.out _).mono ?_; rintro e w' ⟨rfl, hw⟩; rw [hw]; clear hw F3))
  go_ret
  exact ⟨ret_bool (by simp), (Mod.refl _ w).alloc _⟩
end Go.Proofs.YtcdedekgdiooiaaGreat
namespace Go.Proofs.YtcdedekgdiooiaaGreat
open Go.RowKit
set_option linter.unusedVariables false
set_option linter.unusedSimpArgs false

/-- a list with its owner's marks -/
structure OW where
  a0 : Option Addr
  c0 : Nat
  a1 : Option Addr
  c1 : Nat
  a2 : Option Addr
  c2 : Nat
  a3 : Option Addr
  c3 : Nat
  n : Nat
  mm : Int
def OW.v (o : OW) : Value := .slice o.a0 o.n o.c0
def OW.v1 (o : OW) : Value := .slice o.a1 (o.n + 1) o.c1
def OW.v2 (o : OW) : Value := .slice o.a2 (o.n + 2) o.c2
def OW.v3 (o : OW) : Value := .slice o.a3 (o.n + 6) o.c3
def OW.cells (o : OW) : List Value := [o.v, o.v1, o.v2, o.v3, .int .i64 o.mm]
def OW.isV (o : OW) (x : Value) : Prop := x = o.v ∨ x = o.v1 ∨ x = o.v2 ∨ x = o.v3
structure OI (z : Nat) (bl : List (Option Nat)) (w : World) (row : Value) (o : OW) : Prop where
  at' : OwnAt w o.v o.v1 o.v2 o.v3 o.n o.mm
  n : o.n ≤ 100
  blk : ∀ x, o.isV x → ∀ k, x.ownBlock = some k → k < w.heap.size ∧ row.ownBlock ≠ some k ∧ (z ≤ k ∨ some k ∈ bl)
def listsOf (svs : List SV) : List (Value × List Int) := svs.flatMap (fun s => [(s.v1, listT s.hd.fi), (s.v2, listT s.hd.fo)])
theorem ownBs_lists (svs : List SV) : ownBs svs = (listsOf svs).map (fun x => x.1.ownBlock) := by
  unfold ownBs listsOf
  rw [List.map_flatMap]
  rfl
theorem lists_at : ∀ (svs : List SV) (i : Nat) (h : i < svs.length), (listsOf svs)[2 * i]? = some (svs[i].v1, listT svs[i].hd.fi) ∧ (listsOf svs)[2 * i + 1]? = some (svs[i].v2, listT svs[i].hd.fo)
  | s :: r, 0, _ => ⟨rfl, rfl⟩
  | s :: r, i + 1, h => by
    have ih := lists_at r i (by simpa using h)
    unfold listsOf at ih ⊢
    rw [List.flatMap_cons]
    refine ⟨?_, ?_⟩
    · rw [show 2 * (i + 1) = 2 * i + 2 by omega]
      exact ih.1
    · rw [show 2 * (i + 1) + 1 = (2 * i + 1) + 2 by omega]
      exact ih.2
structure LST (w2 : World) (svs : List SV) (wr : World) (row : Value) (os : List OW) (d : Nat) : Prop where
  own : wr.ownsRow w2.heap.size 35 5 row os.length (flatC OW.cells os)
  each : ∀ o ∈ os, OI w2.heap.size ((ownBs svs).take d) wr row o
  mod : Mod (fun k => some k ∈ ownBs svs) w2 wr
  rest : ∀ j x, d ≤ j → (listsOf svs)[j]? = some x → IntOwn wr 0 x.1 x.2
theorem LST.fresh {w2 wr wr' : World} {svs : List SV} {row : Value} {os : List OW} {d : Nat} (h : LST w2 svs wr row os d) (hf : Fresh wr wr') : LST w2 svs wr' row os d := by
  refine ⟨ownsRow_other h.own (fun g hg => hf.block g (h.own.lt g hg).2 (fun x => x)), fun o ho => ?_, h.mod.trans' hf (fun _ _ x => x.elim), fun j x hj hx => ?_⟩
  · have e := h.each o ho
    refine ⟨e.at'.kept (fun x hx k hk hlt => hf.block k hlt (fun x => x)), e.n, fun x hx k hk => ?_⟩
    have q := e.blk x hx k hk
    exact ⟨Nat.lt_of_lt_of_le q.1 hf.size, q.2⟩
  · have e := h.rest j x hj hx
    exact ownsRow_other e (fun g hg => hf.block g (e.lt g hg).2 (fun x => x))
theorem MarkAt.blk {w : World} {v : Value} {n : Nat} {mk : Int} (h : MarkAt w v n mk) (hn : 0 < n) {k : Nat} (hk : v.ownBlock = some k) : k < w.heap.size := by
  obtain ⟨ao, cap, h1, h2, h3⟩ := h
  obtain ⟨g, o, h4, h5⟩ := h3 0 (by rw [List.length_replicate]; exact hn)
  have hb : g < w.heap.size := by
    rcases Nat.lt_or_ge g w.heap.size with h | h
    · exact h
    · simp [World.cell?, Array.getElem?_eq_none h] at h5
  rw [h1, h4] at hk
  simp only [Value.ownBlock, Option.some.injEq] at hk
  omega
theorem LST.step {w2 wr wB wB' wC : World} {svs : List SV} {row row' : Value} {os : List OW} {d : Nat} {u : Value} {ul : List Int} {o : OW} (h : LST w2 svs wr row os d)
    (sep : (ownBs svs).Pairwise (fun a b => ∀ k, a = some k → b ≠ some k)) (bnd : ∀ k, some k ∈ ownBs svs → k < w2.heap.size)
    (hu : (listsOf svs)[d]? = some (u, ul)) (ho : o.v = u) (hn : o.n ≤ 100) (hO : OwnAt wB o.v o.v1 o.v2 o.v3 o.n o.mm) (hm : Mod (fun k => u.ownBlock = some k) wr wB)
    (b1 : BlkIn u wr o.v1) (b2 : BlkIn u wr o.v2) (b3 : BlkIn u wr o.v3) (hf : Fresh wB wB')
    (hown : wC.ownsRow w2.heap.size 35 5 row' (os.length + 1) (flatC OW.cells os ++ o.cells)) (hg : wB'.grownBy wC row.ownBlock)
    (hblk : ∀ k, row'.ownBlock = some k → row.ownBlock = some k ∨ wB'.heap.size ≤ k) : LST w2 svs wC row' (os ++ [o]) (d + 1) := by
  have hul : IntOwn wr 0 u ul := h.rest d _ (Nat.le_refl _) hu
  have hb : (ownBs svs)[d]? = some u.ownBlock := by rw [ownBs_lists, List.getElem?_map, hu]; rfl
  have hmem : ∀ k, u.ownBlock = some k → some k ∈ ownBs svs := fun k hk => by
    rw [hk] at hb; exact List.mem_of_getElem? hb
  have hrow : ∀ k, row.ownBlock = some k → w2.heap.size ≤ k ∧ k < wr.heap.size := fun k hk => h.own.lt k hk
  have hdl : d < (ownBs svs).length := (List.getElem?_eq_some_iff.1 hb).1
  have htk : (ownBs svs).take (d + 1) = (ownBs svs).take d ++ [u.ownBlock] := by
    rw [List.take_add_one, hb]; rfl
  have hsz1 := hm.size
  have hsz2 := hf.size
  have hsz3 := hg.size
  have hw2 := h.mod.size
  -- a block that is not the list's and not the row's
  have keep : ∀ k, k < wr.heap.size → u.ownBlock ≠ some k → row.ownBlock ≠ some k → wC.heap[k]? = wr.heap[k]? := fun k hk q1 q2 => by
    rw [hg.block k (by omega) (fun e => q2 e.symm), hf.block k (by omega) (fun x => x), hm.block k hk q1]
  have keepB : ∀ k, k < wB.heap.size → row.ownBlock ≠ some k → wC.heap[k]? = wB.heap[k]? := fun k hk q2 => by
    rw [hg.block k (by omega) (fun e => q2 e.symm), hf.block k (by omega) (fun x => x)]
  have nrow : ∀ k, k < wB.heap.size → row.ownBlock ≠ some k → row'.ownBlock ≠ some k := fun k hk q e => by
    rcases hblk k e with q1 | q1
    · exact q q1
    · omega
  have sepd : ∀ k, some k ∈ (ownBs svs).take d → u.ownBlock ≠ some k := fun k hk e => by
    obtain ⟨j, hj, hje⟩ := List.getElem_of_mem hk
    rw [List.length_take] at hj
    rw [List.getElem_take] at hje
    have := List.pairwise_iff_getElem.1 sep j d (by omega) hdl (by omega) k hje
    have hb' := (List.getElem?_eq_some_iff.1 hb).2
    rw [hb'] at this
    exact this e
  refine ⟨?_, ?_, ?_, ?_⟩
  · rw [flat_snoc, List.length_append, List.length_singleton]; exact hown
  · intro q hq
    simp only [List.mem_append, List.mem_singleton] at hq
    rcases hq with hq | rfl
    · have e := h.each q hq
      have nu : ∀ x, q.isV x → ∀ k, x.ownBlock = some k → u.ownBlock ≠ some k := fun x hx k hk eu => by
        rcases (e.blk x hx k hk).2.2 with q1 | q1
        · have := bnd k (hmem k eu); omega
        · exact sepd k q1 eu
      refine ⟨e.at'.kept (fun x hx k hk hlt => keep k hlt (nu x hx k hk) (e.blk x hx k hk).2.1), e.n, fun x hx k hk => ?_⟩
      have q1 := e.blk x hx k hk
      refine ⟨by omega, nrow k (by omega) q1.2.1, q1.2.2.imp id (fun z => ?_)⟩
      rw [htk]; exact List.mem_append_left _ z
    · have hvlt : ∀ k, u.ownBlock = some k → k < wr.heap.size := fun k hk => (hul.lt k hk).2
      have bl : ∀ x, q.isV x → ∀ k, x.ownBlock = some k → k < wB.heap.size ∧ row.ownBlock ≠ some k ∧ (w2.heap.size ≤ k ∨ some k ∈ (ownBs svs).take (d + 1)) := fun x hx k hk => by
        have hin : u.ownBlock = some k ∨ wr.heap.size ≤ k := by
          rcases hx with rfl | rfl | rfl | rfl
          · left; rw [← ho]; exact hk
          · exact b1 k hk
          · exact b2 k hk
          · exact b3 k hk
        have hlt : k < wB.heap.size := by
          rcases hx with rfl | rfl | rfl | rfl
          · have := hvlt k (by rw [← ho]; exact hk); omega
          · exact hO.m1.blk (by omega) hk
          · exact hO.m2.blk (by omega) hk
          · exact hO.m3.blk (by omega) hk
        refine ⟨hlt, fun er => ?_, ?_⟩
        · have r := hrow k er
          rcases hin with q1 | q1
          · have := bnd k (hmem k q1); omega
          · omega
        · rcases hin with q1 | q1
          · right; rw [htk, q1]; simp
          · left; omega
      refine ⟨hO.kept (fun x hx k hk hlt => keepB k hlt (bl x hx k hk).2.1), hn, fun x hx k hk => ?_⟩
      have q1 := bl x hx k hk
      exact ⟨by omega, nrow k q1.1 q1.2.1, q1.2.2⟩
  · have m1 : Mod (fun k => some k ∈ ownBs svs) w2 wB := h.mod.trans' hm (fun k _ hk => hmem k hk)
    exact Mod.grown (m1.trans' hf (fun _ _ x => x.elim)) hg (fun k hk hlt => by have := (hrow k hk).1; omega)
  · intro j x hj hx
    have e := h.rest j x (by omega) hx
    refine ownsRow_other e (fun k hk => keep k (e.lt k hk).2 (fun eu => ?_) (fun er => ?_))
    · have hbj : (ownBs svs)[j]? = some x.1.ownBlock := by rw [ownBs_lists, List.getElem?_map, hx]; rfl
      have hjl : j < (ownBs svs).length := (List.getElem?_eq_some_iff.1 hbj).1
      have := List.pairwise_iff_getElem.1 sep d j hdl hjl (by omega) k (by rw [(List.getElem?_eq_some_iff.1 hb).2]; exact eu)
      rw [(List.getElem?_eq_some_iff.1 hbj).2] at this
      exact this hk
    · have hbj : (ownBs svs)[j]? = some x.1.ownBlock := by rw [ownBs_lists, List.getElem?_map, hx]; rfl
      have := bnd k (by rw [hk] at hbj; exact List.mem_of_getElem? hbj)
      have := (hrow k er).1
      omega
theorem listT_le (a : List Bool) : (listT a).length ≤ 9 := listT_len a
end Go.Proofs.YtcdedekgdiooiaaGreat
