import Derived.Test.YtakkooidejdfkaaGreatSee
namespace Go.Proofs.YtakkooidejdfkaaGreat
open Go.RowKit
set_option linter.unusedVariables false
set_option linter.unusedSimpArgs false

theorem fcell' {a b : World} {p : Addr} {v : Value} (h : Fresh a b) (hc : a.cell? p = some v) : b.cell? p = some v := by
  have hp : p.block < a.heap.size := by
    unfold World.cell? at hc
    split at hc
    · rename_i hq; exact heap_lt hq
    · cases hc
  have hb := h.block p.block hp (fun x => x)
  unfold World.cell? at hc ⊢
  rw [hb]; exact hc
/-- v is a slice of these numbers. -/
def IntAt (w : World) (v : Value) (l : List Int) : Prop :=
  ∃ ao cap, v = .slice ao l.length cap ∧ l.length ≤ cap ∧ ∀ j (h : j < l.length), ∃ g o, ao = some ⟨g, o, none⟩ ∧ w.cell? ⟨g, o + j, none⟩ = some (.int .i64 l[j])
theorem IntAt.fresh {w w' : World} {v : Value} {l : List Int} (h : IntAt w v l) (hf : Fresh w w') : IntAt w' v l := by
  obtain ⟨ao, cap, h1, h2, h3⟩ := h
  refine ⟨ao, cap, h1, h2, fun j hj => ?_⟩
  obtain ⟨g, o, h4, h5⟩ := h3 j hj
  exact ⟨g, o, h4, fcell' hf h5⟩
theorem IntOwn.at' {w : World} {base : Nat} {v : Value} {l : List Int} (h : IntOwn w base v l) : IntAt w v l := by
  rcases h.2 with ⟨rfl, h0⟩ | ⟨g, cap, cur, rfl, _, _, hc, _⟩
  · exact ⟨none, 0, by rw [h0], by omega, fun j hj => by omega⟩
  · refine ⟨_, _, rfl, hc, fun j hj => ⟨g, 0, rfl, ?_⟩⟩
    have := h.cells (g := g) rfl j (.int .i64 l[j]) (by simp [hj])
    rwa [Addr.add_mid] at this
theorem IntAt.drop {w : World} {gs os cap : Nat} {l : List Int} (h : IntAt w (.slice (some ⟨gs, os, none⟩) l.length cap) l) (k : Nat) (hk : k ≤ l.length) :
    IntAt w (.slice (some ⟨gs, os + k, none⟩) (l.length - k) (cap - k)) (l.drop k) := by
  obtain ⟨ao, c, h1, h2, h4⟩ := h
  rw [Value.slice.injEq] at h1
  obtain ⟨rfl, _, rfl⟩ := h1
  refine ⟨some ⟨gs, os + k, none⟩, cap - k, by simp, by simp; omega, fun i hi => ?_⟩
  simp only [List.length_drop] at hi
  obtain ⟨g, o, e1, e3⟩ := h4 (k + i) (by omega)
  simp only [Option.some.injEq, Addr.mk.injEq] at e1
  obtain ⟨rfl, rfl, _⟩ := e1
  refine ⟨gs, os + k, rfl, ?_⟩
  rw [Nat.add_assoc]; simpa using e3
theorem IntAt.none {w : World} {ao : Option Addr} {l : List Int} (hl : l = []) {n c : Nat} (hn : n = 0) : IntAt w (.slice ao n c) l := by
  subst hl; subst hn
  exact ⟨ao, c, rfl, by simp, fun i hi => by simp at hi⟩

set_option maxRecDepth 20000 in
set_option maxHeartbeats 2000000 in
theorem khas_any (w : World) (v : Value) (l : List Int) (n : Int) (h : IntAt w v l) (hl : l.length ≤ 1000) :
    Calls Tryz.prog 10 #[v, .int .i64 n] w fun e w' => e = .returned (.bool (l.any (· == n))) ∧ w' = w := by
  obtain ⟨ao, cap, rfl, hc, hcell⟩ := h
  have HC := hid hcell
  generalize hR : l.any (· == n) = RES
  have HR := hid hR
  clear hcell hR
  go_enter Tryz.func10, Tryz.ntmps10
  go_wp2
  go_loopw [5] (fun x5 wr => ∃ (i : Nat), x5 = .int .i64 i ∧ i ≤ l.length ∧ (l.drop i).any (· == n) = RES ∧ wr = w)
      (fun x _ => 1001 - (intOf x).toNat)
  case atStart => exact ⟨0, rfl, by omega, HR.out, rfl⟩
  case round =>
    obtain ⟨i, rfl, hi, hres, hfr⟩ := hrel
    subst hfr
    have HME := hid (meas (B := 1001) i (by omega))
    by_cases hlt : i < l.length
    · have hi1 : (i : Int) < (l.length : Int) := by omega
      rw [List.drop_eq_getElem_cons hlt, List.any_cons] at hres
      obtain ⟨g, o, rfl, hcl⟩ := HC.out i hlt
      have c1 := hcl
      generalize l[i] = li at hres c1
      cases hq : (li == n)
      · rw [hq, Bool.false_or] at hres
        have HRES := hid hres
        clear hcl hres
        go_wp2
        go_roundw
        case rel => exact ⟨i + 1, by go_num, by omega, HRES.out, by first | rfl | trivial⟩
        case measure => exact HME.out
      · rw [hq, Bool.true_or] at hres
        have HRES := hid hres
        clear hcl hres
        go_wp2
        go_ret
        exact ⟨ret_bool HRES.out, rfl⟩
    · have hie : i = l.length := by omega
      have hi2 : ¬ (i : Int) < (l.length : Int) := by omega
      rw [hie, List.drop_length] at hres
      have HRES := hid hres
      clear hres
      go_wp2
      go_ret
      exact ⟨ret_bool (by rw [← HRES.out]; rfl), rfl⟩

/-- rising, from 0 on, below n -/
def Rises (l : List Int) (n : Int) : Prop := ∀ i (h : i < l.length), 0 ≤ l[i] ∧ l[i] < n ∧ ∀ (h0 : 0 < i), l[i - 1] < l[i]

end Go.Proofs.YtakkooidejdfkaaGreat
namespace Go.Proofs.YtakkooidejdfkaaGreat
open Go.RowKit
set_option linter.unusedVariables false
set_option linter.unusedSimpArgs false

/-- v is a slice of these truths, all in one block from its beginning on. -/
def BoolAt (w : World) (v : Value) (l : List Bool) : Prop :=
  ∃ g cap, v = .slice (some ⟨g, 0, none⟩) l.length cap ∧ ∀ j (h : j < l.length), w.cell? ⟨g, j, none⟩ = some (.bool l[j])
theorem BoolAt.fresh {w w' : World} {v : Value} {l : List Bool} (h : BoolAt w v l) (hf : Fresh w w') : BoolAt w' v l := by
  obtain ⟨g, cap, h1, h3⟩ := h
  exact ⟨g, cap, h1, fun j hj => fcell' hf (h3 j hj)⟩

/-- Where the lines and the sets lie. -/
structure KP where
  b : Nat
  a0 : Option Addr
  c0 : Nat
  a2 : Option Addr
  c2 : Nat
  g3 : Nat
  c3 : Nat
  g5 : Nat
  c5 : Nat
  gl : Nat
  cl : Nat
  sv : Nat → Value
abbrev KP.vl (K : KP) (nH : Nat) : Value := .slice (some ⟨K.gl, 0, none⟩) nH K.cl
structure KV (K : KP) (w : World) (nR : Nat) (head : List Int) (syms : List (List Int)) (svs : List SV) : Prop where
  k0 : w.cell? ⟨K.b, 0, none⟩ = some (.slice K.a0 nR K.c0)
  k2 : w.cell? ⟨K.b, 2, none⟩ = some (.slice K.a2 svs.length K.c2)
  k3 : w.cell? ⟨K.b, 3, none⟩ = some (.slice (some ⟨K.g3, 0, none⟩) syms.length K.c3)
  k5 : w.cell? ⟨K.b, 5, none⟩ = some (.slice (some ⟨K.g5, 0, none⟩) syms.length K.c5)
  hl : head.length = syms.length
  hd : ∀ p (h : p < head.length), w.cell? ⟨K.g3, p, none⟩ = some (.int .i64 head[p])
  sy : ∀ p (h : p < syms.length), w.cell? ⟨K.g5, p, none⟩ = some (K.sv p) ∧ IntAt w (K.sv p) syms[p]
  st : ∀ h (hh : h < svs.length) j (hj : j < 5), w.cell? ⟨K.gl, h * 5 + j, none⟩ = (svs[h].cells)[j]?
  ls : ∀ s ∈ svs, IntAt w s.v1 (listT s.hd.fi) ∧ IntAt w s.v2 (listT s.hd.fo)
theorem KV.fresh {K : KP} {w w' : World} {nR : Nat} {head : List Int} {syms : List (List Int)} {svs : List SV} (h : KV K w nR head syms svs) (hf : Fresh w w') : KV K w' nR head syms svs where
  k0 := fcell' hf h.k0
  k2 := fcell' hf h.k2
  k3 := fcell' hf h.k3
  k5 := fcell' hf h.k5
  hl := h.hl
  hd := fun p hp => fcell' hf (h.hd p hp)
  sy := fun p hp => ⟨fcell' hf (h.sy p hp).1, (h.sy p hp).2.fresh hf⟩
  st := fun k hk j hj => by
    have := h.st k hk j hj
    have e : (svs[k].cells)[j]? = some ((svs[k].cells)[j]'(by simp [SV.cells]; omega)) := List.getElem?_eq_getElem _
    rw [e] at this ⊢
    exact fcell' hf this
  ls := fun s hs => ⟨(h.ls s hs).1.fresh hf, (h.ls s hs).2.fresh hf⟩
theorem KV.st5 {K : KP} {w : World} {nR : Nat} {head : List Int} {syms : List (List Int)} {svs : List SV} (h : KV K w nR head syms svs) (k : Nat) (hk : k < svs.length) :
    w.cell? ⟨K.gl, k * 5, none⟩ = some (.bool svs[k].hd.nul) ∧ w.cell? ⟨K.gl, k * 5 + 1, none⟩ = some svs[k].v1 ∧ w.cell? ⟨K.gl, k * 5 + 2, none⟩ = some svs[k].v2 ∧ w.cell? ⟨K.gl, k * 5 + 3, none⟩ = some (.bool svs[k].hd.rch) ∧ w.cell? ⟨K.gl, k * 5 + 4, none⟩ = some (.bool svs[k].hd.fru) :=
  ⟨h.st k hk 0 (by omega), h.st k hk 1 (by omega), h.st k hk 2 (by omega), h.st k hk 3 (by omega), h.st k hk 4 (by omega)⟩
theorem listT_len (a : List Bool) : (listT a).length ≤ 9 := listL_len a 9

end Go.Proofs.YtakkooidejdfkaaGreat
