import Derived.Test.YteneagnhihcljaaGreatDoorSec
import Derived.Test.YteneagnhihcljaaGreatDoorPd5
namespace Go.Proofs.YteneagnhihcljaaGreatDoor
open Go.RowKit
set_option linter.unusedVariables false
set_option linter.unusedSimpArgs false

def headI (R : Int) (i : Nat) : Hd := if i = 0 then { zeroHd with rch := true, fo := withT zero9 R } else zeroHd
def initH (R : Int) : Nat → List Hd
  | 0 => []
  | n + 1 => initH R n ++ [headI R n]
theorem headI_ok (R : Int) (i : Nat) : (headI R i).ok := by
  unfold headI; split
  · exact ⟨rfl, withT_len rfl⟩
  · exact zeroHd_ok
theorem initH_len (R : Int) : ∀ n, (initH R n).length = n
  | 0 => rfl
  | n + 1 => by simp [initH, initH_len R n]

theorem PrsAt.up {w : World} {B B' : Nat} {v : Value} {ps : List PV} (h : PrsAt w B v ps) (hB : B ≤ B') : PrsAt w B' v ps := by
  refine ⟨h.row, fun g hg => Nat.lt_of_lt_of_le (h.lt g hg) hB, fun p hp => ?_⟩
  obtain ⟨ao, cap, h1, h2, h3, h4⟩ := h.syms p hp
  refine ⟨ao, cap, h1, h2, h3, fun i hi => ?_⟩
  obtain ⟨g, o, h5, h6, h7⟩ := h4 i hi
  exact ⟨g, o, h5, Nat.lt_of_lt_of_le h6 hB, h7⟩
theorem FA.add {w W w3 : World} {b : Nat} {R H : Int} {vp vh v' : Value} {ps : List PV} {hs : List Hd} {x : Hd} (h : FA w b R H vp vh ps hs) (hx : x.ok) (hf : Fresh w W)
    (hown : w3.ownsRow (b + 1) 139 21 v' (hs.length + 1) (flatC Hd.cells hs ++ x.cells)) (hg : W.grownBy w3 vh.ownBlock) :
    FA (w3.setCell ⟨b, 3, none⟩ v') b R H vp v' ps (hs ++ [x]) ∧ Mod (fun k => b ≤ k) w (w3.setCell ⟨b, 3, none⟩ v') := by
  have hW := h.fresh hf
  have hge : ∀ k, vh.ownBlock = some k → b + 1 ≤ k := fun k hk => (h.own.lt k hk).1
  have hm3 : Mod (fun k => b ≤ k) W w3 := Mod.grown (Mod.refl _ W) hg (fun k hk _ => by have := hge k hk; omega)
  have hm : Mod (fun k => b ≤ k) W (w3.setCell ⟨b, 3, none⟩ v') := hm3.setCell (fun _ => Nat.le_refl _) _
  refine ⟨⟨?_, ?_, ?_, ?_⟩, Mod.trans (Mod.mono hf (fun _ _ x => x.elim)) hm⟩
  · have hb3 : w3.heap[b]? = some (.cells #[.int .i64 R, .int .i64 H, vp, vh] 118 (0, 0)) := by
      rw [hg.block b (heap_lt hW.blk) (fun e => by have := hge _ e.symm; omega)]; exact hW.blk
    rw [heap_setCell_same hb3]; rfl
  · exact hW.prs.kept (Nat.le_of_lt (heap_lt hW.blk)) hm (fun k hk hs => by omega)
  · rw [flat_snoc, List.length_append, List.length_singleton]
    exact ownsRow_other hown (fun g hg => heap_setCell_other _ (by have := (hown.lt g hg).1; dsimp only; omega))
  · intro y hy
    simp only [List.mem_append, List.mem_singleton] at hy
    rcases hy with hy | rfl
    · exact h.ok y hy
    · exact hx

theorem infoHd : (Tryz.prog.info? 139).map (fun i => (i.zero, i.size, i.bytes)) = some (some (.agg (hdA zeroHd)), 21, 21) := by kernel_rfl
theorem infoHd' : ∃ i, Tryz.prog.info? 139 = some i ∧ i.zero = some (.agg (hdA zeroHd)) ∧ i.size = 21 ∧ i.bytes = 21 := by
  have h := infoHd
  cases hq : Tryz.prog.info? 139 with
  | none => simp [hq] at h
  | some i => simp [hq] at h; exact ⟨i, rfl, h.1, h.2.1, h.2.2⟩
attribute [local go_sem ↓] apS_rule ldH_rule
end Go.Proofs.YteneagnhihcljaaGreatDoor
namespace Go.Proofs.YteneagnhihcljaaGreatDoor
open Go.RowKit
set_option linter.unusedVariables false
set_option linter.unusedSimpArgs false

abbrev IntOwn (w : World) (base : Nat) (v : Value) (l : List Int) : Prop := w.ownsRow base 3 1 v l.length (nums l)
end Go.Proofs.YteneagnhihcljaaGreatDoor
namespace Go.Proofs.YteneagnhihcljaaGreatDoor
open Go.RowKit
set_option linter.unusedVariables false
set_option linter.unusedSimpArgs false

def setsF (s : ByteArray) : List Hd := allF (tableOf (rLines s).1) (initH ((frontsOf (rLines s).1).length : Nat) (headsOf (rLines s).1).length)
theorem headsL_le : ∀ (l : List Ln) (acc : List Wd), (headsL l acc).length ≤ acc.length + l.length
  | [], acc => by simp [headsL]
  | x :: l, acc => by
    unfold headsL
    have h1 := headsL_le l acc
    have h2 := headsL_le l (acc ++ [x.front])
    simp only [List.length_append, List.length_cons, List.length_nil] at h1 h2 ⊢
    split
    · omega
    · split <;> omega
theorem tab_sizes {s : ByteArray} (h : (checkF s).1 = 0) : (frontsOf (rLines s).1).length ≤ 800 ∧ (headsOf (rLines s).1).length ≤ 800 ∧ (tableOf (rLines s).1).length ≤ 800 := by
  have hsz := check_sz h
  have hle := (rLines_ok s).1
  have h1 := headsL_le (rLines s).1 []
  have h2 := List.length_filter_le ruleB (rLines s).1
  have h3 := List.length_filter_le (fun x => !ruleB x) (rLines s).1
  unfold frontsOf headsOf tableOf prodsOf
  simp only [List.length_map, List.length_nil] at *
  omega

end Go.Proofs.YteneagnhihcljaaGreatDoor
namespace Go.Proofs.YteneagnhihcljaaGreatDoor
open Go.RowKit
set_option linter.unusedVariables false
set_option linter.unusedSimpArgs false

/-- what stands ahead of each production -/
def aheadsF (hs : List Hd) (ps : List Pr) : List (List Bool) := ps.map fun p => folB hs p.head p.syms
abbrev TksOwn (w : World) (base : Nat) (v : Value) (al : List (List Bool)) : Prop := w.ownsRow base 110 9 v al.length (flatC bls al)
theorem infoTk : (Tryz.prog.info? 110).map (fun i => (i.zero, i.size, i.bytes)) = some (some (.agg (tkA zero9)), 9, 9) := by kernel_rfl
theorem infoTk' : ∃ i, Tryz.prog.info? 110 = some i ∧ i.zero = some (.agg (tkA zero9)) ∧ i.size = 9 ∧ i.bytes = 9 := by
  have h := infoTk
  cases hq : Tryz.prog.info? 110 with
  | none => simp [hq] at h
  | some i => simp [hq] at h; exact ⟨i, rfl, h.1, h.2.1, h.2.2⟩
abbrev nineA (a0 a1 a2 a3 a4 a5 a6 a7 a8 : Bool) : Array Value := #[.bool a0, .bool a1, .bool a2, .bool a3, .bool a4, .bool a5, .bool a6, .bool a7, .bool a8]
theorem bls_one (l : List Bool) : ∀ u ∈ bls l, u.oneCell' = true := by
  intro u hu; simp [bls] at hu
  rcases hu with ⟨_, rfl⟩ | ⟨_, rfl⟩ <;> rfl

end Go.Proofs.YteneagnhihcljaaGreatDoor
