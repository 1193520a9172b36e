/-
  The model's functions that give a diagram of a table.
-/
import Derived.Test.YthdofdglbdfkkaaRows
import Derived.Test.YthdofdglbdfkkaaG0
import Derived.Test.YthdofdglbdfkkaaPaA
import Derived.Test.YthdofdglbdfkkaaBdT
import Derived.Test.YthdofdglbdfkkaaBdE
import Derived.Test.YthdofdglbdfkkaaFoN
import Derived.Test.YthdofdglbdfkkaaFoZ
import Derived.WalkKit
import Derived.ProofKit
import Derived.OpenShut
import Derived.WalkSpells
import Derived.WalkLawsBesides
import Derived.Outline
import Derived.BigQuiet
import Derived.Handy
import Derived.LoopTactic
import Derived.Deep.Light
import Derived.Deep.RegionWith
import Derived.Deep.RegionHeld3
import Derived.Deep.DeepCutAuto
import Derived.Lib.Hide
import Derived.Maps.OwnRows
import Derived.Deep.Onto
import Derived.OneCell
import Derived.StillTailTactics
import Derived.Deep.AppendLies
import Derived.Deep.RegionLaw
namespace Go.Proofs.Ythdofdglbdfkkaa
open Go.ChangeShapes Go.WideShapes Go.ChangeAt Go.RowKit Go.Maps Go.ChangeMaps
set_option linter.unusedVariables false
set_option maxRecDepth 100000

theorem boolInfo : (Try.prog.info? 4).map (fun i => (i.zero, i.size, i.bytes)) = some (some (.bool false), 1, 1) := by kernel_rfl
/-- The table of a set. -/
def TBf (tl : Nat) (f : Int → Bool) : List Bool := (List.range tl).map (fun i : Nat => f (i : Int))
theorem TBf_len (tl : Nat) (f : Int → Bool) : (TBf tl f).length = tl := by unfold TBf; simp
theorem TBf_get {tl : Nat} {f : Int → Bool} {j : Nat} (h : j < (TBf tl f).length) : (TBf tl f)[j] = f j := by
  have h1 : (TBf tl f)[j]? = some (f j) := by
    have hl : j < tl := by rw [TBf_len] at h; exact h
    unfold TBf
    rw [List.getElem?_map, List.getElem?_range hl]; rfl
  rw [List.getElem?_eq_getElem h] at h1
  exact Option.some.inj h1
theorem tabF_TBf {tl : Nat} {f : Int → Bool} {c : Int} (h0 : 0 ≤ c) (h1 : c < tl) : tabF (TBf tl f) c = f c := by
  unfold tabF
  have hl : c.toNat < (TBf tl f).length := by rw [TBf_len]; omega
  rw [List.getD_eq_getElem?_getD, List.getElem?_eq_getElem hl, TBf_get]
  show f (c.toNat : Int) = f c
  rw [Int.toNat_of_nonneg h0]
theorem copied_below {α : Type} {cells : α → List Value} {c : Nat} {ns : List α} {len : Nat} {w : World} {i : Value} {wr w' : World} (h : CopiedR cells c ns len w i wr) (hb : Below wr.heap.size wr w') : CopiedR cells c ns len w i w' := by
  obtain ⟨j, h1, h2, h3, h4, h5, h6⟩ := h
  exact ⟨j, h1, h2, Nat.lt_of_lt_of_le h3 hb.size, there_below h4 hb h3, fun t ht htj q hq => (hb.cell (p := ⟨w.heap.size, t * c + q, none⟩) h3).trans (h5 t ht htj q hq), h6.trans (hb.mono h6.size)⟩
theorem copied_bel {α : Type} {cells : α → List Value} {c : Nat} {ns : List α} {len : Nat} {w : World} {i : Value} {wr : World} (h : CopiedR cells c ns len w i wr) : Below w.heap.size w wr := by
  obtain ⟨j, h1, h2, h3, h4, h5, h6⟩ := h
  exact h6
theorem tab_at {α : Type} {cells : α → List Value} {ns : List α} {tl : Nat} {w : World} {i : Value} {wr : World} (h : CopiedR cells 1 ns tl w i wr) {j : Nat} (hj : j < tl) : (∃ v, wr.cell? ⟨w.heap.size, j, none⟩ = some v) ∧ wr.frozen? ⟨w.heap.size, j, none⟩ = false := by
  obtain ⟨j', h1, h2, h3, h4, h5, h6⟩ := h
  exact there1 h4 hj
theorem tab_next {tl : Nat} {f : Int → Bool} {w wr : World} {j : Nat} (h : CopiedR boolCells 1 (TBf tl f) tl w (.int .i64 (j : Int)) wr) (hj : j < tl) {b : Bool} (hb : b = f j) : CopiedR boolCells 1 (TBf tl f) tl w (.int .i64 ((j + 1 : Nat) : Int)) (wr.setCell ⟨w.heap.size, j, none⟩ (.bool b)) := by
  obtain ⟨j', h1, h2, h3, h4, h5, h6⟩ := h
  have e : j' = j := by simp at h2; omega
  subst e
  have hjn : j' < (TBf tl f).length := by rw [TBf_len]; exact hj
  have := copiedR_next (cells := boolCells) (c := 1) (fun _ => rfl) hj hjn h3 h4 h5 h6 (show b = (TBf tl f)[j'] by rw [TBf_get, hb])
  simpa [boolCells, World.setCells] using this
theorem tab_bools {tl : Nat} {f : Int → Bool} {w wr : World} {j : Nat} (h : CopiedR boolCells 1 (TBf tl f) tl w (.int .i64 (j : Int)) wr) (hj : ¬ j < tl) (hm : tl ≤ 8192) : BoolsAt wr.heap.size wr (some ⟨w.heap.size, 0, none⟩) tl tl (TBf tl f) := by
  obtain ⟨j', h1, h2, h3, h4, h5, h6⟩ := h
  have e : j' = j := by simp at h2; omega
  subst e
  exact ⟨TBf_len _ _, Nat.le_refl _, by unfold maxLen; omega, fun _ _ => trivial, fun e => by simp at e, .inr ⟨w.heap.size, 0, rfl, h3, fun i hi q hq => by rw [Nat.zero_add]; exact h5 i hi (by rw [TBf_len] at hi; omega) q hq⟩⟩
/-- A table is made. -/
theorem tab_made {w w0 : World} {tl : Nat} {ns : List Bool} (hown : w0.ownsRow w.heap.size 4 1 (.slice (some ⟨w.heap.size, 0, none⟩) tl tl) tl (madeCells (Value.bool false).cells (tl * 1)).toList) (hgrow : w.grownBy w0 none) : CopiedR boolCells 1 ns tl w (.int .i64 ((0 : Nat) : Int)) w0 := by
  have hlt0 : w.heap.size < w0.heap.size := by
    rcases hown.2 with ⟨h', _⟩ | ⟨g', cap', cur, h', _, hg, _⟩
    · simp at h'
    · simp only [Value.slice.injEq, Option.some.injEq, Addr.mk.injEq, and_true, true_and] at h'
      obtain ⟨rfl, rfl⟩ := h'
      rcases Nat.lt_or_ge w.heap.size w0.heap.size with h | h
      · exact h
      · rw [Array.getElem?_eq_none h] at hg; cases hg
  exact ⟨0, Nat.zero_le _, rfl, hlt0, fun j hj => ⟨by
      rw [Nat.zero_add, hown.cellAt j (by omega)]
      have hl := hown.1
      rw [List.getElem?_eq_getElem (by omega)]; rfl, by rw [Nat.zero_add]; exact hown.frozenAt j⟩, fun t _ h => by omega, (Below.refl w.heap.size w).grown hgrow (Nat.le_refl _) (by simp)⟩
theorem cell_set {w : World} {g o g' o' : Nat} {u v : Value} (h : w.cell? ⟨g, o, none⟩ = some u) (hne : g ≠ g') : (w.setCell ⟨g', o', none⟩ v).cell? ⟨g, o, none⟩ = some u :=
  (World.cell?_setCell_other w _ _ _ (fun e => hne (by first | exact (Addr.mk.inj e).1 | exact ((Addr.mk.inj e).1).symm))).trans h

end Go.Proofs.Ythdofdglbdfkkaa
