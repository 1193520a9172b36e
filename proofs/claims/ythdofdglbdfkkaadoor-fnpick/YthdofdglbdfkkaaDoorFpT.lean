/-
  A table of bools.
-/
import Derived.Test.YthdofdglbdfkkaaDoorRows
import Derived.Test.YthdofdglbdfkkaaDoorG0
import Derived.Test.YthdofdglbdfkkaaDoorPaA
import Derived.Test.YthdofdglbdfkkaaDoorFoN
import Derived.Test.YthdofdglbdfkkaaDoorFoO
import Derived.WalkKit
import Derived.ProofKit
import Derived.OpenShut
import Derived.WalkSpells
import Derived.WalkLawsBesides
import Derived.Outline
import Derived.BigQuiet
import Derived.Handy
import Derived.LoopTactic
import Derived.Deep.Light
import Derived.Deep.RegionWith
import Derived.Deep.RegionHeld3
import Derived.Deep.DeepCutAuto
import Derived.Lib.Hide
import Derived.Maps.OwnRows
import Derived.Deep.Onto
import Derived.OneCell
import Derived.StillTailTactics
import Derived.Deep.AppendLies
import Derived.Deep.RegionLaw
namespace Go.Proofs.YthdofdglbdfkkaaDoor
open Go.ChangeShapes Go.WideShapes Go.ChangeAt Go.RowKit Go.Maps Go.ChangeMaps
set_option linter.unusedVariables false
set_option maxRecDepth 100000

/-- A table of bools. -/
structure TabIs (g tl : Nat) (F : Int → Bool) (w : World) : Prop where
  lt : g < w.heap.size
  c : ∀ j : Nat, j < tl → w.cell? ⟨g, j, none⟩ = some (.bool (F j)) ∧ w.frozen? ⟨g, j, none⟩ = false
theorem TabIs.below {g tl : Nat} {F : Int → Bool} {w w' : World} (h : TabIs g tl F w) (hb : Below w.heap.size w w') : TabIs g tl F w' :=
  ⟨Nat.lt_of_lt_of_le h.lt hb.size, fun j hj => ⟨(hb.cell (p := ⟨g, j, none⟩) h.lt).trans (h.c j hj).1, (hb.frozen (p := ⟨g, j, none⟩) h.lt).trans (h.c j hj).2⟩⟩
theorem TabIs.put {g tl : Nat} {F F' : Int → Bool} {w : World} (h : TabIs g tl F w) {x : Nat} (hx : x < tl) (hF : ∀ j : Nat, j < tl → F' j = if (j : Int) = x then true else F j) : TabIs g tl F' (w.setCell ⟨g, x, none⟩ (.bool true)) := by
  refine ⟨by simpa [World.setCell] using h.lt, fun j hj => ⟨?_, ?_⟩⟩
  · by_cases e : j = x
    · subst e
      rw [World.cell?_setCell_same' _ _ _ (by rw [(h.c j hj).1]; rfl), hF j hj, if_pos rfl]
    · have e3 : (w.setCell ⟨g, x, none⟩ (.bool true)).cell? ⟨g, j, none⟩ = w.cell? ⟨g, j, none⟩ := World.cell?_setCell_other w _ _ _ (fun e2 => e (by have := (Addr.mk.inj e2).2.1; omega))
      rw [e3, (h.c j hj).1, hF j hj, if_neg (by omega)]
  · rw [World.frozen?_setCell]; exact (h.c j hj).2
theorem tab_false {w w0 : World} {tl : Nat} {F : Int → Bool} (hF : ∀ j : Nat, F j = false) (hown : w0.ownsRow w.heap.size 4 1 (.slice (some ⟨w.heap.size, 0, none⟩) tl tl) tl (madeCells (Value.bool false).cells (tl * 1)).toList) (hgrow : w.grownBy w0 none) : TabIs w.heap.size tl F w0 ∧ Below w.heap.size w w0 := by
  obtain ⟨j', h1, h2, h3, h4, h5, h6⟩ := tab_made (ns := []) hown hgrow
  refine ⟨⟨h3, fun j hj => ⟨?_, ?_⟩⟩, h6⟩
  · have e := hown.cellAt j (by omega)
    rw [e, hF]
    have e2 : (madeCells (Value.bool false).cells (tl * 1)).toList = List.replicate (tl * 1) (.bool false) := toList_madeCells_one (.bool false) (tl * 1)
    rw [e2, List.getElem?_replicate, if_pos (by omega)]
  · exact hown.frozenAt j
theorem TabIs.bools {g tl : Nat} {F : Int → Bool} {w : World} (h : TabIs g tl F w) (hm : tl ≤ 8192) : BoolsAt w.heap.size w (some ⟨g, 0, none⟩) tl tl (TBf tl F) :=
  ⟨TBf_len _ _, Nat.le_refl _, by unfold maxLen; omega, fun _ _ => trivial, fun e => by simp at e, .inr ⟨g, 0, rfl, h.lt, fun i hi q hq => by
    have hi' : i < tl := by rw [TBf_len] at hi; exact hi
    have hq0 : q = 0 := by omega
    subst hq0
    have := (h.c i hi').1
    simp only [Nat.zero_add, Nat.mul_one, Nat.add_zero]
    rw [this, TBf_get]
    rfl⟩⟩
end Go.Proofs.YthdofdglbdfkkaaDoor
