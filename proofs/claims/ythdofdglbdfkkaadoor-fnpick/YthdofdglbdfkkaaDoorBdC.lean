/-
  Copies, sizes and equality of diagrams.
-/
import Derived.Test.YthdofdglbdfkkaaDoorRows
import Derived.Test.YthdofdglbdfkkaaDoorG0
import Derived.Test.YthdofdglbdfkkaaDoorBdM
import Derived.Test.YthdofdglbdfkkaaDoorBdI
import Derived.Laws.OwnMore
import Derived.Deep.Slices
import Derived.WalkKit
import Derived.ProofKit
import Derived.OpenShut
import Derived.WalkSpells
import Derived.WalkLawsBesides
import Derived.Outline
import Derived.BigQuiet
import Derived.Handy
import Derived.LoopTactic
import Derived.Deep.Light
import Derived.Deep.RegionWith
import Derived.Deep.RegionHeld3
import Derived.Deep.DeepCutAuto
import Derived.Lib.Hide
import Derived.Maps.OwnRows
import Derived.Deep.Onto
import Derived.OneCell
import Derived.StillTailTactics
import Derived.Deep.AppendLies
import Derived.Deep.RegionLaw
namespace Go.Proofs.YthdofdglbdfkkaaDoor
open Go.ChangeShapes Go.WideShapes Go.ChangeAt Go.RowKit Go.Maps Go.ChangeMaps
set_option linter.unusedVariables false
set_option maxRecDepth 100000


theorem bnInfo : (Tryd.prog.info? 67).map (fun i => (i.zero, i.size, i.bytes)) = some (some (.agg #[.int .i64 0, .int .i64 0, .int .i64 0]), 3, 24) := by kernel_rfl
theorem bn_store (x : BN) {w : World} {b len j : Nat} (h : w.there b 0 (len * 3)) (hj : j < len) : (storeCells ⟨b, j * 3, none⟩ x.cells).run Tryd.prog w = .ok () (w.setCells b (j * 3) x.cells) := by
  have := run_storeCells_cells (P := Tryd.prog) b (j * 3) x.cells 0 w (fun q hq => by have hq' : q < 3 := hq; have := (h (j * 3 + q) (by omega)).1; simpa using this) (fun q hq => by have hq' : q < 3 := hq; have := (h (j * 3 + q) (by omega)).2; simpa using this)
    (fun v hv => by simp [BN.cells] at hv; rcases hv with rfl | rfl | rfl <;> rfl)
  simpa using this
/-- A copy of a diagram. -/
def CopyB (vars root : Int) (ns : List BN) (len : Nat) (w : World) (e : Ending) (w' : World) : Prop := ∃ g, e = .returned (.agg #[.int .i64 vars, .slice (some ⟨g, 0, none⟩) len len, .int .i64 root]) ∧ BnsAt w'.heap.size w' (some ⟨g, 0, none⟩) len len ns ∧ Room w' g (len * 3) ∧ w.heap.size ≤ g ∧ Below w.heap.size w w'
def SzB (len : Nat) (w : World) (e : Ending) (w' : World) : Prop := ∃ r, e = .returned (.int .i64 r) ∧ (0 ≤ r → (len : Int) ≤ 1048576) ∧ Below w.heap.size w w'
theorem below_undrawnB {B : Nat} {w w' : World} (hs : B ≤ w.heap.size) (h : Below w.drew.heap.size w.drew w') : Below B w w' := Below.mono ⟨h.os, h.tape, h.output, h.size, h.block⟩ hs
section
variable {H : Type} {enc : TypeId × Value → H} {w : World}
end
end Go.Proofs.YthdofdglbdfkkaaDoor
