/-
  Of a forest: what a rule makes of two sets.
-/
import Derived.Test.YthdofdglbdfkkaaRows
import Derived.Test.YthdofdglbdfkkaaG0
import Derived.Test.YthdofdglbdfkkaaFoW
import Derived.Test.YthdofdglbdfkkaaFoP
import Derived.Test.YthdofdglbdfkkaaFoQ
import Derived.WalkKit
import Derived.ProofKit
import Derived.OpenShut
import Derived.WalkSpells
import Derived.WalkLawsBesides
import Derived.Outline
import Derived.BigQuiet
import Derived.Handy
import Derived.LoopTactic
import Derived.Deep.Light
import Derived.Deep.RegionWith
import Derived.Deep.RegionHeld3
import Derived.Deep.DeepCutAuto
import Derived.Lib.Hide
import Derived.Maps.OwnRows
import Derived.Deep.Onto
import Derived.OneCell
import Derived.StillTailTactics
import Derived.Deep.AppendLies
import Derived.Deep.RegionLaw
namespace Go.Proofs.Ythdofdglbdfkkaa
open Go.ChangeShapes Go.WideShapes Go.ChangeAt Go.RowKit Go.Maps Go.ChangeMaps
set_option linter.unusedVariables false
set_option maxRecDepth 100000

theorem firstV_app (F : List BN) : ∀ (l : List Int) (acc p : Int), firstV F acc (l ++ [p]) = if 2 ≤ p then min (firstV F acc l) (F.getD (p - 2).toNat default).v else firstV F acc l
  | [], acc, p => rfl
  | q :: l, acc, p => by
    show firstV F _ (l ++ [p]) = _
    rw [firstV_app F l]
    rfl
theorem ints_two (x y : Int) (hx : fits x) (hy : fits y) (w : World) (t : TypeId) : IntsAt (w.alloc (.cells #[.int .i64 x, .int .i64 y] t)).heap.size (w.alloc (.cells #[.int .i64 x, .int .i64 y] t)) (some ⟨w.heap.size, 0, none⟩) 2 2 [x, y] := by
  refine ⟨rfl, Nat.le_refl _, by unfold maxLen; decide, fun z hz => ?_, fun e => by simp at e, .inr ⟨w.heap.size, 0, rfl, alloc_ltS _ _, fun i hi q hq => ?_⟩⟩
  · simp at hz
    rcases hz with rfl | rfl
    · exact hx
    · exact hy
  · have hk := (MapKept.heap_alloc w (.cells #[.int .i64 x, .int .i64 y] t)).1
    have hi' : i < 2 := hi
    have hq' : q = 0 := by omega
    subst hq'
    have : i = 0 ∨ i = 1 := by omega
    rcases this with rfl | rfl
    · exact cell_of_block (i := 0) hk rfl
    · exact cell_of_block (i := 1) hk rfl

def SameW (a b : World) : Prop := a = b
theorem rule_fits {r : Int} (h : isRule r) : fits r := by rcases h with rfl | rfl | rfl <;> exact fits_small (by decide) (by decide)

end Go.Proofs.Ythdofdglbdfkkaa
