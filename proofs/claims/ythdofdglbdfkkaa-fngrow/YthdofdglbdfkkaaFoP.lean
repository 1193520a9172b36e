/-
  A node is put into a forest.
-/
import Derived.Test.YthdofdglbdfkkaaRows
import Derived.Test.YthdofdglbdfkkaaFoW
import Derived.WalkKit
import Derived.ProofKit
import Derived.OpenShut
import Derived.WalkSpells
import Derived.WalkLawsBesides
import Derived.Outline
import Derived.BigQuiet
import Derived.Handy
import Derived.LoopTactic
import Derived.Deep.Light
import Derived.Deep.RegionWith
import Derived.Deep.RegionHeld3
import Derived.Deep.DeepCutAuto
import Derived.Lib.Hide
import Derived.Maps.OwnRows
import Derived.Deep.Onto
import Derived.OneCell
import Derived.StillTailTactics
import Derived.Deep.AppendLies
import Derived.Deep.RegionLaw
namespace Go.Proofs.Ythdofdglbdfkkaa
open Go.ChangeShapes Go.WideShapes Go.ChangeAt Go.RowKit Go.Maps Go.ChangeMaps
set_option linter.unusedVariables false
set_option maxRecDepth 100000

theorem fits_small {x : Int} (h0 : 0 ≤ x) (h1 : x ≤ 1000000000) : fits x := by
  exact WalkArith.wf_i64 (by omega)

theorem forest_far {w w4 : World} {o : Obj} {v : Value} {k : Nat} (hg : (w.drew.alloc o).grownBy w4 v.ownBlock) (hk : k < w.heap.size) (hn : v.ownBlock ≠ some k) : w4.heap[k]? = w.heap[k]? :=
  (hg.block k (Nat.lt_trans hk (alloc_ltS w.drew o)) (fun e => hn e.symm)).trans (Below.heap_alloc w.drew _ _ hk)

end Go.Proofs.Ythdofdglbdfkkaa
