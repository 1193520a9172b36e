/-
  Out of a forest: the nodes of one diagram are picked.
-/
import Derived.Test.YthdofdglbdfkkaaRows
import Derived.Test.YthdofdglbdfkkaaG0
import Derived.Test.YthdofdglbdfkkaaFoW
import Derived.Test.YthdofdglbdfkkaaFoP
import Derived.WalkKit
import Derived.ProofKit
import Derived.OpenShut
import Derived.WalkSpells
import Derived.WalkLawsBesides
import Derived.Outline
import Derived.BigQuiet
import Derived.Handy
import Derived.LoopTactic
import Derived.Deep.Light
import Derived.Deep.RegionWith
import Derived.Deep.RegionHeld3
import Derived.Deep.DeepCutAuto
import Derived.Lib.Hide
import Derived.Maps.OwnRows
import Derived.Deep.Onto
import Derived.OneCell
import Derived.StillTailTactics
import Derived.Deep.AppendLies
import Derived.Deep.RegionLaw
namespace Go.Proofs.Ythdofdglbdfkkaa
open Go.ChangeShapes Go.WideShapes Go.ChangeAt Go.RowKit Go.Maps Go.ChangeMaps
set_option linter.unusedVariables false
set_option maxRecDepth 100000

/-- What a picker's table tells. -/
def PkR (F ms : List BN) (q : Lit) (z : Int) : Prop := ∃ (p : Int) (t : DT), q = .int .i64 p ∧ TreeOf F p t ∧ TreeOf ms z t
theorem Adds.le {t : DT} {ns n' : List BN} {p : Int} (h : Adds t ns n' p) : ns.length ≤ n'.length := by
  obtain ⟨m, rfl⟩ := h.ext
  rw [List.length_append]; omega
end Go.Proofs.Ythdofdglbdfkkaa
