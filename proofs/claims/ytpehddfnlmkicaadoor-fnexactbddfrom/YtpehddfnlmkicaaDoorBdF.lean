/-
  BddEval: both sides.
-/
import Derived.Test.YtpehddfnlmkicaaDoorRows
import Derived.Test.YtpehddfnlmkicaaDoorG0
import Derived.Test.YtpehddfnlmkicaaDoorBdM
import Derived.Test.YtpehddfnlmkicaaDoorBdI
import Derived.Test.YtpehddfnlmkicaaDoorBdL
import Derived.Test.YtpehddfnlmkicaaDoorBdS
import Derived.Test.YtpehddfnlmkicaaDoorBdT
import Derived.Test.YtpehddfnlmkicaaDoorBdE
import Derived.WalkKit
import Derived.ProofKit
import Derived.OpenShut
import Derived.WalkSpells
import Derived.WalkLawsBesides
import Derived.Outline
import Derived.BigQuiet
import Derived.Handy
import Derived.LoopTactic
import Derived.Deep.Light
import Derived.Deep.RegionWith
import Derived.Deep.RegionHeld3
import Derived.Deep.DeepCutAuto
import Derived.Lib.Hide
import Derived.Maps.OwnRows
import Derived.Deep.Onto
import Derived.OneCell
import Derived.StillTailTactics
import Derived.Deep.AppendLies
import Derived.Deep.RegionLaw
namespace Go.Proofs.YtpehddfnlmkicaaDoor
open Go.ChangeShapes Go.WideShapes Go.ChangeAt Go.RowKit Go.Maps Go.ChangeMaps
set_option linter.unusedVariables false
set_option maxRecDepth 100000


def EvlP (vars root c : Int) (ns : List BN) : Prop := OkB vars ns root ∧ (0 ≤ c ∧ c < 2 ^ vars.toNat) ∧ HasP ns root c
theorem c_bddCodeOk (vars c : Int) (h0 : 0 ≤ vars) (h1 : vars ≤ 13) (w : World) : Calls Tryd.prog 68 #[.int .i64 vars, .int .i64 c] w fun e w' => e = .returned (.bool (decide (0 ≤ c ∧ c < 2 ^ vars.toNat))) ∧ w' = w := by
  have hw := wrap_p2 (n := vars) (by omega)
  by_cases h : 0 ≤ c
  · go_enter Tryd.func68, Tryd.ntmps68
    go_wp2
    go_ret
    exact ⟨ret_bool (by simp [h]), rfl⟩
  · go_enter Tryd.func68, Tryd.ntmps68
    go_wp2
    go_ret
    exact ⟨ret_bool (by simp; omega), rfl⟩

end Go.Proofs.YtpehddfnlmkicaaDoor
