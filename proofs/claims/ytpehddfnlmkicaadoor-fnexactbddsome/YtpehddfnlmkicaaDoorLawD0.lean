/-
  A laid variable stays.
-/
import Derived.Test.YtpehddfnlmkicaaDoorRows
import Derived.Test.YtpehddfnlmkicaaDoorPaA
import Derived.Test.YtpehddfnlmkicaaDoorG0
import Derived.Test.YtpehddfnlmkicaaDoorBdM
import Derived.Test.YtpehddfnlmkicaaDoorBdI
import Derived.Test.YtpehddfnlmkicaaDoorBdL
import Derived.Test.YtpehddfnlmkicaaDoorBdT
import Derived.Test.YtpehddfnlmkicaaDoorBdC
import Derived.Test.YtpehddfnlmkicaaDoorBdN
import Derived.Test.YtpehddfnlmkicaaDoorBdX
import Derived.Test.YtpehddfnlmkicaaDoorBdY
import Derived.Test.YtpehddfnlmkicaaDoorFoE
import Derived.WalkKit
import Derived.ProofKit
import Derived.OpenShut
import Derived.WalkSpells
import Derived.WalkLawsBesides
import Derived.Outline
import Derived.BigQuiet
import Derived.Handy
import Derived.LoopTactic
import Derived.Deep.Light
import Derived.Deep.RegionWith
import Derived.Deep.RegionHeld3
import Derived.Deep.DeepCutAuto
import Derived.Lib.Hide
import Derived.Maps.OwnRows
import Derived.Deep.Onto
import Derived.OneCell
import Derived.StillTailTactics
import Derived.Deep.AppendLies
import Derived.Deep.RegionLaw
namespace Go.Proofs.YtpehddfnlmkicaaDoor
open Go.ChangeShapes Go.WideShapes Go.ChangeAt Go.RowKit Go.Maps Go.ChangeMaps
set_option linter.unusedVariables false
set_option maxRecDepth 100000

theorem Glob.touch {T : Nat → Prop} {w w' : World} (h : Glob w) (ht : Touch T w w') (h0 : ¬ T 0) : Glob w' := by
  obtain ⟨h1, u, x, hc⟩ := h
  refine ⟨Nat.lt_of_lt_of_le h1 ht.size, u, x, ?_⟩
  have hb := ht.block 0 h1 h0
  simp only [World.cell?] at hc ⊢
  rw [hb]
  exact hc
end Go.Proofs.YtpehddfnlmkicaaDoor
