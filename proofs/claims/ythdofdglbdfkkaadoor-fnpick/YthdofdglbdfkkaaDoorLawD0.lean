/-
  A laid variable stays.
-/
import Derived.Test.YthdofdglbdfkkaaDoorRows
import Derived.Test.YthdofdglbdfkkaaDoorPaA
import Derived.Test.YthdofdglbdfkkaaDoorG0
import Derived.Test.YthdofdglbdfkkaaDoorBdM
import Derived.Test.YthdofdglbdfkkaaDoorBdI
import Derived.Test.YthdofdglbdfkkaaDoorBdL
import Derived.Test.YthdofdglbdfkkaaDoorBdT
import Derived.Test.YthdofdglbdfkkaaDoorBdC
import Derived.Test.YthdofdglbdfkkaaDoorBdN
import Derived.Test.YthdofdglbdfkkaaDoorBdX
import Derived.Test.YthdofdglbdfkkaaDoorBdY
import Derived.Test.YthdofdglbdfkkaaDoorFoE
import Derived.WalkKit
import Derived.ProofKit
import Derived.OpenShut
import Derived.WalkSpells
import Derived.WalkLawsBesides
import Derived.Outline
import Derived.BigQuiet
import Derived.Handy
import Derived.LoopTactic
import Derived.Deep.Light
import Derived.Deep.RegionWith
import Derived.Deep.RegionHeld3
import Derived.Deep.DeepCutAuto
import Derived.Lib.Hide
import Derived.Maps.OwnRows
import Derived.Deep.Onto
import Derived.OneCell
import Derived.StillTailTactics
import Derived.Deep.AppendLies
import Derived.Deep.RegionLaw
namespace Go.Proofs.YthdofdglbdfkkaaDoor
open Go.ChangeShapes Go.WideShapes Go.ChangeAt Go.RowKit Go.Maps Go.ChangeMaps
set_option linter.unusedVariables false
set_option maxRecDepth 100000

theorem Glob.touch {T : Nat → Prop} {w w' : World} (h : Glob w) (ht : Touch T w w') (h0 : ¬ T 0) : Glob w' := by
  obtain ⟨h1, u, x, hc⟩ := h
  refine ⟨Nat.lt_of_lt_of_le h1 ht.size, u, x, ?_⟩
  have hb := ht.block 0 h1 h0
  simp only [World.cell?] at hc ⊢
  rw [hb]
  exact hc
end Go.Proofs.YthdofdglbdfkkaaDoor
