/-
  The laws of the code and of the bits of a model.
-/
import Derived.Test.YtdfcjfielkpkiaaGreatRows
import Derived.Test.YtdfcjfielkpkiaaGreatPaA
import Derived.Test.YtdfcjfielkpkiaaGreatNodeM
import Derived.Test.YtdfcjfielkpkiaaGreatNodeL
import Derived.Test.YtdfcjfielkpkiaaGreatPaG
import Derived.Test.YtdfcjfielkpkiaaGreatResP
import Derived.Test.YtdfcjfielkpkiaaGreatModD
import Derived.Test.YtdfcjfielkpkiaaGreatModA
import Derived.Test.YtdfcjfielkpkiaaGreatModB
import Derived.Test.YtdfcjfielkpkiaaGreatModC
import Derived.Test.YtdfcjfielkpkiaaGreatModE
import Derived.Test.YtdfcjfielkpkiaaGreatModF
import Derived.Test.YtdfcjfielkpkiaaGreatModG
import Derived.Test.YtdfcjfielkpkiaaGreatModH
import Derived.Test.YtdfcjfielkpkiaaGreatModI
import Derived.Test.YtdfcjfielkpkiaaGreatModJ
import Derived.Test.YtdfcjfielkpkiaaGreatModK
import Derived.Test.YtdfcjfielkpkiaaGreatPaF
import Derived.Test.YtdfcjfielkpkiaaGreatModQ
import Derived.WalkKit
import Derived.ProofKit
import Derived.OpenShut
import Derived.WalkSpells
import Derived.WalkLawsBesides
import Derived.Outline
import Derived.BigQuiet
import Derived.Handy
import Derived.LoopTactic
import Derived.Deep.Light
import Derived.Deep.RegionWith
import Derived.Deep.RegionHeld3
import Derived.Deep.DeepCutAuto
import Derived.Lib.Hide
namespace Go.Proofs.YtdfcjfielkpkiaaGreat
open Go.ChangeShapes Go.WideShapes Go.ChangeAt Go.RowKit
set_option linter.unusedVariables false
set_option maxRecDepth 100000


def BitsIs (M : MD) (a b : Int) : Prop := (CodeIs M 0 ∧ a = allBits 36 M.ns ∧ b = allBits 35 M.ns) ∨ (¬ CodeIs M 0 ∧ a = 0 ∧ b = 0)
theorem BitsIs.inj {M : MD} {a b c d : Int} (h : BitsIs M a b) (k : BitsIs M c d) : a = c ∧ b = d := by
  rcases h with ⟨h1, rfl, rfl⟩ | ⟨h1, rfl, rfl⟩ <;> rcases k with ⟨k1, rfl, rfl⟩ | ⟨k1, rfl, rfl⟩
  · exact ⟨rfl, rfl⟩
  · exact absurd h1 k1
  · exact absurd k1 h1
  · exact ⟨rfl, rfl⟩
theorem code0_len {M : MD} (h : CodeIs M 0) : M.ns.length ≤ 60 := by
  cases h
  rename_i h1 _ _ _ _ _
  exact Nat.le_of_not_lt (fun h => h1 (.inl h))

end Go.Proofs.YtdfcjfielkpkiaaGreat
