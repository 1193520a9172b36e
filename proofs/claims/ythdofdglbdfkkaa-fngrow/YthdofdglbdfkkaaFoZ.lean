/-
  The closures that make sets in a forest.
-/
import Derived.Test.YthdofdglbdfkkaaRows
import Derived.Test.YthdofdglbdfkkaaPaA
import Derived.Test.YthdofdglbdfkkaaFoV
import Derived.WalkKit
import Derived.ProofKit
import Derived.OpenShut
import Derived.WalkSpells
import Derived.WalkLawsBesides
import Derived.Outline
import Derived.BigQuiet
import Derived.Handy
import Derived.LoopTactic
import Derived.Deep.Light
import Derived.Deep.RegionWith
import Derived.Deep.RegionHeld3
import Derived.Deep.DeepCutAuto
import Derived.Lib.Hide
import Derived.Maps.OwnRows
import Derived.Deep.Onto
import Derived.OneCell
import Derived.StillTailTactics
import Derived.Deep.AppendLies
import Derived.Deep.RegionLaw
namespace Go.Proofs.Ythdofdglbdfkkaa
open Go.ChangeShapes Go.WideShapes Go.ChangeAt Go.RowKit Go.Maps Go.ChangeMaps
set_option linter.unusedVariables false
set_option maxRecDepth 100000

theorem kc {B : Nat} {w w' : World} {g o : Nat} {v : Value} (hb : Below B w w') (hg : g < B) (h : w.cell? ⟨g, o, none⟩ = some v) : w'.cell? ⟨g, o, none⟩ = some v := (hb.cell (p := ⟨g, o, none⟩) hg).trans h
theorem FStep.fbs {B fb mb pb : Nat} {v v1 : Value} {w w1 : World} (hs : FStep fb mb pb v w v1 w1) (hB : ∀ g, FB fb mb pb v g → B ≤ g) (hBw : B ≤ w.heap.size) : ∀ g, FB fb mb pb v1 g → B ≤ g := fun g hg => by
  rcases hg with h | h | h | h
  · exact hB g (.inl h)
  · exact hB g (.inr (.inl h))
  · exact hB g (.inr (.inr (.inl h)))
  · rcases hs.own g h with h1 | h1
    · exact hB g (.inr (.inr (.inr h1)))
    · omega
theorem fixc_none (b : Bool) (c : Int) : fixc (-1) b c = c := if_pos (by decide)
/-- A diagram in a captured variable's block. -/
structure CapB (B c : Nat) (vars : Int) (a : Option Addr) (len cap : Nat) (root : Int) (w : World) : Prop where
  lt : c < B
  c0 : w.cell? ⟨c, 0, none⟩ = some (.int .i64 vars)
  c1 : w.cell? ⟨c, 1, none⟩ = some (.slice a len cap)
  c2 : w.cell? ⟨c, 2, none⟩ = some (.int .i64 root)

end Go.Proofs.Ythdofdglbdfkkaa
