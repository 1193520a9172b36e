/-
  Marks in diagrams.
-/
import Derived.Test.YthdofdglbdfkkaaDoorRows
import Derived.Test.YthdofdglbdfkkaaDoorPaA
import Derived.Test.YthdofdglbdfkkaaDoorG0
import Derived.Test.YthdofdglbdfkkaaDoorBdM
import Derived.Test.YthdofdglbdfkkaaDoorBdC
import Derived.WalkKit
import Derived.ProofKit
import Derived.OpenShut
import Derived.WalkSpells
import Derived.WalkLawsBesides
import Derived.Outline
import Derived.BigQuiet
import Derived.Handy
import Derived.LoopTactic
import Derived.Deep.Light
import Derived.Deep.RegionWith
import Derived.Deep.RegionHeld3
import Derived.Deep.DeepCutAuto
import Derived.Lib.Hide
import Derived.Maps.OwnRows
import Derived.Deep.Onto
import Derived.OneCell
import Derived.StillTailTactics
import Derived.Deep.AppendLies
import Derived.Deep.RegionLaw
namespace Go.Proofs.YthdofdglbdfkkaaDoor
open Go.ChangeShapes Go.WideShapes Go.ChangeAt Go.RowKit Go.Maps Go.ChangeMaps
set_option linter.unusedVariables false
set_option maxRecDepth 100000


theorem cells_put {wr : World} {g m : Nat} {k : Int} (hc : ∀ t : Nat, t < m → wr.cell? ⟨g, t, none⟩ = some (.int .i64 (k + t))) {v0 : Value} (d0 : wr.cell? ⟨g, m, none⟩ = some v0) {z : Int} (hz : z = k + m) :
    ∀ t : Nat, t < m + 1 → (wr.setCell ⟨g, m, none⟩ (.int .i64 z)).cell? ⟨g, t, none⟩ = some (.int .i64 (k + t)) := fun t ht => by
  by_cases e : t = m
  · subst e; rw [hz]; exact World.cell?_setCell_same _ _ _ d0
  · exact (World.cell?_setCell_other _ _ _ _ (by simp <;> omega)).trans (hc t (by omega))
theorem OwnS.below {T : Nat → Prop} {a : Option Addr} {len cap : Nat} {w w' : World} (h : OwnS T a len cap w) (hq : Below w.heap.size w w') : OwnS T a len cap w' := by
  rcases h with h | ⟨g, h1, h2, h3⟩
  · exact .inl h
  · exact .inr ⟨g, h1, h2, h3.below hq⟩
theorem OwnS.touch {T T' : Nat → Prop} {a : Option Addr} {len cap : Nat} {w w' : World} (h : OwnS T a len cap w) (hq : Touch T' w w') : OwnS T a len cap w' := by
  rcases h with h | ⟨g, h1, h2, h3⟩
  · exact .inl h
  · exact .inr ⟨g, h1, h2, hq.room _ _ h3⟩
theorem ownS_of {w : World} {base : Nat} {a : Option Addr} {cap : Nat} {zs : List Int} (h : (a = none ∧ zs.length = 0 ∧ cap = 0) ∨ ∃ g, a = some ⟨g, 0, none⟩ ∧ base ≤ g ∧ Room w g (zs.length * 1)) : OwnS (fun b => base ≤ b) a zs.length cap w := h
end Go.Proofs.YthdofdglbdfkkaaDoor
