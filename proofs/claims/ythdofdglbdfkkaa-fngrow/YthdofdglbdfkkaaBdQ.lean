/-
  BddLeast: both sides.
-/
import Derived.Test.YthdofdglbdfkkaaRows
import Derived.Test.YthdofdglbdfkkaaPaA
import Derived.Test.YthdofdglbdfkkaaG0
import Derived.Test.YthdofdglbdfkkaaBdM
import Derived.Test.YthdofdglbdfkkaaBdI
import Derived.Test.YthdofdglbdfkkaaBdJ
import Derived.Test.YthdofdglbdfkkaaBdK
import Derived.Test.YthdofdglbdfkkaaBdL
import Derived.Test.YthdofdglbdfkkaaBdS
import Derived.Test.YthdofdglbdfkkaaBdT
import Derived.Test.YthdofdglbdfkkaaBdE
import Derived.Test.YthdofdglbdfkkaaBdP
import Derived.WalkKit
import Derived.ProofKit
import Derived.OpenShut
import Derived.WalkSpells
import Derived.WalkLawsBesides
import Derived.Outline
import Derived.BigQuiet
import Derived.Handy
import Derived.LoopTactic
import Derived.Deep.Light
import Derived.Deep.RegionWith
import Derived.Deep.RegionHeld3
import Derived.Deep.DeepCutAuto
import Derived.Lib.Hide
import Derived.Maps.OwnRows
import Derived.Deep.Onto
import Derived.OneCell
import Derived.StillTailTactics
import Derived.Deep.AppendLies
import Derived.Deep.RegionLaw
namespace Go.Proofs.Ythdofdglbdfkkaa
open Go.ChangeShapes Go.WideShapes Go.ChangeAt Go.RowKit Go.Maps Go.ChangeMaps
set_option linter.unusedVariables false
set_option maxRecDepth 100000


theorem wr_in (p : Int) (h2 : 0 ≤ p) (h3 : p ≤ 65536) : IntKind.i64.wrap p = p := IntWalk.i64_in _ (by omega)
theorem add_in' (z p : Int) (h0 : 0 ≤ z) (h1 : z ≤ 65536) (h2 : 0 ≤ p) (h3 : p ≤ 65536) : IntKind.i64.wrap (z + p) = z + p := IntWalk.i64_in _ (by omega)
theorem if_lt_min (y z : Int) : (if z < y then z else y) = min y z := by split <;> omega
theorem add_in (z p : Int) (h0 : 0 ≤ z) (h1 : z ≤ 65536) (h2 : 0 ≤ p) (h3 : p ≤ 65536) : wrap64 (z + p) = z + p := IntWalk.wrap64_in _ (by omega)
theorem min_in (y z p : Int) (h0 : 0 ≤ y) (h1 : y ≤ 65536) (h2 : 0 ≤ z) (h3 : 0 ≤ p) : 0 ≤ min y (z + p) ∧ min y (z + p) ≤ 65536 := by omega
/-- A list of one's own beside the parameter's box has grown by one. -/
theorem box_app {vars root : Int} {a : Option Addr} {len cap n g cap' : Nat} {w w2 w4 : World} {o : Obj} {cv : Value} {zs : List Int} {m : Int} (hX : BBox vars a len cap root w w2) (ho : w2.ownsInts (w.heap.size + 1) 3 .i64 cv zs) (hl : zs.length = n)
    (hg : (w2.alloc o).drew.grownBy w4 cv.ownBlock) (hown : w4.ownsRow (w.heap.size + 1) 3 1 (.slice (some ⟨g, 0, none⟩) (n + 1) cap') (n + 1) (zs.map (Value.int .i64) ++ [.int .i64 m])) (hm : fits m) :
    w4.ownsInts (w.heap.size + 1) 3 .i64 (.slice (some ⟨g, 0, none⟩) (n + 1) cap') (zs ++ [m]) ∧ BBox vars a len cap root w w4 := by
  have hlt := hX.lt
  have hv : ∀ x, cv.ownBlock = some x → w.heap.size + 1 ≤ x := fun x hx => (ho.1.lt x hx).1
  refine ⟨ho.appended (by rw [hl]; exact hown) hm, ⟨?_, ?_⟩⟩
  · exact ((hg.block _ (Nat.lt_trans hlt (alloc_ltS w2 o)) (fun e => by have := hv _ e.symm; omega)).trans (Below.heap_alloc w2 _ _ hlt)).trans hX.blk
  · have hb2 : Below w.heap.size w (w2.alloc o).drew := (Below.alloc hX.bel hX.bel.size _).drew
    exact hb2.grown hg (Nat.le_trans hX.bel.size (Nat.le_of_lt (alloc_ltS w2 o))) (fun x hx => by have := hv x hx; omega)
def LeastQ (vars : Int) (ns : List BN) (root : Int) (w : World) (e : Ending) (w' : World) : Prop := ∃ r b, e = .returned (.tuple #[.int .i64 r, .bool b]) ∧ LeastR vars ns root r b ∧ Below w.heap.size w w'
end Go.Proofs.Ythdofdglbdfkkaa
