/-
  The places and sorts of a node's parts, as the program gathers them.
-/
import Derived.Test.YtnbmhnbcmfcchaaRows
import Derived.Test.YtnbmhnbcmfcchaaMath
import Derived.Test.YtnbmhnbcmfcchaaBase
import Derived.Test.YtnbmhnbcmfcchaaSortS
import Derived.Test.YtnbmhnbcmfcchaaSortI
import Derived.Test.YtnbmhnbcmfcchaaKindN
import Derived.Test.YtnbmhnbcmfcchaaNodeD
import Derived.Test.YtnbmhnbcmfcchaaNodeM
import Derived.Test.YtnbmhnbcmfcchaaNames
import Derived.Test.YtnbmhnbcmfcchaaFieldsS
import Derived.Test.YtnbmhnbcmfcchaaNodeL
import Derived.Test.YtnbmhnbcmfcchaaResP
import Derived.Test.YtnbmhnbcmfcchaaNSortI
import Derived.Test.YtnbmhnbcmfcchaaPartsI
import Derived.WalkKit
import Derived.ProofKit
import Derived.OpenShut
import Derived.WalkSpells
import Derived.WalkLawsBesides
import Derived.Outline
import Derived.BigQuiet
import Derived.Handy
import Derived.LoopTactic
import Derived.Deep.Light
import Derived.Lib.Hide
namespace Go.Proofs.Ytnbmhnbcmfcchaa
open Go.ChangeShapes Go.WideShapes Go.ChangeAt Go.RowKit
set_option linter.unusedVariables false

/-- The places of a node's parts, in a new row. -/
def PlacesAt (x : ND) (w : World) (e : Ending) (w' : World) : Prop :=
  ∃ g : Nat, e = .returned (.slice (some ⟨g, 0, none⟩) (pcI x.kind).toNat 3) ∧ w.heap.size ≤ g ∧ g < w'.heap.size ∧ (∀ t, t < 3 → w'.cell? ⟨g, t, none⟩ = some (.int .i64 (partAt x t))) ∧ Below w.heap.size w w'
theorem pcI_cases (k : Int) : pcI k = 0 ∨ pcI k = 1 ∨ pcI k = 2 ∨ pcI k = 3 := by unfold pcI; have := pcN_cases k; split <;> omega
theorem c_nodeParts (x : ND) (w : World) :
    Calls Try.prog 51 #[.agg x.cells.toArray] w (PlacesAt x w) := by
  have hc := pcI_cases x.kind
  have hc0 : 0 ≤ pcI x.kind := by omega
  have hc3 : pcI x.kind ≤ 3 := by omega
  have HP := Go.Lib.hid (show ∀ t, t < 3 → partAt x t = [x.a, x.b, x.c].getD t 0 by intro t ht; rcases (by omega : t = 0 ∨ t = 1 ∨ t = 2) with rfl | rfl | rfl <;> rfl)
  obtain ⟨k, pa, pb, pc, n, m, si, sw, nm⟩ := x
  simp only [ND.cells] at *
  clear hc
  go_enter Try.func51, Try.ntmps51
  go_wp2_with (first | (go_at_call 42; refine (c_partCount _ _).mono ?_; rintro e w' ⟨rfl, rfl⟩))
  go_ret
  refine ⟨w.heap.size + 1, rfl, by omega, by simp, ?_, by go_grown⟩
  intro t ht
  rcases (by omega : t = 0 ∨ t = 1 ∨ t = 2) with rfl | rfl | rfl <;> simp [partAt]
end Go.Proofs.Ytnbmhnbcmfcchaa
