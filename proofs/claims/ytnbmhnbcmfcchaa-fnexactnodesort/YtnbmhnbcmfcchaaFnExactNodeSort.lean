/-
  For every input the law 'FnExactNodeSort' of the laws' package returns true, and its arguments read afterwards as they read before.
  Conditions: none beside those of the given row.
-/
import Derived.Test.YtnbmhnbcmfcchaaRows
import Derived.Test.YtnbmhnbcmfcchaaMath
import Derived.Test.YtnbmhnbcmfcchaaBase
import Derived.Test.YtnbmhnbcmfcchaaSortS
import Derived.Test.YtnbmhnbcmfcchaaSortI
import Derived.Test.YtnbmhnbcmfcchaaKindN
import Derived.Test.YtnbmhnbcmfcchaaCut
import Derived.Test.YtnbmhnbcmfcchaaOnes
import Derived.Test.YtnbmhnbcmfcchaaBits
import Derived.Test.YtnbmhnbcmfcchaaTwoI
import Derived.Test.YtnbmhnbcmfcchaaTab
import Derived.Test.YtnbmhnbcmfcchaaWTwoA
import Derived.Test.YtnbmhnbcmfcchaaWTwoB
import Derived.Test.YtnbmhnbcmfcchaaTwoS
import Derived.Test.YtnbmhnbcmfcchaaTwo
import Derived.Test.YtnbmhnbcmfcchaaNodeD
import Derived.Test.YtnbmhnbcmfcchaaNodeM
import Derived.Test.YtnbmhnbcmfcchaaNames
import Derived.Test.YtnbmhnbcmfcchaaFieldsS
import Derived.Test.YtnbmhnbcmfcchaaNodeL
import Derived.Test.YtnbmhnbcmfcchaaTake
import Derived.Test.YtnbmhnbcmfcchaaResP
import Derived.Test.YtnbmhnbcmfcchaaResS
import Derived.Test.YtnbmhnbcmfcchaaResT
import Derived.Test.YtnbmhnbcmfcchaaNSortS
import Derived.Test.YtnbmhnbcmfcchaaNSortI
import Derived.Test.YtnbmhnbcmfcchaaPartsI
import Derived.Test.YtnbmhnbcmfcchaaWidthI
import Derived.Test.YtnbmhnbcmfcchaaKSortP
import Derived.Test.YtnbmhnbcmfcchaaKSortA
import Derived.Test.YtnbmhnbcmfcchaaKSortB
import Derived.Test.YtnbmhnbcmfcchaaKSortC
import Derived.Test.YtnbmhnbcmfcchaaKSortD
import Derived.Test.YtnbmhnbcmfcchaaPSortI
import Derived.Test.YtnbmhnbcmfcchaaPSortJ
import Derived.Test.YtnbmhnbcmfcchaaNSortJ
import Derived.Test.YtnbmhnbcmfcchaaNodeE
import Derived.Test.YtnbmhnbcmfcchaaNodeC
import Derived.Test.YtnbmhnbcmfcchaaLawNS
import Derived.WalkSpells
import Derived.WalkLawsBesides
import Derived.BigQuiet
import Derived.WalkKit
import Derived.ProofKit
import Derived.OpenShut
import Derived.ShutString
import Derived.ChangeOld
import Derived.Below
import Derived.Lib.SmallJoins
namespace Go.Proofs.Ytnbmhnbcmfcchaa.fnExactNodeSort
open Go.ChangeShapes Go.WideShapes Go.ChangeAt Go.RowKit Go.Joins
open Go.ChangeMaps (open_string shut_string)
set_option linter.unusedVariables false

theorem own : ownKnob Try.prog.godebug = none := by kernel_rfl
theorem laidOut : laidOutB Try.prog = true := by kernel_rfl

theorem walk {H : Type} {enc : TypeId × Value → H} {base : Nat} (v0 : Value) (d0 : DataW H) (p0 : List MemPlace) (v1 : Value) (d1 : DataW H) (p1 : List MemPlace) (W : World) (hv0 : Value.okWide Try.prog W .any base 29 v0) (h0 : DataW.Trod enc Try.prog W 0 (fun _ => true) true 29 v0 d0 p0) (hv1 : Value.okWide Try.prog W .any base 31 v1) (h1 : DataW.Trod enc Try.prog W 0 (fun _ => true) true 31 v1 d1 p1) :
    Calls Try.prog 6 #[v0, v1] W fun e w' => e = .returned (.bool true) ∧ Below W.heap.size W w' := by
  obtain ⟨a, len, cap, ns, rfl, hns⟩ := open_nodes hv0 h0
  obtain ⟨cs, rfl, _⟩ := okWide_struct Try.underlying31 hv1
  obtain ⟨fuel, hf⟩ := h1
  obtain ⟨nd, hcs, hnd⟩ := open_node hf
  simp only [Value.cells] at hcs
  obtain rfl : cs = nd.cells.toArray := by rw [← hcs]
  exact w_FnExactNodeSort nd hnd.2.2.2.2.2.2.2.2 W hns

set_option maxRecDepth 100000 in
theorem lifted (os : Os) (started : os.Started) (H : Type) (enc : TypeId × Value → H) :
    ReturnsInHanded {} Try.checked os 6 .any (Rows.fnExactNodeSortSpec.pre6 enc Try.prog Try.f6 Rows.fnExactNodeSortRow.domain false) (Rows.fnExactNodeSortSpec.post enc Try.prog Try.f6 false true false false) := by
  refine returnsInHanded_of_change (C := Try.checked) own started (by kernel_rfl) Try.func6
    (ChangeSpec.witness6 (enc := enc) (C := Try.checked) false ⟨#[], #[.slice none 0 0, .agg #[.int .i64 0, .int .i64 0, .int .i64 0, .int .i64 0, .int .i64 0, .int .i64 0, .int .i64 0, .int .i64 0, .string ByteArray.empty]], []⟩ 8 (by kernel_rfl) (by kernel_rfl) (by kernel_rfl) (by kernel_rfl)) ?_
  intro W base args ds gs before hval0 hW hcnd _
  have hval : ∀ (j : Nat) t v, Try.f6.params[j]? = some t → args[j]? = some v → Value.okWide Try.prog W .any base t v := hval0
  have hW' := hW
  obtain ⟨p, q, hA0, hV, rfl, hfz, hnd⟩ := hW
  have hA : DataW.TrodAll enc Try.prog W 0 (fun _ => true) true Try.f6.params.toList args.toList ds p := hA0
  rw [Try.params6] at hA hval
  obtain ⟨v0, vs0, d0, ds0, p0, q0, hargs, rfl, rfl, h0, r0⟩ := trodAll_cons hA
  obtain ⟨v1, vs1, d1, ds1, p1, q1, rfl, rfl, rfl, h1, r1⟩ := trodAll_cons r0
  obtain ⟨rfl, rfl, rfl⟩ := trodAll_nil r1
  obtain rfl : args = #[v0, v1] := by cases args; simp_all
  obtain ⟨rfl, rfl⟩ := trodVars_none hV
  have lt0 : ∀ x ∈ p0, x.block < W.heap.size := by obtain ⟨m, hm⟩ := h0; exact DataW.trod_lt m _ _ _ hm
  have lt1 : ∀ x ∈ p1, x.block < W.heap.size := by obtain ⟨m, hm⟩ := h1; exact DataW.trod_lt m _ _ _ hm
  clear hA0 hval0
  refine (walk v0 d0 p0 v1 d1 p1 W (hval 0 29 v0 rfl rfl) h0 (hval 1 31 v1 rfl rfl) h1).mono fun e W' ⟨he, bel⟩ => ?_
  subst he
  exact ⟨_, rfl, _, _, _, [], _, [], hW', trodAll_mk1 (shut_bool Try.underlying4 _), (trodAll_cons_mk (Below.trod laidOut (by kernel_rfl) (of_decide_eq_true (by kernel_rfl)) h0 bel lt0) (trodAll_cons_mk (Below.trod laidOut (by kernel_rfl) (of_decide_eq_true (by kernel_rfl)) h1 bel lt1) trodAll_mk0)), rfl, bel.frame _, fun h => by cases h⟩

theorem over : Rows.fnExactNodeSortRow.holds Try.pinned (OpenSpec.ofChange Rows.fnExactNodeSortSpec) :=
  OpenClaim.holds_of_wide 6 Try.f6 rfl rfl rfl rfl rfl rfl rfl ⟨rfl, rfl, rfl, rfl, rfl⟩ rfl rfl rfl rfl rfl (by kernel_rfl) Try.func6 (by kernel_rfl)
    (of_decide_eq_true (by kernel_rfl)) (by unfold Func.isWrapper; first | (rw [if_pos (by decide +kernel)]; kernel_rfl) | (rw [if_neg (by decide +kernel)]; exact ⟨rfl, rfl⟩))
    (fun os started H enc _ => lifted os started H enc)

theorem proved : Rows.FnExactNodeSortSaid := over
end Go.Proofs.Ytnbmhnbcmfcchaa.fnExactNodeSort
