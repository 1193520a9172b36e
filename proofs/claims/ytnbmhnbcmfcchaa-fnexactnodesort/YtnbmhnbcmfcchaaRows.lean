/-
  No cell of these rows narrows 'for every input' (looked for: loops, veiled, ifaces, maps, wideKeys, modest, calm, conditions, laid).
  DERIVED. THE GIVEN ROWS OF THIS SEAT. 4 by the template 'for every input the law returns true; each argument reads behind the call as it read before'; 0 by the template 'total and deterministic' (their statements: YtnbmhnbcmfcchaaTotals.lean).
  GIVEN WITH THE SEED: the statements are not yours to turn. If you find one false, say at which input.
  Laid BY PROGRAM, IN A SANDBOX (cutbox-rows.mjs): the forced cells as the released guide's own fill.sh prints them over the translation 3d2cfb63fdd5bd2b… (all of the seat's roots in one cut). By AI agents, Wed Nov 11 2026. No macro, syntax, notation, axiom, sorry.
-/
import Derived.Test.YtnbmhnbcmfcchaaChecked
import GoSem.Claim
import GoSem.ClaimJoined
import GoSem.ClaimMapViews
import Derived.JoinedTies
import Derived.KernelRfl
namespace Go.Proofs.Ytnbmhnbcmfcchaa
/- THE CELL 'sum', in the pinned program and in every row, IS THE sha256 OF THE DUMP (.gsa) THAT YtnbmhnbcmfcchaaProg.lean LOADS. Nothing in Lean hashes anything: it is a label: what it is worth is what the hold of that sum in a sandbox is worth. -/
noncomputable def Try.pinned : Pinned := { name := "ytnbmhnbcmfcchaa", sum := "3d2cfb63fdd5bd2bd2f5c553aee1fc9045737e8b5e1b60a7c8a42d95c2d0415e", checked := Try.checked }
namespace Rows
def none {H : Type} : Left H := { results := [], args := [] }

/-- 'laws.FnExactSortOk': WHATEVER THE INPUT: true; the input reads as it did. -/
def fnExactSortOkSpec : ChangeSpec := { name := "fnExactSortOk", fn := fun _ => fun
  | [d] => { results := [.lit (.bool true)], args := [d] }
  | _ => none }
def fnExactSortOkRow : OpenClaim := { program := "ytnbmhnbcmfcchaa", sum := "3d2cfb63fdd5bd2bd2f5c553aee1fc9045737e8b5e1b60a7c8a42d95c2d0415e", func := "loop.example/leadline/laws.FnExactSortOk", spec := "fnExactSortOk", apart := false }
def FnExactSortOkSaid : Prop := fnExactSortOkRow.holds Try.pinned (OpenSpec.ofChange fnExactSortOkSpec)

/-- ITS FALSE NEIGHBOUR: 'it returns false'. Refute it at one input. -/
def fnExactSortOkWrong : ChangeSpec := { name := "fnExactSortOk", fn := fun _ => fun
  | [d] => { results := [.lit (.bool false)], args := [d] }
  | _ => none }
def FnExactSortOkWrongFalsely : Prop := fnExactSortOkRow.holds Try.pinned (OpenSpec.ofChange fnExactSortOkWrong)

/-- 'laws.FnExactSortCells': WHATEVER THE INPUT: true; the input reads as it did. -/
def fnExactSortCellsSpec : ChangeSpec := { name := "fnExactSortCells", fn := fun _ => fun
  | [d] => { results := [.lit (.bool true)], args := [d] }
  | _ => none }
def fnExactSortCellsRow : OpenClaim := { program := "ytnbmhnbcmfcchaa", sum := "3d2cfb63fdd5bd2bd2f5c553aee1fc9045737e8b5e1b60a7c8a42d95c2d0415e", func := "loop.example/leadline/laws.FnExactSortCells", spec := "fnExactSortCells", apart := false }
def FnExactSortCellsSaid : Prop := fnExactSortCellsRow.holds Try.pinned (OpenSpec.ofChange fnExactSortCellsSpec)

/-- ITS FALSE NEIGHBOUR: 'it returns false'. Refute it at one input. -/
def fnExactSortCellsWrong : ChangeSpec := { name := "fnExactSortCells", fn := fun _ => fun
  | [d] => { results := [.lit (.bool false)], args := [d] }
  | _ => none }
def FnExactSortCellsWrongFalsely : Prop := fnExactSortCellsRow.holds Try.pinned (OpenSpec.ofChange fnExactSortCellsWrong)

/-- 'laws.FnExactSortBits': WHATEVER THE INPUT: true; the input reads as it did. -/
def fnExactSortBitsSpec : ChangeSpec := { name := "fnExactSortBits", fn := fun _ => fun
  | [d] => { results := [.lit (.bool true)], args := [d] }
  | _ => none }
def fnExactSortBitsRow : OpenClaim := { program := "ytnbmhnbcmfcchaa", sum := "3d2cfb63fdd5bd2bd2f5c553aee1fc9045737e8b5e1b60a7c8a42d95c2d0415e", func := "loop.example/leadline/laws.FnExactSortBits", spec := "fnExactSortBits", apart := false }
def FnExactSortBitsSaid : Prop := fnExactSortBitsRow.holds Try.pinned (OpenSpec.ofChange fnExactSortBitsSpec)

/-- ITS FALSE NEIGHBOUR: 'it returns false'. Refute it at one input. -/
def fnExactSortBitsWrong : ChangeSpec := { name := "fnExactSortBits", fn := fun _ => fun
  | [d] => { results := [.lit (.bool false)], args := [d] }
  | _ => none }
def FnExactSortBitsWrongFalsely : Prop := fnExactSortBitsRow.holds Try.pinned (OpenSpec.ofChange fnExactSortBitsWrong)

/-- 'laws.FnExactNodeSort': WHATEVER THE INPUT: true; the input reads as it did. -/
def fnExactNodeSortSpec : ChangeSpec := { name := "fnExactNodeSort", fn := fun _ => fun
  | [d1, d2] => { results := [.lit (.bool true)], args := [d1, d2] }
  | _ => none }
def fnExactNodeSortRow : OpenClaim := { program := "ytnbmhnbcmfcchaa", sum := "3d2cfb63fdd5bd2bd2f5c553aee1fc9045737e8b5e1b60a7c8a42d95c2d0415e", func := "loop.example/leadline/laws.FnExactNodeSort", spec := "fnExactNodeSort", unfollowed := true, recurses := true, apart := false }
def FnExactNodeSortSaid : Prop := fnExactNodeSortRow.holds Try.pinned (OpenSpec.ofChange fnExactNodeSortSpec)

/-- ITS FALSE NEIGHBOUR: 'it returns false'. Refute it at one input. -/
def fnExactNodeSortWrong : ChangeSpec := { name := "fnExactNodeSort", fn := fun _ => fun
  | [d1, d2] => { results := [.lit (.bool false)], args := [d1, d2] }
  | _ => none }
def FnExactNodeSortWrongFalsely : Prop := fnExactNodeSortRow.holds Try.pinned (OpenSpec.ofChange fnExactNodeSortWrong)

/- THE SECOND FORM. 'bulk': how many values and letters a reading holds, each counted each time it is reached (what is shared counts as often as it is met; a slice's spare places count too). A statement '..UptoSaid' is the law's where the arguments, and the package variables that the reading takes, are together of bulk at most 1048576: NARROWER than '..Said'. Prove '..Said' where nothing that the law and all that it calls make is longer than what came in: it says more and counts as full. Else prove '..UptoSaid'. A law counts once. -/
mutual
def uptoBulk {H : Type} : DataW H → Nat
  | .lit (.string bytes) => bytes.length + 1
  | .lit _ => 1
  | .nil => 1
  | .ptr d => uptoBulk d + 1
  | .slice elems spare => uptoBulkAll elems + uptoBulkAll spare + 1
  | .agg parts => uptoBulkAll parts + 1
  | .iface _ d => uptoBulk d + 1
  | .map entries => uptoBulkEntries entries + 1
  | .held _ => 1
def uptoBulkAll {H : Type} : List (DataW H) → Nat
  | [] => 0
  | d :: r => uptoBulk d + uptoBulkAll r
def uptoBulkEntries {H : Type} : List (Lit × DataW H) → Nat
  | [] => 0
  | x :: r => uptoBulkEntry x + uptoBulkEntries r
def uptoBulkEntry {H : Type} : Lit × DataW H → Nat
  | (.string bytes, d) => bytes.length + uptoBulk d + 1
  | (_, d) => uptoBulk d + 1
 end
def uptoSmall : (H : Type) → List (DataW H) → Bool := fun _ ds => decide (uptoBulkAll ds ≤ 1048576)
def OpenSpec.upto (s : _root_.Go.ChangeSpec) : _root_.Go.OpenSpec := { _root_.Go.OpenSpec.ofChange s with cond := some uptoSmall }

/-- 'laws.FnExactSortOk', WHERE WHAT IT READS IS OF BULK AT MOST 1048576: true; the input reads as it did. -/
def fnExactSortOkUptoRow : OpenClaim := { program := "ytnbmhnbcmfcchaa", sum := "3d2cfb63fdd5bd2bd2f5c553aee1fc9045737e8b5e1b60a7c8a42d95c2d0415e", func := "loop.example/leadline/laws.FnExactSortOk", spec := "fnExactSortOk", apart := false, narrowed := true }
def FnExactSortOkUptoSaid : Prop := fnExactSortOkUptoRow.holds Try.pinned (OpenSpec.upto fnExactSortOkSpec)

/-- 'laws.FnExactSortCells', WHERE WHAT IT READS IS OF BULK AT MOST 1048576: true; the input reads as it did. -/
def fnExactSortCellsUptoRow : OpenClaim := { program := "ytnbmhnbcmfcchaa", sum := "3d2cfb63fdd5bd2bd2f5c553aee1fc9045737e8b5e1b60a7c8a42d95c2d0415e", func := "loop.example/leadline/laws.FnExactSortCells", spec := "fnExactSortCells", apart := false, narrowed := true }
def FnExactSortCellsUptoSaid : Prop := fnExactSortCellsUptoRow.holds Try.pinned (OpenSpec.upto fnExactSortCellsSpec)

/-- 'laws.FnExactSortBits', WHERE WHAT IT READS IS OF BULK AT MOST 1048576: true; the input reads as it did. -/
def fnExactSortBitsUptoRow : OpenClaim := { program := "ytnbmhnbcmfcchaa", sum := "3d2cfb63fdd5bd2bd2f5c553aee1fc9045737e8b5e1b60a7c8a42d95c2d0415e", func := "loop.example/leadline/laws.FnExactSortBits", spec := "fnExactSortBits", apart := false, narrowed := true }
def FnExactSortBitsUptoSaid : Prop := fnExactSortBitsUptoRow.holds Try.pinned (OpenSpec.upto fnExactSortBitsSpec)

/-- 'laws.FnExactNodeSort', WHERE WHAT IT READS IS OF BULK AT MOST 1048576: true; the input reads as it did. -/
def fnExactNodeSortUptoRow : OpenClaim := { program := "ytnbmhnbcmfcchaa", sum := "3d2cfb63fdd5bd2bd2f5c553aee1fc9045737e8b5e1b60a7c8a42d95c2d0415e", func := "loop.example/leadline/laws.FnExactNodeSort", spec := "fnExactNodeSort", unfollowed := true, recurses := true, apart := false, narrowed := true }
def FnExactNodeSortUptoSaid : Prop := fnExactNodeSortUptoRow.holds Try.pinned (OpenSpec.upto fnExactNodeSortSpec)

end Rows
end Go.Proofs.Ytnbmhnbcmfcchaa
