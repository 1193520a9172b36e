/-
  No cell of these rows narrows 'for every input' (looked for: loops, veiled, ifaces, maps, wideKeys, modest, calm, conditions, laid).
  DERIVED. THE GIVEN ROWS OF THIS SEAT. 3 by the template 'for every input the law returns true; each argument reads behind the call as it read before'; 0 by the template 'total and deterministic' (their statements: YtbkcecilbpngcaaGreatTotals.lean).
  GIVEN WITH THE SEED: the statements are not yours to turn. If you find one false, say at which input.
  Laid BY PROGRAM, IN A SANDBOX (cutbox-rows.mjs): the forced cells as the released guide's own fill.sh prints them over the translation b0fb8bc49e6a79a8… (all of the seat's roots in one cut). By AI agents, Wed Nov 11 2026. No macro, syntax, notation, axiom, sorry.
-/
import Derived.Test.YtbkcecilbpngcaaGreatChecked
import GoSem.Claim
import GoSem.ClaimJoined
import GoSem.ClaimMapViews
import Derived.JoinedTies
import Derived.KernelRfl
namespace Go.Proofs.YtbkcecilbpngcaaGreat
/- THE CELL 'sum', in the pinned program and in every row, IS THE sha256 OF THE DUMP (.gsa) THAT YtbkcecilbpngcaaGreatProg.lean LOADS. Nothing in Lean hashes anything: it is a label: what it is worth is what the hold of that sum in a sandbox is worth. -/
noncomputable def Tryz.pinned : Pinned := { name := "ytbkcecilbpngcaagreat", sum := "b0fb8bc49e6a79a84bdb52f343fc854097b161d2d960c5494fe21b27b76c6ad1", checked := Tryz.checked }
namespace Rows
def none {H : Type} : Left H := { results := [], args := [] }

/-- 'laws.FnExactModelCode': WHATEVER THE INPUT: true; the input reads as it did. -/
def fnExactModelCodeSpec : ChangeSpec := { name := "fnExactModelCode", fn := fun _ => fun
  | [d] => { results := [.lit (.bool true)], args := [d] }
  | _ => none }
def fnExactModelCodeRow : OpenClaim := { program := "ytbkcecilbpngcaagreat", sum := "b0fb8bc49e6a79a84bdb52f343fc854097b161d2d960c5494fe21b27b76c6ad1", func := "loop.example/leadline/laws.FnExactModelCode", spec := "fnExactModelCode", unfollowed := true, recurses := true, apart := false }
def FnExactModelCodeSaid : Prop := fnExactModelCodeRow.holds Tryz.pinned (OpenSpec.ofChange fnExactModelCodeSpec)

/-- ITS FALSE NEIGHBOUR: 'it returns false'. Refute it at one input. -/
def fnExactModelCodeWrong : ChangeSpec := { name := "fnExactModelCode", fn := fun _ => fun
  | [d] => { results := [.lit (.bool false)], args := [d] }
  | _ => none }
def FnExactModelCodeWrongFalsely : Prop := fnExactModelCodeRow.holds Tryz.pinned (OpenSpec.ofChange fnExactModelCodeWrong)

/-- 'laws.FnExactModelKept': WHATEVER THE INPUT: true; the input reads as it did. -/
def fnExactModelKeptSpec : ChangeSpec := { name := "fnExactModelKept", fn := fun _ => fun
  | [d] => { results := [.lit (.bool true)], args := [d] }
  | _ => none }
def fnExactModelKeptRow : OpenClaim := { program := "ytbkcecilbpngcaagreat", sum := "b0fb8bc49e6a79a84bdb52f343fc854097b161d2d960c5494fe21b27b76c6ad1", func := "loop.example/leadline/laws.FnExactModelKept", spec := "fnExactModelKept", unfollowed := true, recurses := true, apart := false }
def FnExactModelKeptSaid : Prop := fnExactModelKeptRow.holds Tryz.pinned (OpenSpec.ofChange fnExactModelKeptSpec)

/-- ITS FALSE NEIGHBOUR: 'it returns false'. Refute it at one input. -/
def fnExactModelKeptWrong : ChangeSpec := { name := "fnExactModelKept", fn := fun _ => fun
  | [d] => { results := [.lit (.bool false)], args := [d] }
  | _ => none }
def FnExactModelKeptWrongFalsely : Prop := fnExactModelKeptRow.holds Tryz.pinned (OpenSpec.ofChange fnExactModelKeptWrong)

/-- 'laws.FnExactModelCone': WHATEVER THE INPUT: true; the input reads as it did. -/
def fnExactModelConeSpec : ChangeSpec := { name := "fnExactModelCone", fn := fun _ => fun
  | [d] => { results := [.lit (.bool true)], args := [d] }
  | _ => none }
def fnExactModelConeRow : OpenClaim := { program := "ytbkcecilbpngcaagreat", sum := "b0fb8bc49e6a79a84bdb52f343fc854097b161d2d960c5494fe21b27b76c6ad1", func := "loop.example/leadline/laws.FnExactModelCone", spec := "fnExactModelCone", unfollowed := true, recurses := true, apart := false }
def FnExactModelConeSaid : Prop := fnExactModelConeRow.holds Tryz.pinned (OpenSpec.ofChange fnExactModelConeSpec)

/-- ITS FALSE NEIGHBOUR: 'it returns false'. Refute it at one input. -/
def fnExactModelConeWrong : ChangeSpec := { name := "fnExactModelCone", fn := fun _ => fun
  | [d] => { results := [.lit (.bool false)], args := [d] }
  | _ => none }
def FnExactModelConeWrongFalsely : Prop := fnExactModelConeRow.holds Tryz.pinned (OpenSpec.ofChange fnExactModelConeWrong)

/- THE SECOND FORM. 'bulk': how many values and letters a reading holds, each counted each time it is reached (what is shared counts as often as it is met; a slice's spare places count too). A statement '..UptoSaid' is the law's where the arguments, and the package variables that the reading takes, are together of bulk at most 1048576: NARROWER than '..Said'. Prove '..Said' where nothing that the law and all that it calls make is longer than what came in: it says more and counts as full. Else prove '..UptoSaid'. A law counts once. -/
mutual
def uptoBulk {H : Type} : DataW H → Nat
  | .lit (.string bytes) => bytes.length + 1
  | .lit _ => 1
  | .nil => 1
  | .ptr d => uptoBulk d + 1
  | .slice elems spare => uptoBulkAll elems + uptoBulkAll spare + 1
  | .agg parts => uptoBulkAll parts + 1
  | .iface _ d => uptoBulk d + 1
  | .map entries => uptoBulkEntries entries + 1
  | .held _ => 1
def uptoBulkAll {H : Type} : List (DataW H) → Nat
  | [] => 0
  | d :: r => uptoBulk d + uptoBulkAll r
def uptoBulkEntries {H : Type} : List (Lit × DataW H) → Nat
  | [] => 0
  | x :: r => uptoBulkEntry x + uptoBulkEntries r
def uptoBulkEntry {H : Type} : Lit × DataW H → Nat
  | (.string bytes, d) => bytes.length + uptoBulk d + 1
  | (_, d) => uptoBulk d + 1
 end
def uptoSmall : (H : Type) → List (DataW H) → Bool := fun _ ds => decide (uptoBulkAll ds ≤ 1048576)
def OpenSpec.upto (s : _root_.Go.ChangeSpec) : _root_.Go.OpenSpec := { _root_.Go.OpenSpec.ofChange s with cond := some uptoSmall }

/-- 'laws.FnExactModelCode', WHERE WHAT IT READS IS OF BULK AT MOST 1048576: true; the input reads as it did. -/
def fnExactModelCodeUptoRow : OpenClaim := { program := "ytbkcecilbpngcaagreat", sum := "b0fb8bc49e6a79a84bdb52f343fc854097b161d2d960c5494fe21b27b76c6ad1", func := "loop.example/leadline/laws.FnExactModelCode", spec := "fnExactModelCode", unfollowed := true, recurses := true, apart := false, narrowed := true }
def FnExactModelCodeUptoSaid : Prop := fnExactModelCodeUptoRow.holds Tryz.pinned (OpenSpec.upto fnExactModelCodeSpec)

/-- 'laws.FnExactModelKept', WHERE WHAT IT READS IS OF BULK AT MOST 1048576: true; the input reads as it did. -/
def fnExactModelKeptUptoRow : OpenClaim := { program := "ytbkcecilbpngcaagreat", sum := "b0fb8bc49e6a79a84bdb52f343fc854097b161d2d960c5494fe21b27b76c6ad1", func := "loop.example/leadline/laws.FnExactModelKept", spec := "fnExactModelKept", unfollowed := true, recurses := true, apart := false, narrowed := true }
def FnExactModelKeptUptoSaid : Prop := fnExactModelKeptUptoRow.holds Tryz.pinned (OpenSpec.upto fnExactModelKeptSpec)

/-- 'laws.FnExactModelCone', WHERE WHAT IT READS IS OF BULK AT MOST 1048576: true; the input reads as it did. -/
def fnExactModelConeUptoRow : OpenClaim := { program := "ytbkcecilbpngcaagreat", sum := "b0fb8bc49e6a79a84bdb52f343fc854097b161d2d960c5494fe21b27b76c6ad1", func := "loop.example/leadline/laws.FnExactModelCone", spec := "fnExactModelCone", unfollowed := true, recurses := true, apart := false, narrowed := true }
def FnExactModelConeUptoSaid : Prop := fnExactModelConeUptoRow.holds Tryz.pinned (OpenSpec.upto fnExactModelConeSpec)

end Rows
end Go.Proofs.YtbkcecilbpngcaaGreat
