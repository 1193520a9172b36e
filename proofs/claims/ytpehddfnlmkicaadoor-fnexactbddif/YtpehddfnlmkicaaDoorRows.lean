/-
  NARROWER THAN 'FOR EVERY INPUT', by the rows' own cells (each row's printed sentence says how): FnExactBddVar: ifaces, laid · FnExactBddNot: ifaces, laid · FnExactBddAnd: ifaces, laid · FnExactBddOr: ifaces, laid · FnExactBddXor: ifaces, laid · FnExactBddIf: ifaces, laid · FnExactBddFix: ifaces, laid · FnExactBddSome: ifaces, laid · FnExactBddFrom: ifaces, laid.
  DERIVED. THE GIVEN ROWS OF THIS SEAT. 9 by the template 'for every input the law returns true; each argument reads behind the call as it read before'; 0 by the template 'total and deterministic' (their statements: YtpehddfnlmkicaaDoorTotals.lean).
  GIVEN WITH THE SEED: the statements are not yours to turn. If you find one false, say at which input.
  Laid BY PROGRAM, IN A SANDBOX (cutbox-rows.mjs): the forced cells as the released guide's own fill.sh prints them over the translation 5728ca285dc29e0a… (all of the seat's roots in one cut). By AI agents, Wed Nov 11 2026. No macro, syntax, notation, axiom, sorry.
-/
import Derived.Test.YtpehddfnlmkicaaDoorChecked
import GoSem.Claim
import GoSem.ClaimJoined
import GoSem.ClaimMapViews
import Derived.JoinedTies
import Derived.KernelRfl
namespace Go.Proofs.YtpehddfnlmkicaaDoor
/- THE CELL 'sum', in the pinned program and in every row, IS THE sha256 OF THE DUMP (.gsa) THAT YtpehddfnlmkicaaDoorProg.lean LOADS. Nothing in Lean hashes anything: it is a label: what it is worth is what the hold of that sum in a sandbox is worth. -/
noncomputable def Tryd.pinned : Pinned := { name := "ytpehddfnlmkicaadoor", sum := "5728ca285dc29e0a0d86baf7d8ba4f05562d3c2ba682ba6a94c6ab106284611b", checked := Tryd.checked }
namespace Rows
def none {H : Type} : Left H := { results := [], args := [] }

/- WHAT THE LISTED PACKAGE-LEVEL VARIABLES READ AS WHEN THE CALL BEGINS. Each datum BY PROGRAM (the guide's laid-datum.mjs) off the statement by which the dump's own 'gosem.cut.vars' lays the variable. In a bare row this is a premise. The card (YtpehddfnlmkicaaDoorCards.lean) ties it to the program's text. -/
def laid_loop_example_leadline_impl_errTooLarge {H : Type} : DataW H := .iface "*errors.errorString" (.ptr (.agg [.lit (.string [97, 32, 100, 105, 97, 103, 114, 97, 109, 32, 104, 97, 115, 32, 116, 111, 111, 32, 109, 97, 110, 121, 32, 110, 111, 100, 101, 115])]))

/-- 'laws.FnExactBddVar': WHATEVER THE INPUT: true; the input reads as it did. -/
def fnExactBddVarSpec : ChangeSpec := { name := "fnExactBddVar", vars := ["loop.example/leadline/impl.errTooLarge"], fn := fun _ => fun
  | [d1, d2, g1] => { results := [.lit (.bool true)], args := [d1, d2], vars := [g1] }
  | _ => none }
def fnExactBddVarRow : OpenClaim := { program := "ytpehddfnlmkicaadoor", sum := "5728ca285dc29e0a0d86baf7d8ba4f05562d3c2ba682ba6a94c6ab106284611b", func := "loop.example/leadline/laws.FnExactBddVar", spec := "fnExactBddVar", unfollowed := true, recurses := true, named := ["loop.example/leadline/impl.errTooLarge"], ifaces := true, plainKeys := false, apart := false, laid := [("loop.example/leadline/impl.errTooLarge", laid_loop_example_leadline_impl_errTooLarge)] }
def FnExactBddVarSaid : Prop := fnExactBddVarRow.holds Tryd.pinned (OpenSpec.ofChange fnExactBddVarSpec)

/-- ITS FALSE NEIGHBOUR: 'it returns false'. Refute it at one input. -/
def fnExactBddVarWrong : ChangeSpec := { name := "fnExactBddVar", vars := ["loop.example/leadline/impl.errTooLarge"], fn := fun _ => fun
  | [d1, d2, g1] => { results := [.lit (.bool false)], args := [d1, d2], vars := [g1] }
  | _ => none }
def FnExactBddVarWrongFalsely : Prop := fnExactBddVarRow.holds Tryd.pinned (OpenSpec.ofChange fnExactBddVarWrong)

/-- 'laws.FnExactBddNot': WHATEVER THE INPUT: true; the input reads as it did. -/
def fnExactBddNotSpec : ChangeSpec := { name := "fnExactBddNot", vars := ["loop.example/leadline/impl.errTooLarge"], fn := fun _ => fun
  | [d, g1] => { results := [.lit (.bool true)], args := [d], vars := [g1] }
  | _ => none }
def fnExactBddNotRow : OpenClaim := { program := "ytpehddfnlmkicaadoor", sum := "5728ca285dc29e0a0d86baf7d8ba4f05562d3c2ba682ba6a94c6ab106284611b", func := "loop.example/leadline/laws.FnExactBddNot", spec := "fnExactBddNot", unfollowed := true, recurses := true, named := ["loop.example/leadline/impl.errTooLarge"], ifaces := true, plainKeys := false, apart := false, laid := [("loop.example/leadline/impl.errTooLarge", laid_loop_example_leadline_impl_errTooLarge)] }
def FnExactBddNotSaid : Prop := fnExactBddNotRow.holds Tryd.pinned (OpenSpec.ofChange fnExactBddNotSpec)

/-- ITS FALSE NEIGHBOUR: 'it returns false'. Refute it at one input. -/
def fnExactBddNotWrong : ChangeSpec := { name := "fnExactBddNot", vars := ["loop.example/leadline/impl.errTooLarge"], fn := fun _ => fun
  | [d, g1] => { results := [.lit (.bool false)], args := [d], vars := [g1] }
  | _ => none }
def FnExactBddNotWrongFalsely : Prop := fnExactBddNotRow.holds Tryd.pinned (OpenSpec.ofChange fnExactBddNotWrong)

/-- 'laws.FnExactBddAnd': WHATEVER THE INPUT: true; the input reads as it did. -/
def fnExactBddAndSpec : ChangeSpec := { name := "fnExactBddAnd", vars := ["loop.example/leadline/impl.errTooLarge"], fn := fun _ => fun
  | [d1, d2, g1] => { results := [.lit (.bool true)], args := [d1, d2], vars := [g1] }
  | _ => none }
def fnExactBddAndRow : OpenClaim := { program := "ytpehddfnlmkicaadoor", sum := "5728ca285dc29e0a0d86baf7d8ba4f05562d3c2ba682ba6a94c6ab106284611b", func := "loop.example/leadline/laws.FnExactBddAnd", spec := "fnExactBddAnd", unfollowed := true, recurses := true, named := ["loop.example/leadline/impl.errTooLarge"], ifaces := true, plainKeys := false, apart := false, laid := [("loop.example/leadline/impl.errTooLarge", laid_loop_example_leadline_impl_errTooLarge)] }
def FnExactBddAndSaid : Prop := fnExactBddAndRow.holds Tryd.pinned (OpenSpec.ofChange fnExactBddAndSpec)

/-- ITS FALSE NEIGHBOUR: 'it returns false'. Refute it at one input. -/
def fnExactBddAndWrong : ChangeSpec := { name := "fnExactBddAnd", vars := ["loop.example/leadline/impl.errTooLarge"], fn := fun _ => fun
  | [d1, d2, g1] => { results := [.lit (.bool false)], args := [d1, d2], vars := [g1] }
  | _ => none }
def FnExactBddAndWrongFalsely : Prop := fnExactBddAndRow.holds Tryd.pinned (OpenSpec.ofChange fnExactBddAndWrong)

/-- 'laws.FnExactBddOr': WHATEVER THE INPUT: true; the input reads as it did. -/
def fnExactBddOrSpec : ChangeSpec := { name := "fnExactBddOr", vars := ["loop.example/leadline/impl.errTooLarge"], fn := fun _ => fun
  | [d1, d2, g1] => { results := [.lit (.bool true)], args := [d1, d2], vars := [g1] }
  | _ => none }
def fnExactBddOrRow : OpenClaim := { program := "ytpehddfnlmkicaadoor", sum := "5728ca285dc29e0a0d86baf7d8ba4f05562d3c2ba682ba6a94c6ab106284611b", func := "loop.example/leadline/laws.FnExactBddOr", spec := "fnExactBddOr", unfollowed := true, recurses := true, named := ["loop.example/leadline/impl.errTooLarge"], ifaces := true, plainKeys := false, apart := false, laid := [("loop.example/leadline/impl.errTooLarge", laid_loop_example_leadline_impl_errTooLarge)] }
def FnExactBddOrSaid : Prop := fnExactBddOrRow.holds Tryd.pinned (OpenSpec.ofChange fnExactBddOrSpec)

/-- ITS FALSE NEIGHBOUR: 'it returns false'. Refute it at one input. -/
def fnExactBddOrWrong : ChangeSpec := { name := "fnExactBddOr", vars := ["loop.example/leadline/impl.errTooLarge"], fn := fun _ => fun
  | [d1, d2, g1] => { results := [.lit (.bool false)], args := [d1, d2], vars := [g1] }
  | _ => none }
def FnExactBddOrWrongFalsely : Prop := fnExactBddOrRow.holds Tryd.pinned (OpenSpec.ofChange fnExactBddOrWrong)

/-- 'laws.FnExactBddXor': WHATEVER THE INPUT: true; the input reads as it did. -/
def fnExactBddXorSpec : ChangeSpec := { name := "fnExactBddXor", vars := ["loop.example/leadline/impl.errTooLarge"], fn := fun _ => fun
  | [d1, d2, g1] => { results := [.lit (.bool true)], args := [d1, d2], vars := [g1] }
  | _ => none }
def fnExactBddXorRow : OpenClaim := { program := "ytpehddfnlmkicaadoor", sum := "5728ca285dc29e0a0d86baf7d8ba4f05562d3c2ba682ba6a94c6ab106284611b", func := "loop.example/leadline/laws.FnExactBddXor", spec := "fnExactBddXor", unfollowed := true, recurses := true, named := ["loop.example/leadline/impl.errTooLarge"], ifaces := true, plainKeys := false, apart := false, laid := [("loop.example/leadline/impl.errTooLarge", laid_loop_example_leadline_impl_errTooLarge)] }
def FnExactBddXorSaid : Prop := fnExactBddXorRow.holds Tryd.pinned (OpenSpec.ofChange fnExactBddXorSpec)

/-- ITS FALSE NEIGHBOUR: 'it returns false'. Refute it at one input. -/
def fnExactBddXorWrong : ChangeSpec := { name := "fnExactBddXor", vars := ["loop.example/leadline/impl.errTooLarge"], fn := fun _ => fun
  | [d1, d2, g1] => { results := [.lit (.bool false)], args := [d1, d2], vars := [g1] }
  | _ => none }
def FnExactBddXorWrongFalsely : Prop := fnExactBddXorRow.holds Tryd.pinned (OpenSpec.ofChange fnExactBddXorWrong)

/-- 'laws.FnExactBddIf': WHATEVER THE INPUT: true; the input reads as it did. -/
def fnExactBddIfSpec : ChangeSpec := { name := "fnExactBddIf", vars := ["loop.example/leadline/impl.errTooLarge"], fn := fun _ => fun
  | [d1, d2, d3, g1] => { results := [.lit (.bool true)], args := [d1, d2, d3], vars := [g1] }
  | _ => none }
def fnExactBddIfRow : OpenClaim := { program := "ytpehddfnlmkicaadoor", sum := "5728ca285dc29e0a0d86baf7d8ba4f05562d3c2ba682ba6a94c6ab106284611b", func := "loop.example/leadline/laws.FnExactBddIf", spec := "fnExactBddIf", unfollowed := true, recurses := true, named := ["loop.example/leadline/impl.errTooLarge"], ifaces := true, plainKeys := false, apart := false, laid := [("loop.example/leadline/impl.errTooLarge", laid_loop_example_leadline_impl_errTooLarge)] }
def FnExactBddIfSaid : Prop := fnExactBddIfRow.holds Tryd.pinned (OpenSpec.ofChange fnExactBddIfSpec)

/-- ITS FALSE NEIGHBOUR: 'it returns false'. Refute it at one input. -/
def fnExactBddIfWrong : ChangeSpec := { name := "fnExactBddIf", vars := ["loop.example/leadline/impl.errTooLarge"], fn := fun _ => fun
  | [d1, d2, d3, g1] => { results := [.lit (.bool false)], args := [d1, d2, d3], vars := [g1] }
  | _ => none }
def FnExactBddIfWrongFalsely : Prop := fnExactBddIfRow.holds Tryd.pinned (OpenSpec.ofChange fnExactBddIfWrong)

/-- 'laws.FnExactBddFix': WHATEVER THE INPUT: true; the input reads as it did. -/
def fnExactBddFixSpec : ChangeSpec := { name := "fnExactBddFix", vars := ["loop.example/leadline/impl.errTooLarge"], fn := fun _ => fun
  | [d1, d2, d3, g1] => { results := [.lit (.bool true)], args := [d1, d2, d3], vars := [g1] }
  | _ => none }
def fnExactBddFixRow : OpenClaim := { program := "ytpehddfnlmkicaadoor", sum := "5728ca285dc29e0a0d86baf7d8ba4f05562d3c2ba682ba6a94c6ab106284611b", func := "loop.example/leadline/laws.FnExactBddFix", spec := "fnExactBddFix", unfollowed := true, recurses := true, named := ["loop.example/leadline/impl.errTooLarge"], ifaces := true, plainKeys := false, apart := false, laid := [("loop.example/leadline/impl.errTooLarge", laid_loop_example_leadline_impl_errTooLarge)] }
def FnExactBddFixSaid : Prop := fnExactBddFixRow.holds Tryd.pinned (OpenSpec.ofChange fnExactBddFixSpec)

/-- ITS FALSE NEIGHBOUR: 'it returns false'. Refute it at one input. -/
def fnExactBddFixWrong : ChangeSpec := { name := "fnExactBddFix", vars := ["loop.example/leadline/impl.errTooLarge"], fn := fun _ => fun
  | [d1, d2, d3, g1] => { results := [.lit (.bool false)], args := [d1, d2, d3], vars := [g1] }
  | _ => none }
def FnExactBddFixWrongFalsely : Prop := fnExactBddFixRow.holds Tryd.pinned (OpenSpec.ofChange fnExactBddFixWrong)

/-- 'laws.FnExactBddSome': WHATEVER THE INPUT: true; the input reads as it did. -/
def fnExactBddSomeSpec : ChangeSpec := { name := "fnExactBddSome", vars := ["loop.example/leadline/impl.errTooLarge"], fn := fun _ => fun
  | [d1, d2, g1] => { results := [.lit (.bool true)], args := [d1, d2], vars := [g1] }
  | _ => none }
def fnExactBddSomeRow : OpenClaim := { program := "ytpehddfnlmkicaadoor", sum := "5728ca285dc29e0a0d86baf7d8ba4f05562d3c2ba682ba6a94c6ab106284611b", func := "loop.example/leadline/laws.FnExactBddSome", spec := "fnExactBddSome", unfollowed := true, recurses := true, named := ["loop.example/leadline/impl.errTooLarge"], ifaces := true, plainKeys := false, apart := false, laid := [("loop.example/leadline/impl.errTooLarge", laid_loop_example_leadline_impl_errTooLarge)] }
def FnExactBddSomeSaid : Prop := fnExactBddSomeRow.holds Tryd.pinned (OpenSpec.ofChange fnExactBddSomeSpec)

/-- ITS FALSE NEIGHBOUR: 'it returns false'. Refute it at one input. -/
def fnExactBddSomeWrong : ChangeSpec := { name := "fnExactBddSome", vars := ["loop.example/leadline/impl.errTooLarge"], fn := fun _ => fun
  | [d1, d2, g1] => { results := [.lit (.bool false)], args := [d1, d2], vars := [g1] }
  | _ => none }
def FnExactBddSomeWrongFalsely : Prop := fnExactBddSomeRow.holds Tryd.pinned (OpenSpec.ofChange fnExactBddSomeWrong)

/-- 'laws.FnExactBddFrom': WHATEVER THE INPUT: true; the input reads as it did. -/
def fnExactBddFromSpec : ChangeSpec := { name := "fnExactBddFrom", vars := ["loop.example/leadline/impl.errTooLarge"], fn := fun _ => fun
  | [d1, d2, g1] => { results := [.lit (.bool true)], args := [d1, d2], vars := [g1] }
  | _ => none }
def fnExactBddFromRow : OpenClaim := { program := "ytpehddfnlmkicaadoor", sum := "5728ca285dc29e0a0d86baf7d8ba4f05562d3c2ba682ba6a94c6ab106284611b", func := "loop.example/leadline/laws.FnExactBddFrom", spec := "fnExactBddFrom", unfollowed := true, recurses := true, named := ["loop.example/leadline/impl.errTooLarge"], ifaces := true, plainKeys := false, apart := false, laid := [("loop.example/leadline/impl.errTooLarge", laid_loop_example_leadline_impl_errTooLarge)] }
def FnExactBddFromSaid : Prop := fnExactBddFromRow.holds Tryd.pinned (OpenSpec.ofChange fnExactBddFromSpec)

/-- ITS FALSE NEIGHBOUR: 'it returns false'. Refute it at one input. -/
def fnExactBddFromWrong : ChangeSpec := { name := "fnExactBddFrom", vars := ["loop.example/leadline/impl.errTooLarge"], fn := fun _ => fun
  | [d1, d2, g1] => { results := [.lit (.bool false)], args := [d1, d2], vars := [g1] }
  | _ => none }
def FnExactBddFromWrongFalsely : Prop := fnExactBddFromRow.holds Tryd.pinned (OpenSpec.ofChange fnExactBddFromWrong)

/- THE SECOND FORM. 'bulk': how many values and letters a reading holds, each counted each time it is reached (what is shared counts as often as it is met; a slice's spare places count too). A statement '..UptoSaid' is the law's where the arguments, and the package variables that the reading takes, are together of bulk at most 1048576: NARROWER than '..Said'. Prove '..Said' where nothing that the law and all that it calls make is longer than what came in: it says more and counts as full. Else prove '..UptoSaid'. A law counts once. -/
mutual
def uptoBulk {H : Type} : DataW H → Nat
  | .lit (.string bytes) => bytes.length + 1
  | .lit _ => 1
  | .nil => 1
  | .ptr d => uptoBulk d + 1
  | .slice elems spare => uptoBulkAll elems + uptoBulkAll spare + 1
  | .agg parts => uptoBulkAll parts + 1
  | .iface _ d => uptoBulk d + 1
  | .map entries => uptoBulkEntries entries + 1
  | .held _ => 1
def uptoBulkAll {H : Type} : List (DataW H) → Nat
  | [] => 0
  | d :: r => uptoBulk d + uptoBulkAll r
def uptoBulkEntries {H : Type} : List (Lit × DataW H) → Nat
  | [] => 0
  | x :: r => uptoBulkEntry x + uptoBulkEntries r
def uptoBulkEntry {H : Type} : Lit × DataW H → Nat
  | (.string bytes, d) => bytes.length + uptoBulk d + 1
  | (_, d) => uptoBulk d + 1
 end
def uptoSmall : (H : Type) → List (DataW H) → Bool := fun _ ds => decide (uptoBulkAll ds ≤ 1048576)
def OpenSpec.upto (s : _root_.Go.ChangeSpec) : _root_.Go.OpenSpec := { _root_.Go.OpenSpec.ofChange s with cond := some uptoSmall }

/-- 'laws.FnExactBddVar', WHERE WHAT IT READS IS OF BULK AT MOST 1048576: true; the input reads as it did. -/
def fnExactBddVarUptoRow : OpenClaim := { program := "ytpehddfnlmkicaadoor", sum := "5728ca285dc29e0a0d86baf7d8ba4f05562d3c2ba682ba6a94c6ab106284611b", func := "loop.example/leadline/laws.FnExactBddVar", spec := "fnExactBddVar", unfollowed := true, recurses := true, named := ["loop.example/leadline/impl.errTooLarge"], ifaces := true, plainKeys := false, apart := false, laid := [("loop.example/leadline/impl.errTooLarge", laid_loop_example_leadline_impl_errTooLarge)], narrowed := true }
def FnExactBddVarUptoSaid : Prop := fnExactBddVarUptoRow.holds Tryd.pinned (OpenSpec.upto fnExactBddVarSpec)

/-- 'laws.FnExactBddNot', WHERE WHAT IT READS IS OF BULK AT MOST 1048576: true; the input reads as it did. -/
def fnExactBddNotUptoRow : OpenClaim := { program := "ytpehddfnlmkicaadoor", sum := "5728ca285dc29e0a0d86baf7d8ba4f05562d3c2ba682ba6a94c6ab106284611b", func := "loop.example/leadline/laws.FnExactBddNot", spec := "fnExactBddNot", unfollowed := true, recurses := true, named := ["loop.example/leadline/impl.errTooLarge"], ifaces := true, plainKeys := false, apart := false, laid := [("loop.example/leadline/impl.errTooLarge", laid_loop_example_leadline_impl_errTooLarge)], narrowed := true }
def FnExactBddNotUptoSaid : Prop := fnExactBddNotUptoRow.holds Tryd.pinned (OpenSpec.upto fnExactBddNotSpec)

/-- 'laws.FnExactBddAnd', WHERE WHAT IT READS IS OF BULK AT MOST 1048576: true; the input reads as it did. -/
def fnExactBddAndUptoRow : OpenClaim := { program := "ytpehddfnlmkicaadoor", sum := "5728ca285dc29e0a0d86baf7d8ba4f05562d3c2ba682ba6a94c6ab106284611b", func := "loop.example/leadline/laws.FnExactBddAnd", spec := "fnExactBddAnd", unfollowed := true, recurses := true, named := ["loop.example/leadline/impl.errTooLarge"], ifaces := true, plainKeys := false, apart := false, laid := [("loop.example/leadline/impl.errTooLarge", laid_loop_example_leadline_impl_errTooLarge)], narrowed := true }
def FnExactBddAndUptoSaid : Prop := fnExactBddAndUptoRow.holds Tryd.pinned (OpenSpec.upto fnExactBddAndSpec)

/-- 'laws.FnExactBddOr', WHERE WHAT IT READS IS OF BULK AT MOST 1048576: true; the input reads as it did. -/
def fnExactBddOrUptoRow : OpenClaim := { program := "ytpehddfnlmkicaadoor", sum := "5728ca285dc29e0a0d86baf7d8ba4f05562d3c2ba682ba6a94c6ab106284611b", func := "loop.example/leadline/laws.FnExactBddOr", spec := "fnExactBddOr", unfollowed := true, recurses := true, named := ["loop.example/leadline/impl.errTooLarge"], ifaces := true, plainKeys := false, apart := false, laid := [("loop.example/leadline/impl.errTooLarge", laid_loop_example_leadline_impl_errTooLarge)], narrowed := true }
def FnExactBddOrUptoSaid : Prop := fnExactBddOrUptoRow.holds Tryd.pinned (OpenSpec.upto fnExactBddOrSpec)

/-- 'laws.FnExactBddXor', WHERE WHAT IT READS IS OF BULK AT MOST 1048576: true; the input reads as it did. -/
def fnExactBddXorUptoRow : OpenClaim := { program := "ytpehddfnlmkicaadoor", sum := "5728ca285dc29e0a0d86baf7d8ba4f05562d3c2ba682ba6a94c6ab106284611b", func := "loop.example/leadline/laws.FnExactBddXor", spec := "fnExactBddXor", unfollowed := true, recurses := true, named := ["loop.example/leadline/impl.errTooLarge"], ifaces := true, plainKeys := false, apart := false, laid := [("loop.example/leadline/impl.errTooLarge", laid_loop_example_leadline_impl_errTooLarge)], narrowed := true }
def FnExactBddXorUptoSaid : Prop := fnExactBddXorUptoRow.holds Tryd.pinned (OpenSpec.upto fnExactBddXorSpec)

/-- 'laws.FnExactBddIf', WHERE WHAT IT READS IS OF BULK AT MOST 1048576: true; the input reads as it did. -/
def fnExactBddIfUptoRow : OpenClaim := { program := "ytpehddfnlmkicaadoor", sum := "5728ca285dc29e0a0d86baf7d8ba4f05562d3c2ba682ba6a94c6ab106284611b", func := "loop.example/leadline/laws.FnExactBddIf", spec := "fnExactBddIf", unfollowed := true, recurses := true, named := ["loop.example/leadline/impl.errTooLarge"], ifaces := true, plainKeys := false, apart := false, laid := [("loop.example/leadline/impl.errTooLarge", laid_loop_example_leadline_impl_errTooLarge)], narrowed := true }
def FnExactBddIfUptoSaid : Prop := fnExactBddIfUptoRow.holds Tryd.pinned (OpenSpec.upto fnExactBddIfSpec)

/-- 'laws.FnExactBddFix', WHERE WHAT IT READS IS OF BULK AT MOST 1048576: true; the input reads as it did. -/
def fnExactBddFixUptoRow : OpenClaim := { program := "ytpehddfnlmkicaadoor", sum := "5728ca285dc29e0a0d86baf7d8ba4f05562d3c2ba682ba6a94c6ab106284611b", func := "loop.example/leadline/laws.FnExactBddFix", spec := "fnExactBddFix", unfollowed := true, recurses := true, named := ["loop.example/leadline/impl.errTooLarge"], ifaces := true, plainKeys := false, apart := false, laid := [("loop.example/leadline/impl.errTooLarge", laid_loop_example_leadline_impl_errTooLarge)], narrowed := true }
def FnExactBddFixUptoSaid : Prop := fnExactBddFixUptoRow.holds Tryd.pinned (OpenSpec.upto fnExactBddFixSpec)

/-- 'laws.FnExactBddSome', WHERE WHAT IT READS IS OF BULK AT MOST 1048576: true; the input reads as it did. -/
def fnExactBddSomeUptoRow : OpenClaim := { program := "ytpehddfnlmkicaadoor", sum := "5728ca285dc29e0a0d86baf7d8ba4f05562d3c2ba682ba6a94c6ab106284611b", func := "loop.example/leadline/laws.FnExactBddSome", spec := "fnExactBddSome", unfollowed := true, recurses := true, named := ["loop.example/leadline/impl.errTooLarge"], ifaces := true, plainKeys := false, apart := false, laid := [("loop.example/leadline/impl.errTooLarge", laid_loop_example_leadline_impl_errTooLarge)], narrowed := true }
def FnExactBddSomeUptoSaid : Prop := fnExactBddSomeUptoRow.holds Tryd.pinned (OpenSpec.upto fnExactBddSomeSpec)

/-- 'laws.FnExactBddFrom', WHERE WHAT IT READS IS OF BULK AT MOST 1048576: true; the input reads as it did. -/
def fnExactBddFromUptoRow : OpenClaim := { program := "ytpehddfnlmkicaadoor", sum := "5728ca285dc29e0a0d86baf7d8ba4f05562d3c2ba682ba6a94c6ab106284611b", func := "loop.example/leadline/laws.FnExactBddFrom", spec := "fnExactBddFrom", unfollowed := true, recurses := true, named := ["loop.example/leadline/impl.errTooLarge"], ifaces := true, plainKeys := false, apart := false, laid := [("loop.example/leadline/impl.errTooLarge", laid_loop_example_leadline_impl_errTooLarge)], narrowed := true }
def FnExactBddFromUptoSaid : Prop := fnExactBddFromUptoRow.holds Tryd.pinned (OpenSpec.upto fnExactBddFromSpec)

end Rows
end Go.Proofs.YtpehddfnlmkicaaDoor
