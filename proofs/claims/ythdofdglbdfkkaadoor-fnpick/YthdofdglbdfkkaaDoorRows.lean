/-
  NARROWER THAN 'FOR EVERY INPUT', by the rows' own cells (each row's printed sentence says how): FnPick: ifaces, laid · FnQuantify: ifaces, laid · FnNumbers: ifaces, laid · FnDiagrams: ifaces, laid.
  DERIVED. THE GIVEN ROWS OF THIS SEAT. 4 by the template 'for every input the law returns true; each argument reads behind the call as it read before'; 0 by the template 'total and deterministic' (their statements: YthdofdglbdfkkaaDoorTotals.lean).
  GIVEN WITH THE SEED: the statements are not yours to turn. If you find one false, say at which input.
  Laid BY PROGRAM, IN A SANDBOX (cutbox-rows.mjs): the forced cells as the released guide's own fill.sh prints them over the translation 197ea00f3779186a… (all of the seat's roots in one cut). By AI agents, Wed Nov 11 2026. No macro, syntax, notation, axiom, sorry.
-/
import Derived.Test.YthdofdglbdfkkaaDoorChecked
import GoSem.Claim
import GoSem.ClaimJoined
import GoSem.ClaimMapViews
import Derived.JoinedTies
import Derived.KernelRfl
namespace Go.Proofs.YthdofdglbdfkkaaDoor
/- THE CELL 'sum', in the pinned program and in every row, IS THE sha256 OF THE DUMP (.gsa) THAT YthdofdglbdfkkaaDoorProg.lean LOADS. Nothing in Lean hashes anything: it is a label: what it is worth is what the hold of that sum in a sandbox is worth. -/
noncomputable def Tryd.pinned : Pinned := { name := "ythdofdglbdfkkaadoor", sum := "197ea00f3779186ad66a46759474c3f97be7528b235241c6aa1736d49fce7a08", checked := Tryd.checked }
namespace Rows
def none {H : Type} : Left H := { results := [], args := [] }

/- WHAT THE LISTED PACKAGE-LEVEL VARIABLES READ AS WHEN THE CALL BEGINS. Each datum BY PROGRAM (the guide's laid-datum.mjs) off the statement by which the dump's own 'gosem.cut.vars' lays the variable. In a bare row this is a premise. The card (YthdofdglbdfkkaaDoorCards.lean) ties it to the program's text. -/
def laid_loop_example_leadline_impl_errTooLarge {H : Type} : DataW H := .iface "*errors.errorString" (.ptr (.agg [.lit (.string [97, 32, 100, 105, 97, 103, 114, 97, 109, 32, 104, 97, 115, 32, 116, 111, 111, 32, 109, 97, 110, 121, 32, 110, 111, 100, 101, 115])]))

/-- 'laws.FnPick': WHATEVER THE INPUT: true; the input reads as it did. -/
def fnPickSpec : ChangeSpec := { name := "fnPick", vars := ["loop.example/leadline/impl.errTooLarge"], fn := fun _ => fun
  | [d1, d2, g1] => { results := [.lit (.bool true)], args := [d1, d2], vars := [g1] }
  | _ => none }
def fnPickRow : OpenClaim := { program := "ythdofdglbdfkkaadoor", sum := "197ea00f3779186ad66a46759474c3f97be7528b235241c6aa1736d49fce7a08", func := "loop.example/leadline/laws.FnPick", spec := "fnPick", unfollowed := true, recurses := true, named := ["loop.example/leadline/impl.errTooLarge"], ifaces := true, plainKeys := false, apart := false, laid := [("loop.example/leadline/impl.errTooLarge", laid_loop_example_leadline_impl_errTooLarge)] }
def FnPickSaid : Prop := fnPickRow.holds Tryd.pinned (OpenSpec.ofChange fnPickSpec)

/-- ITS FALSE NEIGHBOUR: 'it returns false'. Refute it at one input. -/
def fnPickWrong : ChangeSpec := { name := "fnPick", vars := ["loop.example/leadline/impl.errTooLarge"], fn := fun _ => fun
  | [d1, d2, g1] => { results := [.lit (.bool false)], args := [d1, d2], vars := [g1] }
  | _ => none }
def FnPickWrongFalsely : Prop := fnPickRow.holds Tryd.pinned (OpenSpec.ofChange fnPickWrong)

/-- 'laws.FnQuantify': WHATEVER THE INPUT: true; the input reads as it did. -/
def fnQuantifySpec : ChangeSpec := { name := "fnQuantify", vars := ["loop.example/leadline/impl.errTooLarge"], fn := fun _ => fun
  | [d, g1] => { results := [.lit (.bool true)], args := [d], vars := [g1] }
  | _ => none }
def fnQuantifyRow : OpenClaim := { program := "ythdofdglbdfkkaadoor", sum := "197ea00f3779186ad66a46759474c3f97be7528b235241c6aa1736d49fce7a08", func := "loop.example/leadline/laws.FnQuantify", spec := "fnQuantify", unfollowed := true, recurses := true, named := ["loop.example/leadline/impl.errTooLarge"], ifaces := true, plainKeys := false, apart := false, laid := [("loop.example/leadline/impl.errTooLarge", laid_loop_example_leadline_impl_errTooLarge)] }
def FnQuantifySaid : Prop := fnQuantifyRow.holds Tryd.pinned (OpenSpec.ofChange fnQuantifySpec)

/-- ITS FALSE NEIGHBOUR: 'it returns false'. Refute it at one input. -/
def fnQuantifyWrong : ChangeSpec := { name := "fnQuantify", vars := ["loop.example/leadline/impl.errTooLarge"], fn := fun _ => fun
  | [d, g1] => { results := [.lit (.bool false)], args := [d], vars := [g1] }
  | _ => none }
def FnQuantifyWrongFalsely : Prop := fnQuantifyRow.holds Tryd.pinned (OpenSpec.ofChange fnQuantifyWrong)

/-- 'laws.FnNumbers': WHATEVER THE INPUT: true; the input reads as it did. -/
def fnNumbersSpec : ChangeSpec := { name := "fnNumbers", vars := ["loop.example/leadline/impl.errTooLarge"], fn := fun _ => fun
  | [d, g1] => { results := [.lit (.bool true)], args := [d], vars := [g1] }
  | _ => none }
def fnNumbersRow : OpenClaim := { program := "ythdofdglbdfkkaadoor", sum := "197ea00f3779186ad66a46759474c3f97be7528b235241c6aa1736d49fce7a08", func := "loop.example/leadline/laws.FnNumbers", spec := "fnNumbers", unfollowed := true, recurses := true, named := ["loop.example/leadline/impl.errTooLarge"], ifaces := true, plainKeys := false, apart := false, laid := [("loop.example/leadline/impl.errTooLarge", laid_loop_example_leadline_impl_errTooLarge)] }
def FnNumbersSaid : Prop := fnNumbersRow.holds Tryd.pinned (OpenSpec.ofChange fnNumbersSpec)

/-- ITS FALSE NEIGHBOUR: 'it returns false'. Refute it at one input. -/
def fnNumbersWrong : ChangeSpec := { name := "fnNumbers", vars := ["loop.example/leadline/impl.errTooLarge"], fn := fun _ => fun
  | [d, g1] => { results := [.lit (.bool false)], args := [d], vars := [g1] }
  | _ => none }
def FnNumbersWrongFalsely : Prop := fnNumbersRow.holds Tryd.pinned (OpenSpec.ofChange fnNumbersWrong)

/-- 'laws.FnDiagrams': WHATEVER THE INPUT: true; the input reads as it did. -/
def fnDiagramsSpec : ChangeSpec := { name := "fnDiagrams", vars := ["loop.example/leadline/impl.errTooLarge"], fn := fun _ => fun
  | [d1, d2, g1] => { results := [.lit (.bool true)], args := [d1, d2], vars := [g1] }
  | _ => none }
def fnDiagramsRow : OpenClaim := { program := "ythdofdglbdfkkaadoor", sum := "197ea00f3779186ad66a46759474c3f97be7528b235241c6aa1736d49fce7a08", func := "loop.example/leadline/laws.FnDiagrams", spec := "fnDiagrams", unfollowed := true, recurses := true, named := ["loop.example/leadline/impl.errTooLarge"], ifaces := true, plainKeys := false, apart := false, laid := [("loop.example/leadline/impl.errTooLarge", laid_loop_example_leadline_impl_errTooLarge)] }
def FnDiagramsSaid : Prop := fnDiagramsRow.holds Tryd.pinned (OpenSpec.ofChange fnDiagramsSpec)

/-- ITS FALSE NEIGHBOUR: 'it returns false'. Refute it at one input. -/
def fnDiagramsWrong : ChangeSpec := { name := "fnDiagrams", vars := ["loop.example/leadline/impl.errTooLarge"], fn := fun _ => fun
  | [d1, d2, g1] => { results := [.lit (.bool false)], args := [d1, d2], vars := [g1] }
  | _ => none }
def FnDiagramsWrongFalsely : Prop := fnDiagramsRow.holds Tryd.pinned (OpenSpec.ofChange fnDiagramsWrong)

/- THE SECOND FORM. 'bulk': how many values and letters a reading holds, each counted each time it is reached (what is shared counts as often as it is met; a slice's spare places count too). A statement '..UptoSaid' is the law's where the arguments, and the package variables that the reading takes, are together of bulk at most 1048576: NARROWER than '..Said'. Prove '..Said' where nothing that the law and all that it calls make is longer than what came in: it says more and counts as full. Else prove '..UptoSaid'. A law counts once. -/
mutual
def uptoBulk {H : Type} : DataW H → Nat
  | .lit (.string bytes) => bytes.length + 1
  | .lit _ => 1
  | .nil => 1
  | .ptr d => uptoBulk d + 1
  | .slice elems spare => uptoBulkAll elems + uptoBulkAll spare + 1
  | .agg parts => uptoBulkAll parts + 1
  | .iface _ d => uptoBulk d + 1
  | .map entries => uptoBulkEntries entries + 1
  | .held _ => 1
def uptoBulkAll {H : Type} : List (DataW H) → Nat
  | [] => 0
  | d :: r => uptoBulk d + uptoBulkAll r
def uptoBulkEntries {H : Type} : List (Lit × DataW H) → Nat
  | [] => 0
  | x :: r => uptoBulkEntry x + uptoBulkEntries r
def uptoBulkEntry {H : Type} : Lit × DataW H → Nat
  | (.string bytes, d) => bytes.length + uptoBulk d + 1
  | (_, d) => uptoBulk d + 1
 end
def uptoSmall : (H : Type) → List (DataW H) → Bool := fun _ ds => decide (uptoBulkAll ds ≤ 1048576)
def OpenSpec.upto (s : _root_.Go.ChangeSpec) : _root_.Go.OpenSpec := { _root_.Go.OpenSpec.ofChange s with cond := some uptoSmall }

/-- 'laws.FnPick', WHERE WHAT IT READS IS OF BULK AT MOST 1048576: true; the input reads as it did. -/
def fnPickUptoRow : OpenClaim := { program := "ythdofdglbdfkkaadoor", sum := "197ea00f3779186ad66a46759474c3f97be7528b235241c6aa1736d49fce7a08", func := "loop.example/leadline/laws.FnPick", spec := "fnPick", unfollowed := true, recurses := true, named := ["loop.example/leadline/impl.errTooLarge"], ifaces := true, plainKeys := false, apart := false, laid := [("loop.example/leadline/impl.errTooLarge", laid_loop_example_leadline_impl_errTooLarge)], narrowed := true }
def FnPickUptoSaid : Prop := fnPickUptoRow.holds Tryd.pinned (OpenSpec.upto fnPickSpec)

/-- 'laws.FnQuantify', WHERE WHAT IT READS IS OF BULK AT MOST 1048576: true; the input reads as it did. -/
def fnQuantifyUptoRow : OpenClaim := { program := "ythdofdglbdfkkaadoor", sum := "197ea00f3779186ad66a46759474c3f97be7528b235241c6aa1736d49fce7a08", func := "loop.example/leadline/laws.FnQuantify", spec := "fnQuantify", unfollowed := true, recurses := true, named := ["loop.example/leadline/impl.errTooLarge"], ifaces := true, plainKeys := false, apart := false, laid := [("loop.example/leadline/impl.errTooLarge", laid_loop_example_leadline_impl_errTooLarge)], narrowed := true }
def FnQuantifyUptoSaid : Prop := fnQuantifyUptoRow.holds Tryd.pinned (OpenSpec.upto fnQuantifySpec)

/-- 'laws.FnNumbers', WHERE WHAT IT READS IS OF BULK AT MOST 1048576: true; the input reads as it did. -/
def fnNumbersUptoRow : OpenClaim := { program := "ythdofdglbdfkkaadoor", sum := "197ea00f3779186ad66a46759474c3f97be7528b235241c6aa1736d49fce7a08", func := "loop.example/leadline/laws.FnNumbers", spec := "fnNumbers", unfollowed := true, recurses := true, named := ["loop.example/leadline/impl.errTooLarge"], ifaces := true, plainKeys := false, apart := false, laid := [("loop.example/leadline/impl.errTooLarge", laid_loop_example_leadline_impl_errTooLarge)], narrowed := true }
def FnNumbersUptoSaid : Prop := fnNumbersUptoRow.holds Tryd.pinned (OpenSpec.upto fnNumbersSpec)

/-- 'laws.FnDiagrams', WHERE WHAT IT READS IS OF BULK AT MOST 1048576: true; the input reads as it did. -/
def fnDiagramsUptoRow : OpenClaim := { program := "ythdofdglbdfkkaadoor", sum := "197ea00f3779186ad66a46759474c3f97be7528b235241c6aa1736d49fce7a08", func := "loop.example/leadline/laws.FnDiagrams", spec := "fnDiagrams", unfollowed := true, recurses := true, named := ["loop.example/leadline/impl.errTooLarge"], ifaces := true, plainKeys := false, apart := false, laid := [("loop.example/leadline/impl.errTooLarge", laid_loop_example_leadline_impl_errTooLarge)], narrowed := true }
def FnDiagramsUptoSaid : Prop := fnDiagramsUptoRow.holds Tryd.pinned (OpenSpec.upto fnDiagramsSpec)

end Rows
end Go.Proofs.YthdofdglbdfkkaaDoor
