/-
  No cell of these rows narrows 'for every input' (looked for: loops, veiled, ifaces, maps, wideKeys, modest, calm, conditions, laid).
  DERIVED. THE GIVEN ROWS OF THIS SEAT. 6 by the template 'for every input the law returns true; each argument reads behind the call as it read before'; 0 by the template 'total and deterministic' (their statements: YtlcgimadbpagfaaGreatTotals.lean).
  GIVEN WITH THE SEED: the statements are not yours to turn. If you find one false, say at which input.
  Laid BY PROGRAM, IN A SANDBOX (cutbox-rows.mjs): the forced cells as the released guide's own fill.sh prints them over the translation 576acd83fecc9f0c… (all of the seat's roots in one cut). By AI agents, Wed Nov 11 2026. No macro, syntax, notation, axiom, sorry.
-/
import Derived.Test.YtlcgimadbpagfaaGreatChecked
import GoSem.Claim
import GoSem.ClaimJoined
import GoSem.ClaimMapViews
import Derived.JoinedTies
import Derived.KernelRfl
namespace Go.Proofs.YtlcgimadbpagfaaGreat
/- THE CELL 'sum', in the pinned program and in every row, IS THE sha256 OF THE DUMP (.gsa) THAT YtlcgimadbpagfaaGreatProg.lean LOADS. Nothing in Lean hashes anything: it is a label: what it is worth is what the hold of that sum in a sandbox is worth. -/
noncomputable def Tryz.pinned : Pinned := { name := "ytlcgimadbpagfaagreat", sum := "576acd83fecc9f0c57c097087c0da01bafe2d41d9219c5ca1be2ffdebe65d739", checked := Tryz.checked }
namespace Rows
def none {H : Type} : Left H := { results := [], args := [] }

/-- 'laws.FnExactEvalAll': WHATEVER THE INPUT: true; the input reads as it did. -/
def fnExactEvalAllSpec : ChangeSpec := { name := "fnExactEvalAll", fn := fun _ => fun
  | [d1, d2, d3] => { results := [.lit (.bool true)], args := [d1, d2, d3] }
  | _ => none }
def fnExactEvalAllRow : OpenClaim := { program := "ytlcgimadbpagfaagreat", sum := "576acd83fecc9f0c57c097087c0da01bafe2d41d9219c5ca1be2ffdebe65d739", func := "loop.example/leadline/laws.FnExactEvalAll", spec := "fnExactEvalAll", unfollowed := true, recurses := true, apart := false }
def FnExactEvalAllSaid : Prop := fnExactEvalAllRow.holds Tryz.pinned (OpenSpec.ofChange fnExactEvalAllSpec)

/-- ITS FALSE NEIGHBOUR: 'it returns false'. Refute it at one input. -/
def fnExactEvalAllWrong : ChangeSpec := { name := "fnExactEvalAll", fn := fun _ => fun
  | [d1, d2, d3] => { results := [.lit (.bool false)], args := [d1, d2, d3] }
  | _ => none }
def FnExactEvalAllWrongFalsely : Prop := fnExactEvalAllRow.holds Tryz.pinned (OpenSpec.ofChange fnExactEvalAllWrong)

/-- 'laws.FnExactInitFits': WHATEVER THE INPUT: true; the input reads as it did. -/
def fnExactInitFitsSpec : ChangeSpec := { name := "fnExactInitFits", fn := fun _ => fun
  | [d1, d2] => { results := [.lit (.bool true)], args := [d1, d2] }
  | _ => none }
def fnExactInitFitsRow : OpenClaim := { program := "ytlcgimadbpagfaagreat", sum := "576acd83fecc9f0c57c097087c0da01bafe2d41d9219c5ca1be2ffdebe65d739", func := "loop.example/leadline/laws.FnExactInitFits", spec := "fnExactInitFits", unfollowed := true, recurses := true, apart := false }
def FnExactInitFitsSaid : Prop := fnExactInitFitsRow.holds Tryz.pinned (OpenSpec.ofChange fnExactInitFitsSpec)

/-- ITS FALSE NEIGHBOUR: 'it returns false'. Refute it at one input. -/
def fnExactInitFitsWrong : ChangeSpec := { name := "fnExactInitFits", fn := fun _ => fun
  | [d1, d2] => { results := [.lit (.bool false)], args := [d1, d2] }
  | _ => none }
def FnExactInitFitsWrongFalsely : Prop := fnExactInitFitsRow.holds Tryz.pinned (OpenSpec.ofChange fnExactInitFitsWrong)

/-- 'laws.FnExactStepFits': WHATEVER THE INPUT: true; the input reads as it did. -/
def fnExactStepFitsSpec : ChangeSpec := { name := "fnExactStepFits", fn := fun _ => fun
  | [d1, d2, d3, d4] => { results := [.lit (.bool true)], args := [d1, d2, d3, d4] }
  | _ => none }
def fnExactStepFitsRow : OpenClaim := { program := "ytlcgimadbpagfaagreat", sum := "576acd83fecc9f0c57c097087c0da01bafe2d41d9219c5ca1be2ffdebe65d739", func := "loop.example/leadline/laws.FnExactStepFits", spec := "fnExactStepFits", unfollowed := true, recurses := true, apart := false }
def FnExactStepFitsSaid : Prop := fnExactStepFitsRow.holds Tryz.pinned (OpenSpec.ofChange fnExactStepFitsSpec)

/-- ITS FALSE NEIGHBOUR: 'it returns false'. Refute it at one input. -/
def fnExactStepFitsWrong : ChangeSpec := { name := "fnExactStepFits", fn := fun _ => fun
  | [d1, d2, d3, d4] => { results := [.lit (.bool false)], args := [d1, d2, d3, d4] }
  | _ => none }
def FnExactStepFitsWrongFalsely : Prop := fnExactStepFitsRow.holds Tryz.pinned (OpenSpec.ofChange fnExactStepFitsWrong)

/-- 'laws.FnExactTraceCode': WHATEVER THE INPUT: true; the input reads as it did. -/
def fnExactTraceCodeSpec : ChangeSpec := { name := "fnExactTraceCode", fn := fun _ => fun
  | [d1, d2] => { results := [.lit (.bool true)], args := [d1, d2] }
  | _ => none }
def fnExactTraceCodeRow : OpenClaim := { program := "ytlcgimadbpagfaagreat", sum := "576acd83fecc9f0c57c097087c0da01bafe2d41d9219c5ca1be2ffdebe65d739", func := "loop.example/leadline/laws.FnExactTraceCode", spec := "fnExactTraceCode", unfollowed := true, recurses := true, apart := false }
def FnExactTraceCodeSaid : Prop := fnExactTraceCodeRow.holds Tryz.pinned (OpenSpec.ofChange fnExactTraceCodeSpec)

/-- ITS FALSE NEIGHBOUR: 'it returns false'. Refute it at one input. -/
def fnExactTraceCodeWrong : ChangeSpec := { name := "fnExactTraceCode", fn := fun _ => fun
  | [d1, d2] => { results := [.lit (.bool false)], args := [d1, d2] }
  | _ => none }
def FnExactTraceCodeWrongFalsely : Prop := fnExactTraceCodeRow.holds Tryz.pinned (OpenSpec.ofChange fnExactTraceCodeWrong)

/-- 'laws.FnExactTraceBad': WHATEVER THE INPUT: true; the input reads as it did. -/
def fnExactTraceBadSpec : ChangeSpec := { name := "fnExactTraceBad", fn := fun _ => fun
  | [d1, d2] => { results := [.lit (.bool true)], args := [d1, d2] }
  | _ => none }
def fnExactTraceBadRow : OpenClaim := { program := "ytlcgimadbpagfaagreat", sum := "576acd83fecc9f0c57c097087c0da01bafe2d41d9219c5ca1be2ffdebe65d739", func := "loop.example/leadline/laws.FnExactTraceBad", spec := "fnExactTraceBad", unfollowed := true, recurses := true, apart := false }
def FnExactTraceBadSaid : Prop := fnExactTraceBadRow.holds Tryz.pinned (OpenSpec.ofChange fnExactTraceBadSpec)

/-- ITS FALSE NEIGHBOUR: 'it returns false'. Refute it at one input. -/
def fnExactTraceBadWrong : ChangeSpec := { name := "fnExactTraceBad", fn := fun _ => fun
  | [d1, d2] => { results := [.lit (.bool false)], args := [d1, d2] }
  | _ => none }
def FnExactTraceBadWrongFalsely : Prop := fnExactTraceBadRow.holds Tryz.pinned (OpenSpec.ofChange fnExactTraceBadWrong)

/-- 'laws.FnExactTraceRun': WHATEVER THE INPUT: true; the input reads as it did. -/
def fnExactTraceRunSpec : ChangeSpec := { name := "fnExactTraceRun", fn := fun _ => fun
  | [d1, d2, d3] => { results := [.lit (.bool true)], args := [d1, d2, d3] }
  | _ => none }
def fnExactTraceRunRow : OpenClaim := { program := "ytlcgimadbpagfaagreat", sum := "576acd83fecc9f0c57c097087c0da01bafe2d41d9219c5ca1be2ffdebe65d739", func := "loop.example/leadline/laws.FnExactTraceRun", spec := "fnExactTraceRun", unfollowed := true, recurses := true, apart := false }
def FnExactTraceRunSaid : Prop := fnExactTraceRunRow.holds Tryz.pinned (OpenSpec.ofChange fnExactTraceRunSpec)

/-- ITS FALSE NEIGHBOUR: 'it returns false'. Refute it at one input. -/
def fnExactTraceRunWrong : ChangeSpec := { name := "fnExactTraceRun", fn := fun _ => fun
  | [d1, d2, d3] => { results := [.lit (.bool false)], args := [d1, d2, d3] }
  | _ => none }
def FnExactTraceRunWrongFalsely : Prop := fnExactTraceRunRow.holds Tryz.pinned (OpenSpec.ofChange fnExactTraceRunWrong)

/- THE SECOND FORM. 'bulk': how many values and letters a reading holds, each counted each time it is reached (what is shared counts as often as it is met; a slice's spare places count too). A statement '..UptoSaid' is the law's where the arguments, and the package variables that the reading takes, are together of bulk at most 1048576: NARROWER than '..Said'. Prove '..Said' where nothing that the law and all that it calls make is longer than what came in: it says more and counts as full. Else prove '..UptoSaid'. A law counts once. -/
mutual
def uptoBulk {H : Type} : DataW H → Nat
  | .lit (.string bytes) => bytes.length + 1
  | .lit _ => 1
  | .nil => 1
  | .ptr d => uptoBulk d + 1
  | .slice elems spare => uptoBulkAll elems + uptoBulkAll spare + 1
  | .agg parts => uptoBulkAll parts + 1
  | .iface _ d => uptoBulk d + 1
  | .map entries => uptoBulkEntries entries + 1
  | .held _ => 1
def uptoBulkAll {H : Type} : List (DataW H) → Nat
  | [] => 0
  | d :: r => uptoBulk d + uptoBulkAll r
def uptoBulkEntries {H : Type} : List (Lit × DataW H) → Nat
  | [] => 0
  | x :: r => uptoBulkEntry x + uptoBulkEntries r
def uptoBulkEntry {H : Type} : Lit × DataW H → Nat
  | (.string bytes, d) => bytes.length + uptoBulk d + 1
  | (_, d) => uptoBulk d + 1
 end
def uptoSmall : (H : Type) → List (DataW H) → Bool := fun _ ds => decide (uptoBulkAll ds ≤ 1048576)
def OpenSpec.upto (s : _root_.Go.ChangeSpec) : _root_.Go.OpenSpec := { _root_.Go.OpenSpec.ofChange s with cond := some uptoSmall }

/-- 'laws.FnExactEvalAll', WHERE WHAT IT READS IS OF BULK AT MOST 1048576: true; the input reads as it did. -/
def fnExactEvalAllUptoRow : OpenClaim := { program := "ytlcgimadbpagfaagreat", sum := "576acd83fecc9f0c57c097087c0da01bafe2d41d9219c5ca1be2ffdebe65d739", func := "loop.example/leadline/laws.FnExactEvalAll", spec := "fnExactEvalAll", unfollowed := true, recurses := true, apart := false, narrowed := true }
def FnExactEvalAllUptoSaid : Prop := fnExactEvalAllUptoRow.holds Tryz.pinned (OpenSpec.upto fnExactEvalAllSpec)

/-- 'laws.FnExactInitFits', WHERE WHAT IT READS IS OF BULK AT MOST 1048576: true; the input reads as it did. -/
def fnExactInitFitsUptoRow : OpenClaim := { program := "ytlcgimadbpagfaagreat", sum := "576acd83fecc9f0c57c097087c0da01bafe2d41d9219c5ca1be2ffdebe65d739", func := "loop.example/leadline/laws.FnExactInitFits", spec := "fnExactInitFits", unfollowed := true, recurses := true, apart := false, narrowed := true }
def FnExactInitFitsUptoSaid : Prop := fnExactInitFitsUptoRow.holds Tryz.pinned (OpenSpec.upto fnExactInitFitsSpec)

/-- 'laws.FnExactStepFits', WHERE WHAT IT READS IS OF BULK AT MOST 1048576: true; the input reads as it did. -/
def fnExactStepFitsUptoRow : OpenClaim := { program := "ytlcgimadbpagfaagreat", sum := "576acd83fecc9f0c57c097087c0da01bafe2d41d9219c5ca1be2ffdebe65d739", func := "loop.example/leadline/laws.FnExactStepFits", spec := "fnExactStepFits", unfollowed := true, recurses := true, apart := false, narrowed := true }
def FnExactStepFitsUptoSaid : Prop := fnExactStepFitsUptoRow.holds Tryz.pinned (OpenSpec.upto fnExactStepFitsSpec)

/-- 'laws.FnExactTraceCode', WHERE WHAT IT READS IS OF BULK AT MOST 1048576: true; the input reads as it did. -/
def fnExactTraceCodeUptoRow : OpenClaim := { program := "ytlcgimadbpagfaagreat", sum := "576acd83fecc9f0c57c097087c0da01bafe2d41d9219c5ca1be2ffdebe65d739", func := "loop.example/leadline/laws.FnExactTraceCode", spec := "fnExactTraceCode", unfollowed := true, recurses := true, apart := false, narrowed := true }
def FnExactTraceCodeUptoSaid : Prop := fnExactTraceCodeUptoRow.holds Tryz.pinned (OpenSpec.upto fnExactTraceCodeSpec)

/-- 'laws.FnExactTraceBad', WHERE WHAT IT READS IS OF BULK AT MOST 1048576: true; the input reads as it did. -/
def fnExactTraceBadUptoRow : OpenClaim := { program := "ytlcgimadbpagfaagreat", sum := "576acd83fecc9f0c57c097087c0da01bafe2d41d9219c5ca1be2ffdebe65d739", func := "loop.example/leadline/laws.FnExactTraceBad", spec := "fnExactTraceBad", unfollowed := true, recurses := true, apart := false, narrowed := true }
def FnExactTraceBadUptoSaid : Prop := fnExactTraceBadUptoRow.holds Tryz.pinned (OpenSpec.upto fnExactTraceBadSpec)

/-- 'laws.FnExactTraceRun', WHERE WHAT IT READS IS OF BULK AT MOST 1048576: true; the input reads as it did. -/
def fnExactTraceRunUptoRow : OpenClaim := { program := "ytlcgimadbpagfaagreat", sum := "576acd83fecc9f0c57c097087c0da01bafe2d41d9219c5ca1be2ffdebe65d739", func := "loop.example/leadline/laws.FnExactTraceRun", spec := "fnExactTraceRun", unfollowed := true, recurses := true, apart := false, narrowed := true }
def FnExactTraceRunUptoSaid : Prop := fnExactTraceRunUptoRow.holds Tryz.pinned (OpenSpec.upto fnExactTraceRunSpec)

end Rows
end Go.Proofs.YtlcgimadbpagfaaGreat
