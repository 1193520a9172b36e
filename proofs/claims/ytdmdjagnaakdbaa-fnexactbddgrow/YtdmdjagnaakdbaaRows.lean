/-
  No cell of these rows narrows 'for every input' (looked for: loops, veiled, ifaces, maps, wideKeys, modest, calm, conditions, laid).
  DERIVED. THE GIVEN ROWS OF THIS SEAT. 8 by the template 'for every input the law returns true; each argument reads behind the call as it read before'; 0 by the template 'total and deterministic' (their statements: YtdmdjagnaakdbaaTotals.lean).
  GIVEN WITH THE SEED: the statements are not yours to turn. If you find one false, say at which input.
  Laid BY PROGRAM, IN A SANDBOX (cutbox-rows.mjs): the forced cells as the released guide's own fill.sh prints them over the translation a3ef42a41709144f… (all of the seat's roots in one cut). By AI agents, Wed Nov 11 2026. No macro, syntax, notation, axiom, sorry.
-/
import Derived.Test.YtdmdjagnaakdbaaChecked
import GoSem.Claim
import GoSem.ClaimJoined
import GoSem.ClaimMapViews
import Derived.JoinedTies
import Derived.KernelRfl
namespace Go.Proofs.Ytdmdjagnaakdbaa
/- THE CELL 'sum', in the pinned program and in every row, IS THE sha256 OF THE DUMP (.gsa) THAT YtdmdjagnaakdbaaProg.lean LOADS. Nothing in Lean hashes anything: it is a label: what it is worth is what the hold of that sum in a sandbox is worth. -/
noncomputable def Try.pinned : Pinned := { name := "ytdmdjagnaakdbaa", sum := "a3ef42a41709144ff7d67373ecc46512748448f8cb61f3b1cfbd93b160332c7c", checked := Try.checked }
namespace Rows
def none {H : Type} : Left H := { results := [], args := [] }

/-- 'laws.FnExactBddOk': WHATEVER THE INPUT: true; the input reads as it did. -/
def fnExactBddOkSpec : ChangeSpec := { name := "fnExactBddOk", fn := fun _ => fun
  | [d] => { results := [.lit (.bool true)], args := [d] }
  | _ => none }
def fnExactBddOkRow : OpenClaim := { program := "ytdmdjagnaakdbaa", sum := "a3ef42a41709144ff7d67373ecc46512748448f8cb61f3b1cfbd93b160332c7c", func := "loop.example/leadline/laws.FnExactBddOk", spec := "fnExactBddOk", recurses := true, plainKeys := false, apart := false }
def FnExactBddOkSaid : Prop := fnExactBddOkRow.holds Try.pinned (OpenSpec.ofChange fnExactBddOkSpec)

/-- ITS FALSE NEIGHBOUR: 'it returns false'. Refute it at one input. -/
def fnExactBddOkWrong : ChangeSpec := { name := "fnExactBddOk", fn := fun _ => fun
  | [d] => { results := [.lit (.bool false)], args := [d] }
  | _ => none }
def FnExactBddOkWrongFalsely : Prop := fnExactBddOkRow.holds Try.pinned (OpenSpec.ofChange fnExactBddOkWrong)

/-- 'laws.FnExactBddConst': WHATEVER THE INPUT: true; the input reads as it did. -/
def fnExactBddConstSpec : ChangeSpec := { name := "fnExactBddConst", fn := fun _ => fun
  | [d1, d2] => { results := [.lit (.bool true)], args := [d1, d2] }
  | _ => none }
def fnExactBddConstRow : OpenClaim := { program := "ytdmdjagnaakdbaa", sum := "a3ef42a41709144ff7d67373ecc46512748448f8cb61f3b1cfbd93b160332c7c", func := "loop.example/leadline/laws.FnExactBddConst", spec := "fnExactBddConst", plainKeys := false, apart := false }
def FnExactBddConstSaid : Prop := fnExactBddConstRow.holds Try.pinned (OpenSpec.ofChange fnExactBddConstSpec)

/-- ITS FALSE NEIGHBOUR: 'it returns false'. Refute it at one input. -/
def fnExactBddConstWrong : ChangeSpec := { name := "fnExactBddConst", fn := fun _ => fun
  | [d1, d2] => { results := [.lit (.bool false)], args := [d1, d2] }
  | _ => none }
def FnExactBddConstWrongFalsely : Prop := fnExactBddConstRow.holds Try.pinned (OpenSpec.ofChange fnExactBddConstWrong)

/-- 'laws.FnExactBddEval': WHATEVER THE INPUT: true; the input reads as it did. -/
def fnExactBddEvalSpec : ChangeSpec := { name := "fnExactBddEval", fn := fun _ => fun
  | [d1, d2] => { results := [.lit (.bool true)], args := [d1, d2] }
  | _ => none }
def fnExactBddEvalRow : OpenClaim := { program := "ytdmdjagnaakdbaa", sum := "a3ef42a41709144ff7d67373ecc46512748448f8cb61f3b1cfbd93b160332c7c", func := "loop.example/leadline/laws.FnExactBddEval", spec := "fnExactBddEval", recurses := true, plainKeys := false, apart := false }
def FnExactBddEvalSaid : Prop := fnExactBddEvalRow.holds Try.pinned (OpenSpec.ofChange fnExactBddEvalSpec)

/-- ITS FALSE NEIGHBOUR: 'it returns false'. Refute it at one input. -/
def fnExactBddEvalWrong : ChangeSpec := { name := "fnExactBddEval", fn := fun _ => fun
  | [d1, d2] => { results := [.lit (.bool false)], args := [d1, d2] }
  | _ => none }
def FnExactBddEvalWrongFalsely : Prop := fnExactBddEvalRow.holds Try.pinned (OpenSpec.ofChange fnExactBddEvalWrong)

/-- 'laws.FnExactBddUses': WHATEVER THE INPUT: true; the input reads as it did. -/
def fnExactBddUsesSpec : ChangeSpec := { name := "fnExactBddUses", fn := fun _ => fun
  | [d1, d2] => { results := [.lit (.bool true)], args := [d1, d2] }
  | _ => none }
def fnExactBddUsesRow : OpenClaim := { program := "ytdmdjagnaakdbaa", sum := "a3ef42a41709144ff7d67373ecc46512748448f8cb61f3b1cfbd93b160332c7c", func := "loop.example/leadline/laws.FnExactBddUses", spec := "fnExactBddUses", unfollowed := true, recurses := true, plainKeys := false, apart := false }
def FnExactBddUsesSaid : Prop := fnExactBddUsesRow.holds Try.pinned (OpenSpec.ofChange fnExactBddUsesSpec)

/-- ITS FALSE NEIGHBOUR: 'it returns false'. Refute it at one input. -/
def fnExactBddUsesWrong : ChangeSpec := { name := "fnExactBddUses", fn := fun _ => fun
  | [d1, d2] => { results := [.lit (.bool false)], args := [d1, d2] }
  | _ => none }
def FnExactBddUsesWrongFalsely : Prop := fnExactBddUsesRow.holds Try.pinned (OpenSpec.ofChange fnExactBddUsesWrong)

/-- 'laws.FnExactBddCount': WHATEVER THE INPUT: true; the input reads as it did. -/
def fnExactBddCountSpec : ChangeSpec := { name := "fnExactBddCount", fn := fun _ => fun
  | [d] => { results := [.lit (.bool true)], args := [d] }
  | _ => none }
def fnExactBddCountRow : OpenClaim := { program := "ytdmdjagnaakdbaa", sum := "a3ef42a41709144ff7d67373ecc46512748448f8cb61f3b1cfbd93b160332c7c", func := "loop.example/leadline/laws.FnExactBddCount", spec := "fnExactBddCount", recurses := true, plainKeys := false, apart := false }
def FnExactBddCountSaid : Prop := fnExactBddCountRow.holds Try.pinned (OpenSpec.ofChange fnExactBddCountSpec)

/-- ITS FALSE NEIGHBOUR: 'it returns false'. Refute it at one input. -/
def fnExactBddCountWrong : ChangeSpec := { name := "fnExactBddCount", fn := fun _ => fun
  | [d] => { results := [.lit (.bool false)], args := [d] }
  | _ => none }
def FnExactBddCountWrongFalsely : Prop := fnExactBddCountRow.holds Try.pinned (OpenSpec.ofChange fnExactBddCountWrong)

/-- 'laws.FnExactBddLeast': WHATEVER THE INPUT: true; the input reads as it did. -/
def fnExactBddLeastSpec : ChangeSpec := { name := "fnExactBddLeast", fn := fun _ => fun
  | [d] => { results := [.lit (.bool true)], args := [d] }
  | _ => none }
def fnExactBddLeastRow : OpenClaim := { program := "ytdmdjagnaakdbaa", sum := "a3ef42a41709144ff7d67373ecc46512748448f8cb61f3b1cfbd93b160332c7c", func := "loop.example/leadline/laws.FnExactBddLeast", spec := "fnExactBddLeast", recurses := true, plainKeys := false, apart := false }
def FnExactBddLeastSaid : Prop := fnExactBddLeastRow.holds Try.pinned (OpenSpec.ofChange fnExactBddLeastSpec)

/-- ITS FALSE NEIGHBOUR: 'it returns false'. Refute it at one input. -/
def fnExactBddLeastWrong : ChangeSpec := { name := "fnExactBddLeast", fn := fun _ => fun
  | [d] => { results := [.lit (.bool false)], args := [d] }
  | _ => none }
def FnExactBddLeastWrongFalsely : Prop := fnExactBddLeastRow.holds Try.pinned (OpenSpec.ofChange fnExactBddLeastWrong)

/-- 'laws.FnExactBddGrow': WHATEVER THE INPUT: true; the input reads as it did. -/
def fnExactBddGrowSpec : ChangeSpec := { name := "fnExactBddGrow", fn := fun _ => fun
  | [d1, d2] => { results := [.lit (.bool true)], args := [d1, d2] }
  | _ => none }
def fnExactBddGrowRow : OpenClaim := { program := "ytdmdjagnaakdbaa", sum := "a3ef42a41709144ff7d67373ecc46512748448f8cb61f3b1cfbd93b160332c7c", func := "loop.example/leadline/laws.FnExactBddGrow", spec := "fnExactBddGrow", recurses := true, plainKeys := false, apart := false }
def FnExactBddGrowSaid : Prop := fnExactBddGrowRow.holds Try.pinned (OpenSpec.ofChange fnExactBddGrowSpec)

/-- ITS FALSE NEIGHBOUR: 'it returns false'. Refute it at one input. -/
def fnExactBddGrowWrong : ChangeSpec := { name := "fnExactBddGrow", fn := fun _ => fun
  | [d1, d2] => { results := [.lit (.bool false)], args := [d1, d2] }
  | _ => none }
def FnExactBddGrowWrongFalsely : Prop := fnExactBddGrowRow.holds Try.pinned (OpenSpec.ofChange fnExactBddGrowWrong)

/-- 'laws.FnExactBddCodes': WHATEVER THE INPUT: true; the input reads as it did. -/
def fnExactBddCodesSpec : ChangeSpec := { name := "fnExactBddCodes", fn := fun _ => fun
  | [d] => { results := [.lit (.bool true)], args := [d] }
  | _ => none }
def fnExactBddCodesRow : OpenClaim := { program := "ytdmdjagnaakdbaa", sum := "a3ef42a41709144ff7d67373ecc46512748448f8cb61f3b1cfbd93b160332c7c", func := "loop.example/leadline/laws.FnExactBddCodes", spec := "fnExactBddCodes", recurses := true, plainKeys := false, apart := false }
def FnExactBddCodesSaid : Prop := fnExactBddCodesRow.holds Try.pinned (OpenSpec.ofChange fnExactBddCodesSpec)

/-- ITS FALSE NEIGHBOUR: 'it returns false'. Refute it at one input. -/
def fnExactBddCodesWrong : ChangeSpec := { name := "fnExactBddCodes", fn := fun _ => fun
  | [d] => { results := [.lit (.bool false)], args := [d] }
  | _ => none }
def FnExactBddCodesWrongFalsely : Prop := fnExactBddCodesRow.holds Try.pinned (OpenSpec.ofChange fnExactBddCodesWrong)

/- THE SECOND FORM. 'bulk': how many values and letters a reading holds, each counted each time it is reached (what is shared counts as often as it is met; a slice's spare places count too). A statement '..UptoSaid' is the law's where the arguments, and the package variables that the reading takes, are together of bulk at most 1048576: NARROWER than '..Said'. Prove '..Said' where nothing that the law and all that it calls make is longer than what came in: it says more and counts as full. Else prove '..UptoSaid'. A law counts once. -/
mutual
def uptoBulk {H : Type} : DataW H → Nat
  | .lit (.string bytes) => bytes.length + 1
  | .lit _ => 1
  | .nil => 1
  | .ptr d => uptoBulk d + 1
  | .slice elems spare => uptoBulkAll elems + uptoBulkAll spare + 1
  | .agg parts => uptoBulkAll parts + 1
  | .iface _ d => uptoBulk d + 1
  | .map entries => uptoBulkEntries entries + 1
  | .held _ => 1
def uptoBulkAll {H : Type} : List (DataW H) → Nat
  | [] => 0
  | d :: r => uptoBulk d + uptoBulkAll r
def uptoBulkEntries {H : Type} : List (Lit × DataW H) → Nat
  | [] => 0
  | x :: r => uptoBulkEntry x + uptoBulkEntries r
def uptoBulkEntry {H : Type} : Lit × DataW H → Nat
  | (.string bytes, d) => bytes.length + uptoBulk d + 1
  | (_, d) => uptoBulk d + 1
 end
def uptoSmall : (H : Type) → List (DataW H) → Bool := fun _ ds => decide (uptoBulkAll ds ≤ 1048576)
def OpenSpec.upto (s : _root_.Go.ChangeSpec) : _root_.Go.OpenSpec := { _root_.Go.OpenSpec.ofChange s with cond := some uptoSmall }

/-- 'laws.FnExactBddOk', WHERE WHAT IT READS IS OF BULK AT MOST 1048576: true; the input reads as it did. -/
def fnExactBddOkUptoRow : OpenClaim := { program := "ytdmdjagnaakdbaa", sum := "a3ef42a41709144ff7d67373ecc46512748448f8cb61f3b1cfbd93b160332c7c", func := "loop.example/leadline/laws.FnExactBddOk", spec := "fnExactBddOk", recurses := true, plainKeys := false, apart := false, narrowed := true }
def FnExactBddOkUptoSaid : Prop := fnExactBddOkUptoRow.holds Try.pinned (OpenSpec.upto fnExactBddOkSpec)

/-- 'laws.FnExactBddConst', WHERE WHAT IT READS IS OF BULK AT MOST 1048576: true; the input reads as it did. -/
def fnExactBddConstUptoRow : OpenClaim := { program := "ytdmdjagnaakdbaa", sum := "a3ef42a41709144ff7d67373ecc46512748448f8cb61f3b1cfbd93b160332c7c", func := "loop.example/leadline/laws.FnExactBddConst", spec := "fnExactBddConst", plainKeys := false, apart := false, narrowed := true }
def FnExactBddConstUptoSaid : Prop := fnExactBddConstUptoRow.holds Try.pinned (OpenSpec.upto fnExactBddConstSpec)

/-- 'laws.FnExactBddEval', WHERE WHAT IT READS IS OF BULK AT MOST 1048576: true; the input reads as it did. -/
def fnExactBddEvalUptoRow : OpenClaim := { program := "ytdmdjagnaakdbaa", sum := "a3ef42a41709144ff7d67373ecc46512748448f8cb61f3b1cfbd93b160332c7c", func := "loop.example/leadline/laws.FnExactBddEval", spec := "fnExactBddEval", recurses := true, plainKeys := false, apart := false, narrowed := true }
def FnExactBddEvalUptoSaid : Prop := fnExactBddEvalUptoRow.holds Try.pinned (OpenSpec.upto fnExactBddEvalSpec)

/-- 'laws.FnExactBddUses', WHERE WHAT IT READS IS OF BULK AT MOST 1048576: true; the input reads as it did. -/
def fnExactBddUsesUptoRow : OpenClaim := { program := "ytdmdjagnaakdbaa", sum := "a3ef42a41709144ff7d67373ecc46512748448f8cb61f3b1cfbd93b160332c7c", func := "loop.example/leadline/laws.FnExactBddUses", spec := "fnExactBddUses", unfollowed := true, recurses := true, plainKeys := false, apart := false, narrowed := true }
def FnExactBddUsesUptoSaid : Prop := fnExactBddUsesUptoRow.holds Try.pinned (OpenSpec.upto fnExactBddUsesSpec)

/-- 'laws.FnExactBddCount', WHERE WHAT IT READS IS OF BULK AT MOST 1048576: true; the input reads as it did. -/
def fnExactBddCountUptoRow : OpenClaim := { program := "ytdmdjagnaakdbaa", sum := "a3ef42a41709144ff7d67373ecc46512748448f8cb61f3b1cfbd93b160332c7c", func := "loop.example/leadline/laws.FnExactBddCount", spec := "fnExactBddCount", recurses := true, plainKeys := false, apart := false, narrowed := true }
def FnExactBddCountUptoSaid : Prop := fnExactBddCountUptoRow.holds Try.pinned (OpenSpec.upto fnExactBddCountSpec)

/-- 'laws.FnExactBddLeast', WHERE WHAT IT READS IS OF BULK AT MOST 1048576: true; the input reads as it did. -/
def fnExactBddLeastUptoRow : OpenClaim := { program := "ytdmdjagnaakdbaa", sum := "a3ef42a41709144ff7d67373ecc46512748448f8cb61f3b1cfbd93b160332c7c", func := "loop.example/leadline/laws.FnExactBddLeast", spec := "fnExactBddLeast", recurses := true, plainKeys := false, apart := false, narrowed := true }
def FnExactBddLeastUptoSaid : Prop := fnExactBddLeastUptoRow.holds Try.pinned (OpenSpec.upto fnExactBddLeastSpec)

/-- 'laws.FnExactBddGrow', WHERE WHAT IT READS IS OF BULK AT MOST 1048576: true; the input reads as it did. -/
def fnExactBddGrowUptoRow : OpenClaim := { program := "ytdmdjagnaakdbaa", sum := "a3ef42a41709144ff7d67373ecc46512748448f8cb61f3b1cfbd93b160332c7c", func := "loop.example/leadline/laws.FnExactBddGrow", spec := "fnExactBddGrow", recurses := true, plainKeys := false, apart := false, narrowed := true }
def FnExactBddGrowUptoSaid : Prop := fnExactBddGrowUptoRow.holds Try.pinned (OpenSpec.upto fnExactBddGrowSpec)

/-- 'laws.FnExactBddCodes', WHERE WHAT IT READS IS OF BULK AT MOST 1048576: true; the input reads as it did. -/
def fnExactBddCodesUptoRow : OpenClaim := { program := "ytdmdjagnaakdbaa", sum := "a3ef42a41709144ff7d67373ecc46512748448f8cb61f3b1cfbd93b160332c7c", func := "loop.example/leadline/laws.FnExactBddCodes", spec := "fnExactBddCodes", recurses := true, plainKeys := false, apart := false, narrowed := true }
def FnExactBddCodesUptoSaid : Prop := fnExactBddCodesUptoRow.holds Try.pinned (OpenSpec.upto fnExactBddCodesSpec)

end Rows
end Go.Proofs.Ytdmdjagnaakdbaa
