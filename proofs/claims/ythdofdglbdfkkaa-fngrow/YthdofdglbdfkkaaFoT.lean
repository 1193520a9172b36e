/-
  A new forest; the diagram at a place of one.
-/
import Derived.Test.YthdofdglbdfkkaaRows
import Derived.Test.YthdofdglbdfkkaaG0
import Derived.Test.YthdofdglbdfkkaaFoS
import Derived.WalkKit
import Derived.ProofKit
import Derived.OpenShut
import Derived.WalkSpells
import Derived.WalkLawsBesides
import Derived.Outline
import Derived.BigQuiet
import Derived.Handy
import Derived.LoopTactic
import Derived.Deep.Light
import Derived.Deep.RegionWith
import Derived.Deep.RegionHeld3
import Derived.Deep.DeepCutAuto
import Derived.Lib.Hide
import Derived.Maps.OwnRows
import Derived.Deep.Onto
import Derived.OneCell
import Derived.StillTailTactics
import Derived.Deep.AppendLies
import Derived.Deep.RegionLaw
namespace Go.Proofs.Ythdofdglbdfkkaa
open Go.ChangeShapes Go.WideShapes Go.ChangeAt Go.RowKit Go.Maps Go.ChangeMaps
set_option linter.unusedVariables false
set_option maxRecDepth 100000

theorem wpList_int_insert {ops : Array Oper} {rest : List Oper} {o : Oper} {a : Act} {Q : Exit → Act → World → Prop} (w : World)
    (hg : o.guard = none) (m x v : Operand) (t : TypeId) (hop : o.op = Op.insert t m x v) (k : TypeId) (K : Keyed Try.prog k) (ht : Try.prog.underlying t = some (.map k 3)) (b n : Nat) (R : Lit → Int → Prop)
    (hm : a.eval m = .map (some b)) (hs : IntMap k b n R w) (hn : n < maxLen) (key : Value) (kl : Lit) (z : Int) (hz : fits z) (hx : a.eval x = key) (hv : a.eval v = .int .i64 z) (hkey : keyOf Try.prog k key = some kl)
    (hK : ∀ w', IntMap k b (n + 1) (fun q y => (q = kl ∧ y = z) ∨ (q ≠ kl ∧ R q y)) w' → w.grownBy w' (some b) → wpList Try.prog ops Q rest (a.put o.dst undef) w') : wpList Try.prog ops Q (o :: rest) a w := by
  refine wpList_plain hg fun K' hK' => ?_
  obtain ⟨w', hrun, r1, r2⟩ := hs.store K ht hn hkey hz
  have hi : (execOp a.eval o).run Try.prog w = ((Instr.mapUpdate t (.map (some b)) key (.int .i64 z)).run Try.prog w).andThen (fun _ w => .ok .skip w) := by
    simp [execOp, hop, hm, hx, hv]
  unfold Oper.wp
  rw [hi, hrun]
  exact hK' _ _ (hK w' r1 r2)

def DiagQ (vars : Int) (t : DT) (w : World) (e : Ending) (w' : World) : Prop :=
  (∃ x ms R, e = .returned (.agg #[.int .i64 vars, x, .int .i64 R]) ∧ OwnN w' w.heap.size x ms ∧ Adds t [] ms R ∧ ms.length ≤ 600 ∧ Below w.heap.size w w') ∨
  (∃ u y, e = .panicked [{ v := .iface u y, recovered := false }] ∧ Below w.heap.size w w' ∧ ∀ ms m, Adds t [] ms m → 600 < ms.length)
end Go.Proofs.Ythdofdglbdfkkaa
