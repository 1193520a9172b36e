/-
  What the program's WordTwo answers, at whatever arguments: the table of the kinds is made, one is taken out and called.
-/
import Derived.Test.YtdfcjfielkpkiaaGreatRows
import Derived.Test.YtdfcjfielkpkiaaGreatPaA
import Derived.Test.YtdfcjfielkpkiaaGreatCut
import Derived.Test.YtdfcjfielkpkiaaGreatBits
import Derived.Test.YtdfcjfielkpkiaaGreatTwoI
import Derived.WalkKit
import Derived.ProofKit
import Derived.OpenShut
import Derived.WalkSpells
import Derived.WalkLawsBesides
import Derived.Outline
import Derived.BigQuiet
import Derived.Laws.EntriesVeiled
import Derived.Laws.Rows
import Derived.Laws.Tables
import Derived.Deep.WholeRow
namespace Go.Proofs.YtdfcjfielkpkiaaGreat
open Go.ChangeShapes Go.WideShapes Go.ChangeAt Go.RowKit
set_option linter.unusedVariables false
set_option maxRecDepth 100000

/-- The table of the kinds of two words. -/
def twoTab : Array Value := #[.nilFunc, .bool false, .nilFunc, .bool false, .nilFunc, .bool false, .nilFunc, .bool false, .nilFunc, .bool false, .nilFunc, .bool false, .func (.func 225) #[] #[], .bool false, .func (.func 226) #[] #[], .bool false, .func (.func 227) #[] #[], .bool false, .func (.func 228) #[] #[], .bool false, .func (.func 229) #[] #[], .bool false, .func (.func 230) #[] #[], .bool false, .func (.func 231) #[] #[], .bool false, .func (.func 232) #[] #[], .bool false, .func (.func 233) #[] #[], .bool false, .func (.func 234) #[] #[], .bool false, .func (.func 235) #[] #[], .bool false, .func (.func 236) #[] #[], .bool false, .func (.func 237) #[] #[], .bool false, .func (.func 238) #[] #[], .bool false, .func (.func 239) #[] #[], .bool false, .func (.func 240) #[] #[], .bool true, .func (.func 241) #[] #[], .bool true, .func (.func 242) #[] #[], .bool true, .func (.func 243) #[] #[], .bool true, .func (.func 244) #[] #[], .bool true, .func (.func 245) #[] #[], .bool true, .func (.func 246) #[] #[], .bool true, .func (.func 247) #[] #[], .bool true]

/-- What a kind makes of two words. -/
def twoV (kind n a b : Int) : Int :=
  if kind = 6 then vAnd a b else
  if kind = 7 then vOr a b else
  if kind = 8 then vXor a b else
  if kind = 9 then frm n (a + b) else
  if kind = 10 then frm n (a - b) else
  if kind = 11 then frm n (a * b) else
  if kind = 12 then vDiv n a b else
  if kind = 13 then vRem a b else
  if kind = 14 then vSdiv n a b else
  if kind = 15 then vSrem n a b else
  if kind = 16 then vShl n a b else
  if kind = 17 then vShr a b else
  if kind = 18 then vSar n a b else
  if kind = 19 then vRol n a b else
  if kind = 20 then vRor n a b else
  if kind = 21 then (decide (a = b)).toNat else
  if kind = 22 then (decide (a < b)).toNat else
  if kind = 23 then (decide (sgn n a < sgn n b)).toNat else
  if kind = 24 then (decide (a ≤ b)).toNat else
  if kind = 25 then (decide (sgn n a ≤ sgn n b)).toNat else
  if kind = 26 then (decide (2 ^ n.toNat ≤ a + b)).toNat else
  if kind = 27 then (decide (sgn n (frm n (sgn n a + sgn n b)) ≠ sgn n a + sgn n b)).toNat else
  if kind = 28 then (decide (2 ^ n.toNat ≤ a * b)).toNat else
  0
def twoR (kind n a b : Int) : Int × Int × Bool :=
  if WOk n a ∧ WOk n b ∧ 6 ≤ kind ∧ kind ≤ 28 then (twoV kind n a b, if kind < 21 then n else 1, true) else (0, 0, false)

theorem size_tab : (Tryz.prog.info? 217).map (·.size) = some twoTab.size := by kernel_rfl
theorem one_tab : twoTab.all (·.oneCell') = true := by kernel_rfl
def zeros : Array Value := #[.nilFunc, .bool false, .nilFunc, .bool false, .nilFunc, .bool false, .nilFunc, .bool false, .nilFunc, .bool false, .nilFunc, .bool false, .nilFunc, .bool false, .nilFunc, .bool false, .nilFunc, .bool false, .nilFunc, .bool false, .nilFunc, .bool false, .nilFunc, .bool false, .nilFunc, .bool false, .nilFunc, .bool false, .nilFunc, .bool false, .nilFunc, .bool false, .nilFunc, .bool false, .nilFunc, .bool false, .nilFunc, .bool false, .nilFunc, .bool false, .nilFunc, .bool false, .nilFunc, .bool false, .nilFunc, .bool false, .nilFunc, .bool false, .nilFunc, .bool false, .nilFunc, .bool false, .nilFunc, .bool false, .nilFunc, .bool false, .nilFunc, .bool false]
theorem size_zeros : zeros.size = twoTab.size := by kernel_rfl
set_option maxHeartbeats 1000000 in
theorem c_twoRules (w : World) :
    Calls Tryz.prog 212 #[] w fun e w' => e = .returned (.agg twoTab) ∧ Below w.heap.size w w' := by
  go_enter Tryz.func212, Tryz.ntmps212
  go_wp2_with (refine wpList_store_row rfl 217 (.tmp 0) (.tmp 24) rfl w.heap.size twoTab rfl rfl 217 zeros (heap_alloc_new _ _) size_tab size_zeros one_tab ?_)
  rw [World.setRow_alloc_new]
  exact bodyPost_ret (v := .agg twoTab) (results_cell_row rfl _ _ w.heap.size 217 twoTab (0, 0) _ rfl (heap_alloc_new _ _) Tryz.underlying217 rfl size_tab) rfl ⟨rfl, (Below.refl _ _).alloc (Nat.le_refl _) _⟩
end Go.Proofs.YtdfcjfielkpkiaaGreat
