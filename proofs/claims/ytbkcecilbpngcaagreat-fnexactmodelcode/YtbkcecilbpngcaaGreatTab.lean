/-
  What the program's WordTwo answers, at whatever arguments: the table of the kinds is made, one is taken out and called.
-/
import Derived.Test.YtbkcecilbpngcaaGreatRows
import Derived.Test.YtbkcecilbpngcaaGreatPaA
import Derived.Test.YtbkcecilbpngcaaGreatCut
import Derived.Test.YtbkcecilbpngcaaGreatBits
import Derived.Test.YtbkcecilbpngcaaGreatTwoI
import Derived.WalkKit
import Derived.ProofKit
import Derived.OpenShut
import Derived.WalkSpells
import Derived.WalkLawsBesides
import Derived.Outline
import Derived.BigQuiet
import Derived.Laws.EntriesVeiled
import Derived.Laws.Rows
import Derived.Laws.Tables
import Derived.Deep.WholeRow
namespace Go.Proofs.YtbkcecilbpngcaaGreat
open Go.ChangeShapes Go.WideShapes Go.ChangeAt Go.RowKit
set_option linter.unusedVariables false
set_option maxRecDepth 100000

/-- The table of the kinds of two words. -/
def twoTab : Array Value := #[.nilFunc, .bool false, .nilFunc, .bool false, .nilFunc, .bool false, .nilFunc, .bool false, .nilFunc, .bool false, .nilFunc, .bool false, .func (.func 170) #[] #[], .bool false, .func (.func 171) #[] #[], .bool false, .func (.func 172) #[] #[], .bool false, .func (.func 173) #[] #[], .bool false, .func (.func 174) #[] #[], .bool false, .func (.func 175) #[] #[], .bool false, .func (.func 176) #[] #[], .bool false, .func (.func 177) #[] #[], .bool false, .func (.func 178) #[] #[], .bool false, .func (.func 179) #[] #[], .bool false, .func (.func 180) #[] #[], .bool false, .func (.func 181) #[] #[], .bool false, .func (.func 182) #[] #[], .bool false, .func (.func 183) #[] #[], .bool false, .func (.func 184) #[] #[], .bool false, .func (.func 185) #[] #[], .bool true, .func (.func 186) #[] #[], .bool true, .func (.func 187) #[] #[], .bool true, .func (.func 188) #[] #[], .bool true, .func (.func 189) #[] #[], .bool true, .func (.func 190) #[] #[], .bool true, .func (.func 191) #[] #[], .bool true, .func (.func 192) #[] #[], .bool true]

/-- What a kind makes of two words. -/
def twoV (kind n a b : Int) : Int :=
  if kind = 6 then vAnd a b else
  if kind = 7 then vOr a b else
  if kind = 8 then vXor a b else
  if kind = 9 then frm n (a + b) else
  if kind = 10 then frm n (a - b) else
  if kind = 11 then frm n (a * b) else
  if kind = 12 then vDiv n a b else
  if kind = 13 then vRem a b else
  if kind = 14 then vSdiv n a b else
  if kind = 15 then vSrem n a b else
  if kind = 16 then vShl n a b else
  if kind = 17 then vShr a b else
  if kind = 18 then vSar n a b else
  if kind = 19 then vRol n a b else
  if kind = 20 then vRor n a b else
  if kind = 21 then (decide (a = b)).toNat else
  if kind = 22 then (decide (a < b)).toNat else
  if kind = 23 then (decide (sgn n a < sgn n b)).toNat else
  if kind = 24 then (decide (a ≤ b)).toNat else
  if kind = 25 then (decide (sgn n a ≤ sgn n b)).toNat else
  if kind = 26 then (decide (2 ^ n.toNat ≤ a + b)).toNat else
  if kind = 27 then (decide (sgn n (frm n (sgn n a + sgn n b)) ≠ sgn n a + sgn n b)).toNat else
  if kind = 28 then (decide (2 ^ n.toNat ≤ a * b)).toNat else
  0
def twoR (kind n a b : Int) : Int × Int × Bool :=
  if WOk n a ∧ WOk n b ∧ 6 ≤ kind ∧ kind ≤ 28 then (twoV kind n a b, if kind < 21 then n else 1, true) else (0, 0, false)

theorem size_tab : (Tryz.prog.info? 164).map (·.size) = some twoTab.size := by kernel_rfl
theorem one_tab : twoTab.all (·.oneCell') = true := by kernel_rfl
def zeros : Array Value := #[.nilFunc, .bool false, .nilFunc, .bool false, .nilFunc, .bool false, .nilFunc, .bool false, .nilFunc, .bool false, .nilFunc, .bool false, .nilFunc, .bool false, .nilFunc, .bool false, .nilFunc, .bool false, .nilFunc, .bool false, .nilFunc, .bool false, .nilFunc, .bool false, .nilFunc, .bool false, .nilFunc, .bool false, .nilFunc, .bool false, .nilFunc, .bool false, .nilFunc, .bool false, .nilFunc, .bool false, .nilFunc, .bool false, .nilFunc, .bool false, .nilFunc, .bool false, .nilFunc, .bool false, .nilFunc, .bool false, .nilFunc, .bool false, .nilFunc, .bool false, .nilFunc, .bool false, .nilFunc, .bool false, .nilFunc, .bool false, .nilFunc, .bool false]
theorem size_zeros : zeros.size = twoTab.size := by kernel_rfl
set_option maxHeartbeats 1000000 in
theorem c_twoRules (w : World) :
    Calls Tryz.prog 162 #[] w fun e w' => e = .returned (.agg twoTab) ∧ Below w.heap.size w w' := by
  go_enter Tryz.func162, Tryz.ntmps162
  go_wp2_with (refine wpList_store_row rfl 164 (.tmp 0) (.tmp 24) rfl w.heap.size twoTab rfl rfl 164 zeros (heap_alloc_new _ _) size_tab size_zeros one_tab ?_)
  rw [World.setRow_alloc_new]
  exact bodyPost_ret (v := .agg twoTab) (results_cell_row rfl _ _ w.heap.size 164 twoTab (0, 0) _ rfl (heap_alloc_new _ _) Tryz.underlying164 rfl size_tab) rfl ⟨rfl, (Below.refl _ _).alloc (Nat.le_refl _) _⟩
end Go.Proofs.YtbkcecilbpngcaaGreat
