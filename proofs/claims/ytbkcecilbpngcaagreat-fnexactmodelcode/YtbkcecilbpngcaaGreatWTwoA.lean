/-
  What the program's WordTwo answers at each kind, of two words of one width.
-/
import Derived.Test.YtbkcecilbpngcaaGreatRows
import Derived.Test.YtbkcecilbpngcaaGreatPaA
import Derived.Test.YtbkcecilbpngcaaGreatCut
import Derived.Test.YtbkcecilbpngcaaGreatBits
import Derived.Test.YtbkcecilbpngcaaGreatTwoI
import Derived.Test.YtbkcecilbpngcaaGreatTab
import Derived.WalkKit
import Derived.ProofKit
import Derived.OpenShut
import Derived.WalkSpells
import Derived.WalkLawsBesides
import Derived.Outline
import Derived.BigQuiet
import Derived.Laws.EntriesVeiled
namespace Go.Proofs.YtbkcecilbpngcaaGreat
open Go.ChangeShapes Go.WideShapes Go.ChangeAt Go.RowKit

theorem ixTwo6 (w : World) : (Instr.index 164 (.agg twoTab) (.int .i64 6)).run Tryz.prog w = .ok (.agg #[.func (.func 170) #[] #[], .bool false]) w := by kernel_rfl
theorem c_WordTwoI6 (n a b : Int) (ha : WOk n a) (hb : WOk n b) (w : World) :
    Calls Tryz.prog 150 #[.int .i64 6, .int .i64 n, .int .i64 a, .int .i64 b] w fun e w' => e = .returned (.tuple #[.int .i64 (twoV 6 n a b), .int .i64 n, .bool true]) ∧ Below w.heap.size w w' := by
  have hd1 : decide (WOk n a) = true := decide_eq_true ha
  have hd2 : decide (WOk n b) = true := decide_eq_true hb
  have hA : Hid (WOk n a) := ha
  have hB : Hid (WOk n b) := hb
  clear ha hb
  have ix := ixTwo6
  go_enter Tryz.func150, Tryz.ntmps150
  go_wp2_with (first | (go_at_call 118; refine (c_WordOkI _ _ _).mono ?_; rintro e w' ⟨rfl, rfl⟩) | (go_at_call 162; refine (c_twoRules _).mono ?_; rintro e w' ⟨rfl, hG⟩))
  go_quiet (first | (go_at_call 170; exact Calls.quiet_of_same (c_wordAnd _ _ _ hA.out hB.out _)) | (go_at_call 161; exact Calls.quiet_of_same (c_ruleWidth _ _ _)))
  go_wp2
  go_ret3
  exact ⟨ret3 rfl rfl rfl, below_drewN (hG.alloc hG.size _) _⟩

theorem ixTwo7 (w : World) : (Instr.index 164 (.agg twoTab) (.int .i64 7)).run Tryz.prog w = .ok (.agg #[.func (.func 171) #[] #[], .bool false]) w := by kernel_rfl
theorem c_WordTwoI7 (n a b : Int) (ha : WOk n a) (hb : WOk n b) (w : World) :
    Calls Tryz.prog 150 #[.int .i64 7, .int .i64 n, .int .i64 a, .int .i64 b] w fun e w' => e = .returned (.tuple #[.int .i64 (twoV 7 n a b), .int .i64 n, .bool true]) ∧ Below w.heap.size w w' := by
  have hd1 : decide (WOk n a) = true := decide_eq_true ha
  have hd2 : decide (WOk n b) = true := decide_eq_true hb
  have hA : Hid (WOk n a) := ha
  have hB : Hid (WOk n b) := hb
  clear ha hb
  have ix := ixTwo7
  go_enter Tryz.func150, Tryz.ntmps150
  go_wp2_with (first | (go_at_call 118; refine (c_WordOkI _ _ _).mono ?_; rintro e w' ⟨rfl, rfl⟩) | (go_at_call 162; refine (c_twoRules _).mono ?_; rintro e w' ⟨rfl, hG⟩))
  go_quiet (first | (go_at_call 171; exact Calls.quiet_of_same (c_wordOr _ _ _ hA.out hB.out _)) | (go_at_call 161; exact Calls.quiet_of_same (c_ruleWidth _ _ _)))
  go_wp2
  go_ret3
  exact ⟨ret3 rfl rfl rfl, below_drewN (hG.alloc hG.size _) _⟩

theorem ixTwo8 (w : World) : (Instr.index 164 (.agg twoTab) (.int .i64 8)).run Tryz.prog w = .ok (.agg #[.func (.func 172) #[] #[], .bool false]) w := by kernel_rfl
theorem c_WordTwoI8 (n a b : Int) (ha : WOk n a) (hb : WOk n b) (w : World) :
    Calls Tryz.prog 150 #[.int .i64 8, .int .i64 n, .int .i64 a, .int .i64 b] w fun e w' => e = .returned (.tuple #[.int .i64 (twoV 8 n a b), .int .i64 n, .bool true]) ∧ Below w.heap.size w w' := by
  have hd1 : decide (WOk n a) = true := decide_eq_true ha
  have hd2 : decide (WOk n b) = true := decide_eq_true hb
  have hA : Hid (WOk n a) := ha
  have hB : Hid (WOk n b) := hb
  clear ha hb
  have ix := ixTwo8
  go_enter Tryz.func150, Tryz.ntmps150
  go_wp2_with (first | (go_at_call 118; refine (c_WordOkI _ _ _).mono ?_; rintro e w' ⟨rfl, rfl⟩) | (go_at_call 162; refine (c_twoRules _).mono ?_; rintro e w' ⟨rfl, hG⟩))
  go_quiet (first | (go_at_call 172; exact Calls.quiet_of_same (c_wordXor _ _ _ hA.out hB.out _)) | (go_at_call 161; exact Calls.quiet_of_same (c_ruleWidth _ _ _)))
  go_wp2
  go_ret3
  exact ⟨ret3 rfl rfl rfl, below_drewN (hG.alloc hG.size _) _⟩

theorem ixTwo9 (w : World) : (Instr.index 164 (.agg twoTab) (.int .i64 9)).run Tryz.prog w = .ok (.agg #[.func (.func 173) #[] #[], .bool false]) w := by kernel_rfl
theorem c_WordTwoI9 (n a b : Int) (ha : WOk n a) (hb : WOk n b) (w : World) :
    Calls Tryz.prog 150 #[.int .i64 9, .int .i64 n, .int .i64 a, .int .i64 b] w fun e w' => e = .returned (.tuple #[.int .i64 (twoV 9 n a b), .int .i64 n, .bool true]) ∧ Below w.heap.size w w' := by
  have hd1 : decide (WOk n a) = true := decide_eq_true ha
  have hd2 : decide (WOk n b) = true := decide_eq_true hb
  have hA : Hid (WOk n a) := ha
  have hB : Hid (WOk n b) := hb
  clear ha hb
  have ix := ixTwo9
  go_enter Tryz.func150, Tryz.ntmps150
  go_wp2_with (first | (go_at_call 118; refine (c_WordOkI _ _ _).mono ?_; rintro e w' ⟨rfl, rfl⟩) | (go_at_call 162; refine (c_twoRules _).mono ?_; rintro e w' ⟨rfl, hG⟩))
  go_quiet (first | (go_at_call 173; exact Calls.quiet_of_same (c_wordAdd _ _ _ hA.out hB.out _)) | (go_at_call 161; exact Calls.quiet_of_same (c_ruleWidth _ _ _)))
  go_wp2
  go_ret3
  exact ⟨ret3 rfl rfl rfl, below_drewN (hG.alloc hG.size _) _⟩

theorem ixTwo10 (w : World) : (Instr.index 164 (.agg twoTab) (.int .i64 10)).run Tryz.prog w = .ok (.agg #[.func (.func 174) #[] #[], .bool false]) w := by kernel_rfl
theorem c_WordTwoI10 (n a b : Int) (ha : WOk n a) (hb : WOk n b) (w : World) :
    Calls Tryz.prog 150 #[.int .i64 10, .int .i64 n, .int .i64 a, .int .i64 b] w fun e w' => e = .returned (.tuple #[.int .i64 (twoV 10 n a b), .int .i64 n, .bool true]) ∧ Below w.heap.size w w' := by
  have hd1 : decide (WOk n a) = true := decide_eq_true ha
  have hd2 : decide (WOk n b) = true := decide_eq_true hb
  have hA : Hid (WOk n a) := ha
  have hB : Hid (WOk n b) := hb
  clear ha hb
  have ix := ixTwo10
  go_enter Tryz.func150, Tryz.ntmps150
  go_wp2_with (first | (go_at_call 118; refine (c_WordOkI _ _ _).mono ?_; rintro e w' ⟨rfl, rfl⟩) | (go_at_call 162; refine (c_twoRules _).mono ?_; rintro e w' ⟨rfl, hG⟩))
  go_quiet (first | (go_at_call 174; exact Calls.quiet_of_same (c_wordSub _ _ _ hA.out hB.out _)) | (go_at_call 161; exact Calls.quiet_of_same (c_ruleWidth _ _ _)))
  go_wp2
  go_ret3
  exact ⟨ret3 rfl rfl rfl, below_drewN (hG.alloc hG.size _) _⟩

theorem ixTwo11 (w : World) : (Instr.index 164 (.agg twoTab) (.int .i64 11)).run Tryz.prog w = .ok (.agg #[.func (.func 175) #[] #[], .bool false]) w := by kernel_rfl
theorem c_WordTwoI11 (n a b : Int) (ha : WOk n a) (hb : WOk n b) (w : World) :
    Calls Tryz.prog 150 #[.int .i64 11, .int .i64 n, .int .i64 a, .int .i64 b] w fun e w' => e = .returned (.tuple #[.int .i64 (twoV 11 n a b), .int .i64 n, .bool true]) ∧ Below w.heap.size w w' := by
  have hd1 : decide (WOk n a) = true := decide_eq_true ha
  have hd2 : decide (WOk n b) = true := decide_eq_true hb
  have hA : Hid (WOk n a) := ha
  have hB : Hid (WOk n b) := hb
  clear ha hb
  have ix := ixTwo11
  go_enter Tryz.func150, Tryz.ntmps150
  go_wp2_with (first | (go_at_call 118; refine (c_WordOkI _ _ _).mono ?_; rintro e w' ⟨rfl, rfl⟩) | (go_at_call 162; refine (c_twoRules _).mono ?_; rintro e w' ⟨rfl, hG⟩))
  go_quiet (first | (go_at_call 175; exact Calls.quiet_of_same (c_wordMul _ _ _ hA.out hB.out _)) | (go_at_call 161; exact Calls.quiet_of_same (c_ruleWidth _ _ _)))
  go_wp2
  go_ret3
  exact ⟨ret3 rfl rfl rfl, below_drewN (hG.alloc hG.size _) _⟩

theorem ixTwo12 (w : World) : (Instr.index 164 (.agg twoTab) (.int .i64 12)).run Tryz.prog w = .ok (.agg #[.func (.func 176) #[] #[], .bool false]) w := by kernel_rfl
theorem c_WordTwoI12 (n a b : Int) (ha : WOk n a) (hb : WOk n b) (w : World) :
    Calls Tryz.prog 150 #[.int .i64 12, .int .i64 n, .int .i64 a, .int .i64 b] w fun e w' => e = .returned (.tuple #[.int .i64 (twoV 12 n a b), .int .i64 n, .bool true]) ∧ Below w.heap.size w w' := by
  have hd1 : decide (WOk n a) = true := decide_eq_true ha
  have hd2 : decide (WOk n b) = true := decide_eq_true hb
  have hA : Hid (WOk n a) := ha
  have hB : Hid (WOk n b) := hb
  clear ha hb
  have ix := ixTwo12
  go_enter Tryz.func150, Tryz.ntmps150
  go_wp2_with (first | (go_at_call 118; refine (c_WordOkI _ _ _).mono ?_; rintro e w' ⟨rfl, rfl⟩) | (go_at_call 162; refine (c_twoRules _).mono ?_; rintro e w' ⟨rfl, hG⟩))
  go_quiet (first | (go_at_call 176; exact Calls.quiet_of_same (c_wordDiv _ _ _ hA.out hB.out _)) | (go_at_call 161; exact Calls.quiet_of_same (c_ruleWidth _ _ _)))
  go_wp2
  go_ret3
  exact ⟨ret3 rfl rfl rfl, below_drewN (hG.alloc hG.size _) _⟩

theorem ixTwo13 (w : World) : (Instr.index 164 (.agg twoTab) (.int .i64 13)).run Tryz.prog w = .ok (.agg #[.func (.func 177) #[] #[], .bool false]) w := by kernel_rfl
theorem c_WordTwoI13 (n a b : Int) (ha : WOk n a) (hb : WOk n b) (w : World) :
    Calls Tryz.prog 150 #[.int .i64 13, .int .i64 n, .int .i64 a, .int .i64 b] w fun e w' => e = .returned (.tuple #[.int .i64 (twoV 13 n a b), .int .i64 n, .bool true]) ∧ Below w.heap.size w w' := by
  have hd1 : decide (WOk n a) = true := decide_eq_true ha
  have hd2 : decide (WOk n b) = true := decide_eq_true hb
  have hA : Hid (WOk n a) := ha
  have hB : Hid (WOk n b) := hb
  clear ha hb
  have ix := ixTwo13
  go_enter Tryz.func150, Tryz.ntmps150
  go_wp2_with (first | (go_at_call 118; refine (c_WordOkI _ _ _).mono ?_; rintro e w' ⟨rfl, rfl⟩) | (go_at_call 162; refine (c_twoRules _).mono ?_; rintro e w' ⟨rfl, hG⟩))
  go_quiet (first | (go_at_call 177; exact Calls.quiet_of_same (c_wordRem _ _ _ hA.out hB.out _)) | (go_at_call 161; exact Calls.quiet_of_same (c_ruleWidth _ _ _)))
  go_wp2
  go_ret3
  exact ⟨ret3 rfl rfl rfl, below_drewN (hG.alloc hG.size _) _⟩

theorem ixTwo14 (w : World) : (Instr.index 164 (.agg twoTab) (.int .i64 14)).run Tryz.prog w = .ok (.agg #[.func (.func 178) #[] #[], .bool false]) w := by kernel_rfl
theorem c_WordTwoI14 (n a b : Int) (ha : WOk n a) (hb : WOk n b) (w : World) :
    Calls Tryz.prog 150 #[.int .i64 14, .int .i64 n, .int .i64 a, .int .i64 b] w fun e w' => e = .returned (.tuple #[.int .i64 (twoV 14 n a b), .int .i64 n, .bool true]) ∧ Below w.heap.size w w' := by
  have hd1 : decide (WOk n a) = true := decide_eq_true ha
  have hd2 : decide (WOk n b) = true := decide_eq_true hb
  have hA : Hid (WOk n a) := ha
  have hB : Hid (WOk n b) := hb
  clear ha hb
  have ix := ixTwo14
  go_enter Tryz.func150, Tryz.ntmps150
  go_wp2_with (first | (go_at_call 118; refine (c_WordOkI _ _ _).mono ?_; rintro e w' ⟨rfl, rfl⟩) | (go_at_call 162; refine (c_twoRules _).mono ?_; rintro e w' ⟨rfl, hG⟩))
  go_quiet (first | (go_at_call 178; exact Calls.quiet_of_same (c_wordSdiv _ _ _ hA.out hB.out _)) | (go_at_call 161; exact Calls.quiet_of_same (c_ruleWidth _ _ _)))
  go_wp2
  go_ret3
  exact ⟨ret3 rfl rfl rfl, below_drewN (hG.alloc hG.size _) _⟩

theorem ixTwo15 (w : World) : (Instr.index 164 (.agg twoTab) (.int .i64 15)).run Tryz.prog w = .ok (.agg #[.func (.func 179) #[] #[], .bool false]) w := by kernel_rfl
theorem c_WordTwoI15 (n a b : Int) (ha : WOk n a) (hb : WOk n b) (w : World) :
    Calls Tryz.prog 150 #[.int .i64 15, .int .i64 n, .int .i64 a, .int .i64 b] w fun e w' => e = .returned (.tuple #[.int .i64 (twoV 15 n a b), .int .i64 n, .bool true]) ∧ Below w.heap.size w w' := by
  have hd1 : decide (WOk n a) = true := decide_eq_true ha
  have hd2 : decide (WOk n b) = true := decide_eq_true hb
  have hA : Hid (WOk n a) := ha
  have hB : Hid (WOk n b) := hb
  clear ha hb
  have ix := ixTwo15
  go_enter Tryz.func150, Tryz.ntmps150
  go_wp2_with (first | (go_at_call 118; refine (c_WordOkI _ _ _).mono ?_; rintro e w' ⟨rfl, rfl⟩) | (go_at_call 162; refine (c_twoRules _).mono ?_; rintro e w' ⟨rfl, hG⟩))
  go_quiet (first | (go_at_call 179; exact Calls.quiet_of_same (c_wordSrem _ _ _ hA.out hB.out _)) | (go_at_call 161; exact Calls.quiet_of_same (c_ruleWidth _ _ _)))
  go_wp2
  go_ret3
  exact ⟨ret3 rfl rfl rfl, below_drewN (hG.alloc hG.size _) _⟩

theorem ixTwo16 (w : World) : (Instr.index 164 (.agg twoTab) (.int .i64 16)).run Tryz.prog w = .ok (.agg #[.func (.func 180) #[] #[], .bool false]) w := by kernel_rfl
theorem c_WordTwoI16 (n a b : Int) (ha : WOk n a) (hb : WOk n b) (w : World) :
    Calls Tryz.prog 150 #[.int .i64 16, .int .i64 n, .int .i64 a, .int .i64 b] w fun e w' => e = .returned (.tuple #[.int .i64 (twoV 16 n a b), .int .i64 n, .bool true]) ∧ Below w.heap.size w w' := by
  have hd1 : decide (WOk n a) = true := decide_eq_true ha
  have hd2 : decide (WOk n b) = true := decide_eq_true hb
  have hA : Hid (WOk n a) := ha
  have hB : Hid (WOk n b) := hb
  clear ha hb
  have ix := ixTwo16
  go_enter Tryz.func150, Tryz.ntmps150
  go_wp2_with (first | (go_at_call 118; refine (c_WordOkI _ _ _).mono ?_; rintro e w' ⟨rfl, rfl⟩) | (go_at_call 162; refine (c_twoRules _).mono ?_; rintro e w' ⟨rfl, hG⟩))
  go_quiet (first | (go_at_call 180; exact Calls.quiet_of_same (c_wordShl _ _ _ hA.out hB.out _)) | (go_at_call 161; exact Calls.quiet_of_same (c_ruleWidth _ _ _)))
  go_wp2
  go_ret3
  exact ⟨ret3 rfl rfl rfl, below_drewN (hG.alloc hG.size _) _⟩

theorem ixTwo17 (w : World) : (Instr.index 164 (.agg twoTab) (.int .i64 17)).run Tryz.prog w = .ok (.agg #[.func (.func 181) #[] #[], .bool false]) w := by kernel_rfl
theorem c_WordTwoI17 (n a b : Int) (ha : WOk n a) (hb : WOk n b) (w : World) :
    Calls Tryz.prog 150 #[.int .i64 17, .int .i64 n, .int .i64 a, .int .i64 b] w fun e w' => e = .returned (.tuple #[.int .i64 (twoV 17 n a b), .int .i64 n, .bool true]) ∧ Below w.heap.size w w' := by
  have hd1 : decide (WOk n a) = true := decide_eq_true ha
  have hd2 : decide (WOk n b) = true := decide_eq_true hb
  have hA : Hid (WOk n a) := ha
  have hB : Hid (WOk n b) := hb
  clear ha hb
  have ix := ixTwo17
  go_enter Tryz.func150, Tryz.ntmps150
  go_wp2_with (first | (go_at_call 118; refine (c_WordOkI _ _ _).mono ?_; rintro e w' ⟨rfl, rfl⟩) | (go_at_call 162; refine (c_twoRules _).mono ?_; rintro e w' ⟨rfl, hG⟩))
  go_quiet (first | (go_at_call 181; exact Calls.quiet_of_same (c_wordShr _ _ _ hA.out hB.out _)) | (go_at_call 161; exact Calls.quiet_of_same (c_ruleWidth _ _ _)))
  go_wp2
  go_ret3
  exact ⟨ret3 rfl rfl rfl, below_drewN (hG.alloc hG.size _) _⟩

end Go.Proofs.YtbkcecilbpngcaaGreat
