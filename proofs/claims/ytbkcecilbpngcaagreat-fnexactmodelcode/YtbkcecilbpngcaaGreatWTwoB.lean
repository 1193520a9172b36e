/-
  What the program's WordTwo answers at each kind, of two words of one width.
-/
import Derived.Test.YtbkcecilbpngcaaGreatRows
import Derived.Test.YtbkcecilbpngcaaGreatPaA
import Derived.Test.YtbkcecilbpngcaaGreatCut
import Derived.Test.YtbkcecilbpngcaaGreatBits
import Derived.Test.YtbkcecilbpngcaaGreatTwoI
import Derived.Test.YtbkcecilbpngcaaGreatTab
import Derived.WalkKit
import Derived.ProofKit
import Derived.OpenShut
import Derived.WalkSpells
import Derived.WalkLawsBesides
import Derived.Outline
import Derived.BigQuiet
import Derived.Laws.EntriesVeiled
namespace Go.Proofs.YtbkcecilbpngcaaGreat
open Go.ChangeShapes Go.WideShapes Go.ChangeAt Go.RowKit

theorem ixTwo18 (w : World) : (Instr.index 164 (.agg twoTab) (.int .i64 18)).run Tryz.prog w = .ok (.agg #[.func (.func 182) #[] #[], .bool false]) w := by kernel_rfl
theorem c_WordTwoI18 (n a b : Int) (ha : WOk n a) (hb : WOk n b) (w : World) :
    Calls Tryz.prog 150 #[.int .i64 18, .int .i64 n, .int .i64 a, .int .i64 b] w fun e w' => e = .returned (.tuple #[.int .i64 (twoV 18 n a b), .int .i64 n, .bool true]) ∧ Below w.heap.size w w' := by
  have hd1 : decide (WOk n a) = true := decide_eq_true ha
  have hd2 : decide (WOk n b) = true := decide_eq_true hb
  have hA : Hid (WOk n a) := ha
  have hB : Hid (WOk n b) := hb
  clear ha hb
  have ix := ixTwo18
  go_enter Tryz.func150, Tryz.ntmps150
  go_wp2_with (first | (go_at_call 118; refine (c_WordOkI _ _ _).mono ?_; rintro e w' ⟨rfl, rfl⟩) | (go_at_call 162; refine (c_twoRules _).mono ?_; rintro e w' ⟨rfl, hG⟩))
  go_quiet (first | (go_at_call 182; exact Calls.quiet_of_same (c_wordSar _ _ _ hA.out hB.out _)) | (go_at_call 161; exact Calls.quiet_of_same (c_ruleWidth _ _ _)))
  go_wp2
  go_ret3
  exact ⟨ret3 rfl rfl rfl, below_drewN (hG.alloc hG.size _) _⟩

theorem ixTwo19 (w : World) : (Instr.index 164 (.agg twoTab) (.int .i64 19)).run Tryz.prog w = .ok (.agg #[.func (.func 183) #[] #[], .bool false]) w := by kernel_rfl
theorem c_WordTwoI19 (n a b : Int) (ha : WOk n a) (hb : WOk n b) (w : World) :
    Calls Tryz.prog 150 #[.int .i64 19, .int .i64 n, .int .i64 a, .int .i64 b] w fun e w' => e = .returned (.tuple #[.int .i64 (twoV 19 n a b), .int .i64 n, .bool true]) ∧ Below w.heap.size w w' := by
  have hd1 : decide (WOk n a) = true := decide_eq_true ha
  have hd2 : decide (WOk n b) = true := decide_eq_true hb
  have hA : Hid (WOk n a) := ha
  have hB : Hid (WOk n b) := hb
  clear ha hb
  have ix := ixTwo19
  go_enter Tryz.func150, Tryz.ntmps150
  go_wp2_with (first | (go_at_call 118; refine (c_WordOkI _ _ _).mono ?_; rintro e w' ⟨rfl, rfl⟩) | (go_at_call 162; refine (c_twoRules _).mono ?_; rintro e w' ⟨rfl, hG⟩))
  go_quiet (first | (go_at_call 183; exact Calls.quiet_of (c_wordRol _ _ _ hA.out hB.out.2.2.1 (by have := hB.out.lt; omega) _)) | (go_at_call 161; exact Calls.quiet_of_same (c_ruleWidth _ _ _)))
  go_wp2
  go_ret3
  exact ⟨ret3 rfl rfl rfl, below_drewN (hG.alloc hG.size _) _⟩

theorem ixTwo20 (w : World) : (Instr.index 164 (.agg twoTab) (.int .i64 20)).run Tryz.prog w = .ok (.agg #[.func (.func 184) #[] #[], .bool false]) w := by kernel_rfl
theorem c_WordTwoI20 (n a b : Int) (ha : WOk n a) (hb : WOk n b) (w : World) :
    Calls Tryz.prog 150 #[.int .i64 20, .int .i64 n, .int .i64 a, .int .i64 b] w fun e w' => e = .returned (.tuple #[.int .i64 (twoV 20 n a b), .int .i64 n, .bool true]) ∧ Below w.heap.size w w' := by
  have hd1 : decide (WOk n a) = true := decide_eq_true ha
  have hd2 : decide (WOk n b) = true := decide_eq_true hb
  have hA : Hid (WOk n a) := ha
  have hB : Hid (WOk n b) := hb
  clear ha hb
  have ix := ixTwo20
  go_enter Tryz.func150, Tryz.ntmps150
  go_wp2_with (first | (go_at_call 118; refine (c_WordOkI _ _ _).mono ?_; rintro e w' ⟨rfl, rfl⟩) | (go_at_call 162; refine (c_twoRules _).mono ?_; rintro e w' ⟨rfl, hG⟩))
  go_quiet (first | (go_at_call 184; exact Calls.quiet_of (c_wordRor _ _ _ hA.out hB.out _)) | (go_at_call 161; exact Calls.quiet_of_same (c_ruleWidth _ _ _)))
  go_wp2
  go_ret3
  exact ⟨ret3 rfl rfl rfl, below_drewN (hG.alloc hG.size _) _⟩

theorem ixTwo21 (w : World) : (Instr.index 164 (.agg twoTab) (.int .i64 21)).run Tryz.prog w = .ok (.agg #[.func (.func 185) #[] #[], .bool true]) w := by kernel_rfl
theorem c_WordTwoI21 (n a b : Int) (ha : WOk n a) (hb : WOk n b) (w : World) :
    Calls Tryz.prog 150 #[.int .i64 21, .int .i64 n, .int .i64 a, .int .i64 b] w fun e w' => e = .returned (.tuple #[.int .i64 (twoV 21 n a b), .int .i64 1, .bool true]) ∧ Below w.heap.size w w' := by
  have hd1 : decide (WOk n a) = true := decide_eq_true ha
  have hd2 : decide (WOk n b) = true := decide_eq_true hb
  have hA : Hid (WOk n a) := ha
  have hB : Hid (WOk n b) := hb
  clear ha hb
  have ix := ixTwo21
  go_enter Tryz.func150, Tryz.ntmps150
  go_wp2_with (first | (go_at_call 118; refine (c_WordOkI _ _ _).mono ?_; rintro e w' ⟨rfl, rfl⟩) | (go_at_call 162; refine (c_twoRules _).mono ?_; rintro e w' ⟨rfl, hG⟩))
  go_quiet (first | (go_at_call 185; exact Calls.quiet_of_same (c_wordEq _ _ _ hA.out hB.out _)) | (go_at_call 161; exact Calls.quiet_of_same (c_ruleWidth _ _ _)))
  go_wp2
  go_ret3
  exact ⟨ret3 rfl rfl rfl, below_drewN (hG.alloc hG.size _) _⟩

theorem ixTwo22 (w : World) : (Instr.index 164 (.agg twoTab) (.int .i64 22)).run Tryz.prog w = .ok (.agg #[.func (.func 186) #[] #[], .bool true]) w := by kernel_rfl
theorem c_WordTwoI22 (n a b : Int) (ha : WOk n a) (hb : WOk n b) (w : World) :
    Calls Tryz.prog 150 #[.int .i64 22, .int .i64 n, .int .i64 a, .int .i64 b] w fun e w' => e = .returned (.tuple #[.int .i64 (twoV 22 n a b), .int .i64 1, .bool true]) ∧ Below w.heap.size w w' := by
  have hd1 : decide (WOk n a) = true := decide_eq_true ha
  have hd2 : decide (WOk n b) = true := decide_eq_true hb
  have hA : Hid (WOk n a) := ha
  have hB : Hid (WOk n b) := hb
  clear ha hb
  have ix := ixTwo22
  go_enter Tryz.func150, Tryz.ntmps150
  go_wp2_with (first | (go_at_call 118; refine (c_WordOkI _ _ _).mono ?_; rintro e w' ⟨rfl, rfl⟩) | (go_at_call 162; refine (c_twoRules _).mono ?_; rintro e w' ⟨rfl, hG⟩))
  go_quiet (first | (go_at_call 186; exact Calls.quiet_of_same (c_wordLess _ _ _ hA.out hB.out _)) | (go_at_call 161; exact Calls.quiet_of_same (c_ruleWidth _ _ _)))
  go_wp2
  go_ret3
  exact ⟨ret3 rfl rfl rfl, below_drewN (hG.alloc hG.size _) _⟩

theorem ixTwo23 (w : World) : (Instr.index 164 (.agg twoTab) (.int .i64 23)).run Tryz.prog w = .ok (.agg #[.func (.func 187) #[] #[], .bool true]) w := by kernel_rfl
theorem c_WordTwoI23 (n a b : Int) (ha : WOk n a) (hb : WOk n b) (w : World) :
    Calls Tryz.prog 150 #[.int .i64 23, .int .i64 n, .int .i64 a, .int .i64 b] w fun e w' => e = .returned (.tuple #[.int .i64 (twoV 23 n a b), .int .i64 1, .bool true]) ∧ Below w.heap.size w w' := by
  have hd1 : decide (WOk n a) = true := decide_eq_true ha
  have hd2 : decide (WOk n b) = true := decide_eq_true hb
  have hA : Hid (WOk n a) := ha
  have hB : Hid (WOk n b) := hb
  clear ha hb
  have ix := ixTwo23
  go_enter Tryz.func150, Tryz.ntmps150
  go_wp2_with (first | (go_at_call 118; refine (c_WordOkI _ _ _).mono ?_; rintro e w' ⟨rfl, rfl⟩) | (go_at_call 162; refine (c_twoRules _).mono ?_; rintro e w' ⟨rfl, hG⟩))
  go_quiet (first | (go_at_call 187; exact Calls.quiet_of_same (c_wordSless _ _ _ hA.out hB.out _)) | (go_at_call 161; exact Calls.quiet_of_same (c_ruleWidth _ _ _)))
  go_wp2
  go_ret3
  exact ⟨ret3 rfl rfl rfl, below_drewN (hG.alloc hG.size _) _⟩

theorem ixTwo24 (w : World) : (Instr.index 164 (.agg twoTab) (.int .i64 24)).run Tryz.prog w = .ok (.agg #[.func (.func 188) #[] #[], .bool true]) w := by kernel_rfl
theorem c_WordTwoI24 (n a b : Int) (ha : WOk n a) (hb : WOk n b) (w : World) :
    Calls Tryz.prog 150 #[.int .i64 24, .int .i64 n, .int .i64 a, .int .i64 b] w fun e w' => e = .returned (.tuple #[.int .i64 (twoV 24 n a b), .int .i64 1, .bool true]) ∧ Below w.heap.size w w' := by
  have hd1 : decide (WOk n a) = true := decide_eq_true ha
  have hd2 : decide (WOk n b) = true := decide_eq_true hb
  have hA : Hid (WOk n a) := ha
  have hB : Hid (WOk n b) := hb
  clear ha hb
  have ix := ixTwo24
  go_enter Tryz.func150, Tryz.ntmps150
  go_wp2_with (first | (go_at_call 118; refine (c_WordOkI _ _ _).mono ?_; rintro e w' ⟨rfl, rfl⟩) | (go_at_call 162; refine (c_twoRules _).mono ?_; rintro e w' ⟨rfl, hG⟩))
  go_quiet (first | (go_at_call 188; exact Calls.quiet_of_same (c_wordMost _ _ _ hA.out hB.out _)) | (go_at_call 161; exact Calls.quiet_of_same (c_ruleWidth _ _ _)))
  go_wp2
  go_ret3
  exact ⟨ret3 rfl rfl rfl, below_drewN (hG.alloc hG.size _) _⟩

theorem ixTwo25 (w : World) : (Instr.index 164 (.agg twoTab) (.int .i64 25)).run Tryz.prog w = .ok (.agg #[.func (.func 189) #[] #[], .bool true]) w := by kernel_rfl
theorem c_WordTwoI25 (n a b : Int) (ha : WOk n a) (hb : WOk n b) (w : World) :
    Calls Tryz.prog 150 #[.int .i64 25, .int .i64 n, .int .i64 a, .int .i64 b] w fun e w' => e = .returned (.tuple #[.int .i64 (twoV 25 n a b), .int .i64 1, .bool true]) ∧ Below w.heap.size w w' := by
  have hd1 : decide (WOk n a) = true := decide_eq_true ha
  have hd2 : decide (WOk n b) = true := decide_eq_true hb
  have hA : Hid (WOk n a) := ha
  have hB : Hid (WOk n b) := hb
  clear ha hb
  have ix := ixTwo25
  go_enter Tryz.func150, Tryz.ntmps150
  go_wp2_with (first | (go_at_call 118; refine (c_WordOkI _ _ _).mono ?_; rintro e w' ⟨rfl, rfl⟩) | (go_at_call 162; refine (c_twoRules _).mono ?_; rintro e w' ⟨rfl, hG⟩))
  go_quiet (first | (go_at_call 189; exact Calls.quiet_of_same (c_wordSmost _ _ _ hA.out hB.out _)) | (go_at_call 161; exact Calls.quiet_of_same (c_ruleWidth _ _ _)))
  go_wp2
  go_ret3
  exact ⟨ret3 rfl rfl rfl, below_drewN (hG.alloc hG.size _) _⟩

theorem ixTwo26 (w : World) : (Instr.index 164 (.agg twoTab) (.int .i64 26)).run Tryz.prog w = .ok (.agg #[.func (.func 190) #[] #[], .bool true]) w := by kernel_rfl
theorem c_WordTwoI26 (n a b : Int) (ha : WOk n a) (hb : WOk n b) (w : World) :
    Calls Tryz.prog 150 #[.int .i64 26, .int .i64 n, .int .i64 a, .int .i64 b] w fun e w' => e = .returned (.tuple #[.int .i64 (twoV 26 n a b), .int .i64 1, .bool true]) ∧ Below w.heap.size w w' := by
  have hd1 : decide (WOk n a) = true := decide_eq_true ha
  have hd2 : decide (WOk n b) = true := decide_eq_true hb
  have hA : Hid (WOk n a) := ha
  have hB : Hid (WOk n b) := hb
  clear ha hb
  have ix := ixTwo26
  go_enter Tryz.func150, Tryz.ntmps150
  go_wp2_with (first | (go_at_call 118; refine (c_WordOkI _ _ _).mono ?_; rintro e w' ⟨rfl, rfl⟩) | (go_at_call 162; refine (c_twoRules _).mono ?_; rintro e w' ⟨rfl, hG⟩))
  go_quiet (first | (go_at_call 190; exact Calls.quiet_of_same (c_wordCarry _ _ _ hA.out hB.out _)) | (go_at_call 161; exact Calls.quiet_of_same (c_ruleWidth _ _ _)))
  go_wp2
  go_ret3
  exact ⟨ret3 rfl rfl rfl, below_drewN (hG.alloc hG.size _) _⟩

theorem ixTwo27 (w : World) : (Instr.index 164 (.agg twoTab) (.int .i64 27)).run Tryz.prog w = .ok (.agg #[.func (.func 191) #[] #[], .bool true]) w := by kernel_rfl
theorem c_WordTwoI27 (n a b : Int) (ha : WOk n a) (hb : WOk n b) (w : World) :
    Calls Tryz.prog 150 #[.int .i64 27, .int .i64 n, .int .i64 a, .int .i64 b] w fun e w' => e = .returned (.tuple #[.int .i64 (twoV 27 n a b), .int .i64 1, .bool true]) ∧ Below w.heap.size w w' := by
  have hd1 : decide (WOk n a) = true := decide_eq_true ha
  have hd2 : decide (WOk n b) = true := decide_eq_true hb
  have hA : Hid (WOk n a) := ha
  have hB : Hid (WOk n b) := hb
  clear ha hb
  have ix := ixTwo27
  go_enter Tryz.func150, Tryz.ntmps150
  go_wp2_with (first | (go_at_call 118; refine (c_WordOkI _ _ _).mono ?_; rintro e w' ⟨rfl, rfl⟩) | (go_at_call 162; refine (c_twoRules _).mono ?_; rintro e w' ⟨rfl, hG⟩))
  go_quiet (first | (go_at_call 191; exact Calls.quiet_of_same (c_wordSover _ _ _ hA.out hB.out _)) | (go_at_call 161; exact Calls.quiet_of_same (c_ruleWidth _ _ _)))
  go_wp2
  go_ret3
  exact ⟨ret3 rfl rfl rfl, below_drewN (hG.alloc hG.size _) _⟩

theorem ixTwo28 (w : World) : (Instr.index 164 (.agg twoTab) (.int .i64 28)).run Tryz.prog w = .ok (.agg #[.func (.func 192) #[] #[], .bool true]) w := by kernel_rfl
theorem c_WordTwoI28 (n a b : Int) (ha : WOk n a) (hb : WOk n b) (w : World) :
    Calls Tryz.prog 150 #[.int .i64 28, .int .i64 n, .int .i64 a, .int .i64 b] w fun e w' => e = .returned (.tuple #[.int .i64 (twoV 28 n a b), .int .i64 1, .bool true]) ∧ Below w.heap.size w w' := by
  have hd1 : decide (WOk n a) = true := decide_eq_true ha
  have hd2 : decide (WOk n b) = true := decide_eq_true hb
  have hA : Hid (WOk n a) := ha
  have hB : Hid (WOk n b) := hb
  clear ha hb
  have ix := ixTwo28
  go_enter Tryz.func150, Tryz.ntmps150
  go_wp2_with (first | (go_at_call 118; refine (c_WordOkI _ _ _).mono ?_; rintro e w' ⟨rfl, rfl⟩) | (go_at_call 162; refine (c_twoRules _).mono ?_; rintro e w' ⟨rfl, hG⟩))
  go_quiet (first | (go_at_call 192; exact Calls.quiet_of_same (c_wordMover _ _ _ hA.out hB.out _)) | (go_at_call 161; exact Calls.quiet_of_same (c_ruleWidth _ _ _)))
  go_wp2
  go_ret3
  exact ⟨ret3 rfl rfl rfl, below_drewN (hG.alloc hG.size _) _⟩

end Go.Proofs.YtbkcecilbpngcaaGreat
